/- Merged texts: QvaRef2 QvaSpec2 QvaMine QvaMine2 AccPar. -/
import Derived.Test.YtnpllgjkbpnimaaDoorM03
import Derived.Test.YtnpllgjkbpnimaaDoorM05
import Derived.Test.YtnpllgjkbpnimaaDoorM07
import Derived.Test.YtnpllgjkbpnimaaDoorM09
import Derived.Test.YtnpllgjkbpnimaaDoorM10
import Derived.Test.YtnpllgjkbpnimaaDoorM11
set_option linter.unusedVariables false
set_option linter.unusedSimpArgs false
set_option maxRecDepth 100000
namespace Go.Proofs.YtnpllgjkbpnimaaDoor.Asc
section
open Go.RowKit
theorem strip_three (a b c : UInt8) : stripF 3 [a, b, c] = if c = 48 then (if b = 48 then (if a = 48 then [] else [a]) else [a, b]) else [a, b, c] := by
  unfold stripF
  by_cases hc : c = 48
  · rw [if_pos (by simp [hc]), if_pos hc]
    show stripF 2 [a, b] = _
    unfold stripF
    by_cases hb : b = 48
    · rw [if_pos (by simp [hb]), if_pos hb]
      show stripF 1 [a] = _
      unfold stripF
      by_cases ha : a = 48
      · rw [if_pos (by simp [ha]), if_pos ha]; rfl
      · rw [if_neg (by simp [ha]), if_neg ha]
    · rw [if_neg (by simp [hb]), if_neg hb]
  · rw [if_neg (by simp [hc]), if_neg hc]
end
section
/-- the thousandths that at most three digits say -/
def fracO (ds : List UInt8) : Option Int := if 3 < ds.length then none else qvD 0 100 ds
def wt3 (k : Nat) : Int := if k = 0 then 100 else if k = 1 then 10 else if k = 2 then 1 else 0
theorem wt3_next (k : Nat) (h : k < 3) : wt3 k / 10 = wt3 (k + 1) := by
  match k, h with
  | 0, _ => rfl
  | 1, _ => rfl
  | 2, _ => rfl
theorem qvD_shift : ∀ (ds : List UInt8) (q x w : Int), qvD (q + x) w ds = (qvD q w ds).map (· + x)
  | [], q, x, w => rfl
  | c :: r, q, x, w => by
    rw [qvD_cons, qvD_cons]
    by_cases h : digitI c.toNat = true
    · rw [if_pos h, if_pos h, ← qvD_shift r, show q + x + ((c.toNat : Int) - 48) * w = q + ((c.toNat : Int) - 48) * w + x from by omega]
    · rw [if_neg h, if_neg h]; rfl
theorem dig_bd {c : UInt8} (h : digitI c.toNat = true) : 48 ≤ (c.toNat : Int) ∧ (c.toNat : Int) ≤ 57 := by simpa [digitI] using h
theorem frac_bd {ds : List UInt8} {t : Int} (h : fracO ds = some t) : 0 ≤ t ∧ t ≤ 999 := by
  unfold fracO at h
  split at h
  · cases h
  · rename_i hl
    match ds, hl with
    | [], _ => cases h; omega
    | [a], _ =>
      rw [qvD_cons] at h
      split at h
      · rename_i ha; have := dig_bd ha; cases h; omega
      · cases h
    | [a, b], _ =>
      rw [qvD_cons] at h
      split at h
      · rename_i ha
        rw [qvD_cons] at h
        split at h
        · rename_i hb; have := dig_bd ha; have := dig_bd hb; cases h; omega
        · cases h
      · cases h
    | [a, b, c], _ =>
      rw [qvD_cons] at h
      split at h
      · rename_i ha
        rw [qvD_cons] at h
        split at h
        · rename_i hb
          rw [qvD_cons] at h
          split at h
          · rename_i hc; have := dig_bd ha; have := dig_bd hb; have := dig_bd hc; cases h; omega
          · cases h
        · cases h
      · cases h
    | _ :: _ :: _ :: _ :: _, hl => exact absurd (by simp only [List.length_cons]; omega) hl
/-- what is said by the digit ahead of the point and the thousandths behind it -/
def selQ (W : List UInt8) : Option Int → Option Int
  | none => none
  | some t => if W = [48] then some t else if W = [49] ∧ t = 0 then some 1000 else none
/-- a text cut at a point in its second place -/
def cutQ : List UInt8 → List UInt8 × List UInt8
  | a :: p :: ds => if p = 46 then ([a], ds) else (a :: p :: ds, [])
  | l => (l, [])
theorem sel_cut (l : List UInt8) : selQ (cutQ l).1 (fracO (cutQ l).2) = qvL l := by
  match l with
  | [] => rfl
  | [a] =>
    show selQ [a] (some 0) = (if 5 < 0 + 1 ∨ ¬ (a = 48 ∨ a = 49) then none else qvEnd (some (((a.toNat : Int) - 48) * 1000)))
    unfold selQ
    by_cases h8 : a = 48
    · subst h8; rfl
    · by_cases h9 : a = 49
      · subst h9; rfl
      · simp [h8, h9]
  | a :: p :: ds =>
    rw [qv_more]
    show selQ (if p = 46 then ([a], ds) else (a :: p :: ds, [])).1 (fracO (if p = 46 then ([a], ds) else (a :: p :: ds, [])).2) = _
    by_cases hp : p = 46
    · rw [if_pos hp]
      by_cases hl : ds.length ≤ 3
      · by_cases h8 : a = 48
        · rw [if_pos ⟨hl, .inl h8, hp⟩]
          subst h8
          have e : fracO ds = qvD 0 100 ds := by unfold fracO; rw [if_neg (by omega)]
          show selQ [48] (fracO ds) = qvEnd (qvD 0 100 ds)
          rw [← e]
          cases hf : fracO ds with
          | none => rfl
          | some t => have := frac_bd hf; show (if ([48] : List UInt8) = [48] then some t else if ([48] : List UInt8) = [49] ∧ t = 0 then some 1000 else none) = (if 1000 < t then none else some t); rw [if_pos rfl, if_neg (by omega)]
        · by_cases h9 : a = 49
          · rw [if_pos ⟨hl, .inr h9, hp⟩]
            subst h9
            have e : qvD (0 + 1000) 100 ds = (fracO ds).map (· + 1000) := by unfold fracO; rw [if_neg (by omega), qvD_shift]
            show selQ [49] (fracO ds) = qvEnd (qvD (0 + 1000) 100 ds)
            rw [e]
            cases hf : fracO ds with
            | none => rfl
            | some t =>
              have := frac_bd hf
              show (if ([49] : List UInt8) = [48] then some t else if ([49] : List UInt8) = [49] ∧ t = 0 then some 1000 else none) = (if 1000 < t + 1000 then none else some (t + 1000))
              rw [if_neg (by decide)]
              by_cases h0 : t = 0
              · rw [if_pos ⟨rfl, h0⟩, if_neg (by omega), h0]; rfl
              · rw [if_neg (fun q => h0 q.2), if_pos (by omega)]
          · rw [if_neg (fun q => q.2.1.elim h8 h9)]
            show selQ [a] (fracO ds) = none
            cases fracO ds with
            | none => rfl
            | some t => show (if [a] = [48] then some t else if [a] = [49] ∧ t = 0 then some 1000 else none) = none; simp [h8, h9]
      · rw [if_neg (fun q => hl q.1)]
        have e : fracO ds = none := by unfold fracO; rw [if_pos (by omega)]
        show selQ [a] (fracO ds) = none
        rw [e]; rfl
    · rw [if_neg hp, if_neg (fun q => hp q.2.2)]
      show selQ (a :: p :: ds) (some 0) = none
      unfold selQ; simp
/-- the digits of a number below 1000, the last ones left out where they are zeros -/
theorem dec_dig (n : Nat) (h : n < 10) : decL (n : Int) = [digC n] := by
  have key : ∀ n : Fin 10, decL (n.1 : Int) = [digC n.1] := by decide +kernel
  exact key ⟨n, h⟩
theorem digC_zero (n : Nat) (h : n < 10) : digC n = 48 ↔ n = 0 := by
  have key : ∀ n : Fin 10, digC n.1 = 48 ↔ n.1 = 0 := by decide +kernel
  exact key ⟨n, h⟩
end
section
open Go.RowKit
/-- the table of weights, as the program's text lays it -/
def Wts (w : World) : Prop := w.cell? ⟨0, 0, none⟩ = some (.int .i64 100) ∧ w.cell? ⟨0, 1, none⟩ = some (.int .i64 10) ∧ w.cell? ⟨0, 2, none⟩ = some (.int .i64 1) ∧ 0 < w.heap.size
theorem Wts.below {w w' : World} (h : Wts w) (b : Below w.heap.size w w') : Wts w' := by
  obtain ⟨h0, h1, h2, hs⟩ := h
  have c : ∀ i, w'.cell? ⟨0, i, none⟩ = w.cell? ⟨0, i, none⟩ := fun i => b.cell hs
  exact ⟨by rw [c, h0], by rw [c, h1], by rw [c, h2], Nat.lt_of_lt_of_le hs b.size⟩
def cutQV (l : List UInt8) : Value := .tuple #[.string (bs (cutQ l).1), .string (bs (cutQ l).2)]
theorem cutPoint_any (s : ByteArray) (w : World) (hs : s.size ≤ 9223372036854775807) :
    Calls Tryd.prog 79 #[.string s] w fun e w' => e = .returned (cutQV s.data.toList) ∧ Below w.heap.size w w' := by
  have hz : s.data.toList.length = s.size := by simp
  by_cases h1 : 1 < s.size
  · have hl := list_second h1
    by_cases h46 : s[1] = 46
    · have HV : Box (cutQV s.data.toList = .tuple #[.string (s.extract 0 1), .string (s.extract 2 s.size)]) := box (by
        have e1 : s.extract 0 1 = bs [s[0]] := by rw [ext_bs, hl]; rfl
        have e2 : s.extract 2 s.size = bs (s.data.toList.drop 2) := by rw [ext_bs, List.take_of_length_le (by omega)]
        rw [e1, e2]
        unfold cutQV
        rw [hl]
        show Value.tuple #[.string (bs (if s[1] = 46 then ([s[0]], s.data.toList.drop 2) else (s[0] :: s[1] :: s.data.toList.drop 2, [])).1), .string (bs (if s[1] = 46 then ([s[0]], s.data.toList.drop 2) else (s[0] :: s[1] :: s.data.toList.drop 2, [])).2)] = _
        rw [if_pos h46]; rfl)
      have hb : ((s[1].toNat : Int) == 46) = true := by rw [h46]; rfl
      have hi : (1 : Int) < (s.size : Int) := by omega
      clear hl h46 hz
      go_enter Tryd.func79, Tryd.ntmps79
      go_wp2
      go_quiet (fail)
      go_wp2
      go_ret2
      exact ⟨by rw [HV.out]; rfl, below_drewN _ _⟩
    · have HV : Box (cutQV s.data.toList = .tuple #[.string s, .string ⟨#[]⟩]) := box (by
        unfold cutQV
        rw [hl]
        show Value.tuple #[.string (bs (if s[1] = 46 then ([s[0]], s.data.toList.drop 2) else (s[0] :: s[1] :: s.data.toList.drop 2, [])).1), .string (bs (if s[1] = 46 then ([s[0]], s.data.toList.drop 2) else (s[0] :: s[1] :: s.data.toList.drop 2, [])).2)] = _
        rw [if_neg h46, ← hl]; rfl)
      have hb : ((s[1].toNat : Int) == 46) = false := by rw [beq_eq_false_iff_ne]; exact fun e => h46 (byte8 (d := 46) e)
      have hi : (1 : Int) < (s.size : Int) := by omega
      clear hl h46 hz
      go_enter Tryd.func79, Tryd.ntmps79
      go_wp2
      go_ret2
      exact ⟨by rw [HV.out]; rfl, Below.refl _ _⟩
  · have HV : Box (cutQV s.data.toList = .tuple #[.string s, .string ⟨#[]⟩]) := box (by
      unfold cutQV
      match h : s.data.toList with
      | [] => show Value.tuple #[.string (bs []), .string (bs [])] = _; rw [← h]; rfl
      | [a] => show Value.tuple #[.string (bs [a]), .string (bs [])] = _; rw [← h]; rfl
      | a :: b :: r => exfalso; rw [h] at hz; simp only [List.length_cons] at hz; omega)
    have hi : ¬ (1 : Int) < (s.size : Int) := by omega
    clear hz
    go_enter Tryd.func79, Tryd.ntmps79
    go_wp2
    go_ret2
    exact ⟨by rw [HV.out]; rfl, Below.refl _ _⟩
/-- ahead of digit k: what has been read, and what the rest says -/
def FrRel (s : ByteArray) (v i : Value) : Prop :=
  ∃ (k : Nat) (q : Int), i = .int .i64 k ∧ v = .int .i64 q ∧ k ≤ s.size ∧ 0 ≤ q ∧ q ≤ 1000 * k ∧ fracO s.data.toList = qvD q (wt3 k) (s.data.toList.drop k)
theorem one_yes {s : ByteArray} {k : Nat} (hk : k < s.size) (h : digitI s[k].toNat = true) : numT (numL (s.extract k (k + 1)).data.toList) = .tuple #[.int .i64 ((s[k].toNat : Int) - 48), .bool true] := by
  have e : (s.extract k (k + 1)).data.toList = [s[k]] := by
    rw [ext_bs, bs_toList, List.take_succ_eq_append_getElem (by simpa using hk), List.drop_append_of_le_length (by simp; omega), List.drop_of_length_le (by simp; omega)]; rfl
  rw [e]
  have key : ∀ c : Fin 256, digitI c.1 = true → numL [UInt8.ofNat c.1] = some ((c.1 : Int) - 48) := by decide +kernel
  have := key ⟨s[k].toNat, s[k].toNat_lt⟩ h
  simp only [UInt8.ofNat_toNat] at this
  rw [this]; rfl
theorem one_no {s : ByteArray} {k : Nat} (hk : k < s.size) (h : digitI s[k].toNat = false) : numT (numL (s.extract k (k + 1)).data.toList) = .tuple #[.int .i64 0, .bool false] := by
  have e : (s.extract k (k + 1)).data.toList = [s[k]] := by
    rw [ext_bs, bs_toList, List.take_succ_eq_append_getElem (by simpa using hk), List.drop_append_of_le_length (by simp; omega), List.drop_of_length_le (by simp; omega)]; rfl
  rw [e]
  have : numL [s[k]] = none := by
    unfold numL
    rw [if_neg]
    rintro ⟨q, _⟩
    simp [allI] at q
    rw [h] at q; cases q
  rw [this]; rfl
theorem parseFraction_any (s : ByteArray) (w : World) (hs : s.size ≤ 9223372036854775807) (hW : Wts w) :
    Calls Tryd.prog 80 #[.string s] w fun e w' => e = .returned (qvT (fracO s.data.toList)) ∧ w = w' := by
  have hz : s.data.toList.length = s.size := by simp
  by_cases h3 : 3 < s.size
  · have HV : Box (fracO s.data.toList = none) := box (by unfold fracO; rw [if_pos (by omega)])
    have hi : (3 : Int) < (s.size : Int) := by omega
    clear hz
    go_enter Tryd.func80, Tryd.ntmps80
    go_wp2
    go_ret2
    exact ⟨by rw [HV.out]; rfl, rfl⟩
  · have HV : Box (fracO s.data.toList = qvD 0 (wt3 0) (s.data.toList.drop 0)) := box (by unfold fracO; rw [if_neg (by omega)]; rfl)
    have hi : ¬ (3 : Int) < (s.size : Int) := by omega
    obtain ⟨hw0, hw1, hw2, _⟩ := hW
    clear hz
    go_enter Tryd.func80, Tryd.ntmps80
    go_wp2
    go_loop [4, 5, 6, 7, 13] (fun v _ _ _ i => FrRel s v i) (fun _ _ _ _ i => s.size - (intOf i).toNat)
    case atStart => exact ⟨0, 0, rfl, rfl, Nat.zero_le _, by omega, by omega, HV.out⟩
    case round =>
      obtain ⟨k, q, rfl, rfl, hk, hq0, hq1, hQ⟩ := hrel
      have HQ := box hQ
      clear hQ
      by_cases hlt : k < s.size
      · have hl : s.data.toList.drop k = s[k] :: s.data.toList.drop (k + 1) := List.drop_eq_getElem_cons (l := s.data.toList) (i := k) (by simpa using hlt)
        have hx : (s.extract k (k + 1)).size ≤ maxLen := by unfold maxLen; rw [ByteArray.size_extract]; omega
        have HX := box hx
        clear hx
        rcases hd : digitI s[k].toNat with _ | _
        · have HN := box (one_no hlt hd)
          have HE : Box (fracO s.data.toList = none) := box (by rw [HQ.out, hl, qvD_cons, hd]; rfl)
          clear hl hd
          obtain rfl | rfl | rfl : k = 0 ∨ k = 1 ∨ k = 2 := by omega
          all_goals
            go_wp2_with fail
            refine (Number_any _ _ HX.out).mono ?_; rintro e w1 ⟨rfl, rfl⟩; rw [HN.out]
            go_wp2
            go_ret2
            exact ⟨by rw [HE.out]; rfl, rfl⟩
        · have HN := box (one_yes hlt hd)
          have hb := dig_bd hd
          have HE : Box (fracO s.data.toList = qvD (q + ((s[k].toNat : Int) - 48) * wt3 k) (wt3 (k + 1)) (s.data.toList.drop (k + 1))) := box (by rw [HQ.out, hl, qvD_cons, if_pos hd, wt3_next k (by omega)])
          clear hl hd
          obtain rfl | rfl | rfl : k = 0 ∨ k = 1 ∨ k = 2 := by omega
          all_goals
            go_wp2_with fail
            refine (Number_any _ _ HX.out).mono ?_; rintro e w1 ⟨rfl, rfl⟩; rw [HN.out]
            go_wp2
            go_round
            case rel => exact ⟨_, _, by go_num, rfl, hlt, by omega, by omega, by first | exact HE.out | (rw [HE.out, show wt3 2 = 1 from rfl, Int.mul_one])⟩
            case measure => simp [intOf]; omega
      · have HE : Box (fracO s.data.toList = some q) := box (by rw [HQ.out, List.drop_of_length_le (by simp; omega)]; rfl)
        go_wp2
        go_ret2
        exact ⟨by rw [HE.out]; rfl, rfl⟩
theorem qvT_some (t : Int) : qvT (some t) = .tuple #[.int .i64 t, .bool true] := rfl
theorem cutQ_le (l : List UInt8) : (cutQ l).1.length ≤ l.length ∧ (cutQ l).2.length ≤ l.length := by
  match l with
  | [] => exact ⟨Nat.le_refl _, Nat.le_refl _⟩
  | [a] => exact ⟨Nat.le_refl _, Nat.zero_le _⟩
  | a :: p :: ds =>
    show (if p = 46 then ([a], ds) else (a :: p :: ds, [])).1.length ≤ _ ∧ (if p = 46 then ([a], ds) else (a :: p :: ds, [])).2.length ≤ _
    by_cases h : p = 46
    · rw [if_pos h]; simp only [List.length_cons, List.length_nil]; omega
    · rw [if_neg h]; simp only [List.length_cons, List.length_nil]; omega
theorem mParse8_any (s : ByteArray) (w : World) (hs : s.size ≤ 9223372036854775807) (hW : Wts w) :
    Calls Tryd.prog 58 #[.string s] w fun e w' => e = .returned (qvT (qvL s.data.toList)) ∧ Below w.heap.size w w' := by
  have hz : s.data.toList.length = s.size := by simp
  have hcl := cutQ_le s.data.toList
  have hsel := sel_cut s.data.toList
  obtain ⟨W, hWq⟩ : ∃ W, (cutQ s.data.toList).1 = W := ⟨_, rfl⟩
  obtain ⟨F, hFq⟩ : ∃ F, (cutQ s.data.toList).2 = F := ⟨_, rfl⟩
  have HC : Box (cutQV s.data.toList = .tuple #[.string (bs W), .string (bs F)]) := box (by unfold cutQV; rw [hWq, hFq])
  rw [hWq, hFq] at hsel hcl
  have HF : Box ((bs F).size ≤ 9223372036854775807) := box (by rw [bs_size]; omega)
  have HT := box hW
  have HS := box hs
  clear hWq hFq hz hcl hW hs
  cases hf : fracO F with
  | none =>
    have HV : Box (qvL s.data.toList = none) := box (by rw [← hsel, hf]; rfl)
    have HQ := box hf
    clear hsel hf
    go_enter Tryd.func58, Tryd.ntmps58
    go_wp2_with fail
    refine (cutPoint_any _ _ HS.out).mono ?_; rintro e w1 ⟨rfl, hb⟩; rw [HC.out]
    have B1 := box hb
    have T1 := box (HT.out.below hb)
    clear hb
    go_wp2_with fail
    refine (parseFraction_any _ _ HF.out T1.out).mono ?_; rintro e w2 ⟨rfl, rfl⟩; rw [bs_toList, HQ.out, show qvT none = .tuple #[.int .i64 0, .bool false] from rfl]
    go_wp2
    go_ret2
    exact ⟨by rw [HV.out]; rfl, B1.out⟩
  | some t =>
    have hb := frac_bd hf
    have HQ := box hf
    clear hf
    by_cases h8 : W = [48]
    · subst h8
      have HV : Box (qvL s.data.toList = some t) := box (by rw [← hsel, HQ.out]; rfl)
      clear hsel
      go_enter Tryd.func58, Tryd.ntmps58
      go_wp2_with fail
      refine (cutPoint_any _ _ HS.out).mono ?_; rintro e w1 ⟨rfl, hb⟩; rw [HC.out, show bs [48] = ⟨#[48]⟩ from rfl]
      have B1 := box hb
      have T1 := box (HT.out.below hb)
      clear hb
      go_wp2_with fail
      refine (parseFraction_any _ _ HF.out T1.out).mono ?_; rintro e w2 ⟨rfl, rfl⟩; rw [bs_toList, HQ.out, qvT_some]
      go_wp2
      go_ret2
      exact ⟨by rw [HV.out]; rfl, B1.out⟩
    · by_cases h9 : W = [49]
      · subst h9
        by_cases h0 : t = 0
        · subst h0
          have HV : Box (qvL s.data.toList = some 1000) := box (by rw [← hsel, HQ.out]; rfl)
          clear hsel
          go_enter Tryd.func58, Tryd.ntmps58
          go_wp2_with fail
          refine (cutPoint_any _ _ HS.out).mono ?_; rintro e w1 ⟨rfl, hb⟩; rw [HC.out, show bs [49] = ⟨#[49]⟩ from rfl]
          have B1 := box hb
          have T1 := box (HT.out.below hb)
          clear hb
          go_wp2_with fail
          refine (parseFraction_any _ _ HF.out T1.out).mono ?_; rintro e w2 ⟨rfl, rfl⟩; rw [bs_toList, HQ.out, qvT_some]
          go_wp2
          go_ret2
          exact ⟨by rw [HV.out]; rfl, B1.out⟩
        · have HV : Box (qvL s.data.toList = none) := box (by rw [← hsel, HQ.out]; show (if ([49] : List UInt8) = [48] then some t else if ([49] : List UInt8) = [49] ∧ t = 0 then some 1000 else none) = none; rw [if_neg (by decide), if_neg (fun q => h0 q.2)])
          have he : (t == 0) = false := by rw [beq_eq_false_iff_ne]; exact h0
          clear hsel h0
          go_enter Tryd.func58, Tryd.ntmps58
          go_wp2_with fail
          refine (cutPoint_any _ _ HS.out).mono ?_; rintro e w1 ⟨rfl, hb⟩; rw [HC.out, show bs [49] = ⟨#[49]⟩ from rfl]
          have B1 := box hb
          have T1 := box (HT.out.below hb)
          clear hb
          go_wp2_with fail
          refine (parseFraction_any _ _ HF.out T1.out).mono ?_; rintro e w2 ⟨rfl, rfl⟩; rw [bs_toList, HQ.out, qvT_some]
          go_wp2
          go_ret2
          exact ⟨by rw [HV.out]; rfl, B1.out⟩
      · have HV : Box (qvL s.data.toList = none) := box (by rw [← hsel, HQ.out]; show (if W = [48] then some t else if W = [49] ∧ t = 0 then some 1000 else none) = none; rw [if_neg h8, if_neg (fun q => h9 q.1)])
        have el : (bs W).toList = W := by rw [toList_data]; rfl
        have e8 : ((bs W).toList == [48]) = false := by rw [el, beq_eq_false_iff_ne]; exact h8
        have e9 : ((bs W).toList == [49]) = false := by rw [el, beq_eq_false_iff_ne]; exact h9
        clear hsel el h8 h9
        go_enter Tryd.func58, Tryd.ntmps58
        go_wp2_with fail
        refine (cutPoint_any _ _ HS.out).mono ?_; rintro e w1 ⟨rfl, hb⟩; rw [HC.out]
        have B1 := box hb
        have T1 := box (HT.out.below hb)
        clear hb
        go_wp2_with fail
        refine (parseFraction_any _ _ HF.out T1.out).mono ?_; rintro e w2 ⟨rfl, rfl⟩; rw [bs_toList, HQ.out, qvT_some]
        go_wp2
        go_ret2
        exact ⟨by rw [HV.out]; rfl, B1.out⟩
theorem Dec8_is {n : Int} {x : ByteArray} {w : World} (h1 : InI64 n) (h : Box (bs (decL n) = x)) :
    Calls Tryd.prog 69 #[.int .i64 n] w fun e w' => e = .returned (.string x) ∧ Below w.heap.size w w' :=
  (Decimal_any n w h1).mono fun e w' ⟨h1, h2⟩ => ⟨by rw [h1, ← h.out]; rfl, h2⟩
end
section
open Go.RowKit
def FfRel (A B C : Nat) (t d i : Value) : Prop :=
  (i = .int .i64 0 ∧ t = .int .i64 (100 * A + 10 * B + C) ∧ d = .string ⟨#[]⟩) ∨
  (i = .int .i64 1 ∧ t = .int .i64 (10 * B + C) ∧ d = .string ⟨#[digC A]⟩) ∨
  (i = .int .i64 2 ∧ t = .int .i64 C ∧ d = .string ⟨#[digC A, digC B]⟩ ∧ 0 < 10 * B + C) ∨
  (i = .int .i64 3 ∧ t = .int .i64 0 ∧ d = .string ⟨#[digC A, digC B, digC C]⟩ ∧ 0 < C)
def ffS (A B C : Nat) : List UInt8 := if C = 0 then (if B = 0 then [digC A] else [digC A, digC B]) else [digC A, digC B, digC C]
theorem formatFraction_any (A B C : Nat) (w : World) (hA : A < 10) (hB : B < 10) (hC : C < 10) (hp : 0 < 100 * A + 10 * B + C) (hW : Wts w) :
    Calls Tryd.prog 70 #[.int .i64 (100 * A + 10 * B + C)] w fun e w' => e = .returned (.string (bs (ffS A B C))) ∧ Below w.heap.size w w' := by
  have HT := box hW
  clear hW
  go_enter Tryd.func70, Tryd.ntmps70
  go_wp2
  go_loopw [0, 3, 4] (fun t d i wr => FfRel A B C t d i ∧ Below w.heap.size w wr) (fun _ _ i _ => 3 - (intOf i).toNat)
  case atStart => exact ⟨.inl ⟨rfl, rfl, rfl⟩, Below.refl _ _⟩
  case round =>
    obtain ⟨hr, hb⟩ := hrel
    have HB := box hb
    obtain ⟨hw0, hw1, hw2, _⟩ := HT.out.below hb
    clear hb
    rcases hr with ⟨rfl, rfl, rfl⟩ | ⟨rfl, rfl, rfl⟩ | ⟨rfl, rfl, rfl, hg⟩ | ⟨rfl, rfl, rfl, hg⟩
    · clear hw1 hw2
      have ad : ∀ w, (Op.stringOp .add ⟨#[]⟩ ⟨#[digC A]⟩).run Tryd.prog w = .ok (.string (⟨#[]⟩ ++ ⟨#[digC A]⟩)) w := fun w => run_string_add_sum w _ _ (by show 0 + 1 ≤ 9223372036854775807; omega)
      have ea : ((⟨#[]⟩ : ByteArray) ++ ⟨#[digC A]⟩) = ⟨#[digC A]⟩ := rfl
      go_wp2_with fail
      refine (Dec8_is (x := ⟨#[digC A]⟩) ⟨by omega, by omega⟩ (box (by rw [show ((100 * (A : Int) + 10 * (B : Int) + (C : Int)) / 100) = (A : Int) from by omega, dec_dig A hA]; rfl))).mono ?_; rintro e w1 ⟨rfl, hb1⟩
      have B1 := box (HB.out.trans (hb1.mono HB.out.size))
      obtain ⟨hv0, hv1, hv2, _⟩ := HT.out.below B1.out
      clear hb1
      go_wp2
      go_roundw
      case rel => exact ⟨.inr (.inl ⟨rfl, by go_num, rfl⟩), B1.out⟩
      case measure => simp [intOf]
    · by_cases h : 10 * B + C = 0
      · have e : ffS A B C = [digC A] := by unfold ffS; rw [if_pos (by omega), if_pos (by omega)]
        have E := box e
        clear e
        go_wp2
        go_ret
        exact ⟨by rw [E.out]; rfl, HB.out⟩
      · have hq : (0 : Int) < 10 * B + C := by omega
        clear hw0 hw2
        have ad : ∀ w, (Op.stringOp .add ⟨#[digC A]⟩ ⟨#[digC B]⟩).run Tryd.prog w = .ok (.string (⟨#[digC A]⟩ ++ ⟨#[digC B]⟩)) w := fun w => run_string_add_sum w _ _ (by show 1 + 1 ≤ 9223372036854775807; omega)
        have ea : ((⟨#[digC A]⟩ : ByteArray) ++ ⟨#[digC B]⟩) = ⟨#[digC A, digC B]⟩ := rfl
        go_wp2_with fail
        refine (Dec8_is (x := ⟨#[digC B]⟩) ⟨by omega, by omega⟩ (box (by rw [show ((10 * (B : Int) + (C : Int)) / 10) = (B : Int) from by omega, dec_dig B hB]; rfl))).mono ?_; rintro e w1 ⟨rfl, hb1⟩
        have B1 := box (HB.out.trans (hb1.mono HB.out.size))
        obtain ⟨hv0, hv1, hv2, _⟩ := HT.out.below B1.out
        clear hb1
        go_wp2
        go_roundw
        case rel => exact ⟨.inr (.inr (.inl ⟨rfl, by go_num, rfl, by omega⟩)), B1.out⟩
        case measure => simp [intOf]
    · by_cases h : C = 0
      · have e : ffS A B C = [digC A, digC B] := by unfold ffS; rw [if_pos h, if_neg (by omega)]
        have E := box e
        clear e
        go_wp2
        go_ret
        exact ⟨by rw [E.out]; rfl, HB.out⟩
      · have hq : (0 : Int) < C := by omega
        clear hw0 hw1
        have ad : ∀ w, (Op.stringOp .add ⟨#[digC A, digC B]⟩ ⟨#[digC C]⟩).run Tryd.prog w = .ok (.string (⟨#[digC A, digC B]⟩ ++ ⟨#[digC C]⟩)) w := fun w => run_string_add_sum w _ _ (by show 2 + 1 ≤ 9223372036854775807; omega)
        have ea : ((⟨#[digC A, digC B]⟩ : ByteArray) ++ ⟨#[digC C]⟩) = ⟨#[digC A, digC B, digC C]⟩ := rfl
        go_wp2_with fail
        refine (Dec8_is (x := ⟨#[digC C]⟩) ⟨by omega, by omega⟩ (box (by first | rw [dec_dig C hC]; rfl | (rw [show ((C : Int) / 1) = (C : Int) from by omega, dec_dig C hC]; rfl)))).mono ?_; rintro e w1 ⟨rfl, hb1⟩
        have B1 := box (HB.out.trans (hb1.mono HB.out.size))
        obtain ⟨hv0, hv1, hv2, _⟩ := HT.out.below B1.out
        clear hb1
        go_wp2
        go_roundw
        case rel => exact ⟨.inr (.inr (.inr ⟨rfl, by go_num, rfl, by omega⟩)), B1.out⟩
        case measure => simp [intOf]
    · have e : ffS A B C = [digC A, digC B, digC C] := by unfold ffS; rw [if_neg (by omega)]
      have E := box e
      clear e
      go_wp2
      go_ret
      exact ⟨by rw [E.out]; rfl, HB.out⟩
theorem ff_fmt (A B C : Nat) (hA : A < 10) (hB : B < 10) (hC : C < 10) (hp : 0 < 100 * A + 10 * B + C) : fmtQ (100 * A + 10 * B + C) = 48 :: 46 :: ffS A B C := by
  have hn : (100 * (A : Int) + 10 * (B : Int) + (C : Int)).toNat = 100 * A + 10 * B + C := by omega
  have h3 : threeL (100 * A + 10 * B + C) = [digC A, digC B, digC C] := by
    unfold threeL
    rw [show (100 * A + 10 * B + C) / 100 % 10 = A from by omega, show (100 * A + 10 * B + C) / 10 % 10 = B from by omega, show (100 * A + 10 * B + C) % 10 = C from by omega]
  unfold fmtQ
  rw [if_neg (by omega), if_neg (by omega), if_neg (by omega), hn, h3, strip_three]
  unfold ffS
  by_cases hc : C = 0
  · rw [if_pos ((digC_zero C hC).2 hc), if_pos hc]
    by_cases hb : B = 0
    · rw [if_pos ((digC_zero B hB).2 hb), if_pos hb, if_neg (fun q => by have := (digC_zero A hA).1 q; omega)]
    · rw [if_neg (fun q => hb ((digC_zero B hB).1 q)), if_neg hb]
  · rw [if_neg (fun q => hc ((digC_zero C hC).1 q)), if_neg hc]
theorem mFormat8_in (A B C : Nat) (w : World) (hA : A < 10) (hB : B < 10) (hC : C < 10) (hp : 0 < 100 * A + 10 * B + C) (hW : Wts w) :
    Calls Tryd.prog 47 #[.int .i64 (100 * A + 10 * B + C)] w fun e w' => e = .returned (.string (bs (fmtQ (100 * A + 10 * B + C)))) ∧ Below w.heap.size w w' := by
  have HF := box (ff_fmt A B C hA hB hC hp)
  have HT := box hW
  have hm : ((100 * (A : Int) + 10 * B + C) % 1000 == 0) = false := by rw [beq_eq_false_iff_ne]; omega
  have i1 : ¬ (100 * (A : Int) + 10 * B + C) < 0 := by omega
  have i2 : ¬ 1000 < (100 * (A : Int) + 10 * B + C) := by omega
  have hz : (bs (ffS A B C)).size ≤ 3 := by
    rw [bs_size]; unfold ffS
    split
    · split <;> simp
    · simp
  have ad : ∀ w, (Op.stringOp .add ⟨#[48, 46]⟩ (bs (ffS A B C))).run Tryd.prog w = .ok (.string (⟨#[48, 46]⟩ ++ bs (ffS A B C))) w := fun w => run_string_add_sum w _ _ (by show 2 + (bs (ffS A B C)).size ≤ 9223372036854775807; omega)
  clear hz hW
  go_enter Tryd.func47, Tryd.ntmps47
  go_wp2_with fail
  refine (formatFraction_any A B C _ hA hB hC hp HT.out).mono ?_; rintro e w1 ⟨rfl, hb⟩
  go_wp2
  go_ret
  exact ⟨by rw [HF.out]; rfl, hb⟩
theorem mFormat8_any (q : Int) (w : World) (h : InI64 q) (hW : Wts w) :
    Calls Tryd.prog 47 #[.int .i64 q] w fun e w' => e = .returned (.string (bs (fmtQ q))) ∧ Below w.heap.size w w' := by
  by_cases h1 : q < 0
  · have HE : Box (fmtQ q = []) := box (qv_none q (.inl h1))
    go_enter Tryd.func47, Tryd.ntmps47
    go_wp2
    go_ret
    exact ⟨by rw [HE.out]; rfl, Below.refl _ _⟩
  · by_cases h2 : 1000 < q
    · have HE : Box (fmtQ q = []) := box (qv_none q (.inr h2))
      go_enter Tryd.func47, Tryd.ntmps47
      go_wp2
      go_ret
      exact ⟨by rw [HE.out]; rfl, Below.refl _ _⟩
    · by_cases h3 : q = 0
      · subst h3
        have HE : Box (bs (fmtQ 0) = ⟨#[48]⟩) := box (by decide)
        have HD : Box (bs (decL 0) = ⟨#[48]⟩) := box (by decide +kernel)
        clear hW
        go_enter Tryd.func47, Tryd.ntmps47
        go_wp2_with fail
        refine (Dec8_is ⟨by omega, by omega⟩ HD).mono ?_; rintro e w1 ⟨rfl, hb⟩
        go_wp2
        go_ret
        exact ⟨by rw [HE.out]; rfl, hb⟩
      · by_cases h4 : q = 1000
        · subst h4
          have HE : Box (bs (fmtQ 1000) = ⟨#[49]⟩) := box (by decide)
          have HD : Box (bs (decL 1) = ⟨#[49]⟩) := box (by decide +kernel)
          clear hW
          go_enter Tryd.func47, Tryd.ntmps47
          go_wp2_with fail
          refine (Dec8_is ⟨by omega, by omega⟩ HD).mono ?_; rintro e w1 ⟨rfl, hb⟩
          go_wp2
          go_ret
          exact ⟨by rw [HE.out]; rfl, hb⟩
        · have e : q = 100 * ((q.toNat / 100 : Nat) : Int) + 10 * ((q.toNat / 10 % 10 : Nat) : Int) + ((q.toNat % 10 : Nat) : Int) := by omega
          rw [e]
          exact mFormat8_in _ _ _ w (by omega) (by omega) (by omega) (by omega) hW
end
section
open Go.RowKit
theorem cutQ1_any (n u : ByteArray) (w : World) :
    Calls Tryd.prog 57 #[.agg #[.string n, .string u]] w fun e w' => e = .returned (.bool (isQ (n, u))) ∧ Below w.heap.size w w' := by
  have hq := isQ_eq n u
  obtain ⟨z, hz⟩ : ∃ z, isQ (n, u) = z := ⟨_, rfl⟩
  rw [hz] at hq ⊢
  clear hz
  go_enter Tryd.func57, Tryd.ntmps57
  go_wp2
  go_ret
  exact ⟨rfl, below_new w _⟩
theorem cutQ1_is {n u : ByteArray} {z : Bool} {w : World} (h : Box (isQ (n, u) = z)) :
    Calls Tryd.prog 57 #[.agg #[.string n, .string u]] w fun e w' => e = .returned (.bool z) ∧ Below w.heap.size w w' :=
  (cutQ1_any n u w).mono fun e w' ⟨h1, h2⟩ => ⟨by rw [h1, h.out], h2⟩
/-- the place of the first q, -1 if there is none -/
def idxQ (K : List F) : Int := if atQ K < K.length then (atQ K : Int) else -1
theorem idxQ_hit {K : List F} {j : Nat} (hj : j < K.length) (h : atQ K = j) : idxQ K = (j : Int) := by unfold idxQ; rw [h, if_pos hj]
theorem idxQ_no {K : List F} (h : atQ K = K.length) : idxQ K = -1 := by unfold idxQ; rw [h, if_neg (by omega)]
def AtMRel (K : List F) (W : World) (i : Value) (wr : World) : Prop := ∃ j : Nat, i = .int .i64 j ∧ j ≤ K.length ∧ Box (∀ i (hi : i < K.length), i < j → isQ K[i] = false) ∧ Below W.heap.size W wr
set_option maxHeartbeats 400000 in
theorem idxQ_any (a : Option Addr) (cap : Nat) (K : List F) (w : World) (hl : K.length ≤ 65536) (hF : Box (Fs w a K)) :
    Calls Tryd.prog 56 #[.slice a K.length cap, .func (.func 57) #[] #[]] w fun e w' => e = .returned (.int .i64 (idxQ K)) ∧ Below w.heap.size w w' := by
  go_enter Tryd.func56, Tryd.ntmps56
  go_wp2
  go_loopw [8] (fun i wr => AtMRel K w i wr) (fun i _ => K.length - (intOf i).toNat)
  case atStart => exact ⟨0, rfl, Nat.zero_le _, box (fun i hi h => absurd h (by omega)), Below.refl _ _⟩
  case round =>
    obtain ⟨k, rfl, hk, HNO, hbel⟩ := hrel
    by_cases hlt : k < K.length
    · obtain ⟨g, off, rfl, c0, c1⟩ := (hF.out.below hbel) k hlt
      obtain ⟨⟨n, u⟩, hnu⟩ : ∃ p, K[k] = p := ⟨_, rfl⟩
      rw [hnu] at c0 c1
      have BL := box hbel
      clear hbel
      cases hq : isQ (n, u) with
      | true =>
        have HQ := box hq
        have HV : Box (idxQ K = (k : Int)) := box (idxQ_hit hlt (atQ_is (fun i hi hik => HNO.out i hi hik) (.inr ⟨hlt, by rw [hnu]; exact hq⟩)))
        clear hq hnu
        go_wp2_with fail
        refine (cutQ1_is HQ).mono ?_; rintro e w1 ⟨rfl, hb1⟩
        have B1 := box (BL.out.trans (hb1.mono BL.out.size))
        clear hb1 c0 c1
        go_wp2
        go_ret
        exact ⟨by rw [HV.out]; rfl, B1.out⟩
      | false =>
        have HQ := box hq
        have HN2 : Box (∀ i (hi : i < K.length), i < k + 1 → isQ K[i] = false) := box (fun i hi hij => by
          by_cases e : i = k
          · subst e; rw [hnu]; exact hq
          · exact HNO.out i hi (by omega))
        clear hq hnu
        go_wp2_with fail
        refine (cutQ1_is HQ).mono ?_; rintro e w1 ⟨rfl, hb1⟩
        have B1 := box (BL.out.trans (hb1.mono BL.out.size))
        clear hb1 c0 c1
        go_wp2
        go_roundw
        case rel => exact ⟨k + 1, by go_num, hlt, HN2, B1.out⟩
        case measure => simp [intOf]; omega
    · have HV : Box (idxQ K = -1) := box (idxQ_no (atQ_is (k := K.length) (fun i hi hik => HNO.out i hi (by omega)) (.inl rfl)))
      go_wp2
      go_ret
      exact ⟨by rw [HV.out]; rfl, hbel⟩
theorem idxQ_is {a : Option Addr} {cap : Nat} {K : List F} {i : Int} {w : World} (hl : K.length ≤ 65536) (hF : Box (Fs w a K)) (h : Box (idxQ K = i)) :
    Calls Tryd.prog 56 #[.slice a K.length cap, .func (.func 57) #[] #[]] w fun e w' => e = .returned (.int .i64 i) ∧ Below w.heap.size w w' :=
  (idxQ_any a cap K w hl hF).mono fun e w' ⟨h1, h2⟩ => ⟨by rw [h1, h.out], h2⟩
theorem mQv13_is {s : ByteArray} {q : Int} {b : Bool} {w : World} (hs : s.size ≤ 9223372036854775807) (hW : Wts w) (h : Box (qvT (qvL s.data.toList) = .tuple #[.int .i64 q, .bool b])) :
    Calls Tryd.prog 58 #[.string s] w fun e w' => e = .returned (.tuple #[.int .i64 q, .bool b]) ∧ Below w.heap.size w w' :=
  (mParse8_any s w hs hW).mono fun e w' ⟨h1, h2⟩ => ⟨by rw [h1, h.out], h2⟩
theorem cutQ_is {a : Option Addr} {cap : Nat} {K : List F} {j : Nat} {q : Int} {b : Bool} {w : World} (hl : K.length ≤ 20000) (hc : K.length ≤ cap) (hz : Box (∀ i (hi : i < K.length), K[i].1.size ≤ 20000 ∧ K[i].2.size ≤ 20000)) (hF : Fs w a K) (hW : Wts w) (hj : Box (atQ K = j)) (h : Box (qvT (qualP K) = .tuple #[.int .i64 q, .bool b])) :
    Calls Tryd.prog 38 #[.slice a K.length cap] w fun e w' => e = .returned (.tuple #[.slice a j cap, .int .i64 q, .bool b]) ∧ Below w.heap.size w w' := by
  have F0 := box hF
  have HT := box hW
  have hl6 : K.length ≤ 65536 := by omega
  have hjl : j ≤ K.length := by rw [← hj.out]; exact atQ_le K
  clear hF hW
  by_cases hlt : j < K.length
  · have HI : Box (idxQ K = (j : Int)) := box (idxQ_hit hlt hj.out)
    obtain ⟨⟨n, u⟩, hnu⟩ : ∃ p, K[j] = p := ⟨_, rfl⟩
    have HQ : Box (qvT (qvL u.data.toList) = .tuple #[.int .i64 q, .bool b]) := box (by rw [← qual_at hj.out hlt (by rw [hnu])]; exact h.out)
    have huz : u.size ≤ 9223372036854775807 := by have := (hz.out j hlt).2; rw [hnu] at this; exact Nat.le_trans this (by omega)
    have hji : (j : Int) < (K.length : Int) := by omega
    have hj0 : (0 : Int) ≤ (j : Int) := by omega
    have hjn : ¬ (j : Int) < 0 := by omega
    have hjc : (j : Int) ≤ (cap : Int) := by omega
    go_enter Tryd.func38, Tryd.ntmps38
    go_wp2_with fail
    refine (idxQ_is hl6 F0 HI).mono ?_; rintro e w1 ⟨rfl, hb1⟩
    obtain ⟨g, off, rfl, c0, c1⟩ := (F0.out.below hb1) j hlt
    rw [hnu] at c0 c1
    have T1 := box (HT.out.below hb1)
    have B1 := box hb1
    clear hb1 hnu
    go_wp2_with fail
    refine (mQv13_is huz T1.out HQ).mono ?_; rintro e w2 ⟨rfl, hb2⟩
    have B2 := box (B1.out.trans (hb2.mono B1.out.size))
    clear hb2 c0 c1
    go_wp2
    go_ret3
    exact ⟨rfl, B2.out⟩
  · obtain rfl : j = K.length := by omega
    have HI : Box (idxQ K = -1) := box (idxQ_no hj.out)
    have hq : qualP K = some 1000 := qual_no hj.out
    have h := h.out
    rw [hq] at h
    obtain ⟨rfl, rfl⟩ : 1000 = q ∧ true = b := by
      unfold qvT at h
      injection h with h; injection h with h
      simp at h
      exact ⟨h.1, h.2⟩
    clear h hq
    go_enter Tryd.func38, Tryd.ntmps38
    go_wp2_with fail
    refine (idxQ_is hl6 F0 HI).mono ?_; rintro e w1 ⟨rfl, hb1⟩
    go_wp2
    go_ret3
    exact ⟨rfl, hb1⟩
/-- the text of a range -/
def rtO (k : Int) (v : List UInt8) (K : List F) : Option ByteArray :=
  if k = 1 then (rangeL v).map fun m => fmtPB (m.1 ++ (⟨#[47]⟩ : ByteArray) ++ m.2.1) K
  else if ((if k = 2 then rangeT v else tokL v) && decide (K.length = 0)) = true then some (bs (canL k v)) else none
def RtIs (o : Option ByteArray) (e : Ending) : Prop := ∃ x b, e = .returned (.tuple #[.string x, .bool b]) ∧ o.isSome = b ∧ ∀ p, o = some p → p = x
theorem rt_of {o : Option ByteArray} {x : ByteArray} {b : Bool} (h1 : o.isSome = b) (h2 : ∀ p, o = some p → p = x) : RtIs o (.returned (.tuple #[.string x, .bool b])) := ⟨x, b, rfl, h1, h2⟩
theorem rt_acc_facts {v : List UInt8} {a b : ByteArray} {M K : List F} {ok : Bool} {y : ByteArray} (hM : ofM (rangeL v) = (a, b, M)) (hok : (rangeL v).isSome = ok) (hy : fmtMB (a, b, K) = y) : (rtO 1 v K).isSome = ok ∧ ∀ p, rtO 1 v K = some p → p = y := by
  unfold rtO
  rw [if_pos rfl, ← hok]
  cases hr : rangeL v with
  | none => exact ⟨rfl, fun p hp => by cases hp⟩
  | some m =>
    rw [hr] at hM
    have hm : m = (a, b, M) := hM
    subst hm
    refine ⟨rfl, fun p hp => ?_⟩
    simp only [Option.map_some, Option.some.injEq] at hp
    rw [← hp, ← hy]; rfl
theorem rt_oth_facts {k : Int} {v : List UInt8} {K : List F} {t : Bool} {y : ByteArray} (hk : k ≠ 1) (ht : (if k = 2 then rangeT v else tokL v) = t) (hK : K.length = 0) (hy : bs (canL k v) = y) : (rtO k v K).isSome = t ∧ ∀ p, rtO k v K = some p → p = y := by
  unfold rtO
  rw [if_neg hk, ht, decide_eq_true hK, Bool.and_true]
  cases t with
  | true => exact ⟨rfl, fun p hp => by cases hp; rw [← hy]⟩
  | false => exact ⟨rfl, fun p hp => by cases hp⟩
theorem rt_long {k : Int} {v : List UInt8} {K : List F} (hk : k ≠ 1) (hK : K.length ≠ 0) : rtO k v K = none := by
  unfold rtO
  rw [if_neg hk, decide_eq_false hK, Bool.and_false]; rfl
theorem mem_rt {k : Int} {s v : List UInt8} {L : List F} {q : Int} (h : parL s = some (v, L)) (hq : qualP L = some q) : memP k s = (rtO k v (L.take (atQ L))).map fun x => (x, q) := by
  have hl : (L.take (atQ L)).length = atQ L := by rw [List.length_take]; have := atQ_le L; omega
  by_cases hk : k = 1
  · subst hk
    rw [mem_acc h hq]
    unfold rtO
    rw [if_pos rfl]
    cases rangeL v with
    | none => rfl
    | some m => rfl
  · rw [mem_oth hk h hq]
    unfold rtO
    rw [if_neg hk, hl]
    cases ((if k = 2 then rangeT v else tokL v) && decide (atQ L = 0)) with
    | true => rfl
    | false => rfl
theorem mFmt13_is {a b : ByteArray} {p : Option Addr} {n cap : Nat} {L : List F} {x : ByteArray} {w : World} (ha : a.size ≤ 30000) (hb : b.size ≤ 30000) (hn : Box (L.length = n)) (hl : Box (L.length ≤ 65536)) (hz : Box (∀ i (hi : i < L.length), L[i].1.size ≤ 65536 ∧ L[i].2.size ≤ 65536)) (hF : Fs w p L) (h : Box (fmtMB (a, b, L) = x)) :
    Calls Tryd.prog 82 #[.agg #[.string a, .string b, .slice p n cap]] w fun e w' => e = .returned (.string x) ∧ Below w.heap.size w w' := by
  have := mFmt10_any a b p cap L w ha hb hl.out hz (box hF)
  rw [hn.out, h.out] at this; exact this
theorem mrtx_is {x : ByteArray} {p : Option Addr} {n cap : Nat} {K : List F} {w : World} (hx : x.size ≤ 20000) (hn : Box (K.length = n)) (hl : Box (K.length ≤ 65536)) (hz : Box (∀ i (hi : i < K.length), K[i].1.size ≤ 65536 ∧ K[i].2.size ≤ 65536)) (hF : Fs w p K) :
    Calls Tryd.prog 59 #[.string x, .slice p n cap] w fun e w' => RtIs (rtO 1 x.data.toList K) e ∧ Below w.heap.size w w' := by
  obtain ⟨⟨a, b, M⟩, hM⟩ : ∃ m, ofM (rangeL x.data.toList) = m := ⟨_, rfl⟩
  obtain ⟨ok, hok⟩ : ∃ ok, (rangeL x.data.toList).isSome = ok := ⟨_, rfl⟩
  obtain ⟨y, hy⟩ : ∃ y, fmtMB (a, b, K) = y := ⟨_, rfl⟩
  have F0 := box hF
  have hlen := range_len13 hM
  have HM := box (And.intro hM hok)
  have HY := box hy
  have HR := box (rt_acc_facts hM hok hy)
  have ha : a.size ≤ 30000 := by omega
  have hb : b.size ≤ 30000 := by omega
  have hx6 : x.size ≤ 65000 := by omega
  clear hM hok hy hlen hF
  go_enter Tryd.func59, Tryd.ntmps59
  go_wp2_with fail
  refine (mRange_is hx6 HM).mono ?_; rintro e w2 ⟨p2, c2, rfl, hO2, hb2⟩
  have hnw := below_new w2 (.cells #[.string a, .string b, .slice p n cap] 68)
  have B2 := box (hb2.trans (hnw.mono hb2.size))
  have T4 : Box (Fs (w2.alloc (.cells #[.string a, .string b, .slice p n cap] 68)) p K) := box ((F0.out.below hb2).below hnw)
  clear hO2 hb2 hnw
  go_wp2_with fail
  refine (mFmt13_is ha hb hn hl hz T4.out HY).mono ?_; rintro e w3 ⟨rfl, hb3⟩
  have B3 := box (B2.out.trans (hb3.mono B2.out.size))
  clear hb3
  go_wp2
  go_ret2
  exact ⟨rt_of HR.out.1 HR.out.2, B3.out⟩
theorem mCan13_is {k : Int} {s x : ByteArray} {w : World} (hk : InI64 k) (hs : s.size ≤ 20000) (h : Box (bs (canL k s.data.toList) = x)) :
    Calls Tryd.prog 60 #[.int .i64 k, .string s] w fun e w' => e = .returned (.string x) ∧ Below w.heap.size w w' :=
  mCan0_is hk (by omega) h
theorem mRng13_is {s : ByteArray} {b : Bool} {w : World} (hs : s.size ≤ 20000) (h : Box (rangeT s.data.toList = b)) :
    Calls Tryd.prog 61 #[.string s] w fun e w' => e = .returned (.bool b) ∧ Below w.heap.size w w' :=
  (mRangeT_any s w (by omega)).mono fun e w' ⟨h1, h2⟩ => ⟨by rw [h1, h.out], h2⟩
set_option maxHeartbeats 1000000 in
theorem mrt_is {k : Int} {x : ByteArray} {p : Option Addr} {n cap : Nat} {K : List F} {w : World} (hk : InI64 k) (hx : x.size ≤ 20000) (hn : Box (K.length = n)) (hl : Box (K.length ≤ 65536)) (hz : Box (∀ i (hi : i < K.length), K[i].1.size ≤ 65536 ∧ K[i].2.size ≤ 65536)) (hF : Fs w p K) :
    Calls Tryd.prog 39 #[.int .i64 k, .string x, .slice p n cap] w fun e w' => RtIs (rtO k x.data.toList K) e ∧ Below w.heap.size w w' := by
  have F0 := box hF
  have hxm : x.size ≤ maxLen := by unfold maxLen; omega
  have HXM := box hxm
  clear hF hxm
  by_cases h1 : k = 1
  · subst h1
    go_enter Tryd.func39, Tryd.ntmps39
    go_wp2_with fail
    refine (mrtx_is hx hn hl hz F0.out).mono ?_; rintro e w1 ⟨⟨y, b, rfl, hb, hp⟩, hb1⟩
    have HR := box (And.intro hb hp)
    clear hb hp
    go_wp2
    go_ret2
    exact ⟨rt_of HR.out.1 HR.out.2, hb1⟩
  · have e1 : (k == 1) = false := by rw [beq_eq_false_iff_ne]; exact h1
    by_cases h0 : n = 0
    · obtain ⟨y, hy⟩ : ∃ y, bs (canL k x.data.toList) = y := ⟨_, rfl⟩
      have HY := box hy
      have hK0 : K.length = 0 := by rw [hn.out]; exact h0
      by_cases h2 : k = 2
      · subst h2
        obtain ⟨t, ht⟩ : ∃ t, rangeT x.data.toList = t := ⟨_, rfl⟩
        have HT := box ht
        have HR := box (rt_oth_facts h1 (t := t) (by rw [if_pos rfl]; exact ht) hK0 hy)
        subst h0
        clear hy ht hK0 h1 e1
        go_enter Tryd.func39, Tryd.ntmps39
        go_wp2_with fail
        refine (mCan13_is hk hx HY).mono ?_; rintro e w1 ⟨rfl, hb1⟩
        have B1 := box hb1
        clear hb1
        go_wp2_with fail
        refine (mRng13_is hx HT).mono ?_; rintro e w2 ⟨rfl, hb2⟩
        have B2 := box (B1.out.trans (hb2.mono B1.out.size))
        clear hb2
        go_wp2
        go_ret2
        exact ⟨rt_of HR.out.1 HR.out.2, B2.out⟩
      · have e2 : (k == 2) = false := by rw [beq_eq_false_iff_ne]; exact h2
        obtain ⟨t, ht⟩ : ∃ t, tokL x.data.toList = t := ⟨_, rfl⟩
        have HT := box ht
        have HR := box (rt_oth_facts h1 (t := t) (by rw [if_neg h2]; exact ht) hK0 hy)
        subst h0
        clear hy ht hK0 h1 h2
        go_enter Tryd.func39, Tryd.ntmps39
        go_wp2_with fail
        refine (mCan13_is hk hx HY).mono ?_; rintro e w1 ⟨rfl, hb1⟩
        have B1 := box hb1
        clear hb1
        go_wp2_with fail
        refine (aToken_is HXM.out HT).mono ?_; rintro e w2 ⟨rfl, rfl⟩
        go_wp2
        go_ret2
        exact ⟨rt_of HR.out.1 HR.out.2, B1.out⟩
    · have hn0 : (0 : Int) < (n : Int) := by omega
      have HV : Box (rtO k x.data.toList K = none) := box (rt_long h1 (by rw [hn.out]; exact h0))
      clear h0 h1
      go_enter Tryd.func39, Tryd.ntmps39
      go_wp2
      go_ret2
      exact ⟨rt_of (by rw [HV.out]; rfl) (fun p hp => by rw [HV.out] at hp; cases hp), Below.refl _ _⟩
set_option maxHeartbeats 2000000 in
theorem mpp_any (k : Int) (s : ByteArray) (w : World) (hk : InI64 k) (hs : s.size ≤ 20000) (hW : Wts w) :
    Calls Tryd.prog 24 #[.int .i64 k, .string s] w fun e w' => MbrIs (memP k s.data.toList) e ∧ Below w.heap.size w w' := by
  obtain ⟨x, hx⟩ : ∃ x, parA s.data.toList = x := ⟨_, rfl⟩
  obtain ⟨K, hK⟩ : ∃ K, parB s.data.toList = K := ⟨_, rfl⟩
  have HT := box hW
  have hs6 : s.size ≤ 65000 := by omega
  have hxx : x.size ≤ 20000 := by have := parA_size s; rw [hx] at this; omega
  clear hW
  cases ho : parO s.data.toList with
  | false =>
    have HP := box (And.intro hx (And.intro hK ho))
    have HV : Box (memP k s.data.toList = none) := box (mem_none (par_off ho))
    clear hx hK ho
    go_enter Tryd.func24, Tryd.ntmps24
    go_wp2_with fail
    refine (mParO_is hs6 HP).mono ?_; rintro e w1 ⟨a1, c1, rfl, hO1, hb1⟩
    have hC1 := box ((C2.new (.string ⟨#[]⟩) (.int .i64 0) w 44).next hb1)
    have B1 := box ((below_new w (.cells #[.string ⟨#[]⟩, .int .i64 0] 44)).trans (hb1.mono (below_new w _).size))
    clear hO1 hb1
    obtain ⟨⟨r0, r1⟩, ⟨f0, f1⟩⟩ := hC1.out
    go_wp2
    (try simp only [Exit.inBlock, Exit.then])
    refine bodyPost_ret (v := .tuple #[.agg #[.string ⟨#[]⟩, .int .i64 0], .bool false]) (by rw [results_cell_tmp rfl]; go_simp) rfl ?_
    exact ⟨mbr_no HV, below2 B1.out (Nat.le_refl _) _ _⟩
  | true =>
    have HP := box (And.intro hx (And.intro hK ho))
    have HPL := box (par_of HP.out)
    have hKlen : K.length ≤ 20000 := by have := (par_facts HPL.out).2.2.1; have hz : s.data.toList.length = s.size := by simp
                                        omega
    have hKz : Box (∀ i (hi : i < K.length), K[i].1.size ≤ 20000 ∧ K[i].2.size ≤ 20000) := box (fun i hi => by
      have h1 := (par_facts HPL.out).2.1
      have h2 := szF_at hi
      have hz : s.data.toList.length = s.size := by simp
      omega)
    obtain ⟨j, hj⟩ : ∃ j, atQ K = j := ⟨_, rfl⟩
    have HJ := box hj
    have hjl : j ≤ K.length := by rw [← hj]; exact atQ_le K
    have hTL : Box ((K.take j).length = j) := box (by rw [List.length_take]; omega)
    have lK : Box ((K.take j).length ≤ 65536) := box (by rw [List.length_take]; omega)
    have zK : Box (∀ i (hi : i < (K.take j).length), (K.take j)[i].1.size ≤ 65536 ∧ (K.take j)[i].2.size ≤ 65536) := box (fun i hi => by
      have hi2 : i < K.length := by rw [List.length_take] at hi; omega
      have := hKz.out i hi2
      rw [List.getElem_take]; omega)
    clear hx hK ho hj hjl
    cases hq : qualP K with
    | none =>
      have HQ : Box (qvT (qualP K) = .tuple #[.int .i64 0, .bool false]) := box (by rw [hq]; rfl)
      have HV : Box (memP k s.data.toList = none) := box (mem_noq HPL.out hq)
      clear hq
      go_enter Tryd.func24, Tryd.ntmps24
      go_wp2_with fail
      refine (mParO_is hs6 HP).mono ?_; rintro e w1 ⟨a1, c1, rfl, hO1, hb1⟩
      obtain ⟨p9, c9, hv9, hFF, hcc⟩ := hO1.fs
      cases hv9
      have hC1 := box ((C2.new (.string ⟨#[]⟩) (.int .i64 0) w 44).next hb1)
      have B1 := box ((below_new w (.cells #[.string ⟨#[]⟩, .int .i64 0] 44)).trans (hb1.mono (below_new w _).size))
      have F1 := box hFF
      have T1 := box (HT.out.below B1.out)
      clear hO1 hb1 hFF
      go_wp2_with fail
      refine (cutQ_is hKlen hcc hKz F1.out T1.out HJ HQ).mono ?_; rintro e w2 ⟨rfl, hb2⟩
      have B2 := box (B1.out.trans (hb2.mono B1.out.size))
      have hC2 := box (hC1.out.next hb2)
      clear hb2
      obtain ⟨⟨r0, r1⟩, ⟨f0, f1⟩⟩ := hC2.out
      go_wp2
      (try simp only [Exit.inBlock, Exit.then])
      refine bodyPost_ret (v := .tuple #[.agg #[.string ⟨#[]⟩, .int .i64 0], .bool false]) (by rw [results_cell_tmp rfl]; go_simp) rfl ?_
      exact ⟨mbr_no HV, below2 B2.out (Nat.le_refl _) _ _⟩
    | some q =>
      have HQ : Box (qvT (qualP K) = .tuple #[.int .i64 q, .bool true]) := box (by rw [hq]; rfl)
      have HV : Box (memP k s.data.toList = (rtO k x.data.toList (K.take j)).map fun y => (y, q)) := box (by rw [← HJ.out]; exact mem_rt HPL.out hq)
      clear hq
      go_enter Tryd.func24, Tryd.ntmps24
      go_wp2_with fail
      refine (mParO_is hs6 HP).mono ?_; rintro e w1 ⟨a1, c1, rfl, hO1, hb1⟩
      obtain ⟨p9, c9, hv9, hFF, hcc⟩ := hO1.fs
      cases hv9
      have hC1 := box ((C2.new (.string ⟨#[]⟩) (.int .i64 0) w 44).next hb1)
      have B1 := box ((below_new w (.cells #[.string ⟨#[]⟩, .int .i64 0] 44)).trans (hb1.mono (below_new w _).size))
      have F1 := box hFF
      have T1 := box (HT.out.below B1.out)
      clear hO1 hb1 hFF
      go_wp2_with fail
      refine (cutQ_is hKlen hcc hKz F1.out T1.out HJ HQ).mono ?_; rintro e w2 ⟨rfl, hb2⟩
      have B2 := box (B1.out.trans (hb2.mono B1.out.size))
      have hC2 := box (hC1.out.next hb2)
      have F2 := box (fs_take (n := j) (F1.out.below hb2))
      clear hb2
      go_wp2_with fail
      refine (mrt_is hk hxx hTL lK zK F2.out).mono ?_; rintro e w3 ⟨⟨y, b, rfl, hb, hp⟩, hb3⟩
      have B3 := box (B2.out.trans (hb3.mono B2.out.size))
      have hC3 := box (hC2.out.next hb3)
      clear hb3
      obtain ⟨⟨r0, r1⟩, ⟨f0, f1⟩⟩ := hC3.out
      cases b with
      | false =>
        have HN : Box (memP k s.data.toList = none) := box (by
          rw [HV.out]
          cases hr : rtO k x.data.toList (K.take j) with
          | none => rfl
          | some m => rw [hr] at hb; cases hb)
        clear hb hp
        go_wp2
        (try simp only [Exit.inBlock, Exit.then])
        refine bodyPost_ret (v := .tuple #[.agg #[.string ⟨#[]⟩, .int .i64 0], .bool false]) (by rw [results_cell_tmp rfl]; go_simp) rfl ?_
        exact ⟨mbr_no HN, below2 B3.out (Nat.le_refl _) _ _⟩
      | true =>
        have HN : Box (memP k s.data.toList = some (y, q)) := box (by
          rw [HV.out]
          cases hr : rtO k x.data.toList (K.take j) with
          | none => rw [hr] at hb; cases hb
          | some m => rw [hp m hr]; rfl)
        clear hb hp
        go_wp2
        (try simp only [Exit.inBlock, Exit.then])
        refine bodyPost_ret (v := .tuple #[.agg #[.string y, .int .i64 q], .bool true]) (by rw [results_cell_tmp rfl]; go_simp) rfl ?_
        exact ⟨mbr_of (by rw [HN.out]; rfl) (fun p hp => by rw [HN.out] at hp; cases hp; rfl), below2 B3.out (Nat.le_refl _) _ _⟩
theorem mpp_is {k : Int} {s : ByteArray} {o : Option QP} {w : World} (hk : InI64 k) (hs : s.size ≤ 20000) (hW : Wts w) (h : Box (memP k s.data.toList = o)) :
    Calls Tryd.prog 24 #[.int .i64 k, .string s] w fun e w' => MbrIs o e ∧ Below w.heap.size w w' :=
  (mpp_any k s w hk hs hW).mono fun e w' ⟨h1, h2⟩ => ⟨by rw [h.out] at h1; exact h1, h2⟩
end
end Go.Proofs.YtnpllgjkbpnimaaDoor.Asc
