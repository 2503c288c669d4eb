/- The contracts of package qvalue's functions, over the developers' code of 166ae01. They read the package-level table of weights: each contract asks that it holds 100, 10, 1. -/
import Derived.Test.YtlimfofjhedikaaDoorQvaRef2
import Derived.Test.YtlimfofjhedikaaDoorQvaSpec2
import Derived.Test.YtlimfofjhedikaaDoorAscDec
set_option linter.unusedVariables false
set_option linter.unusedSimpArgs false
set_option maxRecDepth 100000
namespace Go.Proofs.YtlimfofjhedikaaDoor.Asc
open Go.RowKit

/-- the table of weights, as the program's text lays it -/
def Wts (w : World) : Prop := w.cell? ⟨0, 0, none⟩ = some (.int .i64 100) ∧ w.cell? ⟨0, 1, none⟩ = some (.int .i64 10) ∧ w.cell? ⟨0, 2, none⟩ = some (.int .i64 1) ∧ 0 < w.heap.size
theorem Wts.below {w w' : World} (h : Wts w) (b : Below w.heap.size w w') : Wts w' := by
  obtain ⟨h0, h1, h2, hs⟩ := h
  have c : ∀ i, w'.cell? ⟨0, i, none⟩ = w.cell? ⟨0, i, none⟩ := fun i => b.cell hs
  exact ⟨by rw [c, h0], by rw [c, h1], by rw [c, h2], Nat.lt_of_lt_of_le hs b.size⟩
def cutQV (l : List UInt8) : Value := .tuple #[.string (bs (cutQ l).1), .string (bs (cutQ l).2)]
theorem cutPoint_any (s : ByteArray) (w : World) (hs : s.size ≤ 9223372036854775807) :
    Calls Tryd.prog 11 #[.string s] w fun e w' => e = .returned (cutQV s.data.toList) ∧ Below w.heap.size w w' := by
  have hz : s.data.toList.length = s.size := by simp
  by_cases h1 : 1 < s.size
  · have hl := list_second h1
    by_cases h46 : s[1] = 46
    · have HV : Box (cutQV s.data.toList = .tuple #[.string (s.extract 0 1), .string (s.extract 2 s.size)]) := box (by
        have e1 : s.extract 0 1 = bs [s[0]] := by rw [ext_bs, hl]; rfl
        have e2 : s.extract 2 s.size = bs (s.data.toList.drop 2) := by rw [ext_bs, List.take_of_length_le (by omega)]
        rw [e1, e2]
        unfold cutQV
        rw [hl]
        show Value.tuple #[.string (bs (if s[1] = 46 then ([s[0]], s.data.toList.drop 2) else (s[0] :: s[1] :: s.data.toList.drop 2, [])).1), .string (bs (if s[1] = 46 then ([s[0]], s.data.toList.drop 2) else (s[0] :: s[1] :: s.data.toList.drop 2, [])).2)] = _
        rw [if_pos h46]; rfl)
      have hb : ((s[1].toNat : Int) == 46) = true := by rw [h46]; rfl
      have hi : (1 : Int) < (s.size : Int) := by omega
      clear hl h46 hz
      go_enter Tryd.func11, Tryd.ntmps11
      go_wp2
      go_quiet (fail)
      go_wp2
      go_ret2
      exact ⟨by rw [HV.out]; rfl, below_drewN _ _⟩
    · have HV : Box (cutQV s.data.toList = .tuple #[.string s, .string ⟨#[]⟩]) := box (by
        unfold cutQV
        rw [hl]
        show Value.tuple #[.string (bs (if s[1] = 46 then ([s[0]], s.data.toList.drop 2) else (s[0] :: s[1] :: s.data.toList.drop 2, [])).1), .string (bs (if s[1] = 46 then ([s[0]], s.data.toList.drop 2) else (s[0] :: s[1] :: s.data.toList.drop 2, [])).2)] = _
        rw [if_neg h46, ← hl]; rfl)
      have hb : ((s[1].toNat : Int) == 46) = false := by rw [beq_eq_false_iff_ne]; exact fun e => h46 (byte8 (d := 46) e)
      have hi : (1 : Int) < (s.size : Int) := by omega
      clear hl h46 hz
      go_enter Tryd.func11, Tryd.ntmps11
      go_wp2
      go_ret2
      exact ⟨by rw [HV.out]; rfl, Below.refl _ _⟩
  · have HV : Box (cutQV s.data.toList = .tuple #[.string s, .string ⟨#[]⟩]) := box (by
      unfold cutQV
      match h : s.data.toList with
      | [] => show Value.tuple #[.string (bs []), .string (bs [])] = _; rw [← h]; rfl
      | [a] => show Value.tuple #[.string (bs [a]), .string (bs [])] = _; rw [← h]; rfl
      | a :: b :: r => exfalso; rw [h] at hz; simp only [List.length_cons] at hz; omega)
    have hi : ¬ (1 : Int) < (s.size : Int) := by omega
    clear hz
    go_enter Tryd.func11, Tryd.ntmps11
    go_wp2
    go_ret2
    exact ⟨by rw [HV.out]; rfl, Below.refl _ _⟩

/-- ahead of digit k: what has been read, and what the rest says -/
def FrRel (s : ByteArray) (v i : Value) : Prop :=
  ∃ (k : Nat) (q : Int), i = .int .i64 k ∧ v = .int .i64 q ∧ k ≤ s.size ∧ 0 ≤ q ∧ q ≤ 1000 * k ∧ fracO s.data.toList = qvD q (wt3 k) (s.data.toList.drop k)
theorem one_yes {s : ByteArray} {k : Nat} (hk : k < s.size) (h : digitI s[k].toNat = true) : numT (numL (s.extract k (k + 1)).data.toList) = .tuple #[.int .i64 ((s[k].toNat : Int) - 48), .bool true] := by
  have e : (s.extract k (k + 1)).data.toList = [s[k]] := by
    rw [ext_bs, bs_toList, List.take_succ_eq_append_getElem (by simpa using hk), List.drop_append_of_le_length (by simp; omega), List.drop_of_length_le (by simp; omega)]; rfl
  rw [e]
  have key : ∀ c : Fin 256, digitI c.1 = true → numL [UInt8.ofNat c.1] = some ((c.1 : Int) - 48) := by decide +kernel
  have := key ⟨s[k].toNat, s[k].toNat_lt⟩ h
  simp only [UInt8.ofNat_toNat] at this
  rw [this]; rfl
theorem one_no {s : ByteArray} {k : Nat} (hk : k < s.size) (h : digitI s[k].toNat = false) : numT (numL (s.extract k (k + 1)).data.toList) = .tuple #[.int .i64 0, .bool false] := by
  have e : (s.extract k (k + 1)).data.toList = [s[k]] := by
    rw [ext_bs, bs_toList, List.take_succ_eq_append_getElem (by simpa using hk), List.drop_append_of_le_length (by simp; omega), List.drop_of_length_le (by simp; omega)]; rfl
  rw [e]
  have : numL [s[k]] = none := by
    unfold numL
    rw [if_neg]
    rintro ⟨q, _⟩
    simp [allI] at q
    rw [h] at q; cases q
  rw [this]; rfl
theorem parseFraction_any (s : ByteArray) (w : World) (hs : s.size ≤ 9223372036854775807) (hW : Wts w) :
    Calls Tryd.prog 12 #[.string s] w fun e w' => e = .returned (qvT (fracO s.data.toList)) ∧ w = w' := by
  have hz : s.data.toList.length = s.size := by simp
  by_cases h3 : 3 < s.size
  · have HV : Box (fracO s.data.toList = none) := box (by unfold fracO; rw [if_pos (by omega)])
    have hi : (3 : Int) < (s.size : Int) := by omega
    clear hz
    go_enter Tryd.func12, Tryd.ntmps12
    go_wp2
    go_ret2
    exact ⟨by rw [HV.out]; rfl, rfl⟩
  · have HV : Box (fracO s.data.toList = qvD 0 (wt3 0) (s.data.toList.drop 0)) := box (by unfold fracO; rw [if_neg (by omega)]; rfl)
    have hi : ¬ (3 : Int) < (s.size : Int) := by omega
    obtain ⟨hw0, hw1, hw2, _⟩ := hW
    clear hz
    go_enter Tryd.func12, Tryd.ntmps12
    go_wp2
    go_loop [4, 5, 6, 7, 13] (fun v _ _ _ i => FrRel s v i) (fun _ _ _ _ i => s.size - (intOf i).toNat)
    case atStart => exact ⟨0, 0, rfl, rfl, Nat.zero_le _, by omega, by omega, HV.out⟩
    case round =>
      obtain ⟨k, q, rfl, rfl, hk, hq0, hq1, hQ⟩ := hrel
      have HQ := box hQ
      clear hQ
      by_cases hlt : k < s.size
      · have hl : s.data.toList.drop k = s[k] :: s.data.toList.drop (k + 1) := List.drop_eq_getElem_cons (l := s.data.toList) (i := k) (by simpa using hlt)
        have hx : (s.extract k (k + 1)).size ≤ maxLen := by unfold maxLen; rw [ByteArray.size_extract]; omega
        have HX := box hx
        clear hx
        rcases hd : digitI s[k].toNat with _ | _
        · have HN := box (one_no hlt hd)
          have HE : Box (fracO s.data.toList = none) := box (by rw [HQ.out, hl, qvD_cons, hd]; rfl)
          clear hl hd
          obtain rfl | rfl | rfl : k = 0 ∨ k = 1 ∨ k = 2 := by omega
          all_goals
            go_wp2_with fail
            refine (Number_any _ _ HX.out).mono ?_; rintro e w1 ⟨rfl, rfl⟩; rw [HN.out]
            go_wp2
            go_ret2
            exact ⟨by rw [HE.out]; rfl, rfl⟩
        · have HN := box (one_yes hlt hd)
          have hb := dig_bd hd
          have HE : Box (fracO s.data.toList = qvD (q + ((s[k].toNat : Int) - 48) * wt3 k) (wt3 (k + 1)) (s.data.toList.drop (k + 1))) := box (by rw [HQ.out, hl, qvD_cons, if_pos hd, wt3_next k (by omega)])
          clear hl hd
          obtain rfl | rfl | rfl : k = 0 ∨ k = 1 ∨ k = 2 := by omega
          all_goals
            go_wp2_with fail
            refine (Number_any _ _ HX.out).mono ?_; rintro e w1 ⟨rfl, rfl⟩; rw [HN.out]
            go_wp2
            go_round
            case rel => exact ⟨_, _, by go_num, rfl, hlt, by omega, by omega, by first | exact HE.out | (rw [HE.out, show wt3 2 = 1 from rfl, Int.mul_one])⟩
            case measure => simp [intOf]; omega
      · have HE : Box (fracO s.data.toList = some q) := box (by rw [HQ.out, List.drop_of_length_le (by simp; omega)]; rfl)
        go_wp2
        go_ret2
        exact ⟨by rw [HE.out]; rfl, rfl⟩

theorem qvT_some (t : Int) : qvT (some t) = .tuple #[.int .i64 t, .bool true] := rfl
theorem cutQ_le (l : List UInt8) : (cutQ l).1.length ≤ l.length ∧ (cutQ l).2.length ≤ l.length := by
  match l with
  | [] => exact ⟨Nat.le_refl _, Nat.le_refl _⟩
  | [a] => exact ⟨Nat.le_refl _, Nat.zero_le _⟩
  | a :: p :: ds =>
    show (if p = 46 then ([a], ds) else (a :: p :: ds, [])).1.length ≤ _ ∧ (if p = 46 then ([a], ds) else (a :: p :: ds, [])).2.length ≤ _
    by_cases h : p = 46
    · rw [if_pos h]; simp only [List.length_cons, List.length_nil]; omega
    · rw [if_neg h]; simp only [List.length_cons, List.length_nil]; omega
theorem mParse8_any (s : ByteArray) (w : World) (hs : s.size ≤ 9223372036854775807) (hW : Wts w) :
    Calls Tryd.prog 6 #[.string s] w fun e w' => e = .returned (qvT (qvL s.data.toList)) ∧ Below w.heap.size w w' := by
  have hz : s.data.toList.length = s.size := by simp
  have hcl := cutQ_le s.data.toList
  have hsel := sel_cut s.data.toList
  obtain ⟨W, hWq⟩ : ∃ W, (cutQ s.data.toList).1 = W := ⟨_, rfl⟩
  obtain ⟨F, hFq⟩ : ∃ F, (cutQ s.data.toList).2 = F := ⟨_, rfl⟩
  have HC : Box (cutQV s.data.toList = .tuple #[.string (bs W), .string (bs F)]) := box (by unfold cutQV; rw [hWq, hFq])
  rw [hWq, hFq] at hsel hcl
  have HF : Box ((bs F).size ≤ 9223372036854775807) := box (by rw [bs_size]; omega)
  have HT := box hW
  have HS := box hs
  clear hWq hFq hz hcl hW hs
  cases hf : fracO F with
  | none =>
    have HV : Box (qvL s.data.toList = none) := box (by rw [← hsel, hf]; rfl)
    have HQ := box hf
    clear hsel hf
    go_enter Tryd.func6, Tryd.ntmps6
    go_wp2_with fail
    refine (cutPoint_any _ _ HS.out).mono ?_; rintro e w1 ⟨rfl, hb⟩; rw [HC.out]
    have B1 := box hb
    have T1 := box (HT.out.below hb)
    clear hb
    go_wp2_with fail
    refine (parseFraction_any _ _ HF.out T1.out).mono ?_; rintro e w2 ⟨rfl, rfl⟩; rw [bs_toList, HQ.out, show qvT none = .tuple #[.int .i64 0, .bool false] from rfl]
    go_wp2
    go_ret2
    exact ⟨by rw [HV.out]; rfl, B1.out⟩
  | some t =>
    have hb := frac_bd hf
    have HQ := box hf
    clear hf
    by_cases h8 : W = [48]
    · subst h8
      have HV : Box (qvL s.data.toList = some t) := box (by rw [← hsel, HQ.out]; rfl)
      clear hsel
      go_enter Tryd.func6, Tryd.ntmps6
      go_wp2_with fail
      refine (cutPoint_any _ _ HS.out).mono ?_; rintro e w1 ⟨rfl, hb⟩; rw [HC.out, show bs [48] = ⟨#[48]⟩ from rfl]
      have B1 := box hb
      have T1 := box (HT.out.below hb)
      clear hb
      go_wp2_with fail
      refine (parseFraction_any _ _ HF.out T1.out).mono ?_; rintro e w2 ⟨rfl, rfl⟩; rw [bs_toList, HQ.out, qvT_some]
      go_wp2
      go_ret2
      exact ⟨by rw [HV.out]; rfl, B1.out⟩
    · by_cases h9 : W = [49]
      · subst h9
        by_cases h0 : t = 0
        · subst h0
          have HV : Box (qvL s.data.toList = some 1000) := box (by rw [← hsel, HQ.out]; rfl)
          clear hsel
          go_enter Tryd.func6, Tryd.ntmps6
          go_wp2_with fail
          refine (cutPoint_any _ _ HS.out).mono ?_; rintro e w1 ⟨rfl, hb⟩; rw [HC.out, show bs [49] = ⟨#[49]⟩ from rfl]
          have B1 := box hb
          have T1 := box (HT.out.below hb)
          clear hb
          go_wp2_with fail
          refine (parseFraction_any _ _ HF.out T1.out).mono ?_; rintro e w2 ⟨rfl, rfl⟩; rw [bs_toList, HQ.out, qvT_some]
          go_wp2
          go_ret2
          exact ⟨by rw [HV.out]; rfl, B1.out⟩
        · have HV : Box (qvL s.data.toList = none) := box (by rw [← hsel, HQ.out]; show (if ([49] : List UInt8) = [48] then some t else if ([49] : List UInt8) = [49] ∧ t = 0 then some 1000 else none) = none; rw [if_neg (by decide), if_neg (fun q => h0 q.2)])
          have he : (t == 0) = false := by rw [beq_eq_false_iff_ne]; exact h0
          clear hsel h0
          go_enter Tryd.func6, Tryd.ntmps6
          go_wp2_with fail
          refine (cutPoint_any _ _ HS.out).mono ?_; rintro e w1 ⟨rfl, hb⟩; rw [HC.out, show bs [49] = ⟨#[49]⟩ from rfl]
          have B1 := box hb
          have T1 := box (HT.out.below hb)
          clear hb
          go_wp2_with fail
          refine (parseFraction_any _ _ HF.out T1.out).mono ?_; rintro e w2 ⟨rfl, rfl⟩; rw [bs_toList, HQ.out, qvT_some]
          go_wp2
          go_ret2
          exact ⟨by rw [HV.out]; rfl, B1.out⟩
      · have HV : Box (qvL s.data.toList = none) := box (by rw [← hsel, HQ.out]; show (if W = [48] then some t else if W = [49] ∧ t = 0 then some 1000 else none) = none; rw [if_neg h8, if_neg (fun q => h9 q.1)])
        have el : (bs W).toList = W := by rw [toList_data]; rfl
        have e8 : ((bs W).toList == [48]) = false := by rw [el, beq_eq_false_iff_ne]; exact h8
        have e9 : ((bs W).toList == [49]) = false := by rw [el, beq_eq_false_iff_ne]; exact h9
        clear hsel el h8 h9
        go_enter Tryd.func6, Tryd.ntmps6
        go_wp2_with fail
        refine (cutPoint_any _ _ HS.out).mono ?_; rintro e w1 ⟨rfl, hb⟩; rw [HC.out]
        have B1 := box hb
        have T1 := box (HT.out.below hb)
        clear hb
        go_wp2_with fail
        refine (parseFraction_any _ _ HF.out T1.out).mono ?_; rintro e w2 ⟨rfl, rfl⟩; rw [bs_toList, HQ.out, qvT_some]
        go_wp2
        go_ret2
        exact ⟨by rw [HV.out]; rfl, B1.out⟩
theorem Dec8_is {n : Int} {x : ByteArray} {w : World} (h1 : InI64 n) (h : Box (bs (decL n) = x)) :
    Calls Tryd.prog 14 #[.int .i64 n] w fun e w' => e = .returned (.string x) ∧ Below w.heap.size w w' :=
  (Decimal_any n w h1).mono fun e w' ⟨h1, h2⟩ => ⟨by rw [h1, ← h.out]; rfl, h2⟩

end Go.Proofs.YtlimfofjhedikaaDoor.Asc
