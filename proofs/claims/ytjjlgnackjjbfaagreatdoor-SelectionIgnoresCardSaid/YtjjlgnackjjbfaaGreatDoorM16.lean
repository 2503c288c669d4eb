/- Merged texts: CodMine QvaMine AccPar AccPre AccMat LisMine QvaLaid. -/
import Derived.Test.YtjjlgnackjjbfaaGreatDoorM05
import Derived.Test.YtjjlgnackjjbfaaGreatDoorM07
import Derived.Test.YtjjlgnackjjbfaaGreatDoorM10
import Derived.Test.YtjjlgnackjjbfaaGreatDoorM11
import Derived.Test.YtjjlgnackjjbfaaGreatDoorM12
import Derived.Test.YtjjlgnackjjbfaaGreatDoorM14
import Derived.Test.YtjjlgnackjjbfaaGreatDoorM15
import Derived.LaidMore
import Derived.Lib.LaidTab
set_option linter.unusedVariables false
set_option linter.unusedSimpArgs false
set_option maxRecDepth 100000
namespace Go.Proofs.YtjjlgnackjjbfaaGreatDoor.Asc
section
open Go.RowKit
theorem mLow12_is {s x : ByteArray} {w : World} (hs : s.size ≤ 4294967296) (h : Box (bs (lowL s.data.toList) = x)) :
    Calls Tryz.prog 99 #[.string s] w fun e w' => e = .returned (.string x) ∧ Below w.heap.size w w' :=
  (Lower_any s w hs).mono fun e w' ⟨h1, h2⟩ => ⟨by rw [h1, ← h.out]; rfl, h2⟩
theorem mCan_any (k : Int) (s : ByteArray) (w : World) (hk : InI64 k) (hs : s.size ≤ 65536) :
    Calls Tryz.prog 130 #[.int .i64 k, .string s] w fun e w' => e = .returned (.string (bs (canL k s.data.toList))) ∧ Below w.heap.size w w' := by
  have hs4 : s.size ≤ 4294967296 := by omega
  obtain ⟨l, hl⟩ : ∃ l, lowL s.data.toList = l := ⟨_, rfl⟩
  have HX : Box (bs (lowL s.data.toList) = bs l) := box (by rw [hl])
  by_cases h4 : k = 4
  · subst h4
    by_cases h1 : l = xgzL
    · have HV : Box (canL 4 s.data.toList = gzL) := box (by unfold canL; rw [hl, if_pos ⟨rfl, h1⟩])
      subst h1
      clear hl
      go_enter Tryz.func130, Tryz.ntmps130
      go_wp2_with fail
      refine (mLow12_is hs4 HX).mono ?_; rintro e w1 ⟨rfl, hb1⟩; rw [show bs xgzL = ⟨#[120, 45, 103, 122, 105, 112]⟩ from rfl]
      go_wp2
      go_ret
      exact ⟨by rw [HV.out]; rfl, hb1⟩
    · have e1 : ((bs l).toList == [120, 45, 103, 122, 105, 112]) = false := by rw [bs_list]; exact beq_list (decide_eq_false h1)
      by_cases h2 : l = xcoL
      · have HV : Box (canL 4 s.data.toList = coL) := box (by unfold canL; rw [hl, if_neg (fun q => h1 q.2), if_pos ⟨rfl, h2⟩])
        subst h2
        clear hl e1
        go_enter Tryz.func130, Tryz.ntmps130
        go_wp2_with fail
        refine (mLow12_is hs4 HX).mono ?_; rintro e w1 ⟨rfl, hb1⟩; rw [show bs xcoL = ⟨#[120, 45, 99, 111, 109, 112, 114, 101, 115, 115]⟩ from rfl]
        go_wp2
        go_ret
        exact ⟨by rw [HV.out]; rfl, hb1⟩
      · have e2 : ((bs l).toList == [120, 45, 99, 111, 109, 112, 114, 101, 115, 115]) = false := by rw [bs_list]; exact beq_list (decide_eq_false h2)
        have HV : Box (canL 4 s.data.toList = l) := box (by unfold canL; rw [hl, if_neg (fun q => h1 q.2), if_neg (fun q => h2 q.2)])
        clear hl h1 h2
        go_enter Tryz.func130, Tryz.ntmps130
        go_wp2_with fail
        refine (mLow12_is hs4 HX).mono ?_; rintro e w1 ⟨rfl, hb1⟩
        go_wp2
        go_ret
        exact ⟨by rw [HV.out]; rfl, hb1⟩
  · have e4 : (k != 4) = true := by rw [bne_iff_ne]; exact h4
    have HV : Box (canL k s.data.toList = l) := box (by unfold canL; rw [hl, if_neg (fun q => h4 q.1), if_neg (fun q => h4 q.1)])
    clear hl h4
    go_enter Tryz.func130, Tryz.ntmps130
    go_wp2_with fail
    refine (mLow12_is hs4 HX).mono ?_; rintro e w1 ⟨rfl, hb1⟩
    go_wp2
    go_ret
    exact ⟨by rw [HV.out]; rfl, hb1⟩
theorem mCan0_is {k : Int} {s x : ByteArray} {w : World} (hk : InI64 k) (hs : s.size ≤ 65536) (h : Box (bs (canL k s.data.toList) = x)) :
    Calls Tryz.prog 130 #[.int .i64 k, .string s] w fun e w' => e = .returned (.string x) ∧ Below w.heap.size w w' :=
  (mCan_any k s w hk hs).mono fun e w' ⟨h1, h2⟩ => ⟨by rw [h1, h.out], h2⟩
theorem mMatchC_any (k : Int) (r v : ByteArray) (w : World) (hk : InI64 k) (hr : r.size ≤ 65536) (hv : v.size ≤ 65536) :
    Calls Tryz.prog 98 #[.int .i64 k, .string r, .string v] w fun e w' => e = .returned (.int .i64 (matchC k r.data.toList v.data.toList)) ∧ Below w.heap.size w w' := by
  have hst := star12 (s := r)
  by_cases h : r.data.toList = [42]
  · have HV : Box (matchC k r.data.toList v.data.toList = 0) := box (by rw [h]; exact matchC_star _ _)
    rw [decide_eq_true h] at hst
    clear h
    go_enter Tryz.func98, Tryz.ntmps98
    go_wp2
    go_ret
    exact ⟨by rw [HV.out]; rfl, Below.refl _ _⟩
  · rw [decide_eq_false h] at hst
    obtain ⟨x, hx⟩ : ∃ x, canL k r.data.toList = x := ⟨_, rfl⟩
    obtain ⟨y, hy⟩ : ∃ y, canL k v.data.toList = y := ⟨_, rfl⟩
    have HX : Box (bs (canL k r.data.toList) = bs x) := box (by rw [hx])
    have HY : Box (bs (canL k v.data.toList) = bs y) := box (by rw [hy])
    have HV : Box (matchC k r.data.toList v.data.toList = if x = y then 1 else -1) := box (by rw [matchC_not h, hx, hy])
    clear hx hy h
    by_cases he : x = y
    · subst he
      rw [if_pos rfl] at HV
      have e1 : ((bs x).toList == (bs x).toList) = true := by simp
      go_enter Tryz.func98, Tryz.ntmps98
      go_wp2_with fail
      refine (mCan0_is hk hr HX).mono ?_; rintro e w1 ⟨rfl, hb1⟩
      have B1 := box hb1
      clear hb1
      go_wp2_with fail
      refine (mCan0_is hk hv HY).mono ?_; rintro e w2 ⟨rfl, hb2⟩
      have B2 := box (B1.out.trans (hb2.mono B1.out.size))
      clear hb2
      go_wp2
      go_ret
      exact ⟨by rw [HV.out]; rfl, B2.out⟩
    · rw [if_neg he] at HV
      have e1 : ((bs x).toList == (bs y).toList) = false := by rw [bs_list, bs_list]; exact beq_list (decide_eq_false he)
      clear he
      go_enter Tryz.func98, Tryz.ntmps98
      go_wp2_with fail
      refine (mCan0_is hk hr HX).mono ?_; rintro e w1 ⟨rfl, hb1⟩
      have B1 := box hb1
      clear hb1
      go_wp2_with fail
      refine (mCan0_is hk hv HY).mono ?_; rintro e w2 ⟨rfl, hb2⟩
      have B2 := box (B1.out.trans (hb2.mono B1.out.size))
      clear hb2
      go_wp2
      go_ret
      exact ⟨by rw [HV.out]; rfl, B2.out⟩
end
section
open Go.RowKit
/-- the table of weights, as the program's text lays it -/
def Wts (w : World) : Prop := w.cell? ⟨1, 0, none⟩ = some (.int .i64 100) ∧ w.cell? ⟨1, 1, none⟩ = some (.int .i64 10) ∧ w.cell? ⟨1, 2, none⟩ = some (.int .i64 1) ∧ 1 < w.heap.size
theorem Wts.below {w w' : World} (h : Wts w) (b : Below w.heap.size w w') : Wts w' := by
  obtain ⟨h0, h1, h2, hs⟩ := h
  have c : ∀ i, w'.cell? ⟨1, i, none⟩ = w.cell? ⟨1, i, none⟩ := fun i => b.cell hs
  exact ⟨by rw [c, h0], by rw [c, h1], by rw [c, h2], Nat.lt_of_lt_of_le hs b.size⟩
def cutQV (l : List UInt8) : Value := .tuple #[.string (bs (cutQ l).1), .string (bs (cutQ l).2)]
theorem cutPoint_any (s : ByteArray) (w : World) (hs : s.size ≤ 9223372036854775807) :
    Calls Tryz.prog 151 #[.string s] w fun e w' => e = .returned (cutQV s.data.toList) ∧ Below w.heap.size w w' := by
  have hz : s.data.toList.length = s.size := by simp
  by_cases h1 : 1 < s.size
  · have hl := list_second h1
    by_cases h46 : s[1] = 46
    · have HV : Box (cutQV s.data.toList = .tuple #[.string (s.extract 0 1), .string (s.extract 2 s.size)]) := box (by
        have e1 : s.extract 0 1 = bs [s[0]] := by rw [ext_bs, hl]; rfl
        have e2 : s.extract 2 s.size = bs (s.data.toList.drop 2) := by rw [ext_bs, List.take_of_length_le (by omega)]
        rw [e1, e2]
        unfold cutQV
        rw [hl]
        show Value.tuple #[.string (bs (if s[1] = 46 then ([s[0]], s.data.toList.drop 2) else (s[0] :: s[1] :: s.data.toList.drop 2, [])).1), .string (bs (if s[1] = 46 then ([s[0]], s.data.toList.drop 2) else (s[0] :: s[1] :: s.data.toList.drop 2, [])).2)] = _
        rw [if_pos h46]; rfl)
      have hb : ((s[1].toNat : Int) == 46) = true := by rw [h46]; rfl
      have hi : (1 : Int) < (s.size : Int) := by omega
      clear hl h46 hz
      go_enter Tryz.func151, Tryz.ntmps151
      go_wp2
      go_quiet (fail)
      go_wp2
      go_ret2
      exact ⟨by rw [HV.out]; rfl, below_drewN _ _⟩
    · have HV : Box (cutQV s.data.toList = .tuple #[.string s, .string ⟨#[]⟩]) := box (by
        unfold cutQV
        rw [hl]
        show Value.tuple #[.string (bs (if s[1] = 46 then ([s[0]], s.data.toList.drop 2) else (s[0] :: s[1] :: s.data.toList.drop 2, [])).1), .string (bs (if s[1] = 46 then ([s[0]], s.data.toList.drop 2) else (s[0] :: s[1] :: s.data.toList.drop 2, [])).2)] = _
        rw [if_neg h46, ← hl]; rfl)
      have hb : ((s[1].toNat : Int) == 46) = false := by rw [beq_eq_false_iff_ne]; exact fun e => h46 (byte8 (d := 46) e)
      have hi : (1 : Int) < (s.size : Int) := by omega
      clear hl h46 hz
      go_enter Tryz.func151, Tryz.ntmps151
      go_wp2
      go_ret2
      exact ⟨by rw [HV.out]; rfl, Below.refl _ _⟩
  · have HV : Box (cutQV s.data.toList = .tuple #[.string s, .string ⟨#[]⟩]) := box (by
      unfold cutQV
      match h : s.data.toList with
      | [] => show Value.tuple #[.string (bs []), .string (bs [])] = _; rw [← h]; rfl
      | [a] => show Value.tuple #[.string (bs [a]), .string (bs [])] = _; rw [← h]; rfl
      | a :: b :: r => exfalso; rw [h] at hz; simp only [List.length_cons] at hz; omega)
    have hi : ¬ (1 : Int) < (s.size : Int) := by omega
    clear hz
    go_enter Tryz.func151, Tryz.ntmps151
    go_wp2
    go_ret2
    exact ⟨by rw [HV.out]; rfl, Below.refl _ _⟩
/-- ahead of digit k: what has been read, and what the rest says -/
def FrRel (s : ByteArray) (v i : Value) : Prop :=
  ∃ (k : Nat) (q : Int), i = .int .i64 k ∧ v = .int .i64 q ∧ k ≤ s.size ∧ 0 ≤ q ∧ q ≤ 1000 * k ∧ fracO s.data.toList = qvD q (wt3 k) (s.data.toList.drop k)
theorem one_yes {s : ByteArray} {k : Nat} (hk : k < s.size) (h : digitI s[k].toNat = true) : numT (numL (s.extract k (k + 1)).data.toList) = .tuple #[.int .i64 ((s[k].toNat : Int) - 48), .bool true] := by
  have e : (s.extract k (k + 1)).data.toList = [s[k]] := by
    rw [ext_bs, bs_toList, List.take_succ_eq_append_getElem (by simpa using hk), List.drop_append_of_le_length (by simp; omega), List.drop_of_length_le (by simp; omega)]; rfl
  rw [e]
  have key : ∀ c : Fin 256, digitI c.1 = true → numL [UInt8.ofNat c.1] = some ((c.1 : Int) - 48) := by decide +kernel
  have := key ⟨s[k].toNat, s[k].toNat_lt⟩ h
  simp only [UInt8.ofNat_toNat] at this
  rw [this]; rfl
theorem one_no {s : ByteArray} {k : Nat} (hk : k < s.size) (h : digitI s[k].toNat = false) : numT (numL (s.extract k (k + 1)).data.toList) = .tuple #[.int .i64 0, .bool false] := by
  have e : (s.extract k (k + 1)).data.toList = [s[k]] := by
    rw [ext_bs, bs_toList, List.take_succ_eq_append_getElem (by simpa using hk), List.drop_append_of_le_length (by simp; omega), List.drop_of_length_le (by simp; omega)]; rfl
  rw [e]
  have : numL [s[k]] = none := by
    unfold numL
    rw [if_neg]
    rintro ⟨q, _⟩
    simp [allI] at q
    rw [h] at q; cases q
  rw [this]; rfl
theorem parseFraction_any (s : ByteArray) (w : World) (hs : s.size ≤ 9223372036854775807) (hW : Wts w) :
    Calls Tryz.prog 152 #[.string s] w fun e w' => e = .returned (qvT (fracO s.data.toList)) ∧ w = w' := by
  have hz : s.data.toList.length = s.size := by simp
  by_cases h3 : 3 < s.size
  · have HV : Box (fracO s.data.toList = none) := box (by unfold fracO; rw [if_pos (by omega)])
    have hi : (3 : Int) < (s.size : Int) := by omega
    clear hz
    go_enter Tryz.func152, Tryz.ntmps152
    go_wp2
    go_ret2
    exact ⟨by rw [HV.out]; rfl, rfl⟩
  · have HV : Box (fracO s.data.toList = qvD 0 (wt3 0) (s.data.toList.drop 0)) := box (by unfold fracO; rw [if_neg (by omega)]; rfl)
    have hi : ¬ (3 : Int) < (s.size : Int) := by omega
    obtain ⟨hw0, hw1, hw2, _⟩ := hW
    clear hz
    go_enter Tryz.func152, Tryz.ntmps152
    go_wp2
    go_loop [4, 5, 6, 7, 13] (fun v _ _ _ i => FrRel s v i) (fun _ _ _ _ i => s.size - (intOf i).toNat)
    case atStart => exact ⟨0, 0, rfl, rfl, Nat.zero_le _, by omega, by omega, HV.out⟩
    case round =>
      obtain ⟨k, q, rfl, rfl, hk, hq0, hq1, hQ⟩ := hrel
      have HQ := box hQ
      clear hQ
      by_cases hlt : k < s.size
      · have hl : s.data.toList.drop k = s[k] :: s.data.toList.drop (k + 1) := List.drop_eq_getElem_cons (l := s.data.toList) (i := k) (by simpa using hlt)
        have hx : (s.extract k (k + 1)).size ≤ maxLen := by unfold maxLen; rw [ByteArray.size_extract]; omega
        have HX := box hx
        clear hx
        rcases hd : digitI s[k].toNat with _ | _
        · have HN := box (one_no hlt hd)
          have HE : Box (fracO s.data.toList = none) := box (by rw [HQ.out, hl, qvD_cons, hd]; rfl)
          clear hl hd
          obtain rfl | rfl | rfl : k = 0 ∨ k = 1 ∨ k = 2 := by omega
          all_goals
            go_wp2_with fail
            refine (Number_any _ _ HX.out).mono ?_; rintro e w1 ⟨rfl, rfl⟩; rw [HN.out]
            go_wp2
            go_ret2
            exact ⟨by rw [HE.out]; rfl, rfl⟩
        · have HN := box (one_yes hlt hd)
          have hb := dig_bd hd
          have HE : Box (fracO s.data.toList = qvD (q + ((s[k].toNat : Int) - 48) * wt3 k) (wt3 (k + 1)) (s.data.toList.drop (k + 1))) := box (by rw [HQ.out, hl, qvD_cons, if_pos hd, wt3_next k (by omega)])
          clear hl hd
          obtain rfl | rfl | rfl : k = 0 ∨ k = 1 ∨ k = 2 := by omega
          all_goals
            go_wp2_with fail
            refine (Number_any _ _ HX.out).mono ?_; rintro e w1 ⟨rfl, rfl⟩; rw [HN.out]
            go_wp2
            go_round
            case rel => exact ⟨_, _, by go_num, rfl, hlt, by omega, by omega, by first | exact HE.out | (rw [HE.out, show wt3 2 = 1 from rfl, Int.mul_one])⟩
            case measure => simp [intOf]; omega
      · have HE : Box (fracO s.data.toList = some q) := box (by rw [HQ.out, List.drop_of_length_le (by simp; omega)]; rfl)
        go_wp2
        go_ret2
        exact ⟨by rw [HE.out]; rfl, rfl⟩
theorem qvT_some (t : Int) : qvT (some t) = .tuple #[.int .i64 t, .bool true] := rfl
theorem cutQ_le (l : List UInt8) : (cutQ l).1.length ≤ l.length ∧ (cutQ l).2.length ≤ l.length := by
  match l with
  | [] => exact ⟨Nat.le_refl _, Nat.le_refl _⟩
  | [a] => exact ⟨Nat.le_refl _, Nat.zero_le _⟩
  | a :: p :: ds =>
    show (if p = 46 then ([a], ds) else (a :: p :: ds, [])).1.length ≤ _ ∧ (if p = 46 then ([a], ds) else (a :: p :: ds, [])).2.length ≤ _
    by_cases h : p = 46
    · rw [if_pos h]; simp only [List.length_cons, List.length_nil]; omega
    · rw [if_neg h]; simp only [List.length_cons, List.length_nil]; omega
theorem mParse8_any (s : ByteArray) (w : World) (hs : s.size ≤ 9223372036854775807) (hW : Wts w) :
    Calls Tryz.prog 136 #[.string s] w fun e w' => e = .returned (qvT (qvL s.data.toList)) ∧ Below w.heap.size w w' := by
  have hz : s.data.toList.length = s.size := by simp
  have hcl := cutQ_le s.data.toList
  have hsel := sel_cut s.data.toList
  obtain ⟨W, hWq⟩ : ∃ W, (cutQ s.data.toList).1 = W := ⟨_, rfl⟩
  obtain ⟨F, hFq⟩ : ∃ F, (cutQ s.data.toList).2 = F := ⟨_, rfl⟩
  have HC : Box (cutQV s.data.toList = .tuple #[.string (bs W), .string (bs F)]) := box (by unfold cutQV; rw [hWq, hFq])
  rw [hWq, hFq] at hsel hcl
  have HF : Box ((bs F).size ≤ 9223372036854775807) := box (by rw [bs_size]; omega)
  have HT := box hW
  have HS := box hs
  clear hWq hFq hz hcl hW hs
  cases hf : fracO F with
  | none =>
    have HV : Box (qvL s.data.toList = none) := box (by rw [← hsel, hf]; rfl)
    have HQ := box hf
    clear hsel hf
    go_enter Tryz.func136, Tryz.ntmps136
    go_wp2_with fail
    refine (cutPoint_any _ _ HS.out).mono ?_; rintro e w1 ⟨rfl, hb⟩; rw [HC.out]
    have B1 := box hb
    have T1 := box (HT.out.below hb)
    clear hb
    go_wp2_with fail
    refine (parseFraction_any _ _ HF.out T1.out).mono ?_; rintro e w2 ⟨rfl, rfl⟩; rw [bs_toList, HQ.out, show qvT none = .tuple #[.int .i64 0, .bool false] from rfl]
    go_wp2
    go_ret2
    exact ⟨by rw [HV.out]; rfl, B1.out⟩
  | some t =>
    have hb := frac_bd hf
    have HQ := box hf
    clear hf
    by_cases h8 : W = [48]
    · subst h8
      have HV : Box (qvL s.data.toList = some t) := box (by rw [← hsel, HQ.out]; rfl)
      clear hsel
      go_enter Tryz.func136, Tryz.ntmps136
      go_wp2_with fail
      refine (cutPoint_any _ _ HS.out).mono ?_; rintro e w1 ⟨rfl, hb⟩; rw [HC.out, show bs [48] = ⟨#[48]⟩ from rfl]
      have B1 := box hb
      have T1 := box (HT.out.below hb)
      clear hb
      go_wp2_with fail
      refine (parseFraction_any _ _ HF.out T1.out).mono ?_; rintro e w2 ⟨rfl, rfl⟩; rw [bs_toList, HQ.out, qvT_some]
      go_wp2
      go_ret2
      exact ⟨by rw [HV.out]; rfl, B1.out⟩
    · by_cases h9 : W = [49]
      · subst h9
        by_cases h0 : t = 0
        · subst h0
          have HV : Box (qvL s.data.toList = some 1000) := box (by rw [← hsel, HQ.out]; rfl)
          clear hsel
          go_enter Tryz.func136, Tryz.ntmps136
          go_wp2_with fail
          refine (cutPoint_any _ _ HS.out).mono ?_; rintro e w1 ⟨rfl, hb⟩; rw [HC.out, show bs [49] = ⟨#[49]⟩ from rfl]
          have B1 := box hb
          have T1 := box (HT.out.below hb)
          clear hb
          go_wp2_with fail
          refine (parseFraction_any _ _ HF.out T1.out).mono ?_; rintro e w2 ⟨rfl, rfl⟩; rw [bs_toList, HQ.out, qvT_some]
          go_wp2
          go_ret2
          exact ⟨by rw [HV.out]; rfl, B1.out⟩
        · have HV : Box (qvL s.data.toList = none) := box (by rw [← hsel, HQ.out]; show (if ([49] : List UInt8) = [48] then some t else if ([49] : List UInt8) = [49] ∧ t = 0 then some 1000 else none) = none; rw [if_neg (by decide), if_neg (fun q => h0 q.2)])
          have he : (t == 0) = false := by rw [beq_eq_false_iff_ne]; exact h0
          clear hsel h0
          go_enter Tryz.func136, Tryz.ntmps136
          go_wp2_with fail
          refine (cutPoint_any _ _ HS.out).mono ?_; rintro e w1 ⟨rfl, hb⟩; rw [HC.out, show bs [49] = ⟨#[49]⟩ from rfl]
          have B1 := box hb
          have T1 := box (HT.out.below hb)
          clear hb
          go_wp2_with fail
          refine (parseFraction_any _ _ HF.out T1.out).mono ?_; rintro e w2 ⟨rfl, rfl⟩; rw [bs_toList, HQ.out, qvT_some]
          go_wp2
          go_ret2
          exact ⟨by rw [HV.out]; rfl, B1.out⟩
      · have HV : Box (qvL s.data.toList = none) := box (by rw [← hsel, HQ.out]; show (if W = [48] then some t else if W = [49] ∧ t = 0 then some 1000 else none) = none; rw [if_neg h8, if_neg (fun q => h9 q.1)])
        have el : (bs W).toList = W := by rw [toList_data]; rfl
        have e8 : ((bs W).toList == [48]) = false := by rw [el, beq_eq_false_iff_ne]; exact h8
        have e9 : ((bs W).toList == [49]) = false := by rw [el, beq_eq_false_iff_ne]; exact h9
        clear hsel el h8 h9
        go_enter Tryz.func136, Tryz.ntmps136
        go_wp2_with fail
        refine (cutPoint_any _ _ HS.out).mono ?_; rintro e w1 ⟨rfl, hb⟩; rw [HC.out]
        have B1 := box hb
        have T1 := box (HT.out.below hb)
        clear hb
        go_wp2_with fail
        refine (parseFraction_any _ _ HF.out T1.out).mono ?_; rintro e w2 ⟨rfl, rfl⟩; rw [bs_toList, HQ.out, qvT_some]
        go_wp2
        go_ret2
        exact ⟨by rw [HV.out]; rfl, B1.out⟩
end
section
open Go.RowKit
theorem cutQ1_any (n u : ByteArray) (w : World) :
    Calls Tryz.prog 135 #[.agg #[.string n, .string u]] w fun e w' => e = .returned (.bool (isQ (n, u))) ∧ Below w.heap.size w w' := by
  have hq := isQ_eq n u
  obtain ⟨z, hz⟩ : ∃ z, isQ (n, u) = z := ⟨_, rfl⟩
  rw [hz] at hq ⊢
  clear hz
  go_enter Tryz.func135, Tryz.ntmps135
  go_wp2
  go_ret
  exact ⟨rfl, below_new w _⟩
theorem cutQ1_is {n u : ByteArray} {z : Bool} {w : World} (h : Box (isQ (n, u) = z)) :
    Calls Tryz.prog 135 #[.agg #[.string n, .string u]] w fun e w' => e = .returned (.bool z) ∧ Below w.heap.size w w' :=
  (cutQ1_any n u w).mono fun e w' ⟨h1, h2⟩ => ⟨by rw [h1, h.out], h2⟩
/-- the place of the first q, -1 if there is none -/
def idxQ (K : List F) : Int := if atQ K < K.length then (atQ K : Int) else -1
theorem idxQ_hit {K : List F} {j : Nat} (hj : j < K.length) (h : atQ K = j) : idxQ K = (j : Int) := by unfold idxQ; rw [h, if_pos hj]
theorem idxQ_no {K : List F} (h : atQ K = K.length) : idxQ K = -1 := by unfold idxQ; rw [h, if_neg (by omega)]
def AtMRel (K : List F) (W : World) (i : Value) (wr : World) : Prop := ∃ j : Nat, i = .int .i64 j ∧ j ≤ K.length ∧ Box (∀ i (hi : i < K.length), i < j → isQ K[i] = false) ∧ Below W.heap.size W wr
set_option maxHeartbeats 400000 in
theorem idxQ_any (a : Option Addr) (cap : Nat) (K : List F) (w : World) (hl : K.length ≤ 65536) (hF : Box (Fs w a K)) :
    Calls Tryz.prog 134 #[.slice a K.length cap, .func (.func 135) #[] #[]] w fun e w' => e = .returned (.int .i64 (idxQ K)) ∧ Below w.heap.size w w' := by
  go_enter Tryz.func134, Tryz.ntmps134
  go_wp2
  go_loopw [8] (fun i wr => AtMRel K w i wr) (fun i _ => K.length - (intOf i).toNat)
  case atStart => exact ⟨0, rfl, Nat.zero_le _, box (fun i hi h => absurd h (by omega)), Below.refl _ _⟩
  case round =>
    obtain ⟨k, rfl, hk, HNO, hbel⟩ := hrel
    by_cases hlt : k < K.length
    · obtain ⟨g, off, rfl, c0, c1⟩ := (hF.out.below hbel) k hlt
      obtain ⟨⟨n, u⟩, hnu⟩ : ∃ p, K[k] = p := ⟨_, rfl⟩
      rw [hnu] at c0 c1
      have BL := box hbel
      clear hbel
      cases hq : isQ (n, u) with
      | true =>
        have HQ := box hq
        have HV : Box (idxQ K = (k : Int)) := box (idxQ_hit hlt (atQ_is (fun i hi hik => HNO.out i hi hik) (.inr ⟨hlt, by rw [hnu]; exact hq⟩)))
        clear hq hnu
        go_wp2_with fail
        refine (cutQ1_is HQ).mono ?_; rintro e w1 ⟨rfl, hb1⟩
        have B1 := box (BL.out.trans (hb1.mono BL.out.size))
        clear hb1 c0 c1
        go_wp2
        go_ret
        exact ⟨by rw [HV.out]; rfl, B1.out⟩
      | false =>
        have HQ := box hq
        have HN2 : Box (∀ i (hi : i < K.length), i < k + 1 → isQ K[i] = false) := box (fun i hi hij => by
          by_cases e : i = k
          · subst e; rw [hnu]; exact hq
          · exact HNO.out i hi (by omega))
        clear hq hnu
        go_wp2_with fail
        refine (cutQ1_is HQ).mono ?_; rintro e w1 ⟨rfl, hb1⟩
        have B1 := box (BL.out.trans (hb1.mono BL.out.size))
        clear hb1 c0 c1
        go_wp2
        go_roundw
        case rel => exact ⟨k + 1, by go_num, hlt, HN2, B1.out⟩
        case measure => simp [intOf]; omega
    · have HV : Box (idxQ K = -1) := box (idxQ_no (atQ_is (k := K.length) (fun i hi hik => HNO.out i hi (by omega)) (.inl rfl)))
      go_wp2
      go_ret
      exact ⟨by rw [HV.out]; rfl, hbel⟩
theorem idxQ_is {a : Option Addr} {cap : Nat} {K : List F} {i : Int} {w : World} (hl : K.length ≤ 65536) (hF : Box (Fs w a K)) (h : Box (idxQ K = i)) :
    Calls Tryz.prog 134 #[.slice a K.length cap, .func (.func 135) #[] #[]] w fun e w' => e = .returned (.int .i64 i) ∧ Below w.heap.size w w' :=
  (idxQ_any a cap K w hl hF).mono fun e w' ⟨h1, h2⟩ => ⟨by rw [h1, h.out], h2⟩
theorem mQv13_is {s : ByteArray} {q : Int} {b : Bool} {w : World} (hs : s.size ≤ 9223372036854775807) (hW : Wts w) (h : Box (qvT (qvL s.data.toList) = .tuple #[.int .i64 q, .bool b])) :
    Calls Tryz.prog 136 #[.string s] w fun e w' => e = .returned (.tuple #[.int .i64 q, .bool b]) ∧ Below w.heap.size w w' :=
  (mParse8_any s w hs hW).mono fun e w' ⟨h1, h2⟩ => ⟨by rw [h1, h.out], h2⟩
theorem cutQ_is {a : Option Addr} {cap : Nat} {K : List F} {j : Nat} {q : Int} {b : Bool} {w : World} (hl : K.length ≤ 20000) (hc : K.length ≤ cap) (hz : Box (∀ i (hi : i < K.length), K[i].1.size ≤ 20000 ∧ K[i].2.size ≤ 20000)) (hF : Fs w a K) (hW : Wts w) (hj : Box (atQ K = j)) (h : Box (qvT (qualP K) = .tuple #[.int .i64 q, .bool b])) :
    Calls Tryz.prog 103 #[.slice a K.length cap] w fun e w' => e = .returned (.tuple #[.slice a j cap, .int .i64 q, .bool b]) ∧ Below w.heap.size w w' := by
  have F0 := box hF
  have HT := box hW
  have hl6 : K.length ≤ 65536 := by omega
  have hjl : j ≤ K.length := by rw [← hj.out]; exact atQ_le K
  clear hF hW
  by_cases hlt : j < K.length
  · have HI : Box (idxQ K = (j : Int)) := box (idxQ_hit hlt hj.out)
    obtain ⟨⟨n, u⟩, hnu⟩ : ∃ p, K[j] = p := ⟨_, rfl⟩
    have HQ : Box (qvT (qvL u.data.toList) = .tuple #[.int .i64 q, .bool b]) := box (by rw [← qual_at hj.out hlt (by rw [hnu])]; exact h.out)
    have huz : u.size ≤ 9223372036854775807 := by have := (hz.out j hlt).2; rw [hnu] at this; exact Nat.le_trans this (by omega)
    have hji : (j : Int) < (K.length : Int) := by omega
    have hj0 : (0 : Int) ≤ (j : Int) := by omega
    have hjn : ¬ (j : Int) < 0 := by omega
    have hjc : (j : Int) ≤ (cap : Int) := by omega
    go_enter Tryz.func103, Tryz.ntmps103
    go_wp2_with fail
    refine (idxQ_is hl6 F0 HI).mono ?_; rintro e w1 ⟨rfl, hb1⟩
    obtain ⟨g, off, rfl, c0, c1⟩ := (F0.out.below hb1) j hlt
    rw [hnu] at c0 c1
    have T1 := box (HT.out.below hb1)
    have B1 := box hb1
    clear hb1 hnu
    go_wp2_with fail
    refine (mQv13_is huz T1.out HQ).mono ?_; rintro e w2 ⟨rfl, hb2⟩
    have B2 := box (B1.out.trans (hb2.mono B1.out.size))
    clear hb2 c0 c1
    go_wp2
    go_ret3
    exact ⟨rfl, B2.out⟩
  · obtain rfl : j = K.length := by omega
    have HI : Box (idxQ K = -1) := box (idxQ_no hj.out)
    have hq : qualP K = some 1000 := qual_no hj.out
    have h := h.out
    rw [hq] at h
    obtain ⟨rfl, rfl⟩ : 1000 = q ∧ true = b := by
      unfold qvT at h
      injection h with h; injection h with h
      simp at h
      exact ⟨h.1, h.2⟩
    clear h hq
    go_enter Tryz.func103, Tryz.ntmps103
    go_wp2_with fail
    refine (idxQ_is hl6 F0 HI).mono ?_; rintro e w1 ⟨rfl, hb1⟩
    go_wp2
    go_ret3
    exact ⟨rfl, hb1⟩
/-- the text of a range -/
def rtO (k : Int) (v : List UInt8) (K : List F) : Option ByteArray :=
  if k = 1 then (rangeL v).map fun m => fmtPB (m.1 ++ (⟨#[47]⟩ : ByteArray) ++ m.2.1) K
  else if ((if k = 2 then rangeT v else tokL v) && decide (K.length = 0)) = true then some (bs (canL k v)) else none
def RtIs (o : Option ByteArray) (e : Ending) : Prop := ∃ x b, e = .returned (.tuple #[.string x, .bool b]) ∧ o.isSome = b ∧ ∀ p, o = some p → p = x
theorem rt_of {o : Option ByteArray} {x : ByteArray} {b : Bool} (h1 : o.isSome = b) (h2 : ∀ p, o = some p → p = x) : RtIs o (.returned (.tuple #[.string x, .bool b])) := ⟨x, b, rfl, h1, h2⟩
theorem rt_acc_facts {v : List UInt8} {a b : ByteArray} {M K : List F} {ok : Bool} {y : ByteArray} (hM : ofM (rangeL v) = (a, b, M)) (hok : (rangeL v).isSome = ok) (hy : fmtMB (a, b, K) = y) : (rtO 1 v K).isSome = ok ∧ ∀ p, rtO 1 v K = some p → p = y := by
  unfold rtO
  rw [if_pos rfl, ← hok]
  cases hr : rangeL v with
  | none => exact ⟨rfl, fun p hp => by cases hp⟩
  | some m =>
    rw [hr] at hM
    have hm : m = (a, b, M) := hM
    subst hm
    refine ⟨rfl, fun p hp => ?_⟩
    simp only [Option.map_some, Option.some.injEq] at hp
    rw [← hp, ← hy]; rfl
theorem rt_oth_facts {k : Int} {v : List UInt8} {K : List F} {t : Bool} {y : ByteArray} (hk : k ≠ 1) (ht : (if k = 2 then rangeT v else tokL v) = t) (hK : K.length = 0) (hy : bs (canL k v) = y) : (rtO k v K).isSome = t ∧ ∀ p, rtO k v K = some p → p = y := by
  unfold rtO
  rw [if_neg hk, ht, decide_eq_true hK, Bool.and_true]
  cases t with
  | true => exact ⟨rfl, fun p hp => by cases hp; rw [← hy]⟩
  | false => exact ⟨rfl, fun p hp => by cases hp⟩
theorem rt_long {k : Int} {v : List UInt8} {K : List F} (hk : k ≠ 1) (hK : K.length ≠ 0) : rtO k v K = none := by
  unfold rtO
  rw [if_neg hk, decide_eq_false hK, Bool.and_false]; rfl
theorem mem_rt {k : Int} {s v : List UInt8} {L : List F} {q : Int} (h : parL s = some (v, L)) (hq : qualP L = some q) : memP k s = (rtO k v (L.take (atQ L))).map fun x => (x, q) := by
  have hl : (L.take (atQ L)).length = atQ L := by rw [List.length_take]; have := atQ_le L; omega
  by_cases hk : k = 1
  · subst hk
    rw [mem_acc h hq]
    unfold rtO
    rw [if_pos rfl]
    cases rangeL v with
    | none => rfl
    | some m => rfl
  · rw [mem_oth hk h hq]
    unfold rtO
    rw [if_neg hk, hl]
    cases ((if k = 2 then rangeT v else tokL v) && decide (atQ L = 0)) with
    | true => rfl
    | false => rfl
theorem mFmt13_is {a b : ByteArray} {p : Option Addr} {n cap : Nat} {L : List F} {x : ByteArray} {w : World} (ha : a.size ≤ 30000) (hb : b.size ≤ 30000) (hn : Box (L.length = n)) (hl : Box (L.length ≤ 65536)) (hz : Box (∀ i (hi : i < L.length), L[i].1.size ≤ 65536 ∧ L[i].2.size ≤ 65536)) (hF : Fs w p L) (h : Box (fmtMB (a, b, L) = x)) :
    Calls Tryz.prog 153 #[.agg #[.string a, .string b, .slice p n cap]] w fun e w' => e = .returned (.string x) ∧ Below w.heap.size w w' := by
  have := mFmt10_any a b p cap L w ha hb hl.out hz (box hF)
  rw [hn.out, h.out] at this; exact this
theorem mrtx_is {x : ByteArray} {p : Option Addr} {n cap : Nat} {K : List F} {w : World} (hx : x.size ≤ 20000) (hn : Box (K.length = n)) (hl : Box (K.length ≤ 65536)) (hz : Box (∀ i (hi : i < K.length), K[i].1.size ≤ 65536 ∧ K[i].2.size ≤ 65536)) (hF : Fs w p K) :
    Calls Tryz.prog 137 #[.string x, .slice p n cap] w fun e w' => RtIs (rtO 1 x.data.toList K) e ∧ Below w.heap.size w w' := by
  obtain ⟨⟨a, b, M⟩, hM⟩ : ∃ m, ofM (rangeL x.data.toList) = m := ⟨_, rfl⟩
  obtain ⟨ok, hok⟩ : ∃ ok, (rangeL x.data.toList).isSome = ok := ⟨_, rfl⟩
  obtain ⟨y, hy⟩ : ∃ y, fmtMB (a, b, K) = y := ⟨_, rfl⟩
  have F0 := box hF
  have hlen := range_len13 hM
  have HM := box (And.intro hM hok)
  have HY := box hy
  have HR := box (rt_acc_facts hM hok hy)
  have ha : a.size ≤ 30000 := by omega
  have hb : b.size ≤ 30000 := by omega
  have hx6 : x.size ≤ 65000 := by omega
  clear hM hok hy hlen hF
  go_enter Tryz.func137, Tryz.ntmps137
  go_wp2_with fail
  refine (mRange_is hx6 HM).mono ?_; rintro e w2 ⟨p2, c2, rfl, hO2, hb2⟩
  have hnw := below_new w2 (.cells #[.string a, .string b, .slice p n cap] 83)
  have B2 := box (hb2.trans (hnw.mono hb2.size))
  have T4 : Box (Fs (w2.alloc (.cells #[.string a, .string b, .slice p n cap] 83)) p K) := box ((F0.out.below hb2).below hnw)
  clear hO2 hb2 hnw
  go_wp2_with fail
  refine (mFmt13_is ha hb hn hl hz T4.out HY).mono ?_; rintro e w3 ⟨rfl, hb3⟩
  have B3 := box (B2.out.trans (hb3.mono B2.out.size))
  clear hb3
  go_wp2
  go_ret2
  exact ⟨rt_of HR.out.1 HR.out.2, B3.out⟩
theorem mCan13_is {k : Int} {s x : ByteArray} {w : World} (hk : InI64 k) (hs : s.size ≤ 20000) (h : Box (bs (canL k s.data.toList) = x)) :
    Calls Tryz.prog 130 #[.int .i64 k, .string s] w fun e w' => e = .returned (.string x) ∧ Below w.heap.size w w' :=
  mCan0_is hk (by omega) h
theorem mRng13_is {s : ByteArray} {b : Bool} {w : World} (hs : s.size ≤ 20000) (h : Box (rangeT s.data.toList = b)) :
    Calls Tryz.prog 93 #[.string s] w fun e w' => e = .returned (.bool b) ∧ Below w.heap.size w w' :=
  (mRangeT_any s w (by omega)).mono fun e w' ⟨h1, h2⟩ => ⟨by rw [h1, h.out], h2⟩
set_option maxHeartbeats 1000000 in
theorem mrt_is {k : Int} {x : ByteArray} {p : Option Addr} {n cap : Nat} {K : List F} {w : World} (hk : InI64 k) (hx : x.size ≤ 20000) (hn : Box (K.length = n)) (hl : Box (K.length ≤ 65536)) (hz : Box (∀ i (hi : i < K.length), K[i].1.size ≤ 65536 ∧ K[i].2.size ≤ 65536)) (hF : Fs w p K) :
    Calls Tryz.prog 104 #[.int .i64 k, .string x, .slice p n cap] w fun e w' => RtIs (rtO k x.data.toList K) e ∧ Below w.heap.size w w' := by
  have F0 := box hF
  have hxm : x.size ≤ maxLen := by unfold maxLen; omega
  have HXM := box hxm
  clear hF hxm
  by_cases h1 : k = 1
  · subst h1
    go_enter Tryz.func104, Tryz.ntmps104
    go_wp2_with fail
    refine (mrtx_is hx hn hl hz F0.out).mono ?_; rintro e w1 ⟨⟨y, b, rfl, hb, hp⟩, hb1⟩
    have HR := box (And.intro hb hp)
    clear hb hp
    go_wp2
    go_ret2
    exact ⟨rt_of HR.out.1 HR.out.2, hb1⟩
  · have e1 : (k == 1) = false := by rw [beq_eq_false_iff_ne]; exact h1
    by_cases h0 : n = 0
    · obtain ⟨y, hy⟩ : ∃ y, bs (canL k x.data.toList) = y := ⟨_, rfl⟩
      have HY := box hy
      have hK0 : K.length = 0 := by rw [hn.out]; exact h0
      by_cases h2 : k = 2
      · subst h2
        obtain ⟨t, ht⟩ : ∃ t, rangeT x.data.toList = t := ⟨_, rfl⟩
        have HT := box ht
        have HR := box (rt_oth_facts h1 (t := t) (by rw [if_pos rfl]; exact ht) hK0 hy)
        subst h0
        clear hy ht hK0 h1 e1
        go_enter Tryz.func104, Tryz.ntmps104
        go_wp2_with fail
        refine (mCan13_is hk hx HY).mono ?_; rintro e w1 ⟨rfl, hb1⟩
        have B1 := box hb1
        clear hb1
        go_wp2_with fail
        refine (mRng13_is hx HT).mono ?_; rintro e w2 ⟨rfl, hb2⟩
        have B2 := box (B1.out.trans (hb2.mono B1.out.size))
        clear hb2
        go_wp2
        go_ret2
        exact ⟨rt_of HR.out.1 HR.out.2, B2.out⟩
      · have e2 : (k == 2) = false := by rw [beq_eq_false_iff_ne]; exact h2
        obtain ⟨t, ht⟩ : ∃ t, tokL x.data.toList = t := ⟨_, rfl⟩
        have HT := box ht
        have HR := box (rt_oth_facts h1 (t := t) (by rw [if_neg h2]; exact ht) hK0 hy)
        subst h0
        clear hy ht hK0 h1 h2
        go_enter Tryz.func104, Tryz.ntmps104
        go_wp2_with fail
        refine (mCan13_is hk hx HY).mono ?_; rintro e w1 ⟨rfl, hb1⟩
        have B1 := box hb1
        clear hb1
        go_wp2_with fail
        refine (aToken_is HXM.out HT).mono ?_; rintro e w2 ⟨rfl, rfl⟩
        go_wp2
        go_ret2
        exact ⟨rt_of HR.out.1 HR.out.2, B1.out⟩
    · have hn0 : (0 : Int) < (n : Int) := by omega
      have HV : Box (rtO k x.data.toList K = none) := box (rt_long h1 (by rw [hn.out]; exact h0))
      clear h0 h1
      go_enter Tryz.func104, Tryz.ntmps104
      go_wp2
      go_ret2
      exact ⟨rt_of (by rw [HV.out]; rfl) (fun p hp => by rw [HV.out] at hp; cases hp), Below.refl _ _⟩
set_option maxHeartbeats 2000000 in
theorem mpp_any (k : Int) (s : ByteArray) (w : World) (hk : InI64 k) (hs : s.size ≤ 20000) (hW : Wts w) :
    Calls Tryz.prog 72 #[.int .i64 k, .string s] w fun e w' => MbrIs (memP k s.data.toList) e ∧ Below w.heap.size w w' := by
  obtain ⟨x, hx⟩ : ∃ x, parA s.data.toList = x := ⟨_, rfl⟩
  obtain ⟨K, hK⟩ : ∃ K, parB s.data.toList = K := ⟨_, rfl⟩
  have HT := box hW
  have hs6 : s.size ≤ 65000 := by omega
  have hxx : x.size ≤ 20000 := by have := parA_size s; rw [hx] at this; omega
  clear hW
  cases ho : parO s.data.toList with
  | false =>
    have HP := box (And.intro hx (And.intro hK ho))
    have HV : Box (memP k s.data.toList = none) := box (mem_none (par_off ho))
    clear hx hK ho
    go_enter Tryz.func72, Tryz.ntmps72
    go_wp2_with fail
    refine (mParO_is hs6 HP).mono ?_; rintro e w1 ⟨a1, c1, rfl, hO1, hb1⟩
    have hC1 := box ((C2.new (.string ⟨#[]⟩) (.int .i64 0) w 60).next hb1)
    have B1 := box ((below_new w (.cells #[.string ⟨#[]⟩, .int .i64 0] 60)).trans (hb1.mono (below_new w _).size))
    clear hO1 hb1
    obtain ⟨⟨r0, r1⟩, ⟨f0, f1⟩⟩ := hC1.out
    go_wp2
    (try simp only [Exit.inBlock, Exit.then])
    refine bodyPost_ret (v := .tuple #[.agg #[.string ⟨#[]⟩, .int .i64 0], .bool false]) (by rw [results_cell_tmp rfl]; go_simp) rfl ?_
    exact ⟨mbr_no HV, below2 B1.out (Nat.le_refl _) _ _⟩
  | true =>
    have HP := box (And.intro hx (And.intro hK ho))
    have HPL := box (par_of HP.out)
    have hKlen : K.length ≤ 20000 := by have := (par_facts HPL.out).2.2.1; have hz : s.data.toList.length = s.size := by simp
                                        omega
    have hKz : Box (∀ i (hi : i < K.length), K[i].1.size ≤ 20000 ∧ K[i].2.size ≤ 20000) := box (fun i hi => by
      have h1 := (par_facts HPL.out).2.1
      have h2 := szF_at hi
      have hz : s.data.toList.length = s.size := by simp
      omega)
    obtain ⟨j, hj⟩ : ∃ j, atQ K = j := ⟨_, rfl⟩
    have HJ := box hj
    have hjl : j ≤ K.length := by rw [← hj]; exact atQ_le K
    have hTL : Box ((K.take j).length = j) := box (by rw [List.length_take]; omega)
    have lK : Box ((K.take j).length ≤ 65536) := box (by rw [List.length_take]; omega)
    have zK : Box (∀ i (hi : i < (K.take j).length), (K.take j)[i].1.size ≤ 65536 ∧ (K.take j)[i].2.size ≤ 65536) := box (fun i hi => by
      have hi2 : i < K.length := by rw [List.length_take] at hi; omega
      have := hKz.out i hi2
      rw [List.getElem_take]; omega)
    clear hx hK ho hj hjl
    cases hq : qualP K with
    | none =>
      have HQ : Box (qvT (qualP K) = .tuple #[.int .i64 0, .bool false]) := box (by rw [hq]; rfl)
      have HV : Box (memP k s.data.toList = none) := box (mem_noq HPL.out hq)
      clear hq
      go_enter Tryz.func72, Tryz.ntmps72
      go_wp2_with fail
      refine (mParO_is hs6 HP).mono ?_; rintro e w1 ⟨a1, c1, rfl, hO1, hb1⟩
      obtain ⟨p9, c9, hv9, hFF, hcc⟩ := hO1.fs
      cases hv9
      have hC1 := box ((C2.new (.string ⟨#[]⟩) (.int .i64 0) w 60).next hb1)
      have B1 := box ((below_new w (.cells #[.string ⟨#[]⟩, .int .i64 0] 60)).trans (hb1.mono (below_new w _).size))
      have F1 := box hFF
      have T1 := box (HT.out.below B1.out)
      clear hO1 hb1 hFF
      go_wp2_with fail
      refine (cutQ_is hKlen hcc hKz F1.out T1.out HJ HQ).mono ?_; rintro e w2 ⟨rfl, hb2⟩
      have B2 := box (B1.out.trans (hb2.mono B1.out.size))
      have hC2 := box (hC1.out.next hb2)
      clear hb2
      obtain ⟨⟨r0, r1⟩, ⟨f0, f1⟩⟩ := hC2.out
      go_wp2
      (try simp only [Exit.inBlock, Exit.then])
      refine bodyPost_ret (v := .tuple #[.agg #[.string ⟨#[]⟩, .int .i64 0], .bool false]) (by rw [results_cell_tmp rfl]; go_simp) rfl ?_
      exact ⟨mbr_no HV, below2 B2.out (Nat.le_refl _) _ _⟩
    | some q =>
      have HQ : Box (qvT (qualP K) = .tuple #[.int .i64 q, .bool true]) := box (by rw [hq]; rfl)
      have HV : Box (memP k s.data.toList = (rtO k x.data.toList (K.take j)).map fun y => (y, q)) := box (by rw [← HJ.out]; exact mem_rt HPL.out hq)
      clear hq
      go_enter Tryz.func72, Tryz.ntmps72
      go_wp2_with fail
      refine (mParO_is hs6 HP).mono ?_; rintro e w1 ⟨a1, c1, rfl, hO1, hb1⟩
      obtain ⟨p9, c9, hv9, hFF, hcc⟩ := hO1.fs
      cases hv9
      have hC1 := box ((C2.new (.string ⟨#[]⟩) (.int .i64 0) w 60).next hb1)
      have B1 := box ((below_new w (.cells #[.string ⟨#[]⟩, .int .i64 0] 60)).trans (hb1.mono (below_new w _).size))
      have F1 := box hFF
      have T1 := box (HT.out.below B1.out)
      clear hO1 hb1 hFF
      go_wp2_with fail
      refine (cutQ_is hKlen hcc hKz F1.out T1.out HJ HQ).mono ?_; rintro e w2 ⟨rfl, hb2⟩
      have B2 := box (B1.out.trans (hb2.mono B1.out.size))
      have hC2 := box (hC1.out.next hb2)
      have F2 := box (fs_take (n := j) (F1.out.below hb2))
      clear hb2
      go_wp2_with fail
      refine (mrt_is hk hxx hTL lK zK F2.out).mono ?_; rintro e w3 ⟨⟨y, b, rfl, hb, hp⟩, hb3⟩
      have B3 := box (B2.out.trans (hb3.mono B2.out.size))
      have hC3 := box (hC2.out.next hb3)
      clear hb3
      obtain ⟨⟨r0, r1⟩, ⟨f0, f1⟩⟩ := hC3.out
      cases b with
      | false =>
        have HN : Box (memP k s.data.toList = none) := box (by
          rw [HV.out]
          cases hr : rtO k x.data.toList (K.take j) with
          | none => rfl
          | some m => rw [hr] at hb; cases hb)
        clear hb hp
        go_wp2
        (try simp only [Exit.inBlock, Exit.then])
        refine bodyPost_ret (v := .tuple #[.agg #[.string ⟨#[]⟩, .int .i64 0], .bool false]) (by rw [results_cell_tmp rfl]; go_simp) rfl ?_
        exact ⟨mbr_no HN, below2 B3.out (Nat.le_refl _) _ _⟩
      | true =>
        have HN : Box (memP k s.data.toList = some (y, q)) := box (by
          rw [HV.out]
          cases hr : rtO k x.data.toList (K.take j) with
          | none => rw [hr] at hb; cases hb
          | some m => rw [hp m hr]; rfl)
        clear hb hp
        go_wp2
        (try simp only [Exit.inBlock, Exit.then])
        refine bodyPost_ret (v := .tuple #[.agg #[.string y, .int .i64 q], .bool true]) (by rw [results_cell_tmp rfl]; go_simp) rfl ?_
        exact ⟨mbr_of (by rw [HN.out]; rfl) (fun p hp => by rw [HN.out] at hp; cases hp; rfl), below2 B3.out (Nat.le_refl _) _ _⟩
theorem mpp_is {k : Int} {s : ByteArray} {o : Option QP} {w : World} (hk : InI64 k) (hs : s.size ≤ 20000) (hW : Wts w) (h : Box (memP k s.data.toList = o)) :
    Calls Tryz.prog 72 #[.int .i64 k, .string s] w fun e w' => MbrIs o e ∧ Below w.heap.size w w' :=
  (mpp_any k s w hk hs hW).mono fun e w' ⟨h1, h2⟩ => ⟨by rw [h.out] at h1; exact h1, h2⟩
end
section
open Go.RowKit
set_option maxHeartbeats 2000000 in
theorem mPrefs0_any (k : Int) (a : Option Addr) (cap : Nat) (L : List F) (w : World) (hk : InI64 k) (S : Box (Sm L)) (hv6 : Box (∀ x ∈ getL (nameK k) L, x.size ≤ 65000)) (hmz : Box (∀ m ∈ allL (nameK k) L, m.length ≤ 20000)) (hF : Box (Fs w a L)) (hW : Wts w) :
    Calls Tryz.prog 45 #[.int .i64 k, .slice a L.length cap] w fun e w' => ∃ v, e = .returned (.tuple #[v, .bool (prefsO k L)]) ∧ OwnQ w' w.heap.size v (prefsV k L) ∧ Below w.heap.size w w' := by
  obtain ⟨nm, hnm⟩ : ∃ nm, nameK k = nm := ⟨_, rfl⟩
  have HN := box hnm
  have HT := box hW
  have hnz : nm.size ≤ 15 := by rw [← hnm]; exact name_size k
  have hm65 : Box (nm.size ≤ 65536) := box (by omega)
  have hl := S.out.1
  clear hW
  by_cases h0 : nm = ⟨#[]⟩
  · have HO : Box (prefsO k L = false) := box (by unfold prefsO; rw [hnm, decide_eq_false (by simp [h0]), Bool.false_and])
    have HV : Box (prefsV k L = []) := box (by unfold prefsV; rw [HO.out]; rfl)
    subst h0
    clear hnm
    go_enter Tryz.func45, Tryz.ntmps45
    go_wp2_with fail
    refine (mName0_is hk HN).mono ?_; rintro e w1 ⟨rfl, rfl⟩
    go_wp2
    go_ret2
    exact ⟨_, by rw [HO.out]; rfl, by rw [HV.out]; exact OwnQ.nil _ _, Below.refl _ _⟩
  · have e0 : (nm.toList == []) = false := by
      rw [toList_data, beq_eq_false_iff_ne]
      intro e; apply h0; rw [bs_of nm, e]; rfl
    have HNE : Box (decide (nameK k ≠ ⟨#[]⟩) = true) := box (decide_eq_true (by rw [hnm]; exact h0))
    rw [hnm] at hv6 hmz
    clear h0 hnm
    cases hh : L.any (nmd nm) with
    | false =>
      have HH := box hh
      have HO : Box (prefsO k L = false) := box (by unfold prefsO; rw [HN.out, hh, Bool.and_false])
      have HV : Box (prefsV k L = []) := box (by unfold prefsV; rw [HO.out]; rfl)
      clear hh
      go_enter Tryz.func45, Tryz.ntmps45
      go_wp2_with fail
      refine (mName0_is hk HN).mono ?_; rintro e w1 ⟨rfl, rfl⟩
      go_wp2_with fail
      refine (Has_any a cap L nm _ hl S hm65 hF).mono ?_; rintro e w1 ⟨rfl, hb1⟩; rw [HH.out]
      go_wp2
      go_ret2
      exact ⟨_, by rw [HO.out]; rfl, by rw [HV.out]; exact OwnQ.nil _ _, hb1⟩
    | true =>
      have HH := box hh
      have HO : Box (prefsO k L = true) := box (by unfold prefsO; rw [HNE.out, HN.out, hh]; rfl)
      obtain ⟨A, hA⟩ : ∃ A, allL nm L = A := ⟨_, rfl⟩
      have HV : Box (prefsV k L = A.filterMap (memP k)) := box (by unfold prefsV prefsL; rw [HO.out, HN.out, hA]; rfl)
      have HAB : Box (allB nm L = A.map bs) := box (by unfold allB; rw [hA])
      have hA64 : A.length ≤ 64 := by rw [← hA]; unfold allL; rw [List.length_take]; omega
      have HSZ : Box (∀ j (hj : j < A.length), A[j].length ≤ 20000) := box (fun j hj => by
        have hm : A[j] ∈ allL nm L := by rw [hA]; exact List.getElem_mem hj
        exact hmz.out _ hm)
      clear hh hA
      go_enter Tryz.func45, Tryz.ntmps45
      go_wp2_with fail
      refine (mName0_is hk HN).mono ?_; rintro e w1 ⟨rfl, rfl⟩
      go_wp2_with fail
      refine (Has_any a cap L nm _ hl S hm65 hF).mono ?_; rintro e w1 ⟨rfl, hb1⟩; rw [HH.out]
      have B1 := box hb1
      have F1 := box (hF.out.below hb1)
      clear hb1
      go_wp2_with fail
      refine (mAll_any a cap L nm _ S hv6 hm65 F1).mono ?_; rintro e w2 ⟨v2, rfl, hO2, hb2⟩
      rw [HAB.out] at hO2
      obtain ⟨a2, c2, rfl, hS2, hc2⟩ := hO2.ss
      rw [List.length_map] at hc2 ⊢
      have B2 := box (B1.out.trans (hb2.mono B1.out.size))
      have T2 := box (HT.out.below B2.out)
      have S2 := box hS2
      clear hO2 hb2 hS2
      go_wp2
      go_loopw [7, 26] (fun v i wr => PfRel k A w2 v i wr) (fun _ i _ => A.length - (intOf i).toNat)
      case atStart => exact ⟨0, rfl, Nat.zero_le _, OwnQ.nil _ _, Nat.le_refl _, Below.refl _ _⟩
      case round =>
        obtain ⟨j, rfl, hj, hO, hlen, hbel⟩ := hrel
        obtain ⟨acc, hacc⟩ : ∃ acc, (A.take j).filterMap (memP k) = acc := ⟨_, rfl⟩
        have HACC := box hacc
        rw [hacc] at hO hlen
        obtain ⟨av, cv, rfl, _, _⟩ := hO.qs
        have O0 := box hO
        have BL := box hbel
        have TL := box (T2.out.below hbel)
        have SS := S2.out.below hbel
        clear hO hbel hacc
        by_cases hlt : j < A.length
        · have hji : (j : Int) < (A.length : Int) := by omega
          obtain ⟨m, hm⟩ : ∃ m, A[j] = m := ⟨_, rfl⟩
          have HNX := box (fm_next (k := k) hlt)
          rw [HACC.out, hm] at HNX
          have hmz : (bs m).size ≤ 20000 := by rw [bs_size, ← hm]; exact HSZ.out j hlt
          obtain ⟨g, off, rfl, cA⟩ := SS j (by simpa using hlt)
          have cA' : wr.cell? ⟨g, off + j, none⟩ = some (.string (bs m)) := by rw [cA]; simp [hm]
          obtain ⟨o, ho⟩ : ∃ o, memP k m = o := ⟨_, rfl⟩
          have HO2 : Box (memP k (bs m).data.toList = o) := box ho
          rw [ho] at HNX
          clear cA SS hm ho
          go_wp2_with fail
          refine (mpp_is hk hmz TL.out HO2).mono ?_; rintro e w3 ⟨⟨x, q, b, rfl, hb, hp⟩, hb3⟩
          have O3 := box (own_below O0.out hb3)
          have B3 := box (BL.out.trans (hb3.mono BL.out.size))
          have HB := box hb
          have HPP := box hp
          clear hb3 hb hp cA'
          cases b with
          | false =>
            have HE : Box ((A.take (j + 1)).filterMap (memP k) = acc) := box (by
              rw [HNX.out]
              have h := HB.out
              cases o with
              | none => simp
              | some p => cases h)
            go_wp2
            go_roundw
            case rel => exact ⟨j + 1, by go_num, hlt, by rw [HE.out]; exact own_below O3.out (below_new _ _), by rw [HE.out]; omega, B3.out.alloc B3.out.size _⟩
            case measure => simp [intOf]; omega
          | true =>
            have HE : Box ((A.take (j + 1)).filterMap (memP k) = acc ++ [(x, q)]) := box (by
              rw [HNX.out]
              have h := HB.out
              have h2 := HPP.out
              cases o with
              | none => cases h
              | some p => rw [h2 p rfl])
            go_wp2_with (at_builtin; refine wpList_append_prf _ rfl (.tmp 37) (.tmp 39) rfl w2.heap.size _ acc rfl ?a1 _ _ rfl x q ?b1 ?b2 ?c1 ?d1 ?_)
            case a1 => exact own_below (own_below O3.out (below_new _ _)) (below_new _ _)
            case b1 => go_simp
            case b2 => go_simp
            case c1 => omega
            case d1 => have := B3.out.size; simp; omega
            intro v5 w5 hO5 hb5
            have O5 := box hO5
            have B5 := box (((B3.out.alloc B3.out.size _).alloc (B3.out.alloc B3.out.size _).size _).trans hb5)
            clear hO5 hb5
            go_wp2
            go_roundw
            case rel => exact ⟨j + 1, by go_num, hlt, by rw [HE.out]; exact O5.out, by rw [HE.out, List.length_append]; simp; omega, B5.out⟩
            case measure => simp [intOf]; omega
        · have hji : ¬ (j : Int) < (A.length : Int) := by omega
          have HE : Box (prefsV k L = acc) := box (by rw [HV.out, ← HACC.out, List.take_of_length_le (by omega)])
          clear SS
          go_wp2
          go_ret2
          exact ⟨_, by rw [HO.out]; rfl, by rw [HE.out]; exact own_le O0.out B2.out.size, B2.out.trans (BL.out.mono B2.out.size)⟩
theorem mPrefs_any (k : Int) (a : Option Addr) (cap : Nat) (L : List F) (w : World) (hk : InI64 k) (S : Box (Sm L)) (hv : Box (∀ x ∈ getL (nameK k) L, x.size ≤ 65000)) (hmz : Box (∀ m ∈ allL (nameK k) L, m.length ≤ 20000)) (hF : Box (Fs w a L)) (hW : Wts w) :
    Calls Tryz.prog 45 #[.int .i64 k, .slice a L.length cap] w fun e w' => ∃ p c, e = .returned (.tuple #[.slice p (prefsV k L).length c, .bool (prefsO k L)]) ∧ Qs w' p (prefsV k L) ∧ Below w.heap.size w w' :=
  (mPrefs0_any k a cap L w hk S hv hmz hF hW).mono fun e w' ⟨v, h1, h2, h3⟩ => by
    obtain ⟨p, c, rfl, hQ, _⟩ := h2.qs
    exact ⟨p, c, h1, hQ, h3⟩
end
section
open Go.RowKit
theorem mMed13_is {s : ByteArray} {a b : ByteArray} {L : List F} {q : Bool} {w : World} (hs : s.size ≤ 65000) (h : Box (ofM (mediaL s.data.toList) = (a, b, L) ∧ (mediaL s.data.toList).isSome = q)) :
    Calls Tryz.prog 91 #[.string s] w fun e w' => ∃ p cap, e = .returned (.tuple #[.agg #[.string a, .string b, .slice p L.length cap], .bool q]) ∧ Fs w' p L ∧ Below w.heap.size w w' :=
  (mMedia_any s w hs).mono fun e w' ⟨v, h1, h2, h3⟩ => by
    rw [h.out.1] at h1 h2
    rw [h.out.2] at h1
    obtain ⟨p, cap, rfl, hF, _⟩ := h2.fs
    exact ⟨p, cap, h1, hF, h3⟩
theorem mmatch13_is {a b c d : ByteArray} {p q : Option Addr} {cp cq : Nat} {K L : List F} {i : Int} {w : World} (hk : Box (K.length ≤ 65536)) (hl : Box (L.length ≤ 65536))
    (hzK : Box (∀ i (hi : i < K.length), K[i].1.size ≤ 65536 ∧ K[i].2.size ≤ 65536)) (hzL : Box (∀ i (hi : i < L.length), L[i].1.size ≤ 65536 ∧ L[i].2.size ≤ 65536)) (hK : Fs w p K) (hL : Fs w q L) (h : Box (matchI (a, b, K) (c, d, L) = i)) :
    Calls Tryz.prog 92 #[.agg #[.string a, .string b, .slice p K.length cp], .agg #[.string c, .string d, .slice q L.length cq]] w fun e w' => e = .returned (.int .i64 i) ∧ Below w.heap.size w w' :=
  (mMatch10_any a b c d p q cp cq K L w hk.out hl.out hzK hzL (box hK) (box hL)).mono fun e w' ⟨h1, h2⟩ => ⟨by rw [h1, h.out], h2⟩
set_option maxHeartbeats 1000000 in
theorem mMatMT_any (r v : ByteArray) (w : World) (hr : r.size ≤ 20000) (hv : v.size ≤ 20000) :
    Calls Tryz.prog 65 #[.string r, .string v] w fun e w' => e = .returned (.int .i64 (matchP 1 r.data.toList v.data.toList)) ∧ Below w.heap.size w w' := by
  obtain ⟨⟨a, b, K⟩, h1⟩ : ∃ m, ofM (rangeL r.data.toList) = m := ⟨_, rfl⟩
  obtain ⟨ok, h2⟩ : ∃ q, (rangeL r.data.toList).isSome = q := ⟨_, rfl⟩
  obtain ⟨⟨c, d, L⟩, h3⟩ : ∃ m, ofM (mediaL v.data.toList) = m := ⟨_, rfl⟩
  obtain ⟨is, h4⟩ : ∃ q, (mediaL v.data.toList).isSome = q := ⟨_, rfl⟩
  have HV := box (matchP_acc h1 h2 h3 h4)
  obtain ⟨k1, k2, _, _⟩ := range_len h1
  obtain ⟨l1, l2, _, _⟩ := media_len h3
  have lK : Box (K.length ≤ 65536) := box (by omega)
  have lL : Box (L.length ≤ 65536) := box (by omega)
  have zK : Box (∀ i (hi : i < K.length), K[i].1.size ≤ 65536 ∧ K[i].2.size ≤ 65536) := box (fun i hi => by have := k2 i hi; omega)
  have zL : Box (∀ i (hi : i < L.length), L[i].1.size ≤ 65536 ∧ L[i].2.size ≤ 65536) := box (fun i hi => by have := l2 i hi; omega)
  have H1 := box (And.intro h1 h2)
  have H2 := box (And.intro h3 h4)
  have hr6 : r.size ≤ 65000 := by omega
  have hv6 : v.size ≤ 65000 := by omega
  clear h1 h2 h3 h4 k1 k2 l1 l2
  go_enter Tryz.func65, Tryz.ntmps65
  go_wp2_with fail
  refine (mRange_is hr6 H1).mono ?_; rintro e w1 ⟨p1, c1, rfl, hO1, hb1⟩
  obtain ⟨p9, c9, hv9, hF1, _⟩ := hO1.fs
  cases hv9
  have hnw := below_new w1 (.cells #[.string a, .string b, .slice p1 K.length c1] 83)
  have C1 := box (C3.new (.string a) (.string b) (.slice p1 K.length c1) w1 83)
  have F1 := box (hF1.below hnw)
  have B1 := box (hb1.trans (hnw.mono hb1.size))
  clear hO1 hF1 hb1 hnw
  go_wp2_with fail
  refine (mMed13_is hv6 H2).mono ?_; rintro e w2 ⟨p2, c2, rfl, hF2, hb2⟩
  have hnw := below_new w2 (.cells #[.string c, .string d, .slice p2 L.length c2] 83)
  have N1 := C1.out.next hb2
  have F2 := box ((F1.out.below hb2).below hnw)
  have G2 := box (hF2.below hnw)
  have B2 := box (B1.out.trans ((hb2.trans (hnw.mono hb2.size)).mono B1.out.size))
  have hne : w1.heap.size ≠ w2.heap.size := Nat.ne_of_lt N1.lt
  obtain ⟨⟨s0, s1, s2⟩, _⟩ := N1.next hnw
  obtain ⟨⟨r0, r1, r2⟩, _⟩ := N1
  clear hF2 hb2 hnw
  cases ok with
  | false =>
    have HR : Box (matchP 1 r.data.toList v.data.toList = -1) := box (by rw [HV.out]; rfl)
    go_wp2
    go_ret
    exact ⟨by rw [HR.out]; rfl, B2.out⟩
  | true =>
    cases is with
    | false =>
      have HR : Box (matchP 1 r.data.toList v.data.toList = -1) := box (by rw [HV.out]; rfl)
      go_wp2
      go_ret
      exact ⟨by rw [HR.out]; rfl, B2.out⟩
    | true =>
      have HR : Box (matchI (a, b, K) (c, d, L) = matchP 1 r.data.toList v.data.toList) := box (by rw [HV.out]; rfl)
      go_wp2_with fail
      refine (mmatch13_is lK lL zK zL F2.out G2.out HR).mono ?_; rintro e w3 ⟨rfl, hb3⟩
      have B3 := box (B2.out.trans (hb3.mono B2.out.size))
      clear hb3 r0 r1 r2 s0 s1 s2
      go_wp2
      go_ret
      exact ⟨rfl, B3.out⟩
theorem mMatchC13_is {k i : Int} {r v : ByteArray} {w : World} (hk : InI64 k) (hr : r.size ≤ 20000) (hv : v.size ≤ 20000) (h : Box (matchC k r.data.toList v.data.toList = i)) :
    Calls Tryz.prog 98 #[.int .i64 k, .string r, .string v] w fun e w' => e = .returned (.int .i64 i) ∧ Below w.heap.size w w' :=
  (mMatchC_any k r v w hk (by omega) (by omega)).mono fun e w' ⟨h1, h2⟩ => ⟨by rw [h1, h.out], h2⟩
set_option maxHeartbeats 1000000 in
theorem mMatTok_any (k : Int) (r v : ByteArray) (w : World) (hk : k = 3 ∨ k = 4) (hr : r.size ≤ 20000) (hv : v.size ≤ 20000) :
    Calls Tryz.prog 67 #[.int .i64 k, .string r, .string v] w fun e w' => e = .returned (.int .i64 (matchP k r.data.toList v.data.toList)) ∧ Below w.heap.size w w' := by
  have HV := box (matchP_cod hk r.data.toList v.data.toList)
  have hki : InI64 k := by rcases hk with rfl | rfl <;> exact ⟨by omega, by omega⟩
  have hst := star13 (s := v)
  have hrm : r.size ≤ maxLen := by unfold maxLen; omega
  have hvm : v.size ≤ maxLen := by unfold maxLen; omega
  clear hk
  cases ht : tokL r.data.toList with
  | false =>
    have HT := box ht
    have HR : Box (matchP k r.data.toList v.data.toList = -1) := box (by rw [HV.out, ht]; rfl)
    clear ht hst
    go_enter Tryz.func67, Tryz.ntmps67
    go_wp2_with fail
    refine (aToken_is hrm HT).mono ?_; rintro e w1 ⟨rfl, rfl⟩
    go_wp2
    go_ret
    exact ⟨by rw [HR.out]; rfl, Below.refl _ _⟩
  | true =>
    have HT := box ht
    cases hu : tokL v.data.toList with
    | false =>
      have HU := box hu
      have HR : Box (matchP k r.data.toList v.data.toList = -1) := box (by rw [HV.out, ht, hu]; rfl)
      clear ht hu hst
      go_enter Tryz.func67, Tryz.ntmps67
      go_wp2_with fail
      refine (aToken_is hrm HT).mono ?_; rintro e w1 ⟨rfl, rfl⟩
      go_wp2_with fail
      refine (aToken_is hvm HU).mono ?_; rintro e w1 ⟨rfl, rfl⟩
      go_wp2
      go_ret
      exact ⟨by rw [HR.out]; rfl, Below.refl _ _⟩
    | true =>
      have HU := box hu
      by_cases hs : v.data.toList = [42]
      · have HR : Box (matchP k r.data.toList v.data.toList = -1) := box (by rw [HV.out, ht, hu, decide_eq_false (by simp [hs])]; rfl)
        rw [decide_eq_true hs] at hst
        clear ht hu hs
        go_enter Tryz.func67, Tryz.ntmps67
        go_wp2_with fail
        refine (aToken_is hrm HT).mono ?_; rintro e w1 ⟨rfl, rfl⟩
        go_wp2_with fail
        refine (aToken_is hvm HU).mono ?_; rintro e w1 ⟨rfl, rfl⟩
        go_wp2
        go_ret
        exact ⟨by rw [HR.out]; rfl, Below.refl _ _⟩
      · have HR : Box (matchC k r.data.toList v.data.toList = matchP k r.data.toList v.data.toList) := box (by rw [HV.out, ht, hu, decide_eq_true hs]; rfl)
        rw [decide_eq_false hs] at hst
        clear ht hu hs
        go_enter Tryz.func67, Tryz.ntmps67
        go_wp2_with fail
        refine (aToken_is hrm HT).mono ?_; rintro e w1 ⟨rfl, rfl⟩
        go_wp2_with fail
        refine (aToken_is hvm HU).mono ?_; rintro e w1 ⟨rfl, rfl⟩
        go_wp2_with fail
        refine (mMatchC13_is hki hr hv HR).mono ?_; rintro e w2 ⟨rfl, hb2⟩
        go_wp2
        go_ret
        exact ⟨rfl, hb2⟩
theorem mMatMT_is {r v : ByteArray} {i : Int} {w : World} (hr : r.size ≤ 20000) (hv : v.size ≤ 20000) (h : Box (matchP 1 r.data.toList v.data.toList = i)) :
    Calls Tryz.prog 65 #[.string r, .string v] w fun e w' => e = .returned (.int .i64 i) ∧ Below w.heap.size w w' :=
  (mMatMT_any r v w hr hv).mono fun e w' ⟨h1, h2⟩ => ⟨by rw [h1, h.out], h2⟩
theorem mMatTok_is {k i : Int} {r v : ByteArray} {w : World} (hk : k = 3 ∨ k = 4) (hr : r.size ≤ 20000) (hv : v.size ≤ 20000) (h : Box (matchP k r.data.toList v.data.toList = i)) :
    Calls Tryz.prog 67 #[.int .i64 k, .string r, .string v] w fun e w' => e = .returned (.int .i64 i) ∧ Below w.heap.size w w' :=
  (mMatTok_any k r v w hk hr hv).mono fun e w' ⟨h1, h2⟩ => ⟨by rw [h1, h.out], h2⟩
theorem mMatch13_any (k : Int) (r v : ByteArray) (w : World) (hk : InI64 k) (hr : r.size ≤ 20000) (hv : v.size ≤ 20000) :
    Calls Tryz.prog 39 #[.int .i64 k, .string r, .string v] w fun e w' => e = .returned (.int .i64 (matchP k r.data.toList v.data.toList)) ∧ Below w.heap.size w w' := by
  obtain ⟨i, hi⟩ : ∃ i, matchP k r.data.toList v.data.toList = i := ⟨_, rfl⟩
  rw [hi]
  by_cases h1 : k = 1
  · subst h1
    have HI := box hi
    clear hi
    go_enter Tryz.func39, Tryz.ntmps39
    go_wp2_with fail
    refine (mMatMT_is hr hv HI).mono ?_; rintro e w1 ⟨rfl, hb1⟩
    go_wp2
    go_ret
    exact ⟨rfl, hb1⟩
  · by_cases h2 : k = 2
    · subst h2
      have HI : Box (matchT r.data.toList v.data.toList = i) := box (by rw [← matchP_lan]; exact hi)
      have hr6 : r.size ≤ 65000 := by omega
      have hv6 : v.size ≤ 65000 := by omega
      clear h1 hi
      go_enter Tryz.func39, Tryz.ntmps39
      go_wp2_with fail
      refine (mMatchM_is hr6 hv6 HI).mono ?_; rintro e w1 ⟨rfl, hb1⟩
      go_wp2
      go_ret
      exact ⟨rfl, hb1⟩
    · have HI := box hi
      by_cases h3 : k = 3
      · subst h3
        clear h1 h2 hi
        go_enter Tryz.func39, Tryz.ntmps39
        go_wp2_with fail
        refine (mMatTok_is (.inl rfl) hr hv HI).mono ?_; rintro e w1 ⟨rfl, hb1⟩
        go_wp2
        go_ret
        exact ⟨rfl, hb1⟩
      · by_cases h4 : k = 4
        · subst h4
          clear h1 h2 h3 hi
          go_enter Tryz.func39, Tryz.ntmps39
          go_wp2_with fail
          refine (mMatTok_is (.inr rfl) hr hv HI).mono ?_; rintro e w1 ⟨rfl, hb1⟩
          go_wp2
          go_ret
          exact ⟨rfl, hb1⟩
        · have HV : Box (i = -1) := box (by rw [← hi]; exact matchP_no h1 h2 h3 h4 r.data.toList v.data.toList)
          have e1 : (k == 1) = false := by rw [beq_eq_false_iff_ne]; exact h1
          have e2 : (k == 2) = false := by rw [beq_eq_false_iff_ne]; exact h2
          have e3 : (k == 3) = false := by rw [beq_eq_false_iff_ne]; exact h3
          have e4 : (k == 4) = false := by rw [beq_eq_false_iff_ne]; exact h4
          clear h1 h2 h3 h4 hi
          go_enter Tryz.func39, Tryz.ntmps39
          go_wp2
          go_ret
          exact ⟨by rw [HV.out]; rfl, Below.refl _ _⟩
end
section
open Go.RowKit
theorem sJoin_any (a : Option Addr) (cap : Nat) (L : List ByteArray) (w : World) (hl : L.length ≤ 65536) (hc : L.length ≤ cap) (hz : Box (∀ x ∈ L, x.size ≤ 65536)) (hF : Box (Ss w a L)) :
    Calls Tryz.prog 74 #[.slice a L.length cap, .string ⟨#[44, 32]⟩] w fun e w' => e = .returned (.string (joinB L)) ∧ Below w.heap.size w w' := by
  match L, hl, hc, hz, hF with
  | [], _, _, _, _ => exact (Join0_any a cap w).mono fun e w' ⟨h1, h2⟩ => ⟨h1, h2 ▸ Below.refl _ _⟩
  | [x], _, _, _, hF =>
    obtain ⟨q, off, rfl, c0⟩ := hF.out 0 (Nat.zero_lt_succ 0)
    exact (Join1_any q off cap x w c0).mono fun e w' ⟨h1, h2⟩ => ⟨h1, h2 ▸ Below.refl _ _⟩
  | x :: y :: r, hl, hc, hz, hF =>
    obtain ⟨q, off, rfl, c0⟩ := hF.out 0 (Nat.zero_lt_succ _)
    exact JoinN_any q off cap (x :: y :: r) w (Nat.le_add_left 2 r.length) hl hc hz hF
theorem mJoin_any (a : Option Addr) (cap : Nat) (L : List ByteArray) (w : World) (hl : L.length ≤ 65536) (hc : L.length ≤ cap) (hz : Box (∀ x ∈ L, x.size ≤ 65536)) (hF : Box (Ss w a L)) :
    Calls Tryz.prog 47 #[.slice a L.length cap] w fun e w' => e = .returned (.string (joinB L)) ∧ Below w.heap.size w w' := by
  go_enter Tryz.func47, Tryz.ntmps47
  go_wp2_with fail
  refine (sJoin_any a cap L _ hl hc hz hF).mono ?_; rintro e w1 ⟨rfl, hb⟩
  have B := box hb
  clear hb
  go_wp2
  go_ret
  exact ⟨rfl, B.out⟩
end
section
open Go.RowKit
theorem cell_size {w : World} {a : Addr} {v : Value} (h : w.cell? a = some v) : a.block < w.heap.size := by
  refine Nat.lt_of_not_le fun hle => ?_
  unfold World.cell? at h
  rw [Array.getElem?_eq_none hle] at h
  cases h
theorem gWeights : Tryz.prog.globalNamed "variantproxy/qvalue.weights" = some 1 := by kernel_rfl
theorem tWeights : (Tryz.prog.globals[1]?).map (·.type) = some 161 := by kernel_rfl
theorem wts_of_tab {W : World} (h : Lib.TabIs Tryz.prog W "variantproxy/qvalue.weights" .i64 [100, 10, 1]) : Wts W := by
  have c0 : W.cell? ⟨1, 0, none⟩ = some (.int .i64 100) := h.cell gWeights 0 (by decide)
  have c1 : W.cell? ⟨1, 1, none⟩ = some (.int .i64 10) := h.cell gWeights 1 (by decide)
  have c2 : W.cell? ⟨1, 2, none⟩ = some (.int .i64 1) := h.cell gWeights 2 (by decide)
  exact ⟨c0, c1, c2, cell_size c0⟩
/-- the table stands first on the row's list -/
theorem wts_of_laid {rest : List (String × DataW Unit)} {W : World} (h : laidMet Tryz.prog (("variantproxy/qvalue.weights", Lib.tabData .i64 [100, 10, 1]) :: rest) W) : Wts W :=
  wts_of_tab (Lib.tabIs_of_head gWeights tWeights Tryz.underlying161 Tryz.underlying3 (by kernel_rfl) (by kernel_rfl) h)
end
end Go.Proofs.YtjjlgnackjjbfaaGreatDoor.Asc
