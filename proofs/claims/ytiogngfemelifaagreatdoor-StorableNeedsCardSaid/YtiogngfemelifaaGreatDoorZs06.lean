/- Merged texts: LisPc LisRef AscTrim LisRef2 LisRef3 LisApp LisApp2. -/
import Derived.Test.YtiogngfemelifaaGreatDoorZs01
import Derived.Test.YtiogngfemelifaaGreatDoorZs02
import Derived.Test.YtiogngfemelifaaGreatDoorZs03
import Derived.Test.YtiogngfemelifaaGreatDoorZs05
import Derived.Lib.Hide
import Derived.LoopTactic
set_option linter.unusedVariables false
set_option linter.unusedSimpArgs false
set_option maxRecDepth 100000
namespace Go.Proofs.YtiogngfemelifaaGreatDoor.Asc
section
/-- outside quoted strings (0), within one (1), behind a backslash within one (2) -/
def stepQ (s : Nat) (c : UInt8) : Nat := if s = 0 then (if c = 34 then 1 else 0) else if s = 1 then (if c = 34 then 0 else if c = 92 then 2 else 1) else 1
def pcF (sep : UInt8) : Nat → List UInt8 → List UInt8 → List UInt8 × List UInt8 × Bool
  | _, [], acc => (acc, [], false)
  | s, c :: r, acc => if s = 0 ∧ c = sep then (acc, r, true) else pcF sep (stepQ s c) r (acc ++ [c])
def pcL (sep : UInt8) (l : List UInt8) : List UInt8 × List UInt8 × Bool := pcF sep 0 l []
def moreL (sep : UInt8) (m : Bool) (l : List UInt8) : List (List UInt8) := if m then cutL sep l else []
theorem pcF_cons (sep : UInt8) (s : Nat) (c : UInt8) (r acc : List UInt8) : pcF sep s (c :: r) acc = if s = 0 ∧ c = sep then (acc, r, true) else pcF sep (stepQ s c) r (acc ++ [c]) := rfl
def qS (q : Bool) : Nat := if q = true then 1 else 0
theorem cut_pc {sep : UInt8} (hs : sep ≠ 34) : ∀ (f : Nat) (q : Bool) (l acc : List UInt8), l.length ≤ f → cutF sep f q l acc = (pcF sep (qS q) l acc).1 :: moreL sep (pcF sep (qS q) l acc).2.2 (pcF sep (qS q) l acc).2.1
  | f, q, [], acc, _ => by rw [cutF_nil]; rfl
  | 0, q, c :: r, acc, h => by simp at h
  | f + 1, q, c :: r, acc, h => by
    simp only [List.length_cons] at h
    rw [cutF_cons, pcF_cons]
    by_cases h1 : q = true ∧ c = 92
    · obtain ⟨rfl, rfl⟩ := h1
      rw [if_pos ⟨rfl, rfl⟩, if_neg (fun h => absurd h.1 (by decide))]
      match r, h with
      | [], h => rfl
      | d :: r2, h =>
        simp only [List.length_cons] at h
        simp only
        rw [cut_pc hs f true r2 _ (by omega), pcF_cons, if_neg (fun h => absurd h.1 (by decide)), List.append_assoc]
        rfl
    · rw [if_neg h1]
      by_cases h2 : c = 34
      · subst h2
        rw [if_pos rfl, if_neg (fun h => hs h.2.symm), cut_pc hs f (!q) r _ (by omega)]
        cases q <;> rfl
      · rw [if_neg h2]
        by_cases h3 : c = sep ∧ q = false
        · obtain ⟨rfl, rfl⟩ := h3
          rw [if_pos ⟨rfl, rfl⟩, if_pos ⟨rfl, rfl⟩]
          show acc :: cutF c f false r [] = acc :: cutF c r.length false r []
          rw [cutF_fuel f r.length false r [] (by omega) (Nat.le_refl _)]
        · rw [if_neg h3]
          have e : stepQ (qS q) c = qS q := by
            unfold stepQ
            cases q
            · show (if (0 : Nat) = 0 then _ else _) = _
              rw [if_pos rfl, if_neg h2]; rfl
            · show (if (1 : Nat) = 0 then _ else if (1 : Nat) = 1 then _ else _) = _
              rw [if_neg (by decide), if_pos rfl, if_neg h2, if_neg (fun h => h1 ⟨rfl, h⟩)]; rfl
          have n : ¬ (qS q = 0 ∧ c = sep) := by
            rintro ⟨h5, h6⟩
            cases q
            · exact h3 ⟨h6, rfl⟩
            · exact absurd h5 (by decide)
          rw [if_neg n, e, cut_pc hs f q r _ (by omega)]
theorem cutL_pc {sep : UInt8} (hs : sep ≠ 34) (l : List UInt8) : cutL sep l = (pcL sep l).1 :: moreL sep (pcL sep l).2.2 (pcL sep l).2.1 := cut_pc hs l.length false l [] (Nat.le_refl _)
/-- the steps, by places -/
def pcAt (sep : UInt8) (s : Nat) (l : List UInt8) (k : Nat) : List UInt8 × List UInt8 × Bool := pcF sep s (l.drop k) (l.take k)
theorem pc_start (sep : UInt8) (l : List UInt8) : pcL sep l = pcAt sep 0 l 0 := by unfold pcL pcAt; simp
theorem pc_end {sep : UInt8} {s : Nat} {l : List UInt8} {k : Nat} (h : l.length ≤ k) : pcAt sep s l k = (l, [], false) := by
  unfold pcAt; rw [List.drop_of_length_le h, List.take_of_length_le h]; rfl
theorem pc_sep {sep : UInt8} {l : List UInt8} {k : Nat} (hk : k < l.length) (h : l[k] = sep) : pcAt sep 0 l k = (l.take k, l.drop (k + 1), true) := by
  unfold pcAt; rw [List.drop_eq_getElem_cons hk, pcF_cons, if_pos ⟨rfl, h⟩]
theorem pc_step {sep : UInt8} {s : Nat} {l : List UInt8} {k : Nat} (hk : k < l.length) (h : ¬ (s = 0 ∧ l[k] = sep)) : pcAt sep s l k = pcAt sep (stepQ s l[k]) l (k + 1) := by
  unfold pcAt
  rw [List.drop_eq_getElem_cons hk, pcF_cons, if_neg h, List.take_add_one, List.getElem?_eq_getElem hk]; rfl
theorem stepQ_le (s : Nat) (c : UInt8) : stepQ s c ≤ 2 := by unfold stepQ; repeat' split <;> try omega
/-- sizes -/
theorem pcF_size (sep : UInt8) : ∀ (l : List UInt8) (s : Nat) (acc : List UInt8), (pcF sep s l acc).1.length + (pcF sep s l acc).2.1.length ≤ acc.length + l.length ∧ ((pcF sep s l acc).2.2 = true → (pcF sep s l acc).2.1.length < l.length)
  | [], s, acc => ⟨by simp [pcF], fun h => by simp [pcF] at h⟩
  | c :: r, s, acc => by
    rw [pcF_cons]
    split
    · refine ⟨by simp only [List.length_cons]; omega, fun _ => by simp⟩
    · obtain ⟨h1, h2⟩ := pcF_size sep r (stepQ s c) (acc ++ [c])
      simp only [List.length_append, List.length_cons, List.length_nil] at h1 ⊢
      exact ⟨by omega, fun h => by have := h2 h; omega⟩
/-- the members of a value behind others, as long as there is room -/
def addL (A : List (List UInt8)) (ps : List (List UInt8)) : List (List UInt8) := (A ++ memL ps).take 64
theorem addL_nil {A : List (List UInt8)} (h : A.length ≤ 64) : addL A [] = A := by unfold addL memL; simp [List.take_of_length_le h]
theorem addL_full {A ps : List (List UInt8)} (h : A.length = 64) : addL A ps = A := by
  unfold addL; rw [List.take_append_of_le_length (by omega), List.take_of_length_le (by omega)]
theorem memL_cons (p : List UInt8) (ps : List (List UInt8)) : memL (p :: ps) = (if trimL p = [] then [] else [trimL p]) ++ memL ps := by
  rw [show p :: ps = [p] ++ ps from rfl, memL_append]
  congr 1
  split
  · rename_i e; unfold memL; simp [e]
  · rename_i e; exact memL_one e
theorem addL_blank {A ps : List (List UInt8)} {p : List UInt8} (h : trimL p = []) : addL A (p :: ps) = addL A ps := by unfold addL; rw [memL_cons, if_pos h, List.nil_append]
theorem addL_more {A ps : List (List UInt8)} {p : List UInt8} (h : trimL p ≠ []) : addL A (p :: ps) = addL (A ++ [trimL p]) ps := by unfold addL; rw [memL_cons, if_neg h, List.append_assoc]
theorem addL_all {vs : List ByteArray} {k : Nat} (h : k < vs.length) : (allF (vs.take (k + 1))).take 64 = addL ((allF (vs.take k)).take 64) (cutL 44 vs[k].data.toList) := by
  rw [allF_more h]
  unfold addL splitL
  generalize (allF (vs.take k)).take 64 = X
  rw [List.take_append, List.take_append, List.take_take]
  congr 2
  omega
end
section
open Go.RowKit
def cutsB (sep : UInt8) (l : List UInt8) : List ByteArray := (cutL sep l).map bs
def CutRel (s : ByteArray) (sep : UInt8) (w : World) (v fr q i : Value) (wr : World) : Prop :=
  ∃ (k n : Nat) (b : Bool) (o : List (List UInt8)), i = .int .i64 k ∧ fr = .int .i64 n ∧ q = .bool b ∧ n ≤ k ∧ n ≤ s.size ∧ k ≤ s.size + 1 ∧ o.length ≤ n ∧ cutL sep s.data.toList = o ++ cutAt sep s.data.toList b k n ∧ OwnS wr w.heap.size v (o.map bs) ∧ Below w.heap.size w wr
theorem byte_is {c d : UInt8} (h : ((c.toNat : Int) == (d.toNat : Int)) = true) : c = d := by
  have : (c.toNat : Int) = d.toNat := by simpa using h
  exact UInt8.toNat_inj.mp (by omega)
theorem byte_no {c d : UInt8} (h : ((c.toNat : Int) == (d.toNat : Int)) = false) : c ≠ d := by
  rintro rfl
  simp at h
set_option maxHeartbeats 4000000 in
theorem rCut_any (s : ByteArray) (sep : UInt8) (w : World) (hs : s.size ≤ 65000) :
    Calls Tryz.prog 107 #[.string s, .int .u8 (sep.toNat : Int)] w fun e w' => ∃ v, e = .returned v ∧ OwnS w' w.heap.size v (cutsB sep s.data.toList) ∧ Below w.heap.size w w' := by
  have hz : s.data.toList.length = s.size := by simp
  go_enter Tryz.func107, Tryz.ntmps107
  go_wp2
  go_loopw [5, 6, 7, 8] (fun v fr q i wr => CutRel s sep w v fr q i wr) (fun _ _ _ i _ => s.size + 1 - (intOf i).toNat)
  case atStart => exact ⟨0, 0, false, [], rfl, rfl, rfl, Nat.le_refl _, Nat.zero_le _, Nat.zero_le _, Nat.le_refl _, by rw [cut_start]; rfl, OwnS.nil _ _, Below.refl _ _⟩
  case round =>
    obtain ⟨k, n, b, o, rfl, rfl, rfl, hnk, hns, hk1, hol, hC, hO, hbel⟩ := hrel
    have HC := box hC
    have O0 := box hO
    have BL := box hbel
    have hBw := hbel.size
    clear hC hO hbel
    by_cases hlt : k < s.size
    · have hlt' : k < s.data.toList.length := by rw [hz]; exact hlt
      have hbk : s.data.toList[k] = s[k] := rfl
      rcases hc34 : ((s[k].toNat : Int) == 34) with _ | _
      · have n34 : s.data.toList[k] ≠ 34 := by rw [hbk]; exact byte_no (d := 34) hc34
        rcases b with _ | _
        · rcases hcs : ((s[k].toNat : Int) == (sep.toNat : Int)) with _ | _
          · have HX := box (HC.out.trans (congrArg (o ++ ·) (cut_any hlt' hnk (by simp) n34 (fun h => byte_no hcs h.1))))
            clear hbk n34
            go_wp2
            go_roundw
            case rel => exact ⟨k + 1, n, false, o, by go_num, rfl, rfl, by omega, hns, by omega, hol, HX.out, O0.out, BL.out⟩
            case measure => simp [intOf]; omega
          · have HX : Box (cutL sep s.data.toList = (o ++ [(s.extract n k).data.toList]) ++ cutAt sep s.data.toList false (k + 1) (k + 1)) := box (by
              rw [HC.out, cut_sep hlt' n34 (byte_is hcs), ext_bs, List.append_assoc]; rfl)
            have hol6 : (o.map bs).length ≤ 65536 := by rw [List.length_map]; omega
            clear hbk n34
            go_wp2_with (at_builtin; refine wpList_append_str _ rfl (.tmp 42) (.tmp 47) rfl w.heap.size _ (o.map bs) rfl (own_below O0.out (below_new _ _)) _ _ rfl (s.extract n k) (by go_simp) hol6 (by simp; omega) ?_; intro v3 w3 hO3 hb3; have O3 := box hO3; have B3 := box ((BL.out.alloc hBw _).trans hb3); clear hO3 hb3)
            go_roundw
            case rel => exact ⟨k + 1, k + 1, false, o ++ [(s.extract n k).data.toList], by go_num, by go_num, rfl, Nat.le_refl _, by omega, by omega, by simp; omega, HX.out, by rw [List.map_append]; exact O3.out, B3.out⟩
            case measure => simp [intOf]; omega
        · rcases hc92 : ((s[k].toNat : Int) == 92) with _ | _
          · have HX := box (HC.out.trans (congrArg (o ++ ·) (cut_any hlt' hnk (fun h => byte_no (d := 92) hc92 h.2) n34 (by simp))))
            rcases hcs : ((s[k].toNat : Int) == (sep.toNat : Int)) with _ | _
            all_goals
              clear hbk n34
              go_wp2
              go_roundw
              case rel => exact ⟨k + 1, n, true, o, by go_num, rfl, rfl, by omega, hns, by omega, hol, HX.out, O0.out, BL.out⟩
              case measure => simp [intOf]; omega
          · have HX := box (HC.out.trans (congrArg (o ++ ·) (cut_esc hlt' hnk (byte_is (d := 92) hc92))))
            clear hbk n34
            go_wp2
            go_roundw
            case rel => exact ⟨k + 2, n, true, o, by go_num, rfl, rfl, by omega, hns, by omega, hol, HX.out, O0.out, BL.out⟩
            case measure => simp [intOf]; omega
      · have e34 : s.data.toList[k] = 34 := by rw [hbk]; exact byte_is (d := 34) hc34
        have hn92 : ¬ s.data.toList[k] = 92 := by rw [e34]; decide
        have hc92 : ((s[k].toNat : Int) == 92) = false := by rw [← hbk, e34]; rfl
        have HX := box (HC.out.trans (congrArg (o ++ ·) (cut_quo hlt' hnk (fun h => hn92 h.2) e34)))
        clear hbk e34 hn92
        rcases b with _ | _
        all_goals
          go_wp2
          go_roundw
          case rel => exact ⟨k + 1, n, _, o, by go_num, rfl, rfl, by omega, hns, by omega, hol, HX.out, O0.out, BL.out⟩
          case measure => simp [intOf]; omega
    · have HX : Box (cutsB sep s.data.toList = o.map bs ++ [s.extract n s.size]) := box (by
        unfold cutsB; rw [HC.out, cut_out (by rw [hz]; omega), List.map_append, List.map_cons, List.map_nil, ext_bs, List.take_of_length_le (by rw [hz]; exact Nat.le_refl _)])
      have hol6 : (o.map bs).length ≤ 65536 := by rw [List.length_map]; omega
      go_wp2_with (at_builtin; refine wpList_append_str _ rfl (.tmp 51) (.tmp 55) rfl w.heap.size _ (o.map bs) rfl (own_below O0.out (below_new _ _)) _ _ rfl (s.extract n s.size) (by go_simp) hol6 (by simp; omega) ?_; intro v3 w3 hO3 hb3; have O3 := box hO3; have B3 := box ((BL.out.alloc hBw _).trans hb3); clear hO3 hb3)
      go_ret
      exact ⟨_, rfl, by rw [HX.out]; exact O3.out, B3.out⟩
end
section
open Go.RowKit
theorem ret_str {a b : ByteArray} (h : a = b) : Ending.returned (.string a) = .returned (.string b) := by rw [h]
theorem str_ext {a : ByteArray} {l : List UInt8} (h : a.data.toList = l) : a = ⟨l.toArray⟩ := by
  subst h; rfl
theorem extract_list (s : ByteArray) (i j : Nat) : (s.extract i j).data.toList = (s.data.toList.take j).drop i := by
  rw [ByteArray.data_extract, Array.toList_extract, List.extract_eq_take_drop, List.drop_take]
theorem blank_at {s : ByteArray} {k : Nat} {b : Bool} (hk : k < s.size) (h : blankB (s.data.toList.getD k 0) = b) : blankI (s[k].toNat) = b := by
  rw [getD_at s k hk] at h; exact h
theorem blank_drop {t : ByteArray} {l : List UInt8} {k : Nat} {b : Bool} (ht : t.data.toList = l.drop k) (h0 : 0 < t.size) (h : blankB (l.getD k 0) = b) : blankI (t[0].toNat) = b := by
  refine blank_at (s := t) (k := 0) h0 ?_
  rw [ht]; rw [← h]; simp [List.getD_eq_getElem?_getD, List.getElem?_drop]
theorem blank_last {t : ByteArray} {l : List UInt8} {k e : Nat} {b : Bool} (ht : t.data.toList = (l.take e).drop k) (hl : t.size - 1 < t.size) (hsz : t.size = e - k) (h : blankB (l.getD (e - 1) 0) = b) : blankI (t[t.size - 1].toNat) = b := by
  refine blank_at (s := t) (k := t.size - 1) hl ?_
  rw [ht, ← h]
  simp only [List.getD_eq_getElem?_getD, List.getElem?_drop]
  rw [List.getElem?_take_of_lt (by omega), show k + (t.size - 1) = e - 1 by omega]
theorem list_size {t : ByteArray} {l : List UInt8} (h : t.data.toList = l) : t.size = l.length := by subst h; simp
set_option maxHeartbeats 800000 in
theorem Trim_any (s : ByteArray) (w : World) (hs : s.size ≤ maxLen) :
    Calls Tryz.prog 92 #[.string s] w fun e w' => e = .returned (.string ⟨(trimL s.data.toList).toArray⟩) ∧ w = w' := by
  unfold maxLen at hs
  obtain ⟨k0, e0, ht⟩ := ex_trim s.data.toList
  have HR : Hid (s.extract k0 e0 = ⟨(trimL s.data.toList).toArray⟩) := Lib.hid (str_ext (by rw [extract_list, trim_at ht]))
  obtain ⟨h1, h2, h3, h4, h5, h6⟩ := ht
  have hz : s.data.toList.length = s.size := by simp
  rw [hz] at h2
  have H3 := Lib.hid h3
  have H4 := Lib.hid h4
  have H5 := Lib.hid h5
  have H6 := Lib.hid h6
  clear h3 h4 h5 h6 hz
  go_enter Tryz.func92, Tryz.ntmps92
  go_wp2
  go_loop [3] (fun i => ∃ k : Nat, k ≤ k0 ∧ i = .int .i64 k) (fun i => s.size - (intOf i).toNat)
  case atStart => exact ⟨0, Nat.zero_le _, rfl⟩
  case round =>
    obtain ⟨k, hk, rfl⟩ := hrel
    by_cases hlt : k < k0
    · have hks : k < s.size := by omega
      have hb := byte_bd s k hks
      have hbl := blank_at hks (H3.out k hlt)
      go_wp2_with (go_at_call 120; refine (isBlank_any _ _).mono ?_; rintro e w' ⟨rfl, rfl⟩)
      go_round
      case rel => exact ⟨k + 1, by omega, by go_num⟩
      case measure => simp [intOf]; omega
    · obtain rfl : k = k0 := by omega
      by_cases hks : k < s.size
      · have hbl := blank_at hks (H5.out (by simpa using hks))
        go_wp2_with (go_at_call 120; refine (isBlank_any _ _).mono ?_; rintro e w' ⟨rfl, rfl⟩)
        go_loop [4] (fun j => ∃ e : Nat, e0 ≤ e ∧ e ≤ s.size ∧ j = .int .i64 e) (fun j => (intOf j).toNat)
        case atStart => exact ⟨s.size, h2, Nat.le_refl _, rfl⟩
        case round =>
          obtain ⟨e, he, hes, rfl⟩ := hrel
          by_cases hle : e0 < e
          · have hq : e - 1 < s.size := by omega
            have hbe := blank_at hq (H4.out (e - 1) (by omega) (by simpa using hq))
            go_wp2_with (go_at_call 120; refine (isBlank_any _ _).mono ?_; rintro e w' ⟨rfl, rfl⟩)
            go_round
            case rel => exact ⟨e - 1, by omega, by omega, by go_num⟩
            case measure => simp [intOf]; omega
          · obtain rfl : e = e0 := by omega
            by_cases hke : k < e
            · have hq : e - 1 < s.size := by omega
              have hbe := blank_at hq (H6.out hke)
              go_wp2_with (go_at_call 120; refine (isBlank_any _ _).mono ?_; rintro e w' ⟨rfl, rfl⟩)
              go_ret
              exact ⟨ret_str HR.out, rfl⟩
            · go_wp2
              go_ret
              exact ⟨ret_str HR.out, rfl⟩
      · go_wp2
        go_loop [4] (fun j => ∃ e : Nat, e0 ≤ e ∧ e ≤ s.size ∧ j = .int .i64 e) (fun j => (intOf j).toNat)
        case atStart => exact ⟨s.size, h2, Nat.le_refl _, rfl⟩
        case round =>
          obtain ⟨e, he, hes, rfl⟩ := hrel
          by_cases hle : e0 < e
          · exfalso; omega
          · obtain rfl : e = e0 := by omega
            by_cases hke : k < e
            · exfalso; omega
            · go_wp2
              go_ret
              exact ⟨ret_str HR.out, rfl⟩
set_option maxHeartbeats 800000 in
theorem rTrim_any (s : ByteArray) (w : World) (hs : s.size ≤ maxLen) :
    Calls Tryz.prog 108 #[.string s] w fun e w' => e = .returned (.string ⟨(trimL s.data.toList).toArray⟩) ∧ w = w' := by
  unfold maxLen at hs
  obtain ⟨k0, e0, ht⟩ := ex_trim s.data.toList
  have HR := Lib.hid (trim_at ht)
  obtain ⟨h1, h2, h3, h4, h5, h6⟩ := ht
  have hz : s.data.toList.length = s.size := by simp
  rw [hz] at h2
  have H3 := Lib.hid h3
  have H4 := Lib.hid h4
  have H5 := Lib.hid h5
  have H6 := Lib.hid h6
  clear h3 h4 h5 h6 hz
  go_enter Tryz.func108, Tryz.ntmps108
  go_wp2
  go_loop [0] (fun i => ∃ (t : ByteArray) (k : Nat), k ≤ k0 ∧ i = .string t ∧ Hid (t.data.toList = s.data.toList.drop k) ∧ Hid (t.size = s.size - k)) (fun i => match i with | .string t => t.size | _ => 0)
  case atStart => exact ⟨s, 0, Nat.zero_le _, rfl, Lib.hid (by simp), Lib.hid (by simp)⟩
  case round =>
    obtain ⟨t, k, hk, rfl, HT, HZ⟩ := hrel
    by_cases hlt : k < k0
    · have h0 : 0 < t.size := by have := HZ.out; omega
      have hle : t.size ≤ s.size := by have := HZ.out; omega
      have hbl := blank_drop HT.out h0 (H3.out k hlt)
      have hb := byte_bd t 0 h0
      go_wp2_with (go_at_call 128; refine (rblank_any _ _).mono ?_; rintro e w' ⟨rfl, rfl⟩)
      go_round
      case rel =>
        have e1 : (t.extract 1 t.size).data.toList = s.data.toList.drop (k + 1) := by
          rw [extract_list, List.take_of_length_le (by simp), HT.out, List.drop_drop]
        exact ⟨_, k + 1, by omega, rfl, Lib.hid e1, Lib.hid (by rw [list_size e1]; simp)⟩
      case measure => simp; omega
    · obtain rfl : k = k0 := by omega
      by_cases hks : k < s.size
      · have h0 : 0 < t.size := by have := HZ.out; omega
        have hle : t.size ≤ s.size := by have := HZ.out; omega
        have hbl := blank_drop HT.out h0 (H5.out (by simpa using hks))
        go_wp2_with (go_at_call 128; refine (rblank_any _ _).mono ?_; rintro e w' ⟨rfl, rfl⟩)
        go_loop [0] (fun i => ∃ (t : ByteArray) (e : Nat), e0 ≤ e ∧ e ≤ s.size ∧ i = .string t ∧ Hid (t.data.toList = (s.data.toList.take e).drop k) ∧ Hid (t.size = e - k)) (fun i => match i with | .string t => t.size | _ => 0)
        case atStart => exact ⟨t, s.size, h2, Nat.le_refl _, rfl, Lib.hid (by rw [List.take_of_length_le (by simp)]; exact HT.out), HZ⟩
        case round =>
          obtain ⟨t, e, he, hes, rfl, HT, HZ⟩ := hrel
          by_cases hle : e0 < e
          · have h0 : 0 < t.size := by have := HZ.out; omega
            have hl : t.size - 1 < t.size := by omega
            have hsz : t.size ≤ s.size := by have := HZ.out; omega
            have hbl := blank_last HT.out hl HZ.out (H4.out (e - 1) (by omega) (by simp; omega))
            have e1 : (t.extract 0 (t.size - 1)).data.toList = (s.data.toList.take (e - 1)).drop k := by
              rw [extract_list, HT.out, List.drop_zero, HZ.out, show e - k - 1 = e - 1 - k by omega, ← List.drop_take, List.take_take, Nat.min_eq_left (by omega)]
            have E1 := Lib.hid e1
            have E2 : Hid ((t.extract 0 (t.size - 1)).size = e - 1 - k) := Lib.hid (by rw [list_size e1]; simp; omega)
            clear e1
            go_wp2_with (go_at_call 128; refine (rblank_any _ _).mono ?_; rintro e w' ⟨rfl, rfl⟩)
            go_round
            case rel => exact ⟨_, e - 1, by omega, by omega, rfl, E1, E2⟩
            case measure => simp; omega
          · obtain rfl : e = e0 := by omega
            have hsz : t.size ≤ s.size := by have := HZ.out; omega
            have HF : Hid (t = ⟨(trimL s.data.toList).toArray⟩) := Lib.hid (str_ext (by rw [HT.out, HR.out]))
            by_cases hke : k < e
            · have h0 : 0 < t.size := by have := HZ.out; omega
              have hl : t.size - 1 < t.size := by omega
              have hbl := blank_last HT.out hl HZ.out (H6.out hke)
              go_wp2_with (go_at_call 128; refine (rblank_any _ _).mono ?_; rintro e w' ⟨rfl, rfl⟩)
              go_ret
              exact ⟨ret_str HF.out, rfl⟩
            · have h0 : t.size = 0 := by have := HZ.out; omega
              go_wp2
              go_ret
              exact ⟨ret_str HF.out, rfl⟩
      · have h0 : t.size = 0 := by have := HZ.out; omega
        go_wp2
        go_loop [0] (fun i => ∃ (t : ByteArray) (e : Nat), e0 ≤ e ∧ e ≤ s.size ∧ i = .string t ∧ Hid (t.data.toList = (s.data.toList.take e).drop k) ∧ Hid (t.size = e - k)) (fun i => match i with | .string t => t.size | _ => 0)
        case atStart => exact ⟨t, s.size, h2, Nat.le_refl _, rfl, Lib.hid (by rw [List.take_of_length_le (by simp)]; exact HT.out), HZ⟩
        case round =>
          obtain ⟨t, e, he, hes, rfl, HT, HZ⟩ := hrel
          by_cases hle : e0 < e
          · exfalso; omega
          · obtain rfl : e = e0 := by omega
            have hsz : t.size ≤ s.size := by have := HZ.out; omega
            have HF : Hid (t = ⟨(trimL s.data.toList).toArray⟩) := Lib.hid (str_ext (by rw [HT.out, HR.out]))
            by_cases hke : k < e
            · exfalso; omega
            · have h0 : t.size = 0 := by have := HZ.out; omega
              go_wp2
              go_ret
              exact ⟨ret_str HF.out, rfl⟩
end
section
open Go.RowKit
def splitB (l : List UInt8) : List ByteArray := (splitL l).map bs
theorem rTrim_is {s x : ByteArray} {w : World} (hs : s.size ≤ maxLen) (h : Box (bs (trimL s.data.toList) = x)) :
    Calls Tryz.prog 108 #[.string s] w fun e w' => e = .returned (.string x) ∧ w = w' :=
  (rTrim_any s w hs).mono fun e w' ⟨h1, h2⟩ => ⟨by rw [h1, ← h.out]; rfl, by first | exact h2 | exact h2.symm⟩
def SplRel (ps : List (List UInt8)) (B : Nat) (w : World) (v i : Value) (wr : World) : Prop :=
  ∃ k : Nat, i = .int .i64 k ∧ k ≤ ps.length ∧ (memL (ps.take k)).length ≤ 64 ∧ OwnS wr B v ((memL (ps.take k)).map bs) ∧ Below w.heap.size w wr
set_option maxHeartbeats 4000000 in
theorem rSplit_any (s : ByteArray) (w : World) (hs : s.size ≤ 65000) :
    Calls Tryz.prog 72 #[.string s] w fun e w' => ∃ v, e = .returned v ∧ OwnS w' w.heap.size v (splitB s.data.toList) ∧ Below w.heap.size w w' := by
  have hz : s.data.toList.length = s.size := by simp
  obtain ⟨ps, hps⟩ : ∃ ps, cutL 44 s.data.toList = ps := ⟨_, rfl⟩
  have HSP : Box (splitB s.data.toList = ((memL ps).take 64).map bs) := box (by unfold splitB splitL; rw [hps])
  have hcnt : ps.length ≤ 65536 := by
    have := cut_count (sep := 44) s.data.toList.length false s.data.toList []
    rw [← hps]; unfold cutL; omega
  have hsm : Box (∀ p ∈ ps, p.length ≤ 65536) := box (fun p hp => by
    rw [← hps] at hp
    have := cut_small _ _ _ _ p hp
    simp at this; omega)
  have HCB : Box (cutsB 44 s.data.toList = ps.map bs) := box (by unfold cutsB; rw [hps])
  clear hps hz
  go_enter Tryz.func72, Tryz.ntmps72
  go_wp2_with fail
  refine (rCut_any s 44 _ hs).mono ?_; rintro e w1 ⟨v1, rfl, hO1, hb1⟩
  rw [HCB.out] at hO1
  obtain ⟨a1, cap1, rfl, hS1, hc1⟩ := hO1.ss
  rw [List.length_map] at hc1 ⊢
  have S1 := box hS1
  have B1 := box hb1
  have hB1 := hb1.size
  clear hO1 hS1 hb1
  go_wp2
  go_loopw [3, 5] (fun v i wr => SplRel ps w1.heap.size w1 v i wr) (fun _ i _ => ps.length - (intOf i).toNat)
  case atStart => exact ⟨0, rfl, Nat.zero_le _, Nat.zero_le _, OwnS.nil _ _, Below.refl _ _⟩
  case round =>
    obtain ⟨k, rfl, hk, h64, hO, hbel⟩ := hrel
    obtain ⟨M, hM⟩ : ∃ M, (memL (ps.take k)) = M := ⟨_, rfl⟩
    rw [hM] at h64 hO
    have HM := box hM
    obtain ⟨av, cv, rfl, _, _⟩ := hO.ss
    rw [List.length_map] at hO ⊢
    have O0 := box hO
    have BL := box hbel
    have hBw := hbel.size
    clear hO hbel hM
    by_cases hlt : k < ps.length
    · by_cases hm : M.length = 64
      · have hmi : ¬ (M.length : Int) < 64 := by omega
        have HF : Box ((memL ps).take 64 = M) := box (by rw [mem_full (by rw [HM.out]; exact hm), HM.out])
        clear hm
        go_wp2
        go_ret
        refine ⟨_, rfl, ?_, B1.out.trans (BL.out.mono hB1)⟩
        rw [HSP.out, HF.out]
        exact Go.Joins.ownsRow_le O0.out hB1
      · have hmi : (M.length : Int) < 64 := by omega
        obtain ⟨q, off, rfl, c0⟩ := (S1.out.below BL.out) k (by rw [List.length_map]; exact hlt)
        rw [List.getElem_map] at c0
        have hpz : (bs ps[k]).size ≤ maxLen := by
          rw [bs_size]; have := hsm.out ps[k] (List.getElem_mem hlt); unfold maxLen; omega
        by_cases ht : trimL ps[k] = []
        · have HT : Box (bs (trimL (bs ps[k]).data.toList) = ⟨#[]⟩) := box (by rw [bs_toList, ht]; rfl)
          have HN : Box (memL (ps.take (k + 1)) = M) := box (by rw [mem_more hlt, if_pos ht, List.append_nil, HM.out])
          go_wp2_with fail
          refine (rTrim_is hpz HT).mono ?_; rintro e w2 ⟨rfl, rfl⟩
          go_wp2
          go_roundw
          case rel => exact ⟨k + 1, by go_num, by omega, by rw [HN.out]; exact h64, by rw [HN.out]; exact O0.out, BL.out⟩
          case measure => simp [intOf]; omega
        · obtain ⟨x, hx⟩ : ∃ x, bs (trimL ps[k]) = x := ⟨_, rfl⟩
          have HT : Box (bs (trimL (bs ps[k]).data.toList) = x) := box (by rw [bs_toList, hx])
          have hxe : x.toList.isEmpty = false := by
            rw [← hx, toList_bs]
            cases h : trimL ps[k] with
            | nil => exact absurd h ht
            | cons c r => rfl
          have HN : Box ((memL (ps.take (k + 1))).map bs = M.map bs ++ [x]) := box (by rw [mem_more hlt, if_neg ht, HM.out, List.map_append, List.map_cons, List.map_nil, hx])
          have HL : Box ((memL (ps.take (k + 1))).length ≤ 64) := box (by rw [mem_more hlt, if_neg ht, HM.out, List.length_append]; simp; omega)
          have hm6 : Box ((M.map bs).length ≤ 65536) := box (by rw [List.length_map]; omega)
          clear hx
          go_wp2_with fail
          refine (rTrim_is hpz HT).mono ?_; rintro e w2 ⟨rfl, rfl⟩
          go_wp2_with (at_builtin; refine wpList_append_str _ rfl (.tmp 27) (.tmp 29) rfl w1.heap.size _ (M.map bs) rfl ?a1 _ _ rfl x ?b1 ?c1 ?d1 ?_)
          case a1 => exact own_below O0.out (below_new _ _)
          case b1 => go_simp
          case c1 => exact hm6.out
          case d1 => simp; omega
          intro v3 w3 hO3 hb3
          have O3 := box hO3
          have B3 := box ((BL.out.alloc BL.out.size _).trans hb3)
          clear hO3 hb3
          go_wp2
          go_roundw
          case rel => exact ⟨k + 1, by go_num, by omega, HL.out, by rw [HN.out]; exact O3.out, B3.out⟩
          case measure => simp [intOf]; omega
    · have HF : Box ((memL ps).take 64 = M) := box (by rw [mem_end (k := k) (by omega) (by rw [HM.out]; exact h64), HM.out])
      go_wp2
      go_ret
      refine ⟨_, rfl, ?_, B1.out.trans (BL.out.mono hB1)⟩
      rw [HSP.out, HF.out]
      exact Go.Joins.ownsRow_le O0.out hB1
end
section
open Go.RowKit
def allB (nm : ByteArray) (L : List F) : List ByteArray := (allL nm L).map bs
/-- the first k members more, as long as there is room -/
theorem room_more {A M : List (List UInt8)} {k : Nat} (h : k < M.length) (hl : ((A ++ M.take k).take 64).length < 64) : (A ++ M.take (k + 1)).take 64 = (A ++ M.take k).take 64 ++ [M[k]] := by
  have h1 : (A ++ M.take k).length < 64 := by rw [List.length_take] at hl; omega
  have e : M.take (k + 1) = M.take k ++ [M[k]] := by rw [List.take_add_one, List.getElem?_eq_getElem h]; rfl
  rw [e, ← List.append_assoc, List.take_of_length_le (l := A ++ M.take k) (by omega), List.take_of_length_le (by rw [List.length_append]; simp only [List.length_cons, List.length_nil]; omega)]
theorem room_full {A M : List (List UInt8)} {k : Nat} (hl : ((A ++ M.take k).take 64).length = 64) : (A ++ M).take 64 = (A ++ M.take k).take 64 := by
  have h1 : 64 ≤ (A ++ M.take k).length := by rw [List.length_take] at hl; omega
  have e : A ++ M = (A ++ M.take k) ++ M.drop k := by rw [List.append_assoc, List.take_append_drop]
  rw [e, List.take_append_of_le_length h1]
def AllRel (vs : List ByteArray) (B : Nat) (w : World) (v i : Value) (wr : World) : Prop :=
  ∃ k : Nat, i = .int .i64 k ∧ k ≤ vs.length ∧ OwnS wr B v (((allF (vs.take k)).take 64).map bs) ∧ Below w.heap.size w wr
/-- a list of strings of the call's own, whose block does not lie from lo on below hi; what lies there stays -/
def OwnX (w : World) (B lo hi : Nat) (v : Value) (L : List ByteArray) : Prop := OwnS w B v L ∧ ∀ k, v.ownBlock = some k → k < lo ∨ hi ≤ k
def Mid (lo hi : Nat) (w w' : World) : Prop := ∀ k, lo ≤ k → k < hi → w'.heap[k]? = w.heap[k]?
theorem wpList_append_strX (w : World) {ops : Array Oper} {rest : List Oper} {o : Oper} {a : Act} {Q : Exit → Act → World → Prop} (hgd : o.guard = none) (s x : Operand)
    (ho : o.op = .call { callee := .builtin .append, args := #[s, x], argTypes := #[38, 38] })
    (B lo hi : Nat) (v : Value) (L : List ByteArray) (hs : a.eval s = v) (hown : OwnX w B lo hi v L)
    (g : Nat) (c : Nat) (hx : a.eval x = .slice (some ⟨g, 0, none⟩) 1 c) (u : ByteArray) (h0 : w.cell? ⟨g, 0, none⟩ = some (.string u)) (hl : L.length ≤ 65536) (hB : B ≤ w.heap.size) (hhi : hi ≤ w.heap.size)
    (h : ∀ v' w', OwnX w' B lo hi v' (L ++ [u]) → Below B w w' → Mid lo hi w w' → wpList Tryz.prog ops Q rest (a.put o.dst v') w') : wpList Tryz.prog ops Q (o :: rest) a w := by
  obtain ⟨i0, hi0, hz0, hz1, hz2⟩ := info_parts info_str
  refine wpList_append_lies (P := Tryz.prog) w hgd s x 38 ho B 9 i0 _ 1 16 Tryz.underlying38 hi0 hz0 hz1 hz2 rfl (by decide) v L.length (L.map Value.string) hs hown.1 ⟨g, 0, none⟩ 1 c [.string u] hx rfl ?_ ?_ (by omega) (by unfold maxLen; omega) (by omega) hB _ rfl ?_
  · intro j u hj
    match j, hj with
    | 0, hj => simp at hj; subst hj; simpa [Addr.add] using h0
  · intro u hu; simp at hu; subst hu; rfl
  · intro g' cap w' q1 q2 q3 _
    refine h _ w' ⟨by simpa [OwnS] using q1, fun k hk => ?_⟩ ((Below.refl _ _).grown q2 hB (fun k hk => own_block hown.1 k hk)) (fun k h1 h2 => q2.block k (by omega) (fun e => ?_))
    · simp [Value.ownBlock] at hk
      subst hk
      rcases q3 with q3 | q3
      · exact hown.2 _ q3
      · right; omega
    · rcases hown.2 k e.symm with q | q <;> omega
def InRel (A M : List (List UInt8)) (B lo hi : Nat) (w : World) (v i : Value) (wr : World) : Prop :=
  ∃ k : Nat, i = .int .i64 k ∧ k ≤ M.length ∧ OwnX wr B lo hi v (((A ++ M.take k).take 64).map bs) ∧ Below B w wr ∧ Mid lo hi w wr
set_option maxHeartbeats 4000000 in
theorem rAll_any (a : Option Addr) (cap : Nat) (L : List F) (nm : ByteArray) (w : World) (S : Box (Sm L)) (hv : Box (∀ x ∈ getL nm L, x.size ≤ 65000)) (M : Box (nm.size ≤ 65536)) (hF : Box (Fs w a L)) :
    Calls Tryz.prog 43 #[.slice a L.length cap, .string nm] w fun e w' => ∃ v, e = .returned v ∧ OwnS w' w.heap.size v (allB nm L) ∧ Below w.heap.size w w' := by
  obtain ⟨vs, hvs⟩ : ∃ vs, getL nm L = vs := ⟨_, rfl⟩
  have HVS := box hvs
  have HAL : Box (allB nm L = ((allF vs).take 64).map bs) := box (by unfold allB allL; rw [hvs])
  have hvl : vs.length ≤ 65536 := by
    have := get_le (nm := nm) (L := L) (k := L.length)
    rw [List.take_length, hvs] at this
    have := S.out.1; omega
  rw [hvs] at hv
  clear hvs
  have hl := S.out.1
  go_enter Tryz.func43, Tryz.ntmps43
  go_wp2_with fail
  refine (rGet_any a cap L nm _ hl S M hF).mono ?_; rintro e w1 ⟨v1, rfl, hO1, hb1⟩
  rw [HVS.out] at hO1
  obtain ⟨a1, cap1, rfl, hS1, hc1⟩ := hO1.ss
  have S1 := box hS1
  have B1 := box hb1
  have hB1 := hb1.size
  clear hO1 hS1 hb1
  go_wp2
  go_loopw [5, 7] (fun v i wr => AllRel vs w1.heap.size w1 v i wr) (fun _ i _ => vs.length - (intOf i).toNat)
  case atStart => exact ⟨0, rfl, Nat.zero_le _, OwnS.nil _ _, Below.refl _ _⟩
  case round =>
    obtain ⟨wo, rfl⟩ : ∃ wo, wo = wr := ⟨_, rfl⟩
    obtain ⟨k, rfl, hk, hO, hbel⟩ := hrel
    have O0 := box hO
    have BL := box hbel
    have hBw := hbel.size
    clear hO hbel
    by_cases hlt : k < vs.length
    · obtain ⟨q, off, rfl, c0⟩ := (S1.out.below BL.out) k hlt
      have hxz := hv.out vs[k] (List.getElem_mem hlt)
      have HN := box (allF_more hlt)
      obtain ⟨A, hA⟩ : ∃ A, (allF (vs.take k)).take 64 = A := ⟨_, rfl⟩
      have hA64 : A.length ≤ 64 := by rw [← hA, List.length_take]; omega
      have HA64 : Box (A = (A ++ ([] : List (List UInt8))).take 64) := box (by rw [List.append_nil, List.take_of_length_le hA64])
      rw [hA] at HN O0
      clear hA hA64
      go_wp2_with fail
      refine (rSplit_any vs[k] _ hxz).mono ?_; rintro e w2 ⟨v2, rfl, hO2, hb2⟩
      obtain ⟨MM, hMM⟩ : ∃ MM, splitL vs[k].data.toList = MM := ⟨_, rfl⟩
      have hM64 : MM.length ≤ 64 := by rw [← hMM]; exact split_len _
      unfold splitB at hO2
      rw [hMM] at hO2 HN
      obtain ⟨a2, cap2, rfl, hS2, hc2⟩ := hO2.ss
      rw [List.length_map] at hc2 ⊢
      have S2 := box hS2
      have hblk : ∀ q2 off2, a2 = some ⟨q2, off2, none⟩ → wo.heap.size ≤ q2 := fun q2 off2 e => own_block hO2 q2 (by rw [e]; rfl)
      have HBK := box hblk
      have OX : Box (OwnX w2 w1.heap.size wo.heap.size w2.heap.size _ (A.map bs)) := box ⟨own_below O0.out hb2, fun k hk => .inl (World.ownsRow.lt O0.out k hk).2⟩
      have B2 := box (BL.out.trans (hb2.mono BL.out.size))
      have hB2 := Nat.le_trans hBw hb2.size
      clear hO2 hS2 hb2 hMM c0 hblk
      go_wp2
      go_loopw [5, 9] (fun v i wi => InRel A MM w1.heap.size wo.heap.size w2.heap.size w2 v i wi) (fun _ i _ => MM.length - (intOf i).toNat)
      case atStart => exact ⟨0, rfl, Nat.zero_le _, by rw [List.take_zero, ← HA64.out]; exact OX.out, Below.refl _ _, fun _ _ _ => rfl⟩
      case round =>
        obtain ⟨j, rfl, hj, hO, hbel, hmid⟩ := hrel
        obtain ⟨O, hOl⟩ : ∃ O, (A ++ MM.take j).take 64 = O := ⟨_, rfl⟩
        rw [hOl] at hO
        have HOL := box hOl
        have ho64 : O.length ≤ 64 := by rw [← hOl, List.length_take]; omega
        obtain ⟨av, cv, rfl, _, _⟩ := hO.1.ss
        rw [List.length_map] at hO ⊢
        have O1 := box hO
        have B3 := box hbel
        have hmw := box hmid
        have hsz3 := hbel.size
        clear hO hbel hmid hOl
        by_cases hjl : j < MM.length
        · by_cases hm : O.length = 64
          · have hmi : ¬ (O.length : Int) < 64 := by omega
            have HF : Box ((A ++ MM).take 64 = O) := box (by rw [room_full (k := j) (by rw [HOL.out]; exact hm), HOL.out])
            clear hm
            go_wp2
            go_roundw
            case rel => exact ⟨k + 1, by go_num, by omega, by rw [HN.out, HF.out]; exact O1.out.1, B2.out.trans B3.out⟩
            case measure => simp [intOf]; omega
          · have hmi : (O.length : Int) < 64 := by omega
            obtain ⟨q2, off2, rfl, c1⟩ := S2.out j (by rw [List.length_map]; exact hjl)
            have hq1 := HBK.out q2 off2 rfl
            have hq2 : q2 < w2.heap.size := cell_lt c1
            have c2 : wr.cell? ⟨q2, off2 + j, none⟩ = some (.string (bs MM[j])) := by
              rw [World.cell?_of_block (w := w2) (hmw.out q2 hq1 hq2), c1, List.getElem_map]
            have HN2 : Box (((A ++ MM.take (j + 1)).take 64).map bs = O.map bs ++ [bs MM[j]]) := box (by
              rw [room_more hjl (by rw [HOL.out]; omega), HOL.out, List.map_append, List.map_cons, List.map_nil])
            have hm6 : Box ((O.map bs).length ≤ 65536) := box (by rw [List.length_map]; omega)
            have hB3 := B3.out.size
            have HBW : Box (w1.heap.size ≤ wr.heap.size) := box (Nat.le_trans hB2 hsz3)
            clear c1 hm
            go_wp2_with (at_builtin; refine wpList_append_strX _ rfl (.tmp 35) (.tmp 40) rfl w1.heap.size wo.heap.size w2.heap.size _ (O.map bs) rfl ?a1 _ _ rfl (bs MM[j]) ?b1 ?c1 ?d1 ?e1 ?_)
            case a1 => exact ⟨own_below O1.out.1 (below_new _ _), O1.out.2⟩
            case b1 => go_simp
            case c1 => exact hm6.out
            case d1 => have := HBW.out; simp; omega
            case e1 => simp; omega
            intro v4 w4 hO4 hb4 hm4
            have O4 := box hO4
            have B4 := box ((B3.out.alloc HBW.out _).trans hb4)
            have M4 : Box (Mid wo.heap.size w2.heap.size w2 w4) := box (fun k h1 h2 => by
              rw [hm4 k h1 h2, ← hmw.out k h1 h2]
              exact (below_new wr _).block k (by omega))
            clear hO4 hb4 hm4 c2
            go_wp2
            go_roundw
            case rel => exact ⟨j + 1, by go_num, by omega, by rw [HN2.out]; exact O4.out, B4.out, M4.out⟩
            case measure => simp [intOf]; omega
        · have HF : Box ((A ++ MM).take 64 = O) := box (by rw [← HOL.out, List.take_of_length_le (l := MM) (by omega)])
          go_wp2
          go_roundw
          case rel => exact ⟨k + 1, by go_num, by omega, by rw [HN.out, HF.out]; exact O1.out.1, B2.out.trans B3.out⟩
          case measure => simp [intOf]; omega
    · have HF : Box ((allF (vs.take k)).take 64 = (allF vs).take 64) := box (by rw [List.take_of_length_le (l := vs) (by omega)])
      rw [HF.out] at O0
      go_wp2
      go_ret
      exact ⟨_, rfl, by rw [HAL.out]; exact Go.Joins.ownsRow_le O0.out hB1, B1.out.trans (BL.out.mono hB1)⟩
end
section
open Go.RowKit
theorem after_any (st : Nat) (c : UInt8) (w : World) (h : st ≤ 2) :
    Calls Tryz.prog 119 #[.int .i64 (st : Int), .int .u8 (c.toNat : Int)] w fun e w' => e = .returned (.int .i64 ((stepQ st c : Nat) : Int)) ∧ w = w' := by
  obtain ⟨v, hv⟩ : ∃ v, stepQ st c = v := ⟨_, rfl⟩
  rw [hv]
  rcases h34 : ((c.toNat : Int) == 34) with _ | _
  · have n34 : c ≠ 34 := byte_no (d := 34) h34
    rcases h92 : ((c.toNat : Int) == 92) with _ | _
    · have n92 : c ≠ 92 := byte_no (d := 92) h92
      have hs : st = 0 ∧ v = 0 ∨ st = 1 ∧ v = 1 ∨ st = 2 ∧ v = 1 := by
        unfold stepQ at hv
        rw [if_neg n34, if_neg n34, if_neg n92] at hv
        split at hv
        · omega
        · split at hv <;> omega
      clear n34 n92 hv h
      rcases hs with ⟨rfl, rfl⟩ | ⟨rfl, rfl⟩ | ⟨rfl, rfl⟩
      all_goals
        go_enter Tryz.func119, Tryz.ntmps119
        go_wp2
        go_ret
        exact ⟨rfl, rfl⟩
    · have e92 : c = 92 := byte_is (d := 92) h92
      have hs : st = 0 ∧ v = 0 ∨ st = 1 ∧ v = 2 ∨ st = 2 ∧ v = 1 := by
        unfold stepQ at hv
        rw [if_neg n34, if_neg n34, if_pos e92] at hv
        split at hv
        · omega
        · split at hv <;> omega
      clear n34 e92 hv h
      rcases hs with ⟨rfl, rfl⟩ | ⟨rfl, rfl⟩ | ⟨rfl, rfl⟩
      all_goals
        go_enter Tryz.func119, Tryz.ntmps119
        go_wp2
        go_ret
        exact ⟨rfl, rfl⟩
  · have e34 : c = 34 := byte_is (d := 34) h34
    have hs : st = 0 ∧ v = 1 ∨ st = 1 ∧ v = 0 ∨ st = 2 ∧ v = 1 := by
      unfold stepQ at hv
      rw [if_pos e34, if_pos e34] at hv
      split at hv
      · omega
      · split at hv <;> omega
    clear e34 hv h
    rcases hs with ⟨rfl, rfl⟩ | ⟨rfl, rfl⟩ | ⟨rfl, rfl⟩
    all_goals
      go_enter Tryz.func119, Tryz.ntmps119
      go_wp2
      go_ret
      exact ⟨rfl, rfl⟩
def pcV (sep : UInt8) (l : List UInt8) : Value := .tuple #[.string (bs (pcL sep l).1), .string (bs (pcL sep l).2.1), .bool (pcL sep l).2.2]
set_option maxHeartbeats 1000000 in
theorem pieceCut_any (s : ByteArray) (sep : UInt8) (w : World) (hs : s.size ≤ 65000) :
    Calls Tryz.prog 91 #[.string s, .int .u8 (sep.toNat : Int)] w fun e w' => e = .returned (pcV sep s.data.toList) ∧ Below w.heap.size w w' := by
  have hz : s.data.toList.length = s.size := by simp
  go_enter Tryz.func91, Tryz.ntmps91
  go_wp2
  go_loop [7, 11] (fun p i => ∃ k st : Nat, k ≤ s.size ∧ st ≤ 2 ∧ p = .int .i64 (st : Int) ∧ i = .int .i64 k ∧ Box (pcL sep s.data.toList = pcAt sep st s.data.toList k)) (fun _ i => s.size - (intOf i).toNat)
  case atStart => exact ⟨0, 0, Nat.zero_le _, by omega, rfl, rfl, box (pc_start _ _)⟩
  case round =>
    obtain ⟨k, st, hk, hst, rfl, rfl, HC⟩ := hrel
    by_cases hlt : k < s.size
    · have hlt' : k < s.data.toList.length := by rw [hz]; exact hlt
      have hbk : s.data.toList[k] = s[k] := rfl
      rcases h0 : ((st : Int) == 0) with _ | _
      · have n0 : st ≠ 0 := by intro h; subst h; simp at h0
        have HX := box (HC.out.trans (pc_step hlt' (fun h => n0 h.1)))
        have hle := stepQ_le st s[k]
        rw [hbk] at HX
        clear hbk n0
        go_wp2_with fail
        refine (after_any st s[k] _ hst).mono ?_; rintro e w1 ⟨rfl, rfl⟩
        go_wp2
        go_round
        case rel => exact ⟨k + 1, stepQ st s[k], by omega, hle, rfl, by go_num, HX⟩
        case measure => simp [intOf]; omega
      · have e0 : st = 0 := by simpa using h0
        subst e0
        rcases h44 : ((s[k].toNat : Int) == (sep.toNat : Int)) with _ | _
        · have n44 : s[k] ≠ sep := byte_no h44
          have HX := box (HC.out.trans (pc_step hlt' (fun h => n44 h.2)))
          have hle := stepQ_le 0 s[k]
          rw [hbk] at HX
          clear hbk n44
          go_wp2_with fail
          refine (after_any 0 s[k] _ hst).mono ?_; rintro e w1 ⟨rfl, rfl⟩
          go_wp2
          go_round
          case rel => exact ⟨k + 1, stepQ 0 s[k], by omega, hle, rfl, by go_num, HX⟩
          case measure => simp [intOf]; omega
        · have HX := box (HC.out.trans (pc_sep hlt' (byte_is h44)))
          clear hbk
          go_wp2
          go_quiet (fail)
          go_wp2
          go_ret3
          refine ⟨?_, below_drewN _ _⟩
          unfold pcV
          rw [HX.out]
          show Ending.returned (.tuple #[.string (s.extract 0 k), .string (s.extract (k + 1) s.size), .bool true]) = _
          rw [ext_bs, ext_bs, List.drop_zero, List.take_of_length_le (i := s.size) (by simp)]
    · have HX := box (HC.out.trans (pc_end (l := s.data.toList) (by rw [hz]; omega)))
      go_wp2
      go_ret3
      refine ⟨?_, Below.refl _ _⟩
      unfold pcV
      rw [HX.out]
      rfl
end
section
open Go.RowKit
theorem aTrim_is {s x : ByteArray} {w : World} (hs : s.size ≤ maxLen) (h : Box (bs (trimL s.data.toList) = x)) :
    Calls Tryz.prog 92 #[.string s] w fun e w' => e = .returned (.string x) ∧ w = w' :=
  (Trim_any s w hs).mono fun e w' ⟨h1, h2⟩ => ⟨by rw [h1, ← h.out]; rfl, by first | exact h2 | exact h2.symm⟩
def AppRel (T : List (List UInt8)) (B n : Nat) (w : World) (v r m : Value) (wr : World) : Prop :=
  ∃ (M : List (List UInt8)) (t : ByteArray) (b : Bool), r = .string t ∧ m = .bool b ∧ t.size ≤ n ∧ M.length ≤ 64 ∧ T = addL M (moreL 44 b t.data.toList) ∧ OwnS wr B v (M.map bs) ∧ Below B w wr
def msr (m r : Value) : Nat := match m, r with | .bool true, .string t => t.size + 1 | _, _ => 0
set_option maxHeartbeats 4000000 in
theorem appMem_any (B : Nat) (v : Value) (A : List (List UInt8)) (s : ByteArray) (w : World) (hs : s.size ≤ 65000) (hO : Box (OwnS w B v (A.map bs))) (hB : B ≤ w.heap.size) (hA : A.length ≤ 64) :
    Calls Tryz.prog 60 #[v, .string s] w fun e w' => ∃ v', e = .returned v' ∧ OwnS w' B v' ((addL A (cutL 44 s.data.toList)).map bs) ∧ Below B w w' := by
  obtain ⟨T, hT⟩ : ∃ T, addL A (cutL 44 s.data.toList) = T := ⟨_, rfl⟩
  have HT := box hT
  rw [hT]
  clear hT
  obtain ⟨av, cv, rfl, _, _⟩ := hO.out.ss
  rw [List.length_map] at hO ⊢
  go_enter Tryz.func60, Tryz.ntmps60
  go_wp2
  go_loopw [0, 5, 6] (fun v r m wr => AppRel T B s.size w v r m wr) (fun _ r m _ => msr m r)
  case atStart => exact ⟨A, s, true, rfl, rfl, Nat.le_refl _, hA, HT.out.symm, hO.out, Below.refl _ _⟩
  case round =>
    obtain ⟨M, t, b, rfl, rfl, hts, hM, hTM, hOM, hbel⟩ := hrel
    have O0 := box hOM
    have BL := box hbel
    have HM := box hTM
    have hBw := Nat.le_trans hB hbel.size
    obtain ⟨av, cv, rfl, _, _⟩ := hOM.ss
    rw [List.length_map] at O0 ⊢
    clear hOM hbel hTM
    rcases b with _ | _
    · have HF : Box (T = M) := box (by rw [HM.out]; exact addL_nil hM)
      go_wp2
      go_ret
      exact ⟨_, rfl, by rw [HF.out]; exact O0.out, BL.out⟩
    · by_cases hm : M.length = 64
      · have hmi : ¬ (M.length : Int) < 64 := by omega
        have HF : Box (T = M) := box (by rw [HM.out]; exact addL_full hm)
        clear hm
        go_wp2
        go_ret
        exact ⟨_, rfl, by rw [HF.out]; exact O0.out, BL.out⟩
      · have hmi : (M.length : Int) < 64 := by omega
        have ht6 : t.size ≤ 65000 := by omega
        obtain ⟨p, r, m, hp⟩ : ∃ p r m, pcL 44 t.data.toList = (p, r, m) := ⟨_, _, _, rfl⟩
        have HV : Box (pcV 44 t.data.toList = .tuple #[.string (bs p), .string (bs r), .bool m]) := box (by unfold pcV; rw [hp])
        have hcut : T = addL M (p :: moreL 44 m r) := by
          have := cutL_pc (sep := 44) (by decide) t.data.toList
          rw [hp] at this
          rw [HM.out]
          show addL M (cutL 44 t.data.toList) = _
          rw [this]
        have hsz := pcF_size 44 t.data.toList 0 []
        rw [show pcF 44 0 t.data.toList [] = (p, r, m) from hp] at hsz
        simp only [List.length_nil, Nat.zero_add] at hsz
        rw [show t.data.toList.length = t.size from by simp] at hsz
        have hrz : (bs r).size ≤ s.size := by rw [bs_size]; omega
        have hms : Box (msr (.bool m) (.string (bs r)) < t.size + 1) := box (by
          cases m
          · exact Nat.zero_lt_succ _
          · show (bs r).size + 1 < t.size + 1
            rw [bs_size]; have := hsz.2 rfl; omega)
        have hpz : (bs p).size ≤ maxLen := by rw [bs_size]; unfold maxLen; omega
        have HCut := box hcut
        clear hp hcut hsz HM
        by_cases htr : trimL p = []
        · have HTr : Box (bs (trimL (bs p).data.toList) = ⟨#[]⟩) := box (by rw [bs_toList, htr]; rfl)
          have HN : Box (T = addL M (moreL 44 m (bs r).data.toList)) := box (by rw [HCut.out, addL_blank htr, bs_toList])
          clear HCut
          go_wp2_with fail
          refine (pieceCut_any t 44 _ ht6).mono ?_; rintro e w1 ⟨rfl, hb1⟩
          rw [HV.out]
          have O1 := box (own_below O0.out hb1)
          have B1 := box (BL.out.trans (hb1.mono hBw))
          clear hb1
          go_wp2_with fail
          refine (aTrim_is hpz HTr).mono ?_; rintro e w2 ⟨rfl, rfl⟩
          go_wp2
          go_roundw
          case rel => exact ⟨M, bs r, m, rfl, rfl, hrz, hM, HN.out, O1.out, B1.out⟩
          case measure => exact hms.out
        · obtain ⟨x, hx⟩ : ∃ x, bs (trimL p) = x := ⟨_, rfl⟩
          have HTr : Box (bs (trimL (bs p).data.toList) = x) := box (by rw [bs_toList, hx])
          have hxe : x.toList.isEmpty = false := by
            rw [← hx, toList_bs]
            cases h : trimL p with
            | nil => exact absurd h htr
            | cons c r => rfl
          have HN : Box (T = addL (M ++ [trimL p]) (moreL 44 m (bs r).data.toList)) := box (by rw [HCut.out, addL_more htr, bs_toList])
          have HX : Box ((M ++ [trimL p]).map bs = M.map bs ++ [x]) := box (by rw [List.map_append, List.map_cons, List.map_nil, hx])
          have hm6 : Box ((M.map bs).length ≤ 65536) := box (by rw [List.length_map]; omega)
          have hml : Box ((M ++ [trimL p]).length ≤ 64) := box (by rw [List.length_append]; simp; omega)
          clear HCut hx
          go_wp2_with fail
          refine (pieceCut_any t 44 _ ht6).mono ?_; rintro e w1 ⟨rfl, hb1⟩
          rw [HV.out]
          have O1 := box (own_below O0.out hb1)
          have B1 := box (BL.out.trans (hb1.mono hBw))
          have hBw1 := Nat.le_trans hBw hb1.size
          clear hb1
          go_wp2_with fail
          refine (aTrim_is hpz HTr).mono ?_; rintro e w2 ⟨rfl, rfl⟩
          go_wp2_with (at_builtin; refine wpList_append_str _ rfl (.tmp 26) (.tmp 28) rfl B _ (M.map bs) rfl ?a1 _ _ rfl x ?b1 ?c1 ?d1 ?_)
          case a1 => exact own_below O1.out (below_new _ _)
          case b1 => go_simp
          case c1 => exact hm6.out
          case d1 => simp; omega
          intro v3 w3 hO3 hb3
          have O3 := box hO3
          have B3 := box ((B1.out.alloc hBw1 _).trans hb3)
          clear hO3 hb3
          go_wp2
          go_roundw
          case rel => exact ⟨M ++ [trimL p], bs r, m, rfl, rfl, hrz, hml.out, HN.out, by rw [HX.out]; exact O3.out, B3.out⟩
          case measure => exact hms.out
set_option maxHeartbeats 4000000 in
theorem mAll_any (a : Option Addr) (cap : Nat) (L : List F) (nm : ByteArray) (w : World) (S : Box (Sm L)) (hv : Box (∀ x ∈ getL nm L, x.size ≤ 65000)) (M : Box (nm.size ≤ 65536)) (hF : Box (Fs w a L)) :
    Calls Tryz.prog 32 #[.slice a L.length cap, .string nm] w fun e w' => ∃ v, e = .returned v ∧ OwnS w' w.heap.size v (allB nm L) ∧ Below w.heap.size w w' := by
  obtain ⟨vs, hvs⟩ : ∃ vs, getL nm L = vs := ⟨_, rfl⟩
  have HVS := box hvs
  have HAL : Box (allB nm L = ((allF vs).take 64).map bs) := box (by unfold allB allL; rw [hvs])
  have hvl : vs.length ≤ 65536 := by
    have := get_le (nm := nm) (L := L) (k := L.length)
    rw [List.take_length, hvs] at this
    have := S.out.1; omega
  rw [hvs] at hv
  clear hvs
  have hl := S.out.1
  go_enter Tryz.func32, Tryz.ntmps32
  go_wp2_with fail
  refine (Get_any a cap L nm _ hl S M hF).mono ?_; rintro e w1 ⟨v1, rfl, hO1, hb1⟩
  rw [HVS.out] at hO1
  obtain ⟨a1, cap1, rfl, hS1, hc1⟩ := hO1.ss
  have S1 := box hS1
  have B1 := box hb1
  have hB1 := hb1.size
  clear hO1 hS1 hb1
  go_wp2
  go_loopw [5, 12] (fun v i wr => AllRel vs w1.heap.size w1 v i wr) (fun _ i _ => vs.length - (intOf i).toNat)
  case atStart => exact ⟨0, rfl, Nat.zero_le _, OwnS.nil _ _, Below.refl _ _⟩
  case round =>
    obtain ⟨k, rfl, hk, hO, hbel⟩ := hrel
    have O0 := box hO
    have BL := box hbel
    have hBw := hbel.size
    clear hO hbel
    by_cases hlt : k < vs.length
    · obtain ⟨q, off, rfl, c0⟩ := (S1.out.below BL.out) k hlt
      have hxz := hv.out vs[k] (List.getElem_mem hlt)
      have HN := box (addL_all hlt)
      have hA64 : ((allF (vs.take k)).take 64).length ≤ 64 := by rw [List.length_take]; omega
      go_wp2_with fail
      refine (appMem_any w1.heap.size _ _ vs[k] _ hxz O0 hBw hA64).mono ?_; rintro e w2 ⟨v2, rfl, hO2, hb2⟩
      have O2 := box hO2
      have B2 := box (BL.out.trans hb2)
      clear hO2 hb2 c0
      go_wp2
      go_roundw
      case rel => exact ⟨k + 1, by go_num, by omega, by rw [HN.out]; exact O2.out, B2.out⟩
      case measure => simp [intOf]; omega
    · have HF : Box ((allF (vs.take k)).take 64 = (allF vs).take 64) := box (by rw [List.take_of_length_le (l := vs) (by omega)])
      rw [HF.out] at O0
      go_wp2
      go_ret
      exact ⟨_, rfl, by rw [HAL.out]; exact Go.Joins.ownsRow_le O0.out hB1, B1.out.trans (BL.out.mono hB1)⟩
end
end Go.Proofs.YtiogngfemelifaaGreatDoor.Asc
