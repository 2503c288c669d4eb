/- Merged texts: LstOpen LstSame ParMem LisRef AscTrim LisRef2 AscUn. -/
import Derived.Test.YtkalddhokoldgaaM01
import Derived.Test.YtkalddhokoldgaaM02
import Derived.Test.YtkalddhokoldgaaM03
import Derived.Test.YtkalddhokoldgaaM04
import Derived.BigQuiet
import Derived.Carry
import Derived.Deep.QuietTactic
import Derived.Deep.SlicePairs
import Derived.Lib.Hide
import Derived.Lib.SmallJoins
import Derived.LoopTactic
import Derived.ProofKit
set_option linter.unusedVariables false
set_option linter.unusedSimpArgs false
set_option maxRecDepth 100000
namespace Go.Proofs.Ytkalddhokoldgaa.Asc
section
open Go.RowKit Go.ChangeShapes Go.WideShapes Go.Deep
def strOf : Value → ByteArray
  | .string s => s
  | _ => ByteArray.empty
theorem laid : laidOutB Try.prog = true := by kernel_rfl
end
section
open Go.RowKit
theorem str_eq {a b : ByteArray} (h : (a.toList == b.toList) = true) : a = b := by
  rw [toList_data, toList_data] at h
  rw [bs_of a, bs_of b, eq_of_beq h]
theorem take_same {α : Type} {K L : List α} {k : Nat} (hK : k < K.length) (hL : k < L.length) (h : K.take k = L.take k) (e : K[k] = L[k]) : K.take (k + 1) = L.take (k + 1) := by
  rw [take_next hK, take_next hL, h, e]
theorem not_same {α : Type} {K L : List α} {k : Nat} (hK : k < K.length) (hL : k < L.length) (e : K[k] ≠ L[k]) : K ≠ L := by
  intro h; subst h; exact e rfl
theorem fld_eq {p q : F} (h1 : (p.1.toList == q.1.toList) = true) (h2 : (p.2.toList == q.2.toList) = true) : p = q := by
  obtain ⟨a, b⟩ := p
  obtain ⟨c, d⟩ := q
  rw [show a = c from str_eq h1, show b = d from str_eq h2]
end
section
open Go.RowKit Go.ChangeShapes Go.WideShapes Go.Deep
theorem info_prm : (Try.prog.info? 35).map (fun i => (i.zero, i.size, i.bytes)) = some (some (.agg #[.string ⟨#[]⟩, .string ⟨#[]⟩]), 2, 32) := by kernel_rfl
def OwnP (w : World) (B : Nat) (v : Value) (L : List F) : Prop := w.ownsRow B 35 2 v L.length (cellsF L)
section
variable {w w' : World} {B : Nat} {v : Value}
theorem OwnP.nil (w : World) (B : Nat) : OwnP w B (.slice none 0 0) [] := World.ownsRow_nil _ _ _ _
/-- what a slice of fields that a call owns looks like -/
theorem OwnP.fs {L : List F} (h : OwnP w B v L) : ∃ a cap, v = .slice a L.length cap ∧ Fs w a L ∧ L.length ≤ cap := by
  rcases h.2 with ⟨rfl, hn⟩ | ⟨g, cap, cur, rfl, hB, hg, hc, hm, hs, ht⟩
  · exact ⟨none, 0, by rw [hn], fun i hi => by omega, by omega⟩
  · refine ⟨_, cap, rfl, fun i hi => ⟨g, 0, rfl, ?_, ?_⟩, hc⟩
    all_goals
      obtain ⟨q0, q1⟩ := cellsF_at L i hi
      rw [← ht] at q0 q1
      rw [List.getElem?_take] at q0 q1
      rw [if_pos (by omega)] at q0 q1
      simp only [World.cell?, hg]
    · simpa using q0
    · simpa [Nat.add_assoc] using q1
end
/-- append of one field that lies in a block of its own -/
theorem wpList_append_prm (w : World) {ops : Array Oper} {rest : List Oper} {o : Oper} {a : Act} {Q : Exit → Act → World → Prop} (hgd : o.guard = none) (s x : Operand)
    (ho : o.op = .call { callee := .builtin .append, args := #[s, x], argTypes := #[22, 22] })
    (B : Nat) (v : Value) (L : List F) (hs : a.eval s = v) (hown : OwnP w B v L)
    (g : Nat) (c : Nat) (hx : a.eval x = .slice (some ⟨g, 0, none⟩) 1 c) (n u : ByteArray) (h0 : w.cell? ⟨g, 0, none⟩ = some (.string n)) (h1 : w.cell? ⟨g, 1, none⟩ = some (.string u)) (hl : L.length ≤ 65536) (hB : B ≤ w.heap.size)
    (h : ∀ v' w', OwnP w' B v' (L ++ [(n, u)]) → Below B w w' → wpList Try.prog ops Q rest (a.put o.dst v') w') : wpList Try.prog ops Q (o :: rest) a w := by
  obtain ⟨i0, hi0, hz0, hz1, hz2⟩ := info_parts info_prm
  refine wpList_append_own (P := Try.prog) w hgd s x 22 ho B 35 i0 _ 2 32 Try.underlying22 hi0 hz0 hz1 hz2 rfl (by decide) v L.length (cellsF L) hs hown ⟨g, 0, none⟩ 1 c [.string n, .string u] hx rfl ?_ ?_ (by unfold maxLen; omega) (by omega) hB ?_
  · intro j u hj
    match j, hj with
    | 0, hj => simp at hj; subst hj; simpa [Addr.add] using h0
    | 1, hj => simp at hj; subst hj; simpa [Addr.add] using h1
  · intro u hu; simp at hu; rcases hu with rfl | rfl <;> rfl
  · intro v' w' q1 q2 _
    refine h v' w' (by simpa [OwnP, cellsF_app, cellsF] using q1) ((Below.refl _ _).grown q2 hB (fun k hk => own_block hown k hk))
def okP (p : F) : Bool := decide (p.1.size ≤ 100) && decide (p.2.size ≤ 100)
def keepP (L : List F) : Bool := L.all okP && decide (L.length ≤ 8)
theorem keepP_more {L : List F} {k : Nat} (h : k < L.length) (ha : (L.take k).all okP = true) (h1 : L[k].1.size ≤ 100) (h2 : L[k].2.size ≤ 100) : (L.take (k + 1)).all okP = true := by
  rw [take_next h, List.all_append, ha]
  simp [okP, h1, h2]
theorem keepP_bad {L : List F} {k : Nat} (h : k < L.length) (h1 : ¬ (L[k].1.size ≤ 100 ∧ L[k].2.size ≤ 100)) : keepP L = false := by
  have : L.all okP = false := by
    rw [← Bool.not_eq_true]; intro ha
    have := List.all_eq_true.mp ha L[k] (List.getElem_mem h)
    simp only [okP, Bool.and_eq_true, decide_eq_true_eq] at this
    exact h1 this
  unfold keepP; rw [this]; rfl
theorem keepP_long {L : List F} (h : ¬ L.length ≤ 8) : keepP L = false := by unfold keepP; simp [h]
theorem keepP_end {L : List F} (ha : (L.take L.length).all okP = true) (h : L.length ≤ 8) : keepP L = true := by
  rw [List.take_length] at ha
  unfold keepP; rw [ha]; simp [h]
theorem keepP_parts {L : List F} (h : keepP L = true) : L.length ≤ 8 ∧ ∀ i (hi : i < L.length), L[i].1.size ≤ 100 ∧ L[i].2.size ≤ 100 := by
  unfold keepP at h
  simp only [Bool.and_eq_true, decide_eq_true_eq] at h
  refine ⟨h.2, fun i hi => ?_⟩
  have := List.all_eq_true.mp h.1 L[i] (List.getElem_mem hi)
  simpa [okP] using this
theorem keepParams_any (a : Option Addr) (cap : Nat) (L : List F) (w : World) (hl : L.length ≤ maxLen) (hF : Box (Fs w a L)) :
    Calls Try.prog 27 #[.slice a L.length cap] w fun e w' => e = .returned (.bool (keepP L)) ∧ w = w' := by
  unfold maxLen at hl
  go_enter Try.func27, Try.ntmps27
  go_wp2
  go_loop [3] (fun i => ∃ k : Nat, k ≤ L.length ∧ k ≤ 9 ∧ i = .int .i64 k ∧ (L.take k).all okP = true) (fun i => 9 - (intOf i).toNat)
  case atStart => exact ⟨0, Nat.zero_le _, Nat.zero_le _, rfl, rfl⟩
  case round =>
    obtain ⟨k, hk, hk9, rfl, hall⟩ := hrel
    have HA := box hall
    clear hall
    by_cases hlt : k < L.length
    · by_cases h9 : k < 9
      · obtain ⟨g, off, rfl, c0, c1⟩ := hF.out k hlt
        go_wp2
        · have e1 : ¬ (L[k].1.size ≤ 100 ∧ L[k].2.size ≤ 100) := by omega
          go_ret
          exact ⟨ret_bool (keepP_bad hlt e1).symm, rfl⟩
        · have e1 : L[k].1.size ≤ 100 := by omega
          have e2 : L[k].2.size ≤ 100 := by omega
          go_round
          case rel => exact ⟨k + 1, by omega, by omega, by go_num, keepP_more hlt HA.out e1 e2⟩
          case measure => simp [intOf]; omega
        · have e1 : ¬ (L[k].1.size ≤ 100 ∧ L[k].2.size ≤ 100) := by omega
          go_ret
          exact ⟨ret_bool (keepP_bad hlt e1).symm, rfl⟩
      · go_wp2
        go_ret
        exact ⟨ret_bool (by rw [keepP_long (by omega)]; simp; omega), rfl⟩
    · have e : k = L.length := by omega
      have E := box e
      clear e
      by_cases h8 : L.length ≤ 8
      · go_wp2
        go_ret
        refine ⟨ret_bool ?_, rfl⟩
        have ha := HA.out
        rw [E.out] at ha
        rw [keepP_end ha h8]
        simp; omega
      · go_wp2
        go_ret
        exact ⟨ret_bool (by rw [keepP_long h8]; simp; omega), rfl⟩
set_option maxHeartbeats 800000 in
theorem SameP_any (a b : Option Addr) (ca cb : Nat) (K L : List F) (w : World) (hk : K.length ≤ 65536) (hl : L.length ≤ 65536) (hK : Box (Fs w a K)) (hL : Box (Fs w b L)) :
    Calls Try.prog 26 #[.slice a K.length ca, .slice b L.length cb] w fun e w' => e = .returned (.bool (decide (K = L))) ∧ Below w.heap.size w w' := by
  by_cases hn : K.length = L.length
  · have HN := box hn
    have hne : ((K.length : Int) != (L.length : Int)) = false := by simp [hn]
    clear hn
    go_enter Try.func26, Try.ntmps26
    go_wp2
    go_loopw [5] (fun i wr => ∃ k : Nat, k ≤ K.length ∧ i = .int .i64 k ∧ K.take k = L.take k ∧ Below w.heap.size w wr) (fun i _ => K.length - (intOf i).toNat)
    case atStart => exact ⟨0, Nat.zero_le _, rfl, rfl, Below.refl _ _⟩
    case round =>
      obtain ⟨k, hk2, rfl, hall, hbel⟩ := hrel
      have HA := box hall
      clear hall
      by_cases hlt : k < K.length
      · have hlt2 : k < L.length := by rw [← HN.out]; exact hlt
        obtain ⟨q, off, rfl, c0, c1⟩ := (hK.out.below hbel) k hlt
        obtain ⟨r, off2, rfl, d0, d1⟩ := (hL.out.below hbel) k hlt2
        rcases h1 : (K[k].1.toList == L[k].1.toList) with _ | _
        · go_wp2
          go_quiet (fail)
          go_wp2
          go_ret
          have hne2 : K[k] ≠ L[k] := fun e => by rw [e] at h1; simp at h1
          exact ⟨ret_bool (decide_eq_false (not_same hlt hlt2 hne2)).symm, hbel.trans ((below_drewN _ _).mono hbel.size)⟩
        · rcases h2 : (K[k].2.toList == L[k].2.toList) with _ | _
          · go_wp2
            go_quiet (fail)
            go_wp2
            go_ret
            have hne2 : K[k] ≠ L[k] := fun e => by rw [e] at h2; simp at h2
            exact ⟨ret_bool (decide_eq_false (not_same hlt hlt2 hne2)).symm, hbel.trans ((below_drewN _ _).mono hbel.size)⟩
          · have E := box (fld_eq h1 h2)
            go_wp2
            go_quiet (fail)
            go_wp2
            go_roundw
            case rel => exact ⟨k + 1, by omega, by go_num, take_same hlt hlt2 HA.out E.out, hbel.trans ((below_drewN _ _).mono hbel.size)⟩
            case measure => simp [intOf]; omega
      · have e : k = K.length := by omega
        have E : Box (K = L) := box (by
          have h := HA.out
          subst e
          rw [List.take_length, HN.out, List.take_length] at h
          exact h)
        clear e
        go_wp2
        go_ret
        exact ⟨ret_bool (decide_eq_true E.out).symm, hbel⟩
  · have hne : ((K.length : Int) != (L.length : Int)) = true := by simp; omega
    have HN := box hn
    clear hn
    go_enter Try.func26, Try.ntmps26
    go_wp2
    go_ret
    exact ⟨ret_bool (decide_eq_false (fun e => HN.out (by rw [e]))).symm, Below.refl _ _⟩
end
section
open Go.RowKit
def cutsB (sep : UInt8) (l : List UInt8) : List ByteArray := (cutL sep l).map bs
def CutRel (s : ByteArray) (sep : UInt8) (w : World) (v fr q i : Value) (wr : World) : Prop :=
  ∃ (k n : Nat) (b : Bool) (o : List (List UInt8)), i = .int .i64 k ∧ fr = .int .i64 n ∧ q = .bool b ∧ n ≤ k ∧ n ≤ s.size ∧ k ≤ s.size + 1 ∧ o.length ≤ n ∧ cutL sep s.data.toList = o ++ cutAt sep s.data.toList b k n ∧ OwnS wr w.heap.size v (o.map bs) ∧ Below w.heap.size w wr
theorem byte_is {c d : UInt8} (h : ((c.toNat : Int) == (d.toNat : Int)) = true) : c = d := by
  have : (c.toNat : Int) = d.toNat := by simpa using h
  exact UInt8.toNat_inj.mp (by omega)
theorem byte_no {c d : UInt8} (h : ((c.toNat : Int) == (d.toNat : Int)) = false) : c ≠ d := by
  rintro rfl
  simp at h
set_option maxHeartbeats 4000000 in
theorem rCut_any (s : ByteArray) (sep : UInt8) (w : World) (hs : s.size ≤ 65000) :
    Calls Try.prog 38 #[.string s, .int .u8 (sep.toNat : Int)] w fun e w' => ∃ v, e = .returned v ∧ OwnS w' w.heap.size v (cutsB sep s.data.toList) ∧ Below w.heap.size w w' := by
  have hz : s.data.toList.length = s.size := by simp
  go_enter Try.func38, Try.ntmps38
  go_wp2
  go_loopw [5, 6, 7, 8] (fun v fr q i wr => CutRel s sep w v fr q i wr) (fun _ _ _ i _ => s.size + 1 - (intOf i).toNat)
  case atStart => exact ⟨0, 0, false, [], rfl, rfl, rfl, Nat.le_refl _, Nat.zero_le _, Nat.zero_le _, Nat.le_refl _, by rw [cut_start]; rfl, OwnS.nil _ _, Below.refl _ _⟩
  case round =>
    obtain ⟨k, n, b, o, rfl, rfl, rfl, hnk, hns, hk1, hol, hC, hO, hbel⟩ := hrel
    have HC := box hC
    have O0 := box hO
    have BL := box hbel
    have hBw := hbel.size
    clear hC hO hbel
    by_cases hlt : k < s.size
    · have hlt' : k < s.data.toList.length := by rw [hz]; exact hlt
      have hbk : s.data.toList[k] = s[k] := rfl
      rcases hc34 : ((s[k].toNat : Int) == 34) with _ | _
      · have n34 : s.data.toList[k] ≠ 34 := by rw [hbk]; exact byte_no (d := 34) hc34
        rcases b with _ | _
        · rcases hcs : ((s[k].toNat : Int) == (sep.toNat : Int)) with _ | _
          · have HX := box (HC.out.trans (congrArg (o ++ ·) (cut_any hlt' hnk (by simp) n34 (fun h => byte_no hcs h.1))))
            clear hbk n34
            go_wp2
            go_roundw
            case rel => exact ⟨k + 1, n, false, o, by go_num, rfl, rfl, by omega, hns, by omega, hol, HX.out, O0.out, BL.out⟩
            case measure => simp [intOf]; omega
          · have HX : Box (cutL sep s.data.toList = (o ++ [(s.extract n k).data.toList]) ++ cutAt sep s.data.toList false (k + 1) (k + 1)) := box (by
              rw [HC.out, cut_sep hlt' n34 (byte_is hcs), ext_bs, List.append_assoc]; rfl)
            have hol6 : (o.map bs).length ≤ 65536 := by rw [List.length_map]; omega
            clear hbk n34
            go_wp2_with (at_builtin; refine wpList_append_str _ rfl (.tmp 42) (.tmp 47) rfl w.heap.size _ (o.map bs) rfl (own_below O0.out (below_new _ _)) _ _ rfl (s.extract n k) (by go_simp) hol6 (by simp; omega) ?_; intro v3 w3 hO3 hb3; have O3 := box hO3; have B3 := box ((BL.out.alloc hBw _).trans hb3); clear hO3 hb3)
            go_roundw
            case rel => exact ⟨k + 1, k + 1, false, o ++ [(s.extract n k).data.toList], by go_num, by go_num, rfl, Nat.le_refl _, by omega, by omega, by simp; omega, HX.out, by rw [List.map_append]; exact O3.out, B3.out⟩
            case measure => simp [intOf]; omega
        · rcases hc92 : ((s[k].toNat : Int) == 92) with _ | _
          · have HX := box (HC.out.trans (congrArg (o ++ ·) (cut_any hlt' hnk (fun h => byte_no (d := 92) hc92 h.2) n34 (by simp))))
            rcases hcs : ((s[k].toNat : Int) == (sep.toNat : Int)) with _ | _
            all_goals
              clear hbk n34
              go_wp2
              go_roundw
              case rel => exact ⟨k + 1, n, true, o, by go_num, rfl, rfl, by omega, hns, by omega, hol, HX.out, O0.out, BL.out⟩
              case measure => simp [intOf]; omega
          · have HX := box (HC.out.trans (congrArg (o ++ ·) (cut_esc hlt' hnk (byte_is (d := 92) hc92))))
            clear hbk n34
            go_wp2
            go_roundw
            case rel => exact ⟨k + 2, n, true, o, by go_num, rfl, rfl, by omega, hns, by omega, hol, HX.out, O0.out, BL.out⟩
            case measure => simp [intOf]; omega
      · have e34 : s.data.toList[k] = 34 := by rw [hbk]; exact byte_is (d := 34) hc34
        have hn92 : ¬ s.data.toList[k] = 92 := by rw [e34]; decide
        have hc92 : ((s[k].toNat : Int) == 92) = false := by rw [← hbk, e34]; rfl
        have HX := box (HC.out.trans (congrArg (o ++ ·) (cut_quo hlt' hnk (fun h => hn92 h.2) e34)))
        clear hbk e34 hn92
        rcases b with _ | _
        all_goals
          go_wp2
          go_roundw
          case rel => exact ⟨k + 1, n, _, o, by go_num, rfl, rfl, by omega, hns, by omega, hol, HX.out, O0.out, BL.out⟩
          case measure => simp [intOf]; omega
    · have HX : Box (cutsB sep s.data.toList = o.map bs ++ [s.extract n s.size]) := box (by
        unfold cutsB; rw [HC.out, cut_out (by rw [hz]; omega), List.map_append, List.map_cons, List.map_nil, ext_bs, List.take_of_length_le (by rw [hz]; exact Nat.le_refl _)])
      have hol6 : (o.map bs).length ≤ 65536 := by rw [List.length_map]; omega
      go_wp2_with (at_builtin; refine wpList_append_str _ rfl (.tmp 51) (.tmp 55) rfl w.heap.size _ (o.map bs) rfl (own_below O0.out (below_new _ _)) _ _ rfl (s.extract n s.size) (by go_simp) hol6 (by simp; omega) ?_; intro v3 w3 hO3 hb3; have O3 := box hO3; have B3 := box ((BL.out.alloc hBw _).trans hb3); clear hO3 hb3)
      go_ret
      exact ⟨_, rfl, by rw [HX.out]; exact O3.out, B3.out⟩
end
section
open Go.RowKit
theorem ret_str {a b : ByteArray} (h : a = b) : Ending.returned (.string a) = .returned (.string b) := by rw [h]
theorem str_ext {a : ByteArray} {l : List UInt8} (h : a.data.toList = l) : a = ⟨l.toArray⟩ := by
  subst h; rfl
theorem extract_list (s : ByteArray) (i j : Nat) : (s.extract i j).data.toList = (s.data.toList.take j).drop i := by
  rw [ByteArray.data_extract, Array.toList_extract, List.extract_eq_take_drop, List.drop_take]
theorem blank_at {s : ByteArray} {k : Nat} {b : Bool} (hk : k < s.size) (h : blankB (s.data.toList.getD k 0) = b) : blankI (s[k].toNat) = b := by
  rw [getD_at s k hk] at h; exact h
theorem blank_drop {t : ByteArray} {l : List UInt8} {k : Nat} {b : Bool} (ht : t.data.toList = l.drop k) (h0 : 0 < t.size) (h : blankB (l.getD k 0) = b) : blankI (t[0].toNat) = b := by
  refine blank_at (s := t) (k := 0) h0 ?_
  rw [ht]; rw [← h]; simp [List.getD_eq_getElem?_getD, List.getElem?_drop]
theorem blank_last {t : ByteArray} {l : List UInt8} {k e : Nat} {b : Bool} (ht : t.data.toList = (l.take e).drop k) (hl : t.size - 1 < t.size) (hsz : t.size = e - k) (h : blankB (l.getD (e - 1) 0) = b) : blankI (t[t.size - 1].toNat) = b := by
  refine blank_at (s := t) (k := t.size - 1) hl ?_
  rw [ht, ← h]
  simp only [List.getD_eq_getElem?_getD, List.getElem?_drop]
  rw [List.getElem?_take_of_lt (by omega), show k + (t.size - 1) = e - 1 by omega]
theorem list_size {t : ByteArray} {l : List UInt8} (h : t.data.toList = l) : t.size = l.length := by subst h; simp
set_option maxHeartbeats 800000 in
theorem Trim_any (s : ByteArray) (w : World) (hs : s.size ≤ maxLen) :
    Calls Try.prog 33 #[.string s] w fun e w' => e = .returned (.string ⟨(trimL s.data.toList).toArray⟩) ∧ w = w' := by
  unfold maxLen at hs
  obtain ⟨k0, e0, ht⟩ := ex_trim s.data.toList
  have HR : Hid (s.extract k0 e0 = ⟨(trimL s.data.toList).toArray⟩) := Lib.hid (str_ext (by rw [extract_list, trim_at ht]))
  obtain ⟨h1, h2, h3, h4, h5, h6⟩ := ht
  have hz : s.data.toList.length = s.size := by simp
  rw [hz] at h2
  have H3 := Lib.hid h3
  have H4 := Lib.hid h4
  have H5 := Lib.hid h5
  have H6 := Lib.hid h6
  clear h3 h4 h5 h6 hz
  go_enter Try.func33, Try.ntmps33
  go_wp2
  go_loop [3] (fun i => ∃ k : Nat, k ≤ k0 ∧ i = .int .i64 k) (fun i => s.size - (intOf i).toNat)
  case atStart => exact ⟨0, Nat.zero_le _, rfl⟩
  case round =>
    obtain ⟨k, hk, rfl⟩ := hrel
    by_cases hlt : k < k0
    · have hks : k < s.size := by omega
      have hb := byte_bd s k hks
      have hbl := blank_at hks (H3.out k hlt)
      go_wp2_with (go_at_call 48; refine (isBlank_any _ _).mono ?_; rintro e w' ⟨rfl, rfl⟩)
      go_round
      case rel => exact ⟨k + 1, by omega, by go_num⟩
      case measure => simp [intOf]; omega
    · obtain rfl : k = k0 := by omega
      by_cases hks : k < s.size
      · have hbl := blank_at hks (H5.out (by simpa using hks))
        go_wp2_with (go_at_call 48; refine (isBlank_any _ _).mono ?_; rintro e w' ⟨rfl, rfl⟩)
        go_loop [4] (fun j => ∃ e : Nat, e0 ≤ e ∧ e ≤ s.size ∧ j = .int .i64 e) (fun j => (intOf j).toNat)
        case atStart => exact ⟨s.size, h2, Nat.le_refl _, rfl⟩
        case round =>
          obtain ⟨e, he, hes, rfl⟩ := hrel
          by_cases hle : e0 < e
          · have hq : e - 1 < s.size := by omega
            have hbe := blank_at hq (H4.out (e - 1) (by omega) (by simpa using hq))
            go_wp2_with (go_at_call 48; refine (isBlank_any _ _).mono ?_; rintro e w' ⟨rfl, rfl⟩)
            go_round
            case rel => exact ⟨e - 1, by omega, by omega, by go_num⟩
            case measure => simp [intOf]; omega
          · obtain rfl : e = e0 := by omega
            by_cases hke : k < e
            · have hq : e - 1 < s.size := by omega
              have hbe := blank_at hq (H6.out hke)
              go_wp2_with (go_at_call 48; refine (isBlank_any _ _).mono ?_; rintro e w' ⟨rfl, rfl⟩)
              go_ret
              exact ⟨ret_str HR.out, rfl⟩
            · go_wp2
              go_ret
              exact ⟨ret_str HR.out, rfl⟩
      · go_wp2
        go_loop [4] (fun j => ∃ e : Nat, e0 ≤ e ∧ e ≤ s.size ∧ j = .int .i64 e) (fun j => (intOf j).toNat)
        case atStart => exact ⟨s.size, h2, Nat.le_refl _, rfl⟩
        case round =>
          obtain ⟨e, he, hes, rfl⟩ := hrel
          by_cases hle : e0 < e
          · exfalso; omega
          · obtain rfl : e = e0 := by omega
            by_cases hke : k < e
            · exfalso; omega
            · go_wp2
              go_ret
              exact ⟨ret_str HR.out, rfl⟩
set_option maxHeartbeats 800000 in
theorem rTrim_any (s : ByteArray) (w : World) (hs : s.size ≤ maxLen) :
    Calls Try.prog 39 #[.string s] w fun e w' => e = .returned (.string ⟨(trimL s.data.toList).toArray⟩) ∧ w = w' := by
  unfold maxLen at hs
  obtain ⟨k0, e0, ht⟩ := ex_trim s.data.toList
  have HR := Lib.hid (trim_at ht)
  obtain ⟨h1, h2, h3, h4, h5, h6⟩ := ht
  have hz : s.data.toList.length = s.size := by simp
  rw [hz] at h2
  have H3 := Lib.hid h3
  have H4 := Lib.hid h4
  have H5 := Lib.hid h5
  have H6 := Lib.hid h6
  clear h3 h4 h5 h6 hz
  go_enter Try.func39, Try.ntmps39
  go_wp2
  go_loop [0] (fun i => ∃ (t : ByteArray) (k : Nat), k ≤ k0 ∧ i = .string t ∧ Hid (t.data.toList = s.data.toList.drop k) ∧ Hid (t.size = s.size - k)) (fun i => match i with | .string t => t.size | _ => 0)
  case atStart => exact ⟨s, 0, Nat.zero_le _, rfl, Lib.hid (by simp), Lib.hid (by simp)⟩
  case round =>
    obtain ⟨t, k, hk, rfl, HT, HZ⟩ := hrel
    by_cases hlt : k < k0
    · have h0 : 0 < t.size := by have := HZ.out; omega
      have hle : t.size ≤ s.size := by have := HZ.out; omega
      have hbl := blank_drop HT.out h0 (H3.out k hlt)
      have hb := byte_bd t 0 h0
      go_wp2_with (go_at_call 53; refine (rblank_any _ _).mono ?_; rintro e w' ⟨rfl, rfl⟩)
      go_round
      case rel =>
        have e1 : (t.extract 1 t.size).data.toList = s.data.toList.drop (k + 1) := by
          rw [extract_list, List.take_of_length_le (by simp), HT.out, List.drop_drop]
        exact ⟨_, k + 1, by omega, rfl, Lib.hid e1, Lib.hid (by rw [list_size e1]; simp)⟩
      case measure => simp; omega
    · obtain rfl : k = k0 := by omega
      by_cases hks : k < s.size
      · have h0 : 0 < t.size := by have := HZ.out; omega
        have hle : t.size ≤ s.size := by have := HZ.out; omega
        have hbl := blank_drop HT.out h0 (H5.out (by simpa using hks))
        go_wp2_with (go_at_call 53; refine (rblank_any _ _).mono ?_; rintro e w' ⟨rfl, rfl⟩)
        go_loop [0] (fun i => ∃ (t : ByteArray) (e : Nat), e0 ≤ e ∧ e ≤ s.size ∧ i = .string t ∧ Hid (t.data.toList = (s.data.toList.take e).drop k) ∧ Hid (t.size = e - k)) (fun i => match i with | .string t => t.size | _ => 0)
        case atStart => exact ⟨t, s.size, h2, Nat.le_refl _, rfl, Lib.hid (by rw [List.take_of_length_le (by simp)]; exact HT.out), HZ⟩
        case round =>
          obtain ⟨t, e, he, hes, rfl, HT, HZ⟩ := hrel
          by_cases hle : e0 < e
          · have h0 : 0 < t.size := by have := HZ.out; omega
            have hl : t.size - 1 < t.size := by omega
            have hsz : t.size ≤ s.size := by have := HZ.out; omega
            have hbl := blank_last HT.out hl HZ.out (H4.out (e - 1) (by omega) (by simp; omega))
            have e1 : (t.extract 0 (t.size - 1)).data.toList = (s.data.toList.take (e - 1)).drop k := by
              rw [extract_list, HT.out, List.drop_zero, HZ.out, show e - k - 1 = e - 1 - k by omega, ← List.drop_take, List.take_take, Nat.min_eq_left (by omega)]
            have E1 := Lib.hid e1
            have E2 : Hid ((t.extract 0 (t.size - 1)).size = e - 1 - k) := Lib.hid (by rw [list_size e1]; simp; omega)
            clear e1
            go_wp2_with (go_at_call 53; refine (rblank_any _ _).mono ?_; rintro e w' ⟨rfl, rfl⟩)
            go_round
            case rel => exact ⟨_, e - 1, by omega, by omega, rfl, E1, E2⟩
            case measure => simp; omega
          · obtain rfl : e = e0 := by omega
            have hsz : t.size ≤ s.size := by have := HZ.out; omega
            have HF : Hid (t = ⟨(trimL s.data.toList).toArray⟩) := Lib.hid (str_ext (by rw [HT.out, HR.out]))
            by_cases hke : k < e
            · have h0 : 0 < t.size := by have := HZ.out; omega
              have hl : t.size - 1 < t.size := by omega
              have hbl := blank_last HT.out hl HZ.out (H6.out hke)
              go_wp2_with (go_at_call 53; refine (rblank_any _ _).mono ?_; rintro e w' ⟨rfl, rfl⟩)
              go_ret
              exact ⟨ret_str HF.out, rfl⟩
            · have h0 : t.size = 0 := by have := HZ.out; omega
              go_wp2
              go_ret
              exact ⟨ret_str HF.out, rfl⟩
      · have h0 : t.size = 0 := by have := HZ.out; omega
        go_wp2
        go_loop [0] (fun i => ∃ (t : ByteArray) (e : Nat), e0 ≤ e ∧ e ≤ s.size ∧ i = .string t ∧ Hid (t.data.toList = (s.data.toList.take e).drop k) ∧ Hid (t.size = e - k)) (fun i => match i with | .string t => t.size | _ => 0)
        case atStart => exact ⟨t, s.size, h2, Nat.le_refl _, rfl, Lib.hid (by rw [List.take_of_length_le (by simp)]; exact HT.out), HZ⟩
        case round =>
          obtain ⟨t, e, he, hes, rfl, HT, HZ⟩ := hrel
          by_cases hle : e0 < e
          · exfalso; omega
          · obtain rfl : e = e0 := by omega
            have hsz : t.size ≤ s.size := by have := HZ.out; omega
            have HF : Hid (t = ⟨(trimL s.data.toList).toArray⟩) := Lib.hid (str_ext (by rw [HT.out, HR.out]))
            by_cases hke : k < e
            · exfalso; omega
            · have h0 : t.size = 0 := by have := HZ.out; omega
              go_wp2
              go_ret
              exact ⟨ret_str HF.out, rfl⟩
end
section
open Go.RowKit
theorem rTrim_is {s x : ByteArray} {w : World} (hs : s.size ≤ maxLen) (h : Box (bs (trimL s.data.toList) = x)) :
    Calls Try.prog 39 #[.string s] w fun e w' => e = .returned (.string x) ∧ w = w' :=
  (rTrim_any s w hs).mono fun e w' ⟨h1, h2⟩ => ⟨by rw [h1, ← h.out]; rfl, by first | exact h2 | exact h2.symm⟩
end
section
open Go.RowKit
/-- the two results of a function that returns a string and whether there is one -/
def optV : Option (List UInt8) → Value
  | none => .tuple #[.string ⟨#[]⟩, .bool false]
  | some l => .tuple #[.string ⟨l.toArray⟩, .bool true]
theorem unescape_any (s : ByteArray) (w : World) (hs : s.size ≤ 4294967296) :
    Calls Try.prog 64 #[.string s] w fun e w' => e = .returned (optV (unescL s.data.toList)) ∧ Below w.heap.size w w' := by
  obtain ⟨i0, hi0, hz0, hz1, hz2⟩ := info_parts info_u8
  have hmk := fun (w : World) => run_make (P := Try.prog) w 46 5 i0 _ Try.underlying46 hi0 hz0 .i64 .i64 0 s.size (by omega) (by omega) (by rw [hz2]; omega) (by omega)
  simp only [Int.toNat_natCast, hz1, Nat.mul_one] at hmk
  go_enter Try.func64, Try.ntmps64
  go_wp2
  have hO0 : Own (w.alloc (.cells (madeCells #[.int .u8 0] s.size) 5)) w.heap.size (.slice (some ⟨w.heap.size, 0, none⟩) 0 s.size) [] :=
    ⟨rfl, .inr ⟨_, _, _, rfl, Nat.le_refl _, heap_alloc_new w _, Nat.zero_le _, by unfold maxLen; omega, by simp [size_madeCells], rfl⟩⟩
  go_loopw [4, 5] (fun v i wr => ∃ (k : Nat) (acc : List UInt8), k ≤ s.size ∧ i = .int .i64 k ∧ Own wr w.heap.size v acc ∧ UnAt s.data.toList k acc ∧ Below w.heap.size w wr) (fun _ i _ => s.size - (intOf i).toNat)
  case atStart => exact ⟨0, [], Nat.zero_le _, rfl, hO0, UnAt.start _, (Below.refl _ _).alloc (Nat.le_refl _) _⟩
  case round =>
    obtain ⟨k, acc, hk, rfl, hO, hU, hbel⟩ := hrel
    clear hO0 hmk
    have ha := hU.1
    by_cases hlt : k < s.size
    · rcases h1 : ((s[k].toNat : Int) == 34) with _ | _
      · rcases h2 : ((s[k].toNat : Int) == 92) with _ | _
        · go_wp2_with (at_builtin; refine wpList_append_byte _ rfl (.tmp 28) (.tmp 32) rfl w.heap.size _ acc rfl (hO.alloc _) _ rfl _ s[k] rfl (by go_simp) (by omega) (by have := hbel.size; simp; omega) ?_; intro v' w1 hO1 hb1)
          go_roundw
          case rel => exact ⟨k + 1, _, by omega, by go_num, hO1, hU.plain hlt h1 h2, hbel.alloc hbel.size _ |>.trans hb1⟩
          case measure => simp [intOf]; omega
        · by_cases he : k + 1 < s.size
          · go_wp2_with (at_builtin; refine wpList_append_byte _ rfl (.tmp 28) (.tmp 32) rfl w.heap.size _ acc rfl (hO.alloc _) _ rfl _ s[k + 1] rfl (by go_simp) (by omega) (by have := hbel.size; simp; omega) ?_; intro v' w1 hO1 hb1)
            go_roundw
            case rel => exact ⟨k + 1 + 1, _, by omega, by go_num, hO1, hU.esc hlt h2 he, hbel.alloc hbel.size _ |>.trans hb1⟩
            case measure => simp [intOf]; omega
          · go_wp2
            go_ret2
            exact ⟨by rw [hU.last hlt h2 (by omega)]; rfl, hbel⟩
      · go_wp2
        go_ret2
        exact ⟨by rw [hU.quote hlt h1]; rfl, hbel⟩
    · have hst := hO.str
      go_wp2
      go_ret2
      exact ⟨by rw [hU.fin (by simp; omega)]; rfl, hbel⟩
end
end Go.Proofs.Ytkalddhokoldgaa.Asc
