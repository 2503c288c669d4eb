/- Merged texts: LstFil LstGet LstSame LisRef AscTrim LisRef2 AscDec. -/
import Derived.Test.YtlhcccakiidbdaaZa01
import Derived.Test.YtlhcccakiidbdaaZa02
import Derived.Test.YtlhcccakiidbdaaZa03
import Derived.Test.YtlhcccakiidbdaaZa04
import Derived.BigQuiet
import Derived.Deep.QuietTactic
import Derived.Lib.Hide
import Derived.Lib.SmallJoins
import Derived.LoopTactic
set_option linter.unusedVariables false
set_option linter.unusedSimpArgs false
set_option maxRecDepth 100000
namespace Go.Proofs.Ytlhcccakiidbdaa.Asc
section
open Go.RowKit
theorem filter_more {p : F → Bool} {L : List F} {k : Nat} (h : k < L.length) : (L.take (k + 1)).filter p = (L.take k).filter p ++ (if p L[k] then [L[k]] else []) := by
  rw [take_next h, List.filter_append]; simp [List.filter_cons]
theorem filter_le {p : F → Bool} {L : List F} {k : Nat} : ((L.take k).filter p).length ≤ L.length := by
  have h1 := List.length_filter_le p (L.take k)
  have h2 : (L.take k).length ≤ L.length := by rw [List.length_take]; omega
  omega
/-- what a function value answers, in every world in which what it has captured still lies -/
def Ans (f : FuncId) (c : Value) (p : F → Bool) (J : World → Prop) : Prop :=
  ∀ (n v : ByteArray) (w : World), J w → n.size ≤ 65536 → Calls Try.prog f #[.agg #[.string n, .string v], c] w fun e w' => e = .returned (.bool (p (n, v))) ∧ Below w.heap.size w w'
set_option maxHeartbeats 800000 in
theorem filterN_any (a : Option Addr) (cap : Nat) (L : List F) (c : Option Addr) (p : F → Bool) (J : World → Prop) (w : World) (hl : L.length ≤ 65536) (S : Box (Sm L)) (hF : Box (Fs w a L))
    (hA : Box (Ans 69 (.pointer c) p J)) (hJ : Box (∀ w', Below w.heap.size w w' → J w')) :
    Calls Try.prog 52 #[.slice a L.length cap, .func (.func 69) #[] #[.pointer c]] w fun e w' => ∃ v, e = .returned v ∧ OwnF w' w.heap.size v (L.filter p) ∧ Below w.heap.size w w' := by
  go_enter Try.func52, Try.ntmps52
  go_wp2
  go_loopw [5, 10] (fun v i wr => ∃ k : Nat, k ≤ L.length ∧ i = .int .i64 k ∧ OwnF wr w.heap.size v ((L.take k).filter p) ∧ Below w.heap.size w wr) (fun _ i _ => L.length - (intOf i).toNat)
  case atStart => exact ⟨0, Nat.zero_le _, rfl, OwnF.nil _ _, Below.refl _ _⟩
  case round =>
    obtain ⟨k, hk, rfl, hO, hbel⟩ := hrel
    by_cases hlt : k < L.length
    · obtain ⟨q, off, rfl, c0, c1⟩ := (hF.out.below hbel) k hlt
      have B1 := box ((S.out.2 k hlt).1)
      have O := box hO
      have BL := box hbel
      clear hO hbel
      go_wp2_with fail
      refine (hA.out L[k].1 L[k].2 _ (hJ.out _ (BL.out.alloc BL.out.size _)) B1.out).mono ?_; rintro e w1 ⟨rfl, hb1⟩
      obtain ⟨f0, f1, _, _⟩ := (Fld.new L[k].1 L[k].2 _ 40).below hb1 (by simp)
      have O1 := box (own_below (own_below O.out (below_new _ _)) hb1)
      have BL1 := box ((BL.out.alloc BL.out.size _).trans (hb1.mono (BL.out.alloc BL.out.size _).size))
      have hbs := BL1.out.size
      clear hb1 c0 c1
      rcases hp : p (L[k].1, L[k].2) with _ | _
      · go_wp2
        go_roundw
        case rel => exact ⟨k + 1, by omega, by go_num, by rw [filter_more hlt, if_neg (by rw [show p L[k] = false from hp]; simp), List.append_nil]; exact O1.out, BL1.out⟩
        case measure => simp [intOf]; omega
      · go_wp2_with (at_builtin; refine wpList_append_fld _ rfl (.tmp 17) (.tmp 19) rfl w.heap.size _ ((L.take k).filter p) rfl (own_below O1.out (below_new _ _)) _ _ rfl L[k].1 L[k].2 (by go_simp) (by go_simp) (Nat.le_trans filter_le hl) (by simp; omega) ?_; intro v' w2 hO2 hb2)
        go_roundw
        case rel => exact ⟨k + 1, by omega, by go_num, by rw [filter_more hlt, if_pos (show p L[k] = true from hp)]; exact hO2, (BL1.out.alloc BL1.out.size _).trans hb2⟩
        case measure => simp [intOf]; omega
    · have e : k = L.length := by omega
      subst e
      rw [List.take_length] at hO
      go_wp2
      go_ret
      exact ⟨_, rfl, hO, hbel⟩
end
section
open Go.RowKit
theorem ans_named (g : Nat) (nm : ByteArray) (M : Box (nm.size ≤ 65536)) : Ans 69 (.pointer (some ⟨g, 0, none⟩)) (nmd nm) (Nm g nm) :=
  fun n v w h hn => clo_any g nm n v w (box hn) M (box h)
set_option maxHeartbeats 800000 in
theorem Get_any (a : Option Addr) (cap : Nat) (L : List F) (nm : ByteArray) (w : World) (hl : L.length ≤ 65536) (S : Box (Sm L)) (M : Box (nm.size ≤ 65536)) (hF : Box (Fs w a L)) :
    Calls Try.prog 39 #[.slice a L.length cap, .string nm] w fun e w' => ∃ v, e = .returned v ∧ OwnS w' w.heap.size v (getL nm L) ∧ Below w.heap.size w w' := by
  go_enter Try.func39, Try.ntmps39
  go_wp2_with fail
  refine (named_any nm _).mono ?_; rintro e w1 ⟨rfl, rfl⟩
  unfold nmV
  go_wp2_with fail
  refine (filterN_any a cap L _ (nmd nm) (Nm w.heap.size nm) (w.alloc (.cells #[.string nm] 9)) hl S (box (hF.out.below (below_new _ _))) (box (ans_named _ nm M)) (box (fun w' hb => (Nm.new nm w _).below hb))).mono ?_
  rintro e w2 ⟨v, rfl, hO, hb2⟩
  obtain ⟨K, hK⟩ : ∃ K, L.filter (nmd nm) = K := ⟨_, rfl⟩
  have HG : Box (getL nm L = K.map (·.2)) := box (by unfold getL; rw [hK])
  rw [hK] at hO
  obtain ⟨a2, cap2, rfl, hfs, hcl⟩ := hO.fs
  have FS := box hfs
  have b2 := box ((below_new w _).trans (hb2.mono (below_new w _).size))
  have hKl : K.length ≤ 65536 := by rw [← hK]; exact Nat.le_trans (List.length_filter_le _ _) hl
  clear hb2 hO hfs hK hcl
  go_wp2
  go_loopw [5, 13] (fun v i wr => ∃ k : Nat, k ≤ K.length ∧ i = .int .i64 k ∧ OwnS wr w2.heap.size v ((K.take k).map (·.2)) ∧ Below w2.heap.size w2 wr) (fun _ i _ => K.length - (intOf i).toNat)
  case atStart => exact ⟨0, Nat.zero_le _, rfl, OwnS.nil _ _, Below.refl _ _⟩
  case round =>
    obtain ⟨k, hk, rfl, hO, hbel2⟩ := hrel
    by_cases hlt : k < K.length
    · obtain ⟨q, off, rfl, c0, c1⟩ := (FS.out.below hbel2) k hlt
      have O := box hO
      have BL2 := box hbel2
      have hbs := hbel2.size
      clear hO hbel2
      go_wp2_with (at_builtin; refine wpList_append_str _ rfl (.tmp 17) (.tmp 20) rfl w2.heap.size _ ((K.take k).map (·.2)) rfl ?a1 _ _ rfl K[k].2 ?b1 ?c1 ?d1 ?_)
      case a1 => exact own_below (own_below O.out (below_new _ _)) (below_new _ _)
      case b1 => go_simp
      case c1 => rw [List.length_map, List.length_take]; omega
      case d1 => simp; omega
      intro v' w3 hO2 hb2
      have hO3 := box hO2
      clear hO2
      go_wp2
      go_roundw
      case rel => exact ⟨k + 1, by omega, by go_num, by rw [take_next hlt, List.map_append]; simpa using hO3.out, ((BL2.out.alloc BL2.out.size _).alloc (by simp; omega) _).trans hb2⟩
      case measure => simp [intOf]; omega
    · have e : k = K.length := by omega
      subst e
      rw [List.take_length] at hO
      go_wp2
      go_ret
      exact ⟨_, rfl, by rw [HG.out]; exact Go.Joins.ownsRow_le hO b2.out.size, b2.out.trans (hbel2.mono b2.out.size)⟩
theorem get_more {nm : ByteArray} {L : List F} {k : Nat} (h : k < L.length) : getL nm (L.take (k + 1)) = getL nm (L.take k) ++ (if nmd nm L[k] then [L[k].2] else []) := by
  unfold getL; rw [filter_more h, List.map_append]; split <;> rfl
theorem get_le {nm : ByteArray} {L : List F} {k : Nat} : (getL nm (L.take k)).length ≤ L.length := by
  unfold getL; rw [List.length_map]; exact filter_le
theorem small_4g {s : ByteArray} (h : s.size ≤ 65536) : s.size ≤ 4294967296 := by omega
set_option maxHeartbeats 800000 in
theorem rGet_any (a : Option Addr) (cap : Nat) (L : List F) (nm : ByteArray) (w : World) (hl : L.length ≤ 65536) (S : Box (Sm L)) (M : Box (nm.size ≤ 65536)) (hF : Box (Fs w a L)) :
    Calls Try.prog 33 #[.slice a L.length cap, .string nm] w fun e w' => ∃ v, e = .returned v ∧ OwnS w' w.heap.size v (getL nm L) ∧ Below w.heap.size w w' := by
  go_enter Try.func33, Try.ntmps33
  go_wp2
  go_loopw [5, 6] (fun v i wr => ∃ k : Nat, k ≤ L.length ∧ i = .int .i64 k ∧ OwnS wr w.heap.size v (getL nm (L.take k)) ∧ Below w.heap.size w wr) (fun _ i _ => L.length - (intOf i).toNat)
  case atStart => exact ⟨0, Nat.zero_le _, rfl, OwnS.nil _ _, Below.refl _ _⟩
  case round =>
    obtain ⟨k, hk, rfl, hO, hbel⟩ := hrel
    by_cases hlt : k < L.length
    · obtain ⟨q, off, rfl, c0, c1⟩ := (hF.out.below hbel) k hlt
      have B1 := box ((S.out.2 k hlt).1)
      have O := box hO
      have BL := box hbel
      clear hO hbel
      go_wp2_with fail
      refine (rFold_any L[k].1 nm _ (small_4g B1.out) (small_4g M.out)).mono ?_; rintro e w1 ⟨rfl, hb1⟩
      have c2 := hb1.cell (p := ⟨q, off + k * 2 + 1, none⟩) (cell_lt c1)
      have O1 := box (own_below O.out hb1)
      have BL1 := box (BL.out.trans (hb1.mono BL.out.size))
      have hbs := BL1.out.size
      rw [c1] at c2
      clear hb1 c0 c1
      rcases hp : nmd nm L[k] with _ | _
      · rw [show foldL L[k].1.data.toList nm.data.toList = false from hp]
        have HP := box hp
        clear hp
        go_wp2
        go_roundw
        case rel => exact ⟨k + 1, by omega, by go_num, by rw [get_more hlt, HP.out, if_neg (by simp), List.append_nil]; exact O1.out, BL1.out⟩
        case measure => simp [intOf]; omega
      · rw [show foldL L[k].1.data.toList nm.data.toList = true from hp]
        have HP := box hp
        clear hp
        go_wp2_with (at_builtin; refine wpList_append_str _ rfl (.tmp 20) (.tmp 26) rfl w.heap.size _ (getL nm (L.take k)) rfl ?a1 _ _ rfl L[k].2 ?b1 ?c1 ?d1 ?_)
        case a1 => exact own_below O1.out (below_new _ _)
        case b1 => go_simp
        case c1 => exact Nat.le_trans get_le hl
        case d1 => simp; omega
        intro v' w3 hO2 hb2
        have O2 := box hO2
        clear hO2
        go_wp2
        go_roundw
        case rel => exact ⟨k + 1, by omega, by go_num, by rw [get_more hlt, HP.out]; exact O2.out, (BL1.out.alloc BL1.out.size _).trans hb2⟩
        case measure => simp [intOf]; omega
    · have e : k = L.length := by omega
      subst e
      rw [List.take_length] at hO
      go_wp2
      go_ret
      exact ⟨_, rfl, hO, hbel⟩
end
section
open Go.RowKit
theorem str_eq {a b : ByteArray} (h : (a.toList == b.toList) = true) : a = b := by
  rw [toList_data, toList_data] at h
  rw [bs_of a, bs_of b, eq_of_beq h]
theorem take_same {α : Type} {K L : List α} {k : Nat} (hK : k < K.length) (hL : k < L.length) (h : K.take k = L.take k) (e : K[k] = L[k]) : K.take (k + 1) = L.take (k + 1) := by
  rw [take_next hK, take_next hL, h, e]
theorem not_same {α : Type} {K L : List α} {k : Nat} (hK : k < K.length) (hL : k < L.length) (e : K[k] ≠ L[k]) : K ≠ L := by
  intro h; subst h; exact e rfl
set_option maxHeartbeats 800000 in
theorem SameS_any (a b : Option Addr) (ca cb : Nat) (K L : List ByteArray) (w : World) (hk : K.length ≤ 65536) (hl : L.length ≤ 65536) (hK : Box (Ss w a K)) (hL : Box (Ss w b L)) :
    Calls Try.prog 30 #[.slice a K.length ca, .slice b L.length cb] w fun e w' => e = .returned (.bool (decide (K = L))) ∧ Below w.heap.size w w' := by
  by_cases hn : K.length = L.length
  · have HN := box hn
    have hne : ((K.length : Int) != (L.length : Int)) = false := by simp [hn]
    clear hn
    go_enter Try.func30, Try.ntmps30
    go_wp2
    go_loopw [5] (fun i wr => ∃ k : Nat, k ≤ K.length ∧ i = .int .i64 k ∧ K.take k = L.take k ∧ Below w.heap.size w wr) (fun i _ => K.length - (intOf i).toNat)
    case atStart => exact ⟨0, Nat.zero_le _, rfl, rfl, Below.refl _ _⟩
    case round =>
      obtain ⟨k, hk2, rfl, hall, hbel⟩ := hrel
      have HA := box hall
      clear hall
      by_cases hlt : k < K.length
      · have hlt2 : k < L.length := by rw [← HN.out]; exact hlt
        obtain ⟨q, off, rfl, c0⟩ := (hK.out.below hbel) k hlt
        obtain ⟨r, off2, rfl, d0⟩ := (hL.out.below hbel) k hlt2
        go_wp2
        go_quiet (fail)
        go_wp2
        · have h : (!K[k].toList == L[k].toList) = true := by assumption
          go_ret
          have hne2 : K[k] ≠ L[k] := fun e => by rw [e] at h; simp at h
          exact ⟨ret_bool (decide_eq_false (not_same hlt hlt2 hne2)).symm, hbel.trans ((below_drewN _ _).mono hbel.size)⟩
        · have h : (!K[k].toList == L[k].toList) = false := by assumption
          have e : K[k] = L[k] := str_eq (by simpa using h)
          have E := box e
          clear e h
          go_roundw
          case rel => exact ⟨k + 1, by omega, by go_num, take_same hlt hlt2 HA.out E.out, hbel.trans ((below_drewN _ _).mono hbel.size)⟩
          case measure => simp [intOf]; omega
      · have e : k = K.length := by omega
        have E : Box (K = L) := box (by
          have h := HA.out
          subst e
          rw [List.take_length, HN.out, List.take_length] at h
          exact h)
        clear e
        go_wp2
        go_ret
        exact ⟨ret_bool (decide_eq_true E.out).symm, hbel⟩
  · have hne : ((K.length : Int) != (L.length : Int)) = true := by simp; omega
    have HN := box hn
    clear hn
    go_enter Try.func30, Try.ntmps30
    go_wp2
    go_ret
    exact ⟨ret_bool (decide_eq_false (fun e => HN.out (by rw [e]))).symm, Below.refl _ _⟩
theorem kSameS_any (a b : Option Addr) (ca cb : Nat) (K L : List ByteArray) (w : World) (hk : K.length ≤ 65536) (hl : L.length ≤ 65536) (hK : Box (Ss w a K)) (hL : Box (Ss w b L)) :
    Calls Try.prog 10 #[.slice a K.length ca, .slice b L.length cb] w fun e w' => e = .returned (.bool (decide (K = L))) ∧ Below w.heap.size w w' := by
  go_enter Try.func10, Try.ntmps10
  go_wp2_with fail
  refine (SameS_any a b ca cb K L _ hk hl hK hL).mono ?_; rintro e w1 ⟨rfl, hb⟩
  go_wp2
  go_ret
  exact ⟨rfl, hb⟩
end
section
open Go.RowKit
def cutsB (sep : UInt8) (l : List UInt8) : List ByteArray := (cutL sep l).map bs
def CutRel (s : ByteArray) (sep : UInt8) (w : World) (v fr q i : Value) (wr : World) : Prop :=
  ∃ (k n : Nat) (b : Bool) (o : List (List UInt8)), i = .int .i64 k ∧ fr = .int .i64 n ∧ q = .bool b ∧ n ≤ k ∧ n ≤ s.size ∧ k ≤ s.size + 1 ∧ o.length ≤ n ∧ cutL sep s.data.toList = o ++ cutAt sep s.data.toList b k n ∧ OwnS wr w.heap.size v (o.map bs) ∧ Below w.heap.size w wr
theorem byte_is {c d : UInt8} (h : ((c.toNat : Int) == (d.toNat : Int)) = true) : c = d := by
  have : (c.toNat : Int) = d.toNat := by simpa using h
  exact UInt8.toNat_inj.mp (by omega)
theorem byte_no {c d : UInt8} (h : ((c.toNat : Int) == (d.toNat : Int)) = false) : c ≠ d := by
  rintro rfl
  simp at h
set_option maxHeartbeats 4000000 in
theorem rCut_any (s : ByteArray) (sep : UInt8) (w : World) (hs : s.size ≤ 65000) :
    Calls Try.prog 50 #[.string s, .int .u8 (sep.toNat : Int)] w fun e w' => ∃ v, e = .returned v ∧ OwnS w' w.heap.size v (cutsB sep s.data.toList) ∧ Below w.heap.size w w' := by
  have hz : s.data.toList.length = s.size := by simp
  go_enter Try.func50, Try.ntmps50
  go_wp2
  go_loopw [5, 6, 7, 8] (fun v fr q i wr => CutRel s sep w v fr q i wr) (fun _ _ _ i _ => s.size + 1 - (intOf i).toNat)
  case atStart => exact ⟨0, 0, false, [], rfl, rfl, rfl, Nat.le_refl _, Nat.zero_le _, Nat.zero_le _, Nat.le_refl _, by rw [cut_start]; rfl, OwnS.nil _ _, Below.refl _ _⟩
  case round =>
    obtain ⟨k, n, b, o, rfl, rfl, rfl, hnk, hns, hk1, hol, hC, hO, hbel⟩ := hrel
    have HC := box hC
    have O0 := box hO
    have BL := box hbel
    have hBw := hbel.size
    clear hC hO hbel
    by_cases hlt : k < s.size
    · have hlt' : k < s.data.toList.length := by rw [hz]; exact hlt
      have hbk : s.data.toList[k] = s[k] := rfl
      rcases hc34 : ((s[k].toNat : Int) == 34) with _ | _
      · have n34 : s.data.toList[k] ≠ 34 := by rw [hbk]; exact byte_no (d := 34) hc34
        rcases b with _ | _
        · rcases hcs : ((s[k].toNat : Int) == (sep.toNat : Int)) with _ | _
          · have HX := box (HC.out.trans (congrArg (o ++ ·) (cut_any hlt' hnk (by simp) n34 (fun h => byte_no hcs h.1))))
            clear hbk n34
            go_wp2
            go_roundw
            case rel => exact ⟨k + 1, n, false, o, by go_num, rfl, rfl, by omega, hns, by omega, hol, HX.out, O0.out, BL.out⟩
            case measure => simp [intOf]; omega
          · have HX : Box (cutL sep s.data.toList = (o ++ [(s.extract n k).data.toList]) ++ cutAt sep s.data.toList false (k + 1) (k + 1)) := box (by
              rw [HC.out, cut_sep hlt' n34 (byte_is hcs), ext_bs, List.append_assoc]; rfl)
            have hol6 : (o.map bs).length ≤ 65536 := by rw [List.length_map]; omega
            clear hbk n34
            go_wp2_with (at_builtin; refine wpList_append_str _ rfl (.tmp 42) (.tmp 47) rfl w.heap.size _ (o.map bs) rfl (own_below O0.out (below_new _ _)) _ _ rfl (s.extract n k) (by go_simp) hol6 (by simp; omega) ?_; intro v3 w3 hO3 hb3; have O3 := box hO3; have B3 := box ((BL.out.alloc hBw _).trans hb3); clear hO3 hb3)
            go_roundw
            case rel => exact ⟨k + 1, k + 1, false, o ++ [(s.extract n k).data.toList], by go_num, by go_num, rfl, Nat.le_refl _, by omega, by omega, by simp; omega, HX.out, by rw [List.map_append]; exact O3.out, B3.out⟩
            case measure => simp [intOf]; omega
        · rcases hc92 : ((s[k].toNat : Int) == 92) with _ | _
          · have HX := box (HC.out.trans (congrArg (o ++ ·) (cut_any hlt' hnk (fun h => byte_no (d := 92) hc92 h.2) n34 (by simp))))
            rcases hcs : ((s[k].toNat : Int) == (sep.toNat : Int)) with _ | _
            all_goals
              clear hbk n34
              go_wp2
              go_roundw
              case rel => exact ⟨k + 1, n, true, o, by go_num, rfl, rfl, by omega, hns, by omega, hol, HX.out, O0.out, BL.out⟩
              case measure => simp [intOf]; omega
          · have HX := box (HC.out.trans (congrArg (o ++ ·) (cut_esc hlt' hnk (byte_is (d := 92) hc92))))
            clear hbk n34
            go_wp2
            go_roundw
            case rel => exact ⟨k + 2, n, true, o, by go_num, rfl, rfl, by omega, hns, by omega, hol, HX.out, O0.out, BL.out⟩
            case measure => simp [intOf]; omega
      · have e34 : s.data.toList[k] = 34 := by rw [hbk]; exact byte_is (d := 34) hc34
        have hn92 : ¬ s.data.toList[k] = 92 := by rw [e34]; decide
        have hc92 : ((s[k].toNat : Int) == 92) = false := by rw [← hbk, e34]; rfl
        have HX := box (HC.out.trans (congrArg (o ++ ·) (cut_quo hlt' hnk (fun h => hn92 h.2) e34)))
        clear hbk e34 hn92
        rcases b with _ | _
        all_goals
          go_wp2
          go_roundw
          case rel => exact ⟨k + 1, n, _, o, by go_num, rfl, rfl, by omega, hns, by omega, hol, HX.out, O0.out, BL.out⟩
          case measure => simp [intOf]; omega
    · have HX : Box (cutsB sep s.data.toList = o.map bs ++ [s.extract n s.size]) := box (by
        unfold cutsB; rw [HC.out, cut_out (by rw [hz]; omega), List.map_append, List.map_cons, List.map_nil, ext_bs, List.take_of_length_le (by rw [hz]; exact Nat.le_refl _)])
      have hol6 : (o.map bs).length ≤ 65536 := by rw [List.length_map]; omega
      go_wp2_with (at_builtin; refine wpList_append_str _ rfl (.tmp 51) (.tmp 55) rfl w.heap.size _ (o.map bs) rfl (own_below O0.out (below_new _ _)) _ _ rfl (s.extract n s.size) (by go_simp) hol6 (by simp; omega) ?_; intro v3 w3 hO3 hb3; have O3 := box hO3; have B3 := box ((BL.out.alloc hBw _).trans hb3); clear hO3 hb3)
      go_ret
      exact ⟨_, rfl, by rw [HX.out]; exact O3.out, B3.out⟩
end
section
open Go.RowKit
theorem ret_str {a b : ByteArray} (h : a = b) : Ending.returned (.string a) = .returned (.string b) := by rw [h]
theorem str_ext {a : ByteArray} {l : List UInt8} (h : a.data.toList = l) : a = ⟨l.toArray⟩ := by
  subst h; rfl
theorem extract_list (s : ByteArray) (i j : Nat) : (s.extract i j).data.toList = (s.data.toList.take j).drop i := by
  rw [ByteArray.data_extract, Array.toList_extract, List.extract_eq_take_drop, List.drop_take]
theorem blank_at {s : ByteArray} {k : Nat} {b : Bool} (hk : k < s.size) (h : blankB (s.data.toList.getD k 0) = b) : blankI (s[k].toNat) = b := by
  rw [getD_at s k hk] at h; exact h
theorem blank_drop {t : ByteArray} {l : List UInt8} {k : Nat} {b : Bool} (ht : t.data.toList = l.drop k) (h0 : 0 < t.size) (h : blankB (l.getD k 0) = b) : blankI (t[0].toNat) = b := by
  refine blank_at (s := t) (k := 0) h0 ?_
  rw [ht]; rw [← h]; simp [List.getD_eq_getElem?_getD, List.getElem?_drop]
theorem blank_last {t : ByteArray} {l : List UInt8} {k e : Nat} {b : Bool} (ht : t.data.toList = (l.take e).drop k) (hl : t.size - 1 < t.size) (hsz : t.size = e - k) (h : blankB (l.getD (e - 1) 0) = b) : blankI (t[t.size - 1].toNat) = b := by
  refine blank_at (s := t) (k := t.size - 1) hl ?_
  rw [ht, ← h]
  simp only [List.getD_eq_getElem?_getD, List.getElem?_drop]
  rw [List.getElem?_take_of_lt (by omega), show k + (t.size - 1) = e - 1 by omega]
theorem list_size {t : ByteArray} {l : List UInt8} (h : t.data.toList = l) : t.size = l.length := by subst h; simp
set_option maxHeartbeats 800000 in
theorem Trim_any (s : ByteArray) (w : World) (hs : s.size ≤ maxLen) :
    Calls Try.prog 54 #[.string s] w fun e w' => e = .returned (.string ⟨(trimL s.data.toList).toArray⟩) ∧ w = w' := by
  unfold maxLen at hs
  obtain ⟨k0, e0, ht⟩ := ex_trim s.data.toList
  have HR : Hid (s.extract k0 e0 = ⟨(trimL s.data.toList).toArray⟩) := Lib.hid (str_ext (by rw [extract_list, trim_at ht]))
  obtain ⟨h1, h2, h3, h4, h5, h6⟩ := ht
  have hz : s.data.toList.length = s.size := by simp
  rw [hz] at h2
  have H3 := Lib.hid h3
  have H4 := Lib.hid h4
  have H5 := Lib.hid h5
  have H6 := Lib.hid h6
  clear h3 h4 h5 h6 hz
  go_enter Try.func54, Try.ntmps54
  go_wp2
  go_loop [3] (fun i => ∃ k : Nat, k ≤ k0 ∧ i = .int .i64 k) (fun i => s.size - (intOf i).toNat)
  case atStart => exact ⟨0, Nat.zero_le _, rfl⟩
  case round =>
    obtain ⟨k, hk, rfl⟩ := hrel
    by_cases hlt : k < k0
    · have hks : k < s.size := by omega
      have hb := byte_bd s k hks
      have hbl := blank_at hks (H3.out k hlt)
      go_wp2_with (go_at_call 75; refine (isBlank_any _ _).mono ?_; rintro e w' ⟨rfl, rfl⟩)
      go_round
      case rel => exact ⟨k + 1, by omega, by go_num⟩
      case measure => simp [intOf]; omega
    · obtain rfl : k = k0 := by omega
      by_cases hks : k < s.size
      · have hbl := blank_at hks (H5.out (by simpa using hks))
        go_wp2_with (go_at_call 75; refine (isBlank_any _ _).mono ?_; rintro e w' ⟨rfl, rfl⟩)
        go_loop [4] (fun j => ∃ e : Nat, e0 ≤ e ∧ e ≤ s.size ∧ j = .int .i64 e) (fun j => (intOf j).toNat)
        case atStart => exact ⟨s.size, h2, Nat.le_refl _, rfl⟩
        case round =>
          obtain ⟨e, he, hes, rfl⟩ := hrel
          by_cases hle : e0 < e
          · have hq : e - 1 < s.size := by omega
            have hbe := blank_at hq (H4.out (e - 1) (by omega) (by simpa using hq))
            go_wp2_with (go_at_call 75; refine (isBlank_any _ _).mono ?_; rintro e w' ⟨rfl, rfl⟩)
            go_round
            case rel => exact ⟨e - 1, by omega, by omega, by go_num⟩
            case measure => simp [intOf]; omega
          · obtain rfl : e = e0 := by omega
            by_cases hke : k < e
            · have hq : e - 1 < s.size := by omega
              have hbe := blank_at hq (H6.out hke)
              go_wp2_with (go_at_call 75; refine (isBlank_any _ _).mono ?_; rintro e w' ⟨rfl, rfl⟩)
              go_ret
              exact ⟨ret_str HR.out, rfl⟩
            · go_wp2
              go_ret
              exact ⟨ret_str HR.out, rfl⟩
      · go_wp2
        go_loop [4] (fun j => ∃ e : Nat, e0 ≤ e ∧ e ≤ s.size ∧ j = .int .i64 e) (fun j => (intOf j).toNat)
        case atStart => exact ⟨s.size, h2, Nat.le_refl _, rfl⟩
        case round =>
          obtain ⟨e, he, hes, rfl⟩ := hrel
          by_cases hle : e0 < e
          · exfalso; omega
          · obtain rfl : e = e0 := by omega
            by_cases hke : k < e
            · exfalso; omega
            · go_wp2
              go_ret
              exact ⟨ret_str HR.out, rfl⟩
set_option maxHeartbeats 800000 in
theorem rTrim_any (s : ByteArray) (w : World) (hs : s.size ≤ maxLen) :
    Calls Try.prog 51 #[.string s] w fun e w' => e = .returned (.string ⟨(trimL s.data.toList).toArray⟩) ∧ w = w' := by
  unfold maxLen at hs
  obtain ⟨k0, e0, ht⟩ := ex_trim s.data.toList
  have HR := Lib.hid (trim_at ht)
  obtain ⟨h1, h2, h3, h4, h5, h6⟩ := ht
  have hz : s.data.toList.length = s.size := by simp
  rw [hz] at h2
  have H3 := Lib.hid h3
  have H4 := Lib.hid h4
  have H5 := Lib.hid h5
  have H6 := Lib.hid h6
  clear h3 h4 h5 h6 hz
  go_enter Try.func51, Try.ntmps51
  go_wp2
  go_loop [0] (fun i => ∃ (t : ByteArray) (k : Nat), k ≤ k0 ∧ i = .string t ∧ Hid (t.data.toList = s.data.toList.drop k) ∧ Hid (t.size = s.size - k)) (fun i => match i with | .string t => t.size | _ => 0)
  case atStart => exact ⟨s, 0, Nat.zero_le _, rfl, Lib.hid (by simp), Lib.hid (by simp)⟩
  case round =>
    obtain ⟨t, k, hk, rfl, HT, HZ⟩ := hrel
    by_cases hlt : k < k0
    · have h0 : 0 < t.size := by have := HZ.out; omega
      have hle : t.size ≤ s.size := by have := HZ.out; omega
      have hbl := blank_drop HT.out h0 (H3.out k hlt)
      have hb := byte_bd t 0 h0
      go_wp2_with (go_at_call 73; refine (rblank_any _ _).mono ?_; rintro e w' ⟨rfl, rfl⟩)
      go_round
      case rel =>
        have e1 : (t.extract 1 t.size).data.toList = s.data.toList.drop (k + 1) := by
          rw [extract_list, List.take_of_length_le (by simp), HT.out, List.drop_drop]
        exact ⟨_, k + 1, by omega, rfl, Lib.hid e1, Lib.hid (by rw [list_size e1]; simp)⟩
      case measure => simp; omega
    · obtain rfl : k = k0 := by omega
      by_cases hks : k < s.size
      · have h0 : 0 < t.size := by have := HZ.out; omega
        have hle : t.size ≤ s.size := by have := HZ.out; omega
        have hbl := blank_drop HT.out h0 (H5.out (by simpa using hks))
        go_wp2_with (go_at_call 73; refine (rblank_any _ _).mono ?_; rintro e w' ⟨rfl, rfl⟩)
        go_loop [0] (fun i => ∃ (t : ByteArray) (e : Nat), e0 ≤ e ∧ e ≤ s.size ∧ i = .string t ∧ Hid (t.data.toList = (s.data.toList.take e).drop k) ∧ Hid (t.size = e - k)) (fun i => match i with | .string t => t.size | _ => 0)
        case atStart => exact ⟨t, s.size, h2, Nat.le_refl _, rfl, Lib.hid (by rw [List.take_of_length_le (by simp)]; exact HT.out), HZ⟩
        case round =>
          obtain ⟨t, e, he, hes, rfl, HT, HZ⟩ := hrel
          by_cases hle : e0 < e
          · have h0 : 0 < t.size := by have := HZ.out; omega
            have hl : t.size - 1 < t.size := by omega
            have hsz : t.size ≤ s.size := by have := HZ.out; omega
            have hbl := blank_last HT.out hl HZ.out (H4.out (e - 1) (by omega) (by simp; omega))
            have e1 : (t.extract 0 (t.size - 1)).data.toList = (s.data.toList.take (e - 1)).drop k := by
              rw [extract_list, HT.out, List.drop_zero, HZ.out, show e - k - 1 = e - 1 - k by omega, ← List.drop_take, List.take_take, Nat.min_eq_left (by omega)]
            have E1 := Lib.hid e1
            have E2 : Hid ((t.extract 0 (t.size - 1)).size = e - 1 - k) := Lib.hid (by rw [list_size e1]; simp; omega)
            clear e1
            go_wp2_with (go_at_call 73; refine (rblank_any _ _).mono ?_; rintro e w' ⟨rfl, rfl⟩)
            go_round
            case rel => exact ⟨_, e - 1, by omega, by omega, rfl, E1, E2⟩
            case measure => simp; omega
          · obtain rfl : e = e0 := by omega
            have hsz : t.size ≤ s.size := by have := HZ.out; omega
            have HF : Hid (t = ⟨(trimL s.data.toList).toArray⟩) := Lib.hid (str_ext (by rw [HT.out, HR.out]))
            by_cases hke : k < e
            · have h0 : 0 < t.size := by have := HZ.out; omega
              have hl : t.size - 1 < t.size := by omega
              have hbl := blank_last HT.out hl HZ.out (H6.out hke)
              go_wp2_with (go_at_call 73; refine (rblank_any _ _).mono ?_; rintro e w' ⟨rfl, rfl⟩)
              go_ret
              exact ⟨ret_str HF.out, rfl⟩
            · have h0 : t.size = 0 := by have := HZ.out; omega
              go_wp2
              go_ret
              exact ⟨ret_str HF.out, rfl⟩
      · have h0 : t.size = 0 := by have := HZ.out; omega
        go_wp2
        go_loop [0] (fun i => ∃ (t : ByteArray) (e : Nat), e0 ≤ e ∧ e ≤ s.size ∧ i = .string t ∧ Hid (t.data.toList = (s.data.toList.take e).drop k) ∧ Hid (t.size = e - k)) (fun i => match i with | .string t => t.size | _ => 0)
        case atStart => exact ⟨t, s.size, h2, Nat.le_refl _, rfl, Lib.hid (by rw [List.take_of_length_le (by simp)]; exact HT.out), HZ⟩
        case round =>
          obtain ⟨t, e, he, hes, rfl, HT, HZ⟩ := hrel
          by_cases hle : e0 < e
          · exfalso; omega
          · obtain rfl : e = e0 := by omega
            have hsz : t.size ≤ s.size := by have := HZ.out; omega
            have HF : Hid (t = ⟨(trimL s.data.toList).toArray⟩) := Lib.hid (str_ext (by rw [HT.out, HR.out]))
            by_cases hke : k < e
            · exfalso; omega
            · have h0 : t.size = 0 := by have := HZ.out; omega
              go_wp2
              go_ret
              exact ⟨ret_str HF.out, rfl⟩
end
section
open Go.RowKit
def splitB (l : List UInt8) : List ByteArray := (splitL l).map bs
theorem rTrim_is {s x : ByteArray} {w : World} (hs : s.size ≤ maxLen) (h : Box (bs (trimL s.data.toList) = x)) :
    Calls Try.prog 51 #[.string s] w fun e w' => e = .returned (.string x) ∧ w = w' :=
  (rTrim_any s w hs).mono fun e w' ⟨h1, h2⟩ => ⟨by rw [h1, ← h.out]; rfl, by first | exact h2 | exact h2.symm⟩
def SplRel (ps : List (List UInt8)) (B : Nat) (w : World) (v i : Value) (wr : World) : Prop :=
  ∃ k : Nat, i = .int .i64 k ∧ k ≤ ps.length ∧ (memL (ps.take k)).length ≤ 64 ∧ OwnS wr B v ((memL (ps.take k)).map bs) ∧ Below w.heap.size w wr
set_option maxHeartbeats 4000000 in
theorem rSplit_any (s : ByteArray) (w : World) (hs : s.size ≤ 65000) :
    Calls Try.prog 38 #[.string s] w fun e w' => ∃ v, e = .returned v ∧ OwnS w' w.heap.size v (splitB s.data.toList) ∧ Below w.heap.size w w' := by
  have hz : s.data.toList.length = s.size := by simp
  obtain ⟨ps, hps⟩ : ∃ ps, cutL 44 s.data.toList = ps := ⟨_, rfl⟩
  have HSP : Box (splitB s.data.toList = ((memL ps).take 64).map bs) := box (by unfold splitB splitL; rw [hps])
  have hcnt : ps.length ≤ 65536 := by
    have := cut_count (sep := 44) s.data.toList.length false s.data.toList []
    rw [← hps]; unfold cutL; omega
  have hsm : Box (∀ p ∈ ps, p.length ≤ 65536) := box (fun p hp => by
    rw [← hps] at hp
    have := cut_small _ _ _ _ p hp
    simp at this; omega)
  have HCB : Box (cutsB 44 s.data.toList = ps.map bs) := box (by unfold cutsB; rw [hps])
  clear hps hz
  go_enter Try.func38, Try.ntmps38
  go_wp2_with fail
  refine (rCut_any s 44 _ hs).mono ?_; rintro e w1 ⟨v1, rfl, hO1, hb1⟩
  rw [HCB.out] at hO1
  obtain ⟨a1, cap1, rfl, hS1, hc1⟩ := hO1.ss
  rw [List.length_map] at hc1 ⊢
  have S1 := box hS1
  have B1 := box hb1
  have hB1 := hb1.size
  clear hO1 hS1 hb1
  go_wp2
  go_loopw [3, 5] (fun v i wr => SplRel ps w1.heap.size w1 v i wr) (fun _ i _ => ps.length - (intOf i).toNat)
  case atStart => exact ⟨0, rfl, Nat.zero_le _, Nat.zero_le _, OwnS.nil _ _, Below.refl _ _⟩
  case round =>
    obtain ⟨k, rfl, hk, h64, hO, hbel⟩ := hrel
    obtain ⟨M, hM⟩ : ∃ M, (memL (ps.take k)) = M := ⟨_, rfl⟩
    rw [hM] at h64 hO
    have HM := box hM
    obtain ⟨av, cv, rfl, _, _⟩ := hO.ss
    rw [List.length_map] at hO ⊢
    have O0 := box hO
    have BL := box hbel
    have hBw := hbel.size
    clear hO hbel hM
    by_cases hlt : k < ps.length
    · by_cases hm : M.length = 64
      · have hmi : ¬ (M.length : Int) < 64 := by omega
        have HF : Box ((memL ps).take 64 = M) := box (by rw [mem_full (by rw [HM.out]; exact hm), HM.out])
        clear hm
        go_wp2
        go_ret
        refine ⟨_, rfl, ?_, B1.out.trans (BL.out.mono hB1)⟩
        rw [HSP.out, HF.out]
        exact Go.Joins.ownsRow_le O0.out hB1
      · have hmi : (M.length : Int) < 64 := by omega
        obtain ⟨q, off, rfl, c0⟩ := (S1.out.below BL.out) k (by rw [List.length_map]; exact hlt)
        rw [List.getElem_map] at c0
        have hpz : (bs ps[k]).size ≤ maxLen := by
          rw [bs_size]; have := hsm.out ps[k] (List.getElem_mem hlt); unfold maxLen; omega
        by_cases ht : trimL ps[k] = []
        · have HT : Box (bs (trimL (bs ps[k]).data.toList) = ⟨#[]⟩) := box (by rw [bs_toList, ht]; rfl)
          have HN : Box (memL (ps.take (k + 1)) = M) := box (by rw [mem_more hlt, if_pos ht, List.append_nil, HM.out])
          go_wp2_with fail
          refine (rTrim_is hpz HT).mono ?_; rintro e w2 ⟨rfl, rfl⟩
          go_wp2
          go_roundw
          case rel => exact ⟨k + 1, by go_num, by omega, by rw [HN.out]; exact h64, by rw [HN.out]; exact O0.out, BL.out⟩
          case measure => simp [intOf]; omega
        · obtain ⟨x, hx⟩ : ∃ x, bs (trimL ps[k]) = x := ⟨_, rfl⟩
          have HT : Box (bs (trimL (bs ps[k]).data.toList) = x) := box (by rw [bs_toList, hx])
          have hxe : x.toList.isEmpty = false := by
            rw [← hx, toList_bs]
            cases h : trimL ps[k] with
            | nil => exact absurd h ht
            | cons c r => rfl
          have HN : Box ((memL (ps.take (k + 1))).map bs = M.map bs ++ [x]) := box (by rw [mem_more hlt, if_neg ht, HM.out, List.map_append, List.map_cons, List.map_nil, hx])
          have HL : Box ((memL (ps.take (k + 1))).length ≤ 64) := box (by rw [mem_more hlt, if_neg ht, HM.out, List.length_append]; simp; omega)
          have hm6 : Box ((M.map bs).length ≤ 65536) := box (by rw [List.length_map]; omega)
          clear hx
          go_wp2_with fail
          refine (rTrim_is hpz HT).mono ?_; rintro e w2 ⟨rfl, rfl⟩
          go_wp2_with (at_builtin; refine wpList_append_str _ rfl (.tmp 27) (.tmp 29) rfl w1.heap.size _ (M.map bs) rfl ?a1 _ _ rfl x ?b1 ?c1 ?d1 ?_)
          case a1 => exact own_below O0.out (below_new _ _)
          case b1 => go_simp
          case c1 => exact hm6.out
          case d1 => simp; omega
          intro v3 w3 hO3 hb3
          have O3 := box hO3
          have B3 := box ((BL.out.alloc BL.out.size _).trans hb3)
          clear hO3 hb3
          go_wp2
          go_roundw
          case rel => exact ⟨k + 1, by go_num, by omega, HL.out, by rw [HN.out]; exact O3.out, B3.out⟩
          case measure => simp [intOf]; omega
    · have HF : Box ((memL ps).take 64 = M) := box (by rw [mem_end (k := k) (by omega) (by rw [HM.out]; exact h64), HM.out])
      go_wp2
      go_ret
      refine ⟨_, rfl, ?_, B1.out.trans (BL.out.mono hB1)⟩
      rw [HSP.out, HF.out]
      exact Go.Joins.ownsRow_le O0.out hB1
end
section
open Go.RowKit
def InI64 (n : Int) : Prop := -9223372036854775808 ≤ n ∧ n ≤ 9223372036854775807
end
end Go.Proofs.Ytlhcccakiidbdaa.Asc
