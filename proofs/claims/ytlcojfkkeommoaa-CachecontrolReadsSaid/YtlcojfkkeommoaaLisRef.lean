/- The contract of the reference's Cut. -/
import Derived.Test.YtlcojfkkeommoaaLisSpec4
import Derived.Test.YtlcojfkkeommoaaLstGet
set_option linter.unusedVariables false
set_option linter.unusedSimpArgs false
set_option maxRecDepth 100000
namespace Go.Proofs.Ytlcojfkkeommoaa.Asc
open Go.RowKit

def cutsB (sep : UInt8) (l : List UInt8) : List ByteArray := (cutL sep l).map bs
def CutRel (s : ByteArray) (sep : UInt8) (w : World) (v fr q i : Value) (wr : World) : Prop :=
  ∃ (k n : Nat) (b : Bool) (o : List (List UInt8)), i = .int .i64 k ∧ fr = .int .i64 n ∧ q = .bool b ∧ n ≤ k ∧ n ≤ s.size ∧ k ≤ s.size + 1 ∧ o.length ≤ n ∧ cutL sep s.data.toList = o ++ cutAt sep s.data.toList b k n ∧ OwnS wr w.heap.size v (o.map bs) ∧ Below w.heap.size w wr
theorem byte_is {c d : UInt8} (h : ((c.toNat : Int) == (d.toNat : Int)) = true) : c = d := by
  have : (c.toNat : Int) = d.toNat := by simpa using h
  exact UInt8.toNat_inj.mp (by omega)
theorem byte_no {c d : UInt8} (h : ((c.toNat : Int) == (d.toNat : Int)) = false) : c ≠ d := by
  rintro rfl
  simp at h
set_option maxHeartbeats 4000000 in
theorem rCut_any (s : ByteArray) (sep : UInt8) (w : World) (hs : s.size ≤ 65000) :
    Calls Try.prog 29 #[.string s, .int .u8 (sep.toNat : Int)] w fun e w' => ∃ v, e = .returned v ∧ OwnS w' w.heap.size v (cutsB sep s.data.toList) ∧ Below w.heap.size w w' := by
  have hz : s.data.toList.length = s.size := by simp
  go_enter Try.func29, Try.ntmps29
  go_wp2
  go_loopw [5, 6, 7, 8] (fun v fr q i wr => CutRel s sep w v fr q i wr) (fun _ _ _ i _ => s.size + 1 - (intOf i).toNat)
  case atStart => exact ⟨0, 0, false, [], rfl, rfl, rfl, Nat.le_refl _, Nat.zero_le _, Nat.zero_le _, Nat.le_refl _, by rw [cut_start]; rfl, OwnS.nil _ _, Below.refl _ _⟩
  case round =>
    obtain ⟨k, n, b, o, rfl, rfl, rfl, hnk, hns, hk1, hol, hC, hO, hbel⟩ := hrel
    have HC := box hC
    have O0 := box hO
    have BL := box hbel
    have hBw := hbel.size
    clear hC hO hbel
    by_cases hlt : k < s.size
    · have hlt' : k < s.data.toList.length := by rw [hz]; exact hlt
      have hbk : s.data.toList[k] = s[k] := rfl
      rcases hc34 : ((s[k].toNat : Int) == 34) with _ | _
      · have n34 : s.data.toList[k] ≠ 34 := by rw [hbk]; exact byte_no (d := 34) hc34
        rcases b with _ | _
        · rcases hcs : ((s[k].toNat : Int) == (sep.toNat : Int)) with _ | _
          · have HX := box (HC.out.trans (congrArg (o ++ ·) (cut_any hlt' hnk (by simp) n34 (fun h => byte_no hcs h.1))))
            clear hbk n34
            go_wp2
            go_roundw
            case rel => exact ⟨k + 1, n, false, o, by go_num, rfl, rfl, by omega, hns, by omega, hol, HX.out, O0.out, BL.out⟩
            case measure => simp [intOf]; omega
          · have HX : Box (cutL sep s.data.toList = (o ++ [(s.extract n k).data.toList]) ++ cutAt sep s.data.toList false (k + 1) (k + 1)) := box (by
              rw [HC.out, cut_sep hlt' n34 (byte_is hcs), ext_bs, List.append_assoc]; rfl)
            have hol6 : (o.map bs).length ≤ 65536 := by rw [List.length_map]; omega
            clear hbk n34
            go_wp2_with (at_builtin; refine wpList_append_str _ rfl (.tmp 42) (.tmp 47) rfl w.heap.size _ (o.map bs) rfl (own_below O0.out (below_new _ _)) _ _ rfl (s.extract n k) (by go_simp) hol6 (by simp; omega) ?_; intro v3 w3 hO3 hb3; have O3 := box hO3; have B3 := box ((BL.out.alloc hBw _).trans hb3); clear hO3 hb3)
            go_roundw
            case rel => exact ⟨k + 1, k + 1, false, o ++ [(s.extract n k).data.toList], by go_num, by go_num, rfl, Nat.le_refl _, by omega, by omega, by simp; omega, HX.out, by rw [List.map_append]; exact O3.out, B3.out⟩
            case measure => simp [intOf]; omega
        · rcases hc92 : ((s[k].toNat : Int) == 92) with _ | _
          · have HX := box (HC.out.trans (congrArg (o ++ ·) (cut_any hlt' hnk (fun h => byte_no (d := 92) hc92 h.2) n34 (by simp))))
            rcases hcs : ((s[k].toNat : Int) == (sep.toNat : Int)) with _ | _
            all_goals
              clear hbk n34
              go_wp2
              go_roundw
              case rel => exact ⟨k + 1, n, true, o, by go_num, rfl, rfl, by omega, hns, by omega, hol, HX.out, O0.out, BL.out⟩
              case measure => simp [intOf]; omega
          · have HX := box (HC.out.trans (congrArg (o ++ ·) (cut_esc hlt' hnk (byte_is (d := 92) hc92))))
            clear hbk n34
            go_wp2
            go_roundw
            case rel => exact ⟨k + 2, n, true, o, by go_num, rfl, rfl, by omega, hns, by omega, hol, HX.out, O0.out, BL.out⟩
            case measure => simp [intOf]; omega
      · have e34 : s.data.toList[k] = 34 := by rw [hbk]; exact byte_is (d := 34) hc34
        have hn92 : ¬ s.data.toList[k] = 92 := by rw [e34]; decide
        have hc92 : ((s[k].toNat : Int) == 92) = false := by rw [← hbk, e34]; rfl
        have HX := box (HC.out.trans (congrArg (o ++ ·) (cut_quo hlt' hnk (fun h => hn92 h.2) e34)))
        clear hbk e34 hn92
        rcases b with _ | _
        all_goals
          go_wp2
          go_roundw
          case rel => exact ⟨k + 1, n, _, o, by go_num, rfl, rfl, by omega, hns, by omega, hol, HX.out, O0.out, BL.out⟩
          case measure => simp [intOf]; omega
    · have HX : Box (cutsB sep s.data.toList = o.map bs ++ [s.extract n s.size]) := box (by
        unfold cutsB; rw [HC.out, cut_out (by rw [hz]; omega), List.map_append, List.map_cons, List.map_nil, ext_bs, List.take_of_length_le (by rw [hz]; exact Nat.le_refl _)])
      have hol6 : (o.map bs).length ≤ 65536 := by rw [List.length_map]; omega
      go_wp2_with (at_builtin; refine wpList_append_str _ rfl (.tmp 51) (.tmp 55) rfl w.heap.size _ (o.map bs) rfl (own_below O0.out (below_new _ _)) _ _ rfl (s.extract n s.size) (by go_simp) hol6 (by simp; omega) ?_; intro v3 w3 hO3 hb3; have O3 := box hO3; have B3 := box ((BL.out.alloc hBw _).trans hb3); clear hO3 hb3)
      go_ret
      exact ⟨_, rfl, by rw [HX.out]; exact O3.out, B3.out⟩

end Go.Proofs.Ytlcojfkkeommoaa.Asc
