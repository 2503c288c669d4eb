/- The contracts of Get, and of the reference's Get, Has and First; SameStrings. -/
import Derived.Test.YtlcojfkkeommoaaLstFil
import Derived.Deep.QuietTactic
import Derived.BigQuiet
import Derived.Lib.SmallJoins
set_option linter.unusedVariables false
set_option linter.unusedSimpArgs false
set_option maxRecDepth 100000
namespace Go.Proofs.Ytlcojfkkeommoaa.Asc
open Go.RowKit

theorem ans_named (g : Nat) (nm : ByteArray) (M : Box (nm.size ≤ 65536)) : Ans 55 (.pointer (some ⟨g, 0, none⟩)) (nmd nm) (Nm g nm) :=
  fun n v w h hn => clo_any g nm n v w (box hn) M (box h)
theorem sm_filter {L : List F} {p : F → Bool} (h : Sm L) : Sm (L.filter p) := by
  refine ⟨Nat.le_trans (List.length_filter_le _ _) h.1, fun i hi => ?_⟩
  have hm := (List.mem_filter.mp (List.getElem_mem hi)).1
  obtain ⟨j, hj, e⟩ := List.mem_iff_getElem.mp hm
  rw [← e]; exact h.2 j hj

set_option maxHeartbeats 800000 in
theorem Get_any (a : Option Addr) (cap : Nat) (L : List F) (nm : ByteArray) (w : World) (hl : L.length ≤ 65536) (S : Box (Sm L)) (M : Box (nm.size ≤ 65536)) (hF : Box (Fs w a L)) :
    Calls Try.prog 34 #[.slice a L.length cap, .string nm] w fun e w' => ∃ v, e = .returned v ∧ OwnS w' w.heap.size v (getL nm L) ∧ Below w.heap.size w w' := by
  go_enter Try.func34, Try.ntmps34
  go_wp2_with fail
  refine (named_any nm _).mono ?_; rintro e w1 ⟨rfl, rfl⟩
  unfold nmV
  go_wp2_with fail
  refine (filterN_any a cap L _ (nmd nm) (Nm w.heap.size nm) (w.alloc (.cells #[.string nm] 9)) hl S (box (hF.out.below (below_new _ _))) (box (ans_named _ nm M)) (box (fun w' hb => (Nm.new nm w _).below hb))).mono ?_
  rintro e w2 ⟨v, rfl, hO, hb2⟩
  obtain ⟨K, hK⟩ : ∃ K, L.filter (nmd nm) = K := ⟨_, rfl⟩
  have HG : Box (getL nm L = K.map (·.2)) := box (by unfold getL; rw [hK])
  rw [hK] at hO
  obtain ⟨a2, cap2, rfl, hfs, hcl⟩ := hO.fs
  have FS := box hfs
  have b2 := box ((below_new w _).trans (hb2.mono (below_new w _).size))
  have hKl : K.length ≤ 65536 := by rw [← hK]; exact Nat.le_trans (List.length_filter_le _ _) hl
  clear hb2 hO hfs hK hcl
  go_wp2
  go_loopw [5, 13] (fun v i wr => ∃ k : Nat, k ≤ K.length ∧ i = .int .i64 k ∧ OwnS wr w2.heap.size v ((K.take k).map (·.2)) ∧ Below w2.heap.size w2 wr) (fun _ i _ => K.length - (intOf i).toNat)
  case atStart => exact ⟨0, Nat.zero_le _, rfl, OwnS.nil _ _, Below.refl _ _⟩
  case round =>
    obtain ⟨k, hk, rfl, hO, hbel2⟩ := hrel
    by_cases hlt : k < K.length
    · obtain ⟨q, off, rfl, c0, c1⟩ := (FS.out.below hbel2) k hlt
      have O := box hO
      have BL2 := box hbel2
      have hbs := hbel2.size
      clear hO hbel2
      go_wp2_with (at_builtin; refine wpList_append_str _ rfl (.tmp 17) (.tmp 20) rfl w2.heap.size _ ((K.take k).map (·.2)) rfl ?a1 _ _ rfl K[k].2 ?b1 ?c1 ?d1 ?_)
      case a1 => exact own_below (own_below O.out (below_new _ _)) (below_new _ _)
      case b1 => go_simp
      case c1 => rw [List.length_map, List.length_take]; omega
      case d1 => simp; omega
      intro v' w3 hO2 hb2
      have hO3 := box hO2
      clear hO2
      go_wp2
      go_roundw
      case rel => exact ⟨k + 1, by omega, by go_num, by rw [take_next hlt, List.map_append]; simpa using hO3.out, ((BL2.out.alloc BL2.out.size _).alloc (by simp; omega) _).trans hb2⟩
      case measure => simp [intOf]; omega
    · have e : k = K.length := by omega
      subst e
      rw [List.take_length] at hO
      go_wp2
      go_ret
      exact ⟨_, rfl, by rw [HG.out]; exact Go.Joins.ownsRow_le hO b2.out.size, b2.out.trans (hbel2.mono b2.out.size)⟩

theorem get_more {nm : ByteArray} {L : List F} {k : Nat} (h : k < L.length) : getL nm (L.take (k + 1)) = getL nm (L.take k) ++ (if nmd nm L[k] then [L[k].2] else []) := by
  unfold getL; rw [filter_more h, List.map_append]; split <;> rfl
theorem get_le {nm : ByteArray} {L : List F} {k : Nat} : (getL nm (L.take k)).length ≤ L.length := by
  unfold getL; rw [List.length_map]; exact filter_le
theorem small_4g {s : ByteArray} (h : s.size ≤ 65536) : s.size ≤ 4294967296 := by omega
set_option maxHeartbeats 800000 in
theorem rGet_any (a : Option Addr) (cap : Nat) (L : List F) (nm : ByteArray) (w : World) (hl : L.length ≤ 65536) (S : Box (Sm L)) (M : Box (nm.size ≤ 65536)) (hF : Box (Fs w a L)) :
    Calls Try.prog 33 #[.slice a L.length cap, .string nm] w fun e w' => ∃ v, e = .returned v ∧ OwnS w' w.heap.size v (getL nm L) ∧ Below w.heap.size w w' := by
  go_enter Try.func33, Try.ntmps33
  go_wp2
  go_loopw [5, 6] (fun v i wr => ∃ k : Nat, k ≤ L.length ∧ i = .int .i64 k ∧ OwnS wr w.heap.size v (getL nm (L.take k)) ∧ Below w.heap.size w wr) (fun _ i _ => L.length - (intOf i).toNat)
  case atStart => exact ⟨0, Nat.zero_le _, rfl, OwnS.nil _ _, Below.refl _ _⟩
  case round =>
    obtain ⟨k, hk, rfl, hO, hbel⟩ := hrel
    by_cases hlt : k < L.length
    · obtain ⟨q, off, rfl, c0, c1⟩ := (hF.out.below hbel) k hlt
      have B1 := box ((S.out.2 k hlt).1)
      have O := box hO
      have BL := box hbel
      clear hO hbel
      go_wp2_with fail
      refine (rFold_any L[k].1 nm _ (small_4g B1.out) (small_4g M.out)).mono ?_; rintro e w1 ⟨rfl, hb1⟩
      have c2 := hb1.cell (p := ⟨q, off + k * 2 + 1, none⟩) (cell_lt c1)
      have O1 := box (own_below O.out hb1)
      have BL1 := box (BL.out.trans (hb1.mono BL.out.size))
      have hbs := BL1.out.size
      rw [c1] at c2
      clear hb1 c0 c1
      rcases hp : nmd nm L[k] with _ | _
      · rw [show foldL L[k].1.data.toList nm.data.toList = false from hp]
        have HP := box hp
        clear hp
        go_wp2
        go_roundw
        case rel => exact ⟨k + 1, by omega, by go_num, by rw [get_more hlt, HP.out, if_neg (by simp), List.append_nil]; exact O1.out, BL1.out⟩
        case measure => simp [intOf]; omega
      · rw [show foldL L[k].1.data.toList nm.data.toList = true from hp]
        have HP := box hp
        clear hp
        go_wp2_with (at_builtin; refine wpList_append_str _ rfl (.tmp 20) (.tmp 26) rfl w.heap.size _ (getL nm (L.take k)) rfl ?a1 _ _ rfl L[k].2 ?b1 ?c1 ?d1 ?_)
        case a1 => exact own_below O1.out (below_new _ _)
        case b1 => go_simp
        case c1 => exact Nat.le_trans get_le hl
        case d1 => simp; omega
        intro v' w3 hO2 hb2
        have O2 := box hO2
        clear hO2
        go_wp2
        go_roundw
        case rel => exact ⟨k + 1, by omega, by go_num, by rw [get_more hlt, HP.out]; exact O2.out, (BL1.out.alloc BL1.out.size _).trans hb2⟩
        case measure => simp [intOf]; omega
    · have e : k = L.length := by omega
      subst e
      rw [List.take_length] at hO
      go_wp2
      go_ret
      exact ⟨_, rfl, hO, hbel⟩
theorem get_any {nm : ByteArray} {L : List F} : decide (0 < (getL nm L).length) = L.any (nmd nm) := by
  rcases idx_ways nm L with ⟨_, h⟩ | ⟨k, hk, _, ha, h1⟩
  · rw [get_none h, h]; rfl
  · rw [get_at hk ha h1, List.any_eq_true.mpr ⟨L[k], List.getElem_mem hk, h1⟩]; simp
theorem rHas_any (a : Option Addr) (cap : Nat) (L : List F) (nm : ByteArray) (w : World) (hl : L.length ≤ 65536) (S : Box (Sm L)) (M : Box (nm.size ≤ 65536)) (hF : Box (Fs w a L)) :
    Calls Try.prog 21 #[.slice a L.length cap, .string nm] w fun e w' => e = .returned (.bool (L.any (nmd nm))) ∧ Below w.heap.size w w' := by
  go_enter Try.func21, Try.ntmps21
  go_wp2_with fail
  refine (rGet_any a cap L nm _ hl S M hF).mono ?_; rintro e w1 ⟨v, rfl, hO, hb⟩
  obtain ⟨a2, cap2, rfl, hS, hc⟩ := hO.ss
  clear hO hS hc
  go_wp2
  go_ret
  exact ⟨ret_bool (by rw [← get_any]), hb⟩
end Go.Proofs.Ytlcojfkkeommoaa.Asc
