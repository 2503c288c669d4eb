/- The contracts of Remove and of the reference's Remove. -/
import Derived.Test.YtmhedadollmekaaLstSame
import Derived.Laws.EntriesVeiled
set_option linter.unusedVariables false
set_option linter.unusedSimpArgs false
namespace Go.Proofs.Ytmhedadollmekaa.Asc
open Go.RowKit

/-- what the function value of Remove has captured: a variable that holds the function value of named -/
def Cap (g2 g1 : Nat) (nm : ByteArray) (w : World) : Prop := w.cell? ⟨g2, 0, none⟩ = some (nmV g1) ∧ Nm g1 nm w
theorem Cap.below {w w' : World} {g2 g1 : Nat} {nm : ByteArray} (h : Cap g2 g1 nm w) (hb : Below w.heap.size w w') : Cap g2 g1 nm w' := ⟨(hb.cell (cell_lt h.1)).trans h.1, h.2.below hb⟩
theorem rem_any (g2 g1 : Nat) (nm n v : ByteArray) (w : World) (N : Box (n.size ≤ 65536)) (M : Box (nm.size ≤ 65536)) (h : Box (Cap g2 g1 nm w)) :
    Calls Try.prog 44 #[.agg #[.string n, .string v], .pointer (some ⟨g2, 0, none⟩)] w fun e w' => e = .returned (.bool (!nmd nm (n, v))) ∧ Below w.heap.size w w' := by
  have c0 : w.cell? ⟨g2, 0, none⟩ = some (.func (.func 54) #[] #[.pointer (some ⟨g1, 0, none⟩)]) := h.out.1
  have hlt := cell_lt c0
  simp only at hlt
  go_enter Try.func44, Try.ntmps44
  go_wp2_with fail
  refine (clo_any g1 nm n v _ N M (box (h.out.2.below (below_new _ _)))).mono ?_; rintro e w1 ⟨rfl, hb1⟩
  go_wp2
  go_ret
  exact ⟨rfl, (below_new w _).trans (hb1.mono (below_new w _).size)⟩
theorem ans_rem (g2 g1 : Nat) (nm : ByteArray) (M : Box (nm.size ≤ 65536)) : Ans 44 (.pointer (some ⟨g2, 0, none⟩)) (fun p => !nmd nm p) (Cap g2 g1 nm) :=
  fun n v w h hn => rem_any g2 g1 nm n v w (box hn) M (box h)
theorem Remove_any (a : Option Addr) (cap : Nat) (L : List F) (nm : ByteArray) (w : World) (hl : L.length ≤ 65536) (S : Box (Sm L)) (M : Box (nm.size ≤ 65536)) (hF : Box (Fs w a L)) :
    Calls Try.prog 25 #[.slice a L.length cap, .string nm] w fun e w' => ∃ v, e = .returned v ∧ OwnF w' w.heap.size v (remL nm L) ∧ Below w.heap.size w w' := by
  have hmf : ∀ (fn : Fn) (first cap : Array Value) (w : World), (Instr.makeFunc fn first cap).run Try.prog w = .ok (.func fn first cap) w := fun _ _ _ _ => rfl
  go_enter Try.func25, Try.ntmps25
  go_wp2_with fail
  refine (named_any nm _).mono ?_; rintro e w1 ⟨rfl, rfl⟩
  unfold nmV
  go_wp2_with fail
  have C0 : Cap (w.heap.size + 1) w.heap.size nm ((w.alloc (.cells #[.string nm] 9)).alloc (.cells #[nmV w.heap.size] 29)) := by
    refine ⟨?_, (Nm.new nm w _).below (below_new _ _)⟩
    rw [World.cell?_alloc_at _ _ _ _ (by simp)]; rfl
  have CB := box C0
  have b1 : Below w.heap.size w ((w.alloc (.cells #[.string nm] 9)).alloc (.cells #[nmV w.heap.size] 29)) := (below_new w _).alloc (by simp) _
  have BB := box b1
  clear C0 b1
  refine (filterR_any a cap L _ (fun p => !nmd nm p) (Cap (w.heap.size + 1) w.heap.size nm) _ hl S (box (hF.out.below BB.out)) (box (ans_rem _ _ nm M)) (box (fun w' hb => CB.out.below hb))).mono ?_
  rintro e w2 ⟨v, rfl, hO, hb2⟩
  have O := box (Go.Joins.ownsRow_le hO BB.out.size)
  replace BB := box (BB.out.trans (hb2.mono BB.out.size))
  clear hO hb2
  go_wp2
  go_ret
  exact ⟨_, rfl, O.out, BB.out⟩

theorem rem_more {nm : ByteArray} {L : List F} {k : Nat} (h : k < L.length) : remL nm (L.take (k + 1)) = remL nm (L.take k) ++ (if nmd nm L[k] then [] else [L[k]]) := by
  unfold remL; rw [filter_more h]; cases nmd nm L[k] <;> rfl
theorem rem_le {nm : ByteArray} {L : List F} {k : Nat} : (remL nm (L.take k)).length ≤ L.length := by
  unfold remL; exact filter_le
set_option maxHeartbeats 800000 in
theorem rRemove_any (a : Option Addr) (cap : Nat) (L : List F) (nm : ByteArray) (w : World) (hl : L.length ≤ 65536) (S : Box (Sm L)) (M : Box (nm.size ≤ 65536)) (hF : Box (Fs w a L)) :
    Calls Try.prog 26 #[.slice a L.length cap, .string nm] w fun e w' => ∃ v, e = .returned v ∧ OwnF w' w.heap.size v (remL nm L) ∧ Below w.heap.size w w' := by
  go_enter Try.func26, Try.ntmps26
  go_wp2
  go_loopw [5, 6] (fun v i wr => ∃ k : Nat, k ≤ L.length ∧ i = .int .i64 k ∧ OwnF wr w.heap.size v (remL nm (L.take k)) ∧ Below w.heap.size w wr) (fun _ i _ => L.length - (intOf i).toNat)
  case atStart => exact ⟨0, Nat.zero_le _, rfl, OwnF.nil _ _, Below.refl _ _⟩
  case round =>
    obtain ⟨k, hk, rfl, hO, hbel⟩ := hrel
    by_cases hlt : k < L.length
    · obtain ⟨q, off, rfl, c0, c1⟩ := (hF.out.below hbel) k hlt
      have B1 := box ((S.out.2 k hlt).1)
      have O := box hO
      have BL := box hbel
      clear hO hbel
      go_wp2_with fail
      refine (rFold_any L[k].1 nm _ (small_4g B1.out) (small_4g M.out)).mono ?_; rintro e w1 ⟨rfl, hb1⟩
      have c2 := hb1.cell (p := ⟨q, off + k * 2 + 1, none⟩) (cell_lt c1)
      have c3 := hb1.cell (p := ⟨q, off + k * 2, none⟩) (cell_lt c0)
      have O1 := box (own_below O.out hb1)
      have BL1 := box (BL.out.trans (hb1.mono BL.out.size))
      have hbs := BL1.out.size
      rw [c1] at c2
      rw [c0] at c3
      clear hb1 c0 c1
      rcases hp : nmd nm L[k] with _ | _
      · rw [show foldL L[k].1.data.toList nm.data.toList = false from hp]
        have HP := box hp
        clear hp
        go_wp2_with (at_builtin; refine wpList_append_fld _ rfl (.tmp 21) (.tmp 26) rfl w.heap.size _ (remL nm (L.take k)) rfl ?a1 _ _ rfl L[k].1 L[k].2 ?b1 ?b2 ?c1 ?d1 ?_)
        case a1 => exact own_below O1.out (below_new _ _)
        case b1 => go_simp
        case b2 => go_simp
        case c1 => exact Nat.le_trans rem_le hl
        case d1 => simp; omega
        intro v' w3 hO2 hb2
        have O2 := box hO2
        clear hO2
        go_wp2
        go_roundw
        case rel => exact ⟨k + 1, by omega, by go_num, by rw [rem_more hlt, HP.out]; exact O2.out, (BL1.out.alloc BL1.out.size _).trans hb2⟩
        case measure => simp [intOf]; omega
      · rw [show foldL L[k].1.data.toList nm.data.toList = true from hp]
        have HP := box hp
        clear hp
        go_wp2
        go_roundw
        case rel => exact ⟨k + 1, by omega, by go_num, by rw [rem_more hlt, HP.out, if_pos rfl, List.append_nil]; exact O1.out, BL1.out⟩
        case measure => simp [intOf]; omega
    · have e : k = L.length := by omega
      subst e
      rw [List.take_length] at hO
      go_wp2
      go_ret
      exact ⟨_, rfl, hO, hbel⟩

end Go.Proofs.Ytmhedadollmekaa.Asc
