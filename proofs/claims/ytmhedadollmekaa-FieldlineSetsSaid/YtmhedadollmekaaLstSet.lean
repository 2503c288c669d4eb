/- The contract of Set. -/
import Derived.Test.YtmhedadollmekaaLstClo
import Derived.Deep.RegionHeld3
set_option linter.unusedVariables false
set_option linter.unusedSimpArgs false
namespace Go.Proofs.Ytmhedadollmekaa.Asc
open Go.RowKit

theorem Set_none (a : Option Addr) (cap : Nat) (L : List F) (nm u : ByteArray) (w : World) (hl : L.length ≤ 60000) (S : Box (Sm L)) (M : Box (nm.size ≤ 65536)) (hF : Box (Fs w a L)) (HI : Box (idxL nm L = -1)) (HA : Box (L.any (nmd nm) = false)) :
    Calls Try.prog 27 #[.slice a L.length cap, .string nm, .string u] w fun e w' => ∃ v, e = .returned v ∧ OwnF w' w.heap.size v (setL nm u L) ∧ Below w.heap.size w w' := by
  have hl2 : L.length ≤ 65536 := by omega
  go_enter Try.func27, Try.ntmps27
  go_wp2_with fail
  refine (named_any nm _).mono ?_; rintro e w1 ⟨rfl, rfl⟩
  go_wp2_with fail
  refine (IndexFunc_any a cap L _ nm _ hl2 S M (box (hF.out.below (below_new _ _))) (box (Nm.new nm w _))).mono ?_; rintro e w2 ⟨rfl, hb2⟩; rw [HI.out]
  have BB := box ((below_new w _).trans (hb2.mono (below_new w _).size))
  clear hb2
  go_wp2_with fail
  refine (Clone_any a cap L _ hl2 (box (hF.out.below BB.out))).mono ?_; rintro e w3 ⟨v0, rfl, hO, hb3⟩
  have O := box (Go.Joins.ownsRow_le hO BB.out.size)
  replace BB := box (BB.out.trans (hb3.mono BB.out.size))
  have hbs := BB.out.size
  clear hO hb3
  go_wp2_with (at_builtin; refine wpList_append_fld _ rfl (.tmp 16) (.tmp 20) rfl w.heap.size _ L rfl ?a1 _ _ rfl nm u ?b1 ?b2 ?c1 ?d1 ?_)
  case a1 => exact own_below O.out (below_new _ _)
  case b1 => go_simp
  case b2 => go_simp
  case c1 => omega
  case d1 => simp; omega
  intro v' w4 hO2 hb4
  have O2 := box hO2
  clear hO2
  go_wp2
  go_ret
  exact ⟨_, rfl, by rw [set_none HA.out]; exact O2.out, (BB.out.alloc BB.out.size _).trans hb4⟩

theorem Fs.take {w : World} {a : Option Addr} {L : List F} (h : Fs w a L) (k : Nat) : Fs w a (L.take k) := fun i hi => by
  rw [List.length_take] at hi
  obtain ⟨g, off, e, c0, c1⟩ := h i (by omega)
  exact ⟨g, off, e, by rw [List.getElem_take]; exact c0, by rw [List.getElem_take]; exact c1⟩
theorem Fs.drop {w : World} {q off : Nat} {L : List F} (h : Fs w (some ⟨q, off, none⟩) L) (k : Nat) : Fs w (some ⟨q, off + k * 2, none⟩) (L.drop k) := fun i hi => by
  rw [List.length_drop] at hi
  obtain ⟨g, off', e, c0, c1⟩ := h (k + i) (by omega)
  cases e
  refine ⟨q, off + k * 2, rfl, ?_, ?_⟩
  · rw [List.getElem_drop, ← c0]; congr 2; omega
  · rw [List.getElem_drop, ← c1]; congr 2; omega
theorem Clone_len (a : Option Addr) (n cap : Nat) (L : List F) (w : World) (hn : L.length = n) (hl : L.length ≤ 65536) (hF : Box (Fs w a L)) :
    Calls Try.prog 45 #[.slice a n cap] w fun e w' => ∃ v, e = .returned v ∧ OwnF w' w.heap.size v L ∧ Below w.heap.size w w' := by
  subst hn; exact Clone_any a cap L w hl hF
theorem Remove_len (a : Option Addr) (n cap : Nat) (L : List F) (nm : ByteArray) (w : World) (hn : L.length = n) (hl : L.length ≤ 65536) (S : Box (Sm L)) (M : Box (nm.size ≤ 65536)) (hF : Box (Fs w a L)) :
    Calls Try.prog 25 #[.slice a n cap, .string nm] w fun e w' => ∃ v, e = .returned v ∧ OwnF w' w.heap.size v (remL nm L) ∧ Below w.heap.size w w' := by
  subst hn; exact Remove_any a cap L nm w hl S M hF
theorem sm_drop {L : List F} {k : Nat} (h : Sm L) : Sm (L.drop k) := by
  refine ⟨by rw [List.length_drop]; have := h.1; omega, fun i hi => ?_⟩
  rw [List.length_drop] at hi
  rw [List.getElem_drop]; exact h.2 (k + i) (by omega)
theorem fs_end {w : World} {a : Option Addr} {L : List F} {k : Nat} (h : L.length ≤ k) : Fs w a (L.drop k) := fun i hi => by
  rw [List.length_drop] at hi; omega
set_option maxHeartbeats 1000000 in
theorem Set_at (a : Option Addr) (cap : Nat) (L : List F) (nm u : ByteArray) (w : World) (hl : L.length ≤ 60000) (hcap : L.length ≤ cap) (S : Box (Sm L)) (M : Box (nm.size ≤ 65536)) (hF : Box (Fs w a L)) (k : Nat) (hk : k < L.length) (HI : Box (idxL nm L = k)) (HA : Box ((L.take k).any (nmd nm) = false)) (H1 : Box (nmd nm L[k] = true)) :
    Calls Try.prog 27 #[.slice a L.length cap, .string nm, .string u] w fun e w' => ∃ v, e = .returned v ∧ OwnF w' w.heap.size v (setL nm u L) ∧ Below w.heap.size w w' := by
  have hl2 : L.length ≤ 65536 := by omega
  go_enter Try.func27, Try.ntmps27
  go_wp2_with fail
  refine (named_any nm _).mono ?_; rintro e w1 ⟨rfl, rfl⟩
  go_wp2_with fail
  refine (IndexFunc_any a cap L _ nm _ hl2 S M (box (hF.out.below (below_new _ _))) (box (Nm.new nm w _))).mono ?_; rintro e w2 ⟨rfl, hb2⟩; rw [HI.out]
  have BB := box ((below_new w _).trans (hb2.mono (below_new w _).size))
  obtain ⟨q, off, rfl, cw, _⟩ := hF.out k hk
  have hq0 : q < w.heap.size := cell_lt cw
  have CW := box cw
  have c0 : w2.cell? ⟨q, off + k * 2, none⟩ = some (.string L[k].1) := (BB.out.cell hq0).trans cw
  clear hb2 cw
  have i1 : (0 : Int) ≤ (k : Int) := by omega
  have i2 : (k : Int) ≤ (cap : Int) := by omega
  have i3 : (k : Int) < (L.length : Int) := by omega
  have i4 : (k : Int) + 1 ≤ (L.length : Int) := by omega
  have i5 : (0 : Int) ≤ (k : Int) + 1 := by omega
  have i6 : (L.length : Int) ≤ (cap : Int) := by omega
  have hbs := BB.out.size
  have hqlt : q < w2.heap.size := by omega
  go_wp2_with fail
  go_region_held3 (fun w' => w'.cell? ⟨q, off + k * 2, none⟩ = some (.string L[k].1))
    (first | exact (B4.out.cell hq0).trans CW.out | exact ((B3.out.alloc B3.out.size _).cell hq0).trans CW.out | exact (B3.out.cell hq0).trans CW.out | go_keep)
    (first | (go_at_call 45; refine (Clone_len (some ⟨q, off, none⟩) k cap (L.take k) _ (by rw [List.length_take]; omega) (by rw [List.length_take]; omega) (box ((hF.out.below (by first | exact BB.out.drew | exact (BB.out.alloc BB.out.size _).drew)).take k))).mono ?_; rintro e w3 ⟨v0, rfl, hO, hb3⟩; have O : Box (OwnF w3 w.heap.size v0 (L.take k)) := box (Go.Joins.ownsRow_le hO (by first | exact hbs | (simp [World.drew]; omega))); have HB3 := box hb3; have B3 : Box (Below w.heap.size w w3) := box (by first | exact BB.out.drew.trans (hb3.mono BB.out.drew.size) | exact ((BB.out.alloc BB.out.size _).drew).trans (hb3.mono ((BB.out.alloc BB.out.size _).drew).size)); have hbs3 := B3.out.size; clear hO hb3) | (refine step_append_fld _ rfl (.tmp 25) (.tmp 33) rfl w.heap.size _ (L.take k) (by rfl) ?_ _ _ (by rfl) L[k].1 u ?_ ?_ ?_ ?_ ?_; (first | exact own_below O.out (below_new _ _) | exact O.out); (first | exact (Fld.new L[k].1 u w3 23).1 | exact ((Fld.new L[k].1 u w2 23).drew.below HB3.out (by simp [World.drew])).1); (first | exact (Fld.new L[k].1 u w3 23).2.1 | exact ((Fld.new L[k].1 u w2 23).drew.below HB3.out (by simp [World.drew])).2.1); (rw [List.length_take]; omega); (first | exact hbs3 | (simp; omega)); intro v4 w4 hO4 hb4; have O4 := box hO4; have B4 : Box (Below w.heap.size w w4) := box (by first | exact (B3.out.alloc B3.out.size _).trans hb4 | exact B3.out.trans hb4); clear hO4 hb4))
  all_goals
    have hbs4 := B4.out.size
    clear HB3 B3 hbs3 O
    go_wp2_with fail
  all_goals
    refine (Remove_len _ _ _ (L.drop (k + 1)) nm _ (by rw [List.length_drop]) (by rw [List.length_drop]; omega) (box (sm_drop S.out)) M (box (by first | exact (hF.out.below B4.out).drop (k + 1) | exact fs_end (by omega)))).mono ?_
    rintro e w5 ⟨v5, rfl, hO5, hb5⟩
    obtain ⟨a5, cap5, rfl, hf5, hn5, _⟩ := OwnF.fs2 hO5
    have F5 := box hf5
    have N5 := box hn5
    have O5 := box (own_below O4.out hb5)
    have B5 := box (B4.out.trans (hb5.mono B4.out.size))
    have hbs5 := B5.out.size
    clear hO5 hb5 hf5 hn5 O4 B4
    have hR : (remL nm (L.drop (k + 1))).length ≤ 65536 := by
      have h1 := List.length_filter_le (fun p => !nmd nm p) (L.drop (k + 1))
      rw [List.length_drop] at h1
      unfold remL; omega
    go_wp2_with (at_builtin; refine wpList_append_flds _ rfl (.tmp 35) (.tmp 41) rfl w.heap.size _ (L.take k ++ [(L[k].1, u)]) (remL nm (L.drop (k + 1))) rfl O5.out a5 cap5 rfl N5.out F5.out (by simp; omega) hR hbs5 ?_)
    intro v6 w6 hO6 hb6
    have O6 := box hO6
    have B6 := box (B5.out.trans hb6)
    clear hO6 hb6
    go_wp2
    go_ret
    exact ⟨_, rfl, by rw [set_at hk HA.out H1.out, List.append_assoc]; exact O6.out, B6.out⟩
theorem Set_any (a : Option Addr) (cap : Nat) (L : List F) (nm u : ByteArray) (w : World) (hl : L.length ≤ 60000) (hcap : L.length ≤ cap) (S : Box (Sm L)) (M : Box (nm.size ≤ 65536)) (hF : Box (Fs w a L)) :
    Calls Try.prog 27 #[.slice a L.length cap, .string nm, .string u] w fun e w' => ∃ v, e = .returned v ∧ OwnF w' w.heap.size v (setL nm u L) ∧ Below w.heap.size w w' := by
  rcases idx_ways nm L with ⟨hi, hn⟩ | ⟨k, hk, hi, ha, h1⟩
  · exact Set_none a cap L nm u w hl S M hF (box hi) (box hn)
  · exact Set_at a cap L nm u w hl hcap S M hF k hk (box hi) (box ha) (box h1)

end Go.Proofs.Ytmhedadollmekaa.Asc
