/- The contract of the reference's Set. -/
import Derived.Test.YtmhedadollmekaaLstSet
set_option linter.unusedVariables false
set_option linter.unusedSimpArgs false
namespace Go.Proofs.Ytmhedadollmekaa.Asc
open Go.RowKit

/-- what the reference has written behind k fields: the list, and whether the name has come -/
def halfL (nm u : ByteArray) : List F → List F
  | [] => []
  | p :: L => if nmd nm p then (p.1, u) :: remL nm L else p :: halfL nm u L
theorem half_none {nm u : ByteArray} : ∀ {L : List F}, L.any (nmd nm) = false → halfL nm u L = L
  | [], _ => rfl
  | p :: L, h => by
    rw [List.any_cons] at h
    have h1 : nmd nm p = false := by cases q : nmd nm p <;> simp_all
    have h2 : L.any (nmd nm) = false := by rw [h1] at h; simpa using h
    rw [halfL, h1, half_none h2]; rfl
theorem half_snoc {nm u : ByteArray} {p : F} : ∀ {L : List F}, halfL nm u (L ++ [p]) = halfL nm u L ++ (if nmd nm p then (if L.any (nmd nm) then [] else [(p.1, u)]) else [p])
  | [] => by
    show halfL nm u [p] = _
    cases hp : nmd nm p <;> simp [halfL, remL, hp]
  | q :: L => by
    show halfL nm u (q :: (L ++ [p])) = halfL nm u (q :: L) ++ _
    rw [halfL, halfL, half_snoc, List.any_cons]
    cases hq : nmd nm q
    · cases nmd nm p <;> cases L.any (nmd nm) <;> rfl
    · cases hp : nmd nm p <;> simp [remL, List.filter_append, hp]
theorem half_set {nm u : ByteArray} : ∀ {L : List F}, setL nm u L = halfL nm u L ++ (if L.any (nmd nm) then [] else [(nm, u)])
  | [] => rfl
  | p :: L => by
    rw [setL, halfL, half_set, List.any_cons]
    cases hp : nmd nm p
    · cases L.any (nmd nm) <;> rfl
    · simp
theorem half_le {nm u : ByteArray} : ∀ {L : List F}, (halfL nm u L).length ≤ L.length
  | [] => Nat.le_refl _
  | p :: L => by
    rw [halfL]
    split
    · have h1 := List.length_filter_le (fun p => !nmd nm p) L
      simp only [List.length_cons]; unfold remL; omega
    · have := half_le (nm := nm) (u := u) (L := L)
      simp only [List.length_cons]; omega
theorem any_next {nm : ByteArray} {L : List F} {k : Nat} (h : k < L.length) : (L.take (k + 1)).any (nmd nm) = ((L.take k).any (nmd nm) || nmd nm L[k]) := by
  rw [take_next h, List.any_append]; simp

set_option maxHeartbeats 1000000 in
theorem rSet_any (a : Option Addr) (cap : Nat) (L : List F) (nm u : ByteArray) (w : World) (hl : L.length ≤ 60000) (S : Box (Sm L)) (M : Box (nm.size ≤ 65536)) (hF : Box (Fs w a L)) :
    Calls Try.prog 28 #[.slice a L.length cap, .string nm, .string u] w fun e w' => ∃ v, e = .returned v ∧ OwnF w' w.heap.size v (setL nm u L) ∧ Below w.heap.size w w' := by
  go_enter Try.func28, Try.ntmps28
  go_wp2
  go_loopw [7, 8, 9] (fun v d i wr => ∃ k : Nat, k ≤ L.length ∧ i = .int .i64 k ∧ d = .bool ((L.take k).any (nmd nm)) ∧ OwnF wr w.heap.size v (halfL nm u (L.take k)) ∧ Below w.heap.size w wr) (fun _ _ i _ => L.length - (intOf i).toNat)
  case atStart => exact ⟨0, Nat.zero_le _, rfl, rfl, OwnF.nil _ _, Below.refl _ _⟩
  case round =>
    obtain ⟨k, hk, rfl, rfl, hO, hbel⟩ := hrel
    by_cases hlt : k < L.length
    · obtain ⟨q, off, rfl, c0, c1⟩ := (hF.out.below hbel) k hlt
      have B1 := box ((S.out.2 k hlt).1)
      have O := box hO
      have BL := box hbel
      clear hO hbel
      go_wp2_with fail
      refine (rFold_any L[k].1 nm _ (small_4g B1.out) (small_4g M.out)).mono ?_; rintro e w1 ⟨rfl, hb1⟩
      have c2 := (hb1.cell (p := ⟨q, off + k * 2 + 1, none⟩) (cell_lt c1)).trans c1
      have c3 := (hb1.cell (p := ⟨q, off + k * 2, none⟩) (cell_lt c0)).trans c0
      have O1 := box (own_below O.out hb1)
      have BL1 := box (BL.out.trans (hb1.mono BL.out.size))
      have hbs := BL1.out.size
      have hle := Nat.le_trans (half_le (nm := nm) (u := u) (L := L.take k)) (by rw [List.length_take]; omega : (L.take k).length ≤ 60000)
      clear hb1 c0 c1
      have HN := box (half_snoc (nm := nm) (u := u) (p := L[k]) (L := L.take k))
      rcases hp : nmd nm L[k] with _ | _
      · rw [show foldL L[k].1.data.toList nm.data.toList = false from hp]
        have HP := box hp
        clear hp
        go_wp2_with (at_builtin; refine wpList_append_fld _ rfl (.tmp 24) (.tmp 29) rfl w.heap.size _ (halfL nm u (L.take k)) rfl ?a1 _ _ rfl L[k].1 L[k].2 ?b1 ?b2 ?c1 ?d1 ?_)
        case a1 => exact own_below O1.out (below_new _ _)
        case b1 => go_simp
        case b2 => go_simp
        case c1 => omega
        case d1 => simp; omega
        intro v' w3 hO2 hb2
        have O2 := box hO2
        clear hO2
        go_wp2
        go_roundw
        case rel => exact ⟨k + 1, by omega, by go_num, by rw [any_next hlt, HP.out, Bool.or_false], by rw [take_next hlt, HN.out, HP.out]; exact O2.out, (BL1.out.alloc BL1.out.size _).trans hb2⟩
        case measure => simp [intOf]; omega
      · rw [show foldL L[k].1.data.toList nm.data.toList = true from hp]
        have HP := box hp
        clear hp
        rcases hd : (L.take k).any (nmd nm) with _ | _
        · have HD := box hd
          clear hd
          go_wp2_with (at_builtin; refine wpList_append_fld _ rfl (.tmp 33) (.tmp 41) rfl w.heap.size _ (halfL nm u (L.take k)) rfl ?a1 _ _ rfl L[k].1 u ?b1 ?b2 ?c1 ?d1 ?_)
          case a1 => exact own_below O1.out (below_new _ _)
          case b1 => go_simp
          case b2 => go_simp
          case c1 => omega
          case d1 => simp; omega
          intro v' w3 hO2 hb2
          have O2 := box hO2
          clear hO2
          go_wp2
          go_roundw
          case rel => exact ⟨k + 1, by omega, by go_num, by rw [any_next hlt, HP.out, HD.out]; rfl, by rw [take_next hlt, HN.out, HP.out, HD.out]; exact O2.out, (BL1.out.alloc BL1.out.size _).trans hb2⟩
          case measure => simp [intOf]; omega
        · have HD := box hd
          clear hd
          go_wp2
          go_roundw
          case rel => exact ⟨k + 1, by omega, by go_num, by rw [any_next hlt, HP.out, HD.out]; rfl, by rw [take_next hlt, HN.out, HP.out, HD.out, if_pos rfl, if_pos rfl, List.append_nil]; exact O1.out, BL1.out⟩
          case measure => simp [intOf]; omega
    · have e : k = L.length := by omega
      subst e
      rw [List.take_length] at hO
      have HS := box (half_set (nm := nm) (u := u) (L := L))
      have hle := half_le (nm := nm) (u := u) (L := L)
      have O := box hO
      have BL := box hbel
      have hbs := hbel.size
      clear hO hbel
      rw [List.take_length]
      rcases hd : L.any (nmd nm) with _ | _
      · have HD := box hd
        clear hd
        go_wp2_with (at_builtin; refine wpList_append_fld _ rfl (.tmp 45) (.tmp 49) rfl w.heap.size _ (halfL nm u L) rfl ?a1 _ _ rfl nm u ?b1 ?b2 ?c1 ?d1 ?_)
        case a1 => exact own_below O.out (below_new _ _)
        case b1 => go_simp
        case b2 => go_simp
        case c1 => omega
        case d1 => simp; omega
        intro v' w3 hO2 hb2
        have O2 := box hO2
        clear hO2
        go_wp2
        go_ret
        exact ⟨_, rfl, by rw [HS.out, HD.out]; exact O2.out, (BL.out.alloc BL.out.size _).trans hb2⟩
      · have HD := box hd
        clear hd
        go_wp2
        go_ret
        exact ⟨_, rfl, by rw [HS.out, HD.out, if_pos rfl, List.append_nil]; exact O.out, BL.out⟩

end Go.Proofs.Ytmhedadollmekaa.Asc
