/- Merged texts: ClsMine PrfApp ClsMem ClsNorm VarRef9 KeyMine VarLaws VarLaws2 SelLaws SelLaws5. -/
import Derived.Test.YtklfpkaemnhdhaaGreatDoorZb02
import Derived.Test.YtklfpkaemnhdhaaGreatDoorZb03
import Derived.Test.YtklfpkaemnhdhaaGreatDoorZb04
import Derived.Test.YtklfpkaemnhdhaaGreatDoorZb05
import Derived.Test.YtklfpkaemnhdhaaGreatDoorZb06
import Derived.Test.YtklfpkaemnhdhaaGreatDoorZb07
import Derived.Test.YtklfpkaemnhdhaaGreatDoorZb08
import Derived.Test.YtklfpkaemnhdhaaGreatDoorZb09
import Derived.Test.YtklfpkaemnhdhaaGreatDoorZb10
import Derived.Test.YtklfpkaemnhdhaaGreatDoorZb11
import Derived.Test.YtklfpkaemnhdhaaGreatDoorZb13
import Derived.Test.YtklfpkaemnhdhaaGreatDoorZb14
import Derived.Test.YtklfpkaemnhdhaaGreatDoorZb15
set_option linter.unusedVariables false
set_option linter.unusedSimpArgs false
set_option maxRecDepth 100000
namespace Go.Proofs.YtklfpkaemnhdhaaGreatDoor.Asc
section
open Go.RowKit
/-- axes whose class can be written -/
def FitC (X : List AX) : Prop := ∀ i (h : i < X.length), X[i].1.size ≤ 1000 ∧ X[i].2.length ≤ 65000 ∧ ∀ j (hj : j < X[i].2.length), X[i].2[j].size ≤ 1000
theorem FitC.fit {X : List AX} (h : FitC X) : FitX X := fun i hi => by
  obtain ⟨h1, h2, h3⟩ := h i hi
  exact ⟨by omega, by omega, fun j hj => by have := h3 j hj; omega⟩
theorem rank_small {x : AX} {L : List F} {st : Bool} (h : ∀ j (hj : j < x.2.length), x.2[j].size ≤ 1000) : (rankS x L st).length ≤ 20 ∧ ∀ v ∈ rankS x L st, v.size ≤ 1000 :=
  ⟨by have := rankS_len x L st; omega, fun v hv => by
    obtain ⟨j, hj, e⟩ := List.getElem_of_mem (rankS_mem hv)
    have := h j hj
    rw [e] at this; exact this⟩
theorem Bld.next {w w' : World} {B b : Nat} {l : List UInt8} (h : Bld w B b l) (hb : Below w.heap.size w w') : Bld w' B b l := by
  have key : ∀ p, BldAt w B b p l → BldAt w' B b p l := fun p ⟨h1, v, h2, h3, h4⟩ => ⟨h1, v, (hb.block b (blk_lt h2)).trans h2, own_below h3 hb, h4⟩
  rcases h with h | h
  · exact .inl (key _ h)
  · exact .inr (key _ h)
theorem check_keep (B b : Nat) (l : List UInt8) (w : World) {G : Nat} {cs : Array Value} (h : Bld w B b l) (hG : w.heap[G]? = some (.cells cs 39 (0, 0))) :
    Calls Tryz.prog 69 #[.pointer (some ⟨b, 0, none⟩)] w fun e w' => e = .returned (.tuple #[]) ∧ BldAt w' B b (.pointer (some ⟨b, 0, none⟩)) l ∧ Below B w w' ∧ w'.heap[G]? = some (.cells cs 39 (0, 0)) := by
  rcases h with h | h
  · refine (check_new b w h.cell0 h.shape h.frozen0).mono ?_
    rintro e w' ⟨rfl, rfl⟩
    refine ⟨rfl, h.used _, (Below.refl B w).setCell (p := ⟨b, 0, none⟩) h.1 _, ?_⟩
    obtain ⟨_, v, hbk, _⟩ := h
    have hne : b ≠ G := by
      intro e
      subst e
      rw [hG] at hbk
      injection hbk with hbk
      injection hbk with _ h2 _
      exact absurd h2 (by decide)
    simp [World.setCell, Array.getElem?_modify, hne, hG]
  · refine (check_used b w h.cell0).mono ?_
    rintro e w' ⟨rfl, rfl⟩
    exact ⟨rfl, h, Below.refl B _, hG⟩
/-- WriteString: an axis' block stays -/
theorem WriteString_keep (B b : Nat) (l : List UInt8) (s : ByteArray) (w : World) {G : Nat} {cs : Array Value} (h : Box (Bld w B b l)) (hl : l.length + s.size ≤ 140737488355328) (hBw : B ≤ w.heap.size) (hG : w.heap[G]? = some (.cells cs 39 (0, 0))) :
    Calls Tryz.prog 35 #[.pointer (some ⟨b, 0, none⟩), .string s] w fun e w' => e = .returned (.tuple #[.int .i64 s.size, .nilIface]) ∧ BldAt w' B b (.pointer (some ⟨b, 0, none⟩)) (l ++ s.data.toList) ∧ Below B w w' ∧ w'.heap[G]? = some (.cells cs 39 (0, 0)) := by
  obtain ⟨i0, hi0, hz0, hz1, hz2⟩ := info_parts info_u8
  have HG0 := box hG
  clear hG
  go_enter Tryz.func35, Tryz.ntmps35
  go_wp2_with fail
  refine (check_keep B b l _ h.out HG0.out).mono ?_; rintro e w1 ⟨rfl, hA, hb1, hG1⟩
  obtain ⟨hB, v, hbk, hown, hne⟩ := hA
  have c0 : w1.cell? ⟨b, 0, none⟩ = some (.pointer (some ⟨b, 0, none⟩)) := by rw [Lib.cell_of_heap hbk]; rfl
  have c1 : w1.cell? ⟨b, 1, none⟩ = some v := by rw [Lib.cell_of_heap hbk]; rfl
  have hbw := hb1.size
  have B1 := box hb1
  have H1 := box hown
  have HN := box hne
  have HK := box hbk
  have HG1 := box hG1
  have HNG : Box (v.ownBlock ≠ some G) := box (Lib.ownBlock_ne hown hG1 (by decide))
  have hbG : Box (b ≠ G) := box (by
    intro e
    subst e
    rw [hG1] at hbk
    injection hbk with hbk
    injection hbk with _ h2 _
    exact absurd h2 (by decide))
  have hll : (Lib.byteCells l).length = l.length := Lib.byteCells_length l
  have hlt := blk_lt hbk
  have HGlt := box (blk_lt hG1)
  clear hb1 hown hne hbk hG1
  go_wp2_with (at_builtin; refine Lib.wpList_append_own_string _ rfl _ _ 59 9 rfl B 5 i0 Tryz.underlying59 Tryz.underlying9 hi0 hz0 hz1 hz2 _ _ _ rfl H1.out s rfl ?c3 ?c4 ?c5 ?_)
  case c3 => unfold maxLen; omega
  case c4 => omega
  case c5 => omega
  intro v' w2 hown' hgrow _
  have hb2 : w2.heap[b]? = some (.cells #[.pointer (some ⟨b, 0, none⟩), v] 61 (0, 0)) := by
    rw [hgrow.block b hlt (fun e => HN.out e.symm)]
    exact HK.out
  have HG2 : Box ((w2.setCell ⟨b, 1, none⟩ v').heap[G]? = some (.cells cs 39 (0, 0))) := box (by
    have h2 : w2.heap[G]? = some (.cells cs 39 (0, 0)) := by
      rw [hgrow.block G HGlt.out (fun e => HNG.out e.symm)]
      exact HG1.out
    simp [World.setCell, Array.getElem?_modify, hbG.out, h2])
  have d1 : w2.cell? ⟨b, 1, none⟩ = some v := by rw [Lib.cell_of_heap hb2]; rfl
  have f1 : w2.frozen? ⟨b, 1, none⟩ = false := Lib.frozen_of_heap hb2 1
  have A2 : Box (BldAt (w2.setCell ⟨b, 1, none⟩ v') B b (.pointer (some ⟨b, 0, none⟩)) (l ++ s.data.toList)) := box
    (Lib.BuilderAt.put (T := 61) (e := 5) hB hb2 (bs' := Lib.byteCells (l ++ s.data.toList)) (by
      rw [Lib.byteCells_append, List.length_append, ← Lib.strCells_eq, Lib.strCells_length, hll]; exact hown') (by decide))
  have B2 : Box (Below B w (w2.setCell ⟨b, 1, none⟩ v')) := box ((B1.out.grown hgrow (by omega) (fun k hk => (H1.out.lt k hk).1)).setCell (p := ⟨b, 1, none⟩) hB _)
  obtain ⟨ax, nx, cx, rfl⟩ : ∃ a n c, v' = .slice a n c := by
    rcases hown'.2 with ⟨hv, _⟩ | ⟨g, cap, cur, hv, _⟩
    · exact ⟨_, _, _, hv⟩
    · exact ⟨_, _, _, hv⟩
  clear hown' hgrow hb2
  go_wp2
  go_ret2
  exact ⟨rfl, A2.out, B2.out, HG2.out⟩
def ClRel (ms : List (List UInt8)) (K : Nat) (W : World) (i : Value) (wr : World) : Prop :=
  ∃ j : Nat, j ≤ ms.length ∧ i = .int .i64 j ∧ Box (Bld wr W.heap.size K (joinC (ms.take j))) ∧ Box (Below W.heap.size W wr)
theorem joinC_some {m : List UInt8} {r : List (List UInt8)} (h : m ≠ []) : joinC (m :: r) ≠ [] := by
  cases r with
  | nil => exact h
  | cons a r => exact joinC_two
set_option maxHeartbeats 8000000 in
theorem mClass_any (p : Option Addr) (cp : Nat) (X : List AX) (a : Option Addr) (cap : Nat) (L : List F) (st : Bool) (w : World) (hx : X.length ≤ 65536) (ZX : Box (FitC X)) (FL : Box (FitL L)) (hX : Box (Axs w p X)) (hF : Box (Fs w a L)) (hW : Wts w) :
    Calls Tryz.prog 12 #[.slice p X.length cp, .slice a L.length cap, .bool st] w fun e w' => e = .returned (.string (classS X L st)) ∧ Below w.heap.size w w' := by
  obtain ⟨C, hC⟩ : ∃ C, classS X L st = C := ⟨_, rfl⟩
  rw [hC]
  obtain ⟨nx, hnx⟩ : ∃ nx, X.length = nx := ⟨_, rfl⟩
  have HNX0 := box hnx
  rw [hnx]
  obtain ⟨nl, hnl⟩ : ∃ nl, L.length = nl := ⟨_, rfl⟩
  have HNL := box hnl
  rw [hnl]
  have HT := box hW
  have FX := box ZX.out.fit
  cases hv : validX X with
  | false =>
    have HV := box hv
    have HR : Box (C = ⟨#[]⟩) := box (by rw [← hC]; unfold classS; rw [if_neg (by rw [hv]; simp)])
    clear hv hC hnx hnl hW
    go_enter Tryz.func12, Tryz.ntmps12
    go_wp2_with fail
    refine (mValid17_is hx FX hX.out HV HNX0).mono ?_; rintro e w1 ⟨rfl, hb1⟩
    have B1 := box hb1
    clear hb1
    go_wp2
    go_ret
    exact ⟨by rw [HR.out]; rfl, B1.out⟩
  | true =>
    have HV := box hv
    have hx4 : X.length ≤ 4 := (validX_len hv).2
    have hx1 : 1 ≤ X.length := (validX_len hv).1
    obtain ⟨ms, hms⟩ : ∃ ms, (rankX X L st).map axisL = ms := ⟨_, rfl⟩
    have HC : Box (C = bs (joinC ms)) := box (by
      rw [← hC]
      unfold classS axesB joinB
      rw [if_pos hv, ← hms, List.map_map]
      congr 2)
    have HML : Box (ms.length = nx) := box (by rw [← hms, ← hnx]; unfold rankX; rw [List.length_map, List.length_map])
    have HMA : Box (∀ i (h : i < X.length) (h2 : i < ms.length), ms[i] = X[i].1.data.toList ++ 61 :: writL ((rankS X[i] L st).map fun v => v.data.toList)) := box (by
      subst hms; intro i h h2
      rw [List.getElem_map]
      unfold rankX
      rw [List.getElem_map]; rfl)
    have HMZ : Box (∀ m ∈ ms, m.length ≤ 65536 ∧ m ≠ []) := box (by
      intro m hm
      obtain ⟨i, hi, rfl⟩ := List.getElem_of_mem hm
      have hiX : i < X.length := by rw [hnx, ← HML.out]; exact hi
      rw [HMA.out i hiX hi]
      obtain ⟨z1, z2, z3⟩ := ZX.out i hiX
      obtain ⟨r1, r2⟩ := rank_small (L := L) (st := st) z3
      have := writ_len r1 r2
      refine ⟨?_, by simp⟩
      rw [List.length_append, List.length_cons, size_list]; omega)
    have HMZ1 : Box (∀ m ∈ ms, m.length ≤ 65536) := box (fun m hm => (HMZ.out m hm).1)
    have HNE : Box (joinC ms ≠ []) := box (by
      cases hm : ms with
      | nil => have := HML.out; rw [hm] at this; simp at this; omega
      | cons m r => exact joinC_some (HMZ.out m (by rw [hm]; simp)).2)
    have hnx4 : nx ≤ 4 := by omega
    clear hv hC hms hnx hnl hW
    go_enter Tryz.func12, Tryz.ntmps12
    go_wp2_with fail
    refine (mValid17_is hx FX hX.out HV HNX0).mono ?_; rintro e w1 ⟨rfl, hb1⟩
    have hs1 := hb1.size
    obtain ⟨K, hK⟩ : ∃ K, w1.heap.size = K := ⟨_, rfl⟩
    have hsK : w.heap.size ≤ K := by omega
    have A1 : Box (Bld (w1.alloc (.cells #[.pointer none, .slice none 0 0] 61)) w.heap.size K (joinC (ms.take 0))) := box (.inl ⟨hsK, .slice none 0 0, by rw [← hK]; exact heap_alloc_new w1 _, World.ownsRow_nil _ _ _ _, by simp [Value.ownBlock]⟩)
    have B1 := box (hb1.alloc hs1 (.cells #[.pointer none, .slice none 0 0] 61))
    have HK := box hK
    clear hb1 hK
    go_wp2
    rw [HK.out]
    go_loopw [15] (fun i wr => ClRel ms K w i wr) (fun i _ => nx - (intOf i).toNat)
    case atStart => exact ⟨0, Nat.zero_le _, rfl, A1, B1⟩
    case round =>
      obtain ⟨w3, rfl⟩ : ∃ w3, w3 = wr := ⟨_, rfl⟩
      obtain ⟨i, hi, rfl, A3, B3⟩ := hrel
      have hs3 := B3.out.size
      have hjl := joinC_len HMZ1.out i
      by_cases hlt : i < nx
      · have hii : (i : Int) < (nx : Int) := by omega
        have hi0 : (0 : Int) ≤ (i : Int) := by omega
        have hiX : i < X.length := by have := HNX0.out; omega
        have him : i < ms.length := by rw [HML.out]; exact hlt
        obtain ⟨g, off, v, rfl, c0, c1, b, c, rfl, hss, hcc⟩ := (hX.out.below B3.out) i hiX
        obtain ⟨_, _, _, e9, _, _, _, _, e10, hss9, _⟩ := hX.out i hiX
        obtain ⟨z1, z2, z3⟩ := FX.out i hiX
        obtain ⟨y1, _, y3⟩ := ZX.out i hiX
        have HMI0 := HMA.out i hiX him
        obtain ⟨r1, r2⟩ := rank_small (L := L) (st := st) y3
        obtain ⟨n, hn⟩ : ∃ n, X[i].1 = n := ⟨_, rfl⟩
        obtain ⟨V, hV⟩ : ∃ V, X[i].2 = V := ⟨_, rfl⟩
        have hxi : X[i] = (n, V) := by rw [← hn, ← hV]
        rw [hn] at c0 z1 y1 HMI0
        rw [hV] at c1 hss z2 hcc
        rw [hxi] at HMI0 r1 r2
        have Z3 : Box (∀ j (hj : j < V.length), V[j].size ≤ 20000) := box (by subst hV; exact z3)
        obtain ⟨m, hm⟩ : ∃ m, V.length = m := ⟨_, rfl⟩
        have HM := box hm
        rw [hm] at c1
        obtain ⟨r, hr⟩ : ∃ r, rankS (n, V) L st = r := ⟨_, rfl⟩
        have HR := box hr
        rw [hr] at HMI0 r1 r2
        have hr20 : r.length ≤ 20 := r1
        have HRZ := box r2
        obtain ⟨x, hx⟩ : ∃ x, bs (writL (r.map fun v => v.data.toList)) = x := ⟨_, rfl⟩
        have HXX := box hx
        have HXL : Box (x.data.toList = writL (r.map fun v => v.data.toList)) := box (by rw [← hx, bs_toList])
        have HMI := box HMI0
        have hxz : x.size ≤ 41000 := by
          have h1 := writ_len r1 r2
          rw [← HXL.out, size_list] at h1
          exact h1
        obtain ⟨u, hu⟩ : ∃ u, w3.alloc (.cells #[.string n, .slice b m c] 39) = u := ⟨_, rfl⟩
        have HU := box hu
        obtain ⟨G, hGs⟩ : ∃ G, w3.heap.size = G := ⟨_, rfl⟩
        have HGS := box hGs
        have HG : Box (u.heap[G]? = some (.cells #[.string n, .slice b m c] 39 (0, 0))) := box (by rw [← hu, ← hGs]; exact heap_alloc_new w3 _)
        have BN := below_new w3 (.cells #[.string n, .slice b m c] 39)
        rw [hu] at BN
        have AU := box (A3.out.next BN)
        have BU := box (B3.out.trans (BN.mono hs3))
        have hsu := BU.out.size
        have hss0 : Box (Ss w b V) := box (by
          obtain ⟨g2, off2, v2, e2, _, f1, b2, c2, e3, hs2, _⟩ := hX.out i hiX
          cases e2
          rw [hV] at hs2 e3
          have h1 := (B3.out.cell (cell_lt f1)).trans f1
          rw [← hm] at c1
          rw [c1] at h1
          rw [e3] at h1
          injection h1 with h1
          injection h1 with q1 q2 q3
          subst q1
          exact hs2)
        clear hn hV hss z3 y3 hxi hm hr hx hu hGs BN r1 r2 HMI0 e9 e10 hss9
        by_cases hi00 : i = 0
        · have hip : ¬ (0 : Int) < (i : Int) := by omega
          obtain ⟨u3, rfl⟩ : ∃ u3, u3 = u := ⟨_, rfl⟩
          have BU3 := BU
          have hsu3 := hsu
          have HI0 := box hi00
          have A3 : Box (Bld u3 w.heap.size K ([] : List UInt8)) := box (by have := AU.out; rw [hi00] at this; exact this)
          clear hi00
          go_wp2_with fail
          rw [HU.out, HGS.out]
          have C9 := box (show u3.heap[G]? = some (.cells #[.string n, .slice b m c] 39 (0, 0)) from HG.out)
          have d0 : u3.cell? ⟨G, 0, none⟩ = some (.string n) := by rw [Lib.cell_of_heap C9.out]; rfl
          refine (WriteString_keep w.heap.size K _ n _ A3 (by simp only [List.length_nil]; omega) hsu3 C9.out).mono ?_; rintro e w4 ⟨rfl, hA4, hb4, hG4⟩
          have A4 : Box (Bld w4 w.heap.size K (([] : List UInt8) ++ n.data.toList)) := box (.inr hA4)
          have B4 := box (BU3.out.trans hb4)
          have hs4 := B4.out.size
          have C4 := box hG4
          clear hA4 hb4 hG4 d0 C9
          go_wp2_with fail
          refine (WriteString_keep w.heap.size K _ ⟨#[61]⟩ _ A4 (by simp only [List.length_append, List.length_nil, size_list]; show _ + 1 ≤ _; omega) hs4 C4.out).mono ?_; rintro e w5 ⟨rfl, hA5, hb5, hG5⟩
          have A5 : Box (Bld w5 w.heap.size K (([] : List UInt8) ++ n.data.toList ++ [61])) := box (.inr hA5)
          have B5 := box (B4.out.trans hb5)
          have hs5 := B5.out.size
          have e0 : w5.cell? ⟨G, 0, none⟩ = some (.string n) := by rw [Lib.cell_of_heap hG5]; rfl
          have e1 : w5.cell? ⟨G, 1, none⟩ = some (.slice b m c) := by rw [Lib.cell_of_heap hG5]; rfl
          have SS := box (hss0.out.below B5.out)
          have F5 := box (hF.out.below B5.out)
          have T5 := HT.out.below B5.out
          clear hA5 hb5 hG5 C4
          go_wp2_with fail
          refine (mRanked17_is z1 z2 hcc Z3 FL SS.out F5.out T5 HR HM HNL).mono ?_; rintro e w6 ⟨v6, rfl, hO6, hb6⟩
          obtain ⟨ra, rc, rfl, hSr, _⟩ := hO6.ss
          have SR := box hSr
          have A6 := box (A5.out.next hb6)
          have B6 := box (B5.out.trans (hb6.mono hs5))
          have hs6 := B6.out.size
          clear hO6 hb6 hSr T5 e0 e1
          go_wp2_with fail
          refine (grpFormat_any ra rc r x w6 hr20 HRZ SR HXX).mono ?_; rintro e w7 ⟨rfl, hb7⟩
          have A7 := box (A6.out.next hb7)
          have B7 := box (B6.out.trans (hb7.mono hs6))
          have hs7 := B7.out.size
          clear hb7
          go_wp2_with fail
          refine (WriteString_any w.heap.size K _ x _ A7 (by simp only [List.length_append, List.length_nil, List.length_cons, size_list]; omega) hs7).mono ?_; rintro e w8 ⟨rfl, hA8, hb8⟩
          have A8 : Box (Bld w8 w.heap.size K (joinC (ms.take (i + 1)))) := box (.inr (by
            rw [joinC_more him, if_pos HI0.out, HMI.out, ← HXL.out]
            simpa using hA8))
          have B8 := box (B7.out.trans hb8)
          clear hA8 hb8
          go_wp2
          go_roundw
          case rel => exact ⟨i + 1, by omega, by go_num, A8, B8⟩
          case measure => simp [intOf]; omega
        · have hip : (0 : Int) < (i : Int) := by omega
          go_wp2_with fail
          rw [HU.out, HGS.out]
          refine (WriteString_keep w.heap.size K _ ⟨#[44, 32]⟩ _ AU (by show _ + 2 ≤ _; omega) hsu HG.out).mono ?_; rintro e u3 ⟨rfl, hA2, hb2, hG3⟩
          have A3 : Box (Bld u3 w.heap.size K (joinC (ms.take i) ++ [44, 32])) := box (.inr hA2)
          have BU3 := box (BU.out.trans hb2)
          have hsu3 := BU3.out.size
          clear hA2 hb2
          have C9 := box (show u3.heap[G]? = some (.cells #[.string n, .slice b m c] 39 (0, 0)) from hG3)
          have d0 : u3.cell? ⟨G, 0, none⟩ = some (.string n) := by rw [Lib.cell_of_heap C9.out]; rfl
          go_wp2_with fail
          refine (WriteString_keep w.heap.size K _ n _ A3 (by simp only [List.length_append, List.length_nil, List.length_cons]; omega) hsu3 C9.out).mono ?_; rintro e w4 ⟨rfl, hA4, hb4, hG4⟩
          have A4 : Box (Bld w4 w.heap.size K (joinC (ms.take i) ++ [44, 32] ++ n.data.toList)) := box (.inr hA4)
          have B4 := box (BU3.out.trans hb4)
          have hs4 := B4.out.size
          have C4 := box hG4
          clear hA4 hb4 hG4 d0 C9
          go_wp2_with fail
          refine (WriteString_keep w.heap.size K _ ⟨#[61]⟩ _ A4 (by simp only [List.length_append, List.length_nil, List.length_cons, size_list]; show _ + 1 ≤ _; omega) hs4 C4.out).mono ?_; rintro e w5 ⟨rfl, hA5, hb5, hG5⟩
          have A5 : Box (Bld w5 w.heap.size K (joinC (ms.take i) ++ [44, 32] ++ n.data.toList ++ [61])) := box (.inr hA5)
          have B5 := box (B4.out.trans hb5)
          have hs5 := B5.out.size
          have e0 : w5.cell? ⟨G, 0, none⟩ = some (.string n) := by rw [Lib.cell_of_heap hG5]; rfl
          have e1 : w5.cell? ⟨G, 1, none⟩ = some (.slice b m c) := by rw [Lib.cell_of_heap hG5]; rfl
          have SS := box (hss0.out.below B5.out)
          have F5 := box (hF.out.below B5.out)
          have T5 := HT.out.below B5.out
          clear hA5 hb5 hG5 C4
          go_wp2_with fail
          refine (mRanked17_is z1 z2 hcc Z3 FL SS.out F5.out T5 HR HM HNL).mono ?_; rintro e w6 ⟨v6, rfl, hO6, hb6⟩
          obtain ⟨ra, rc, rfl, hSr, _⟩ := hO6.ss
          have SR := box hSr
          have A6 := box (A5.out.next hb6)
          have B6 := box (B5.out.trans (hb6.mono hs5))
          have hs6 := B6.out.size
          clear hO6 hb6 hSr T5 e0 e1
          go_wp2_with fail
          refine (grpFormat_any ra rc r x w6 hr20 HRZ SR HXX).mono ?_; rintro e w7 ⟨rfl, hb7⟩
          have A7 := box (A6.out.next hb7)
          have B7 := box (B6.out.trans (hb7.mono hs6))
          have hs7 := B7.out.size
          clear hb7
          go_wp2_with fail
          refine (WriteString_any w.heap.size K _ x _ A7 (by simp only [List.length_append, List.length_nil, List.length_cons, size_list]; omega) hs7).mono ?_; rintro e w8 ⟨rfl, hA8, hb8⟩
          have A8 : Box (Bld w8 w.heap.size K (joinC (ms.take (i + 1)))) := box (.inr (by
            rw [joinC_more him, if_neg hi00, HMI.out, ← HXL.out]
            simpa using hA8))
          have B8 := box (B7.out.trans hb8)
          clear hA8 hb8
          go_wp2
          go_roundw
          case rel => exact ⟨i + 1, by omega, by go_num, A8, B8⟩
          case measure => simp [intOf]; omega
      · have hii : ¬ (i : Int) < (nx : Int) := by omega
        have hin : i = nx := by have := HML.out; omega
        subst hin
        have HTM : Box (ms.take i = ms) := box (List.take_of_length_le (by rw [HML.out]; exact Nat.le_refl _))
        rw [HTM.out] at A3
        go_wp2_with fail
        refine (String_any w.heap.size K _ _ A3 HNE.out).mono ?_; rintro e w4 ⟨rfl, hb4⟩
        have B4 := box (B3.out.trans (hb4.mono (Nat.le_refl _)))
        clear hb4
        go_wp2
        go_ret
        exact ⟨by rw [HC.out]; rfl, B4.out⟩
theorem mClass_is {p : Option Addr} {cp nx : Nat} {X : List AX} {a : Option Addr} {cap nl : Nat} {L : List F} {st : Bool} {C : ByteArray} {w : World} (hx : X.length ≤ 65536) (ZX : Box (FitC X)) (FL : Box (FitL L)) (hX : Axs w p X) (hF : Fs w a L) (hW : Wts w) (h : Box (classS X L st = C)) (hnx : Box (X.length = nx)) (hnl : Box (L.length = nl)) :
    Calls Tryz.prog 12 #[.slice p nx cp, .slice a nl cap, .bool st] w fun e w' => e = .returned (.string C) ∧ Below w.heap.size w w' := by
  have := mClass_any p cp X a cap L st w hx ZX FL (box hX) (box hF) hW
  rw [h.out, hnx.out, hnl.out] at this; exact this
set_option maxHeartbeats 2000000 in
theorem mSame18_is {p : Option Addr} {cp nx : Nat} {X : List AX} {a b : Option Addr} {ca cb nl nm : Nat} {L M : List F} {st q : Bool} {w : World} (hx : X.length ≤ 65536) (ZX : Box (FitC X)) (FL : Box (FitL L)) (FM : Box (FitL M)) (hX : Axs w p X) (hF : Fs w a L) (hG : Fs w b M) (hW : Wts w) (h : Box (sameC X L M st = q)) (hnx : Box (X.length = nx)) (hnl : Box (L.length = nl)) (hnm : Box (M.length = nm)) :
    Calls Tryz.prog 14 #[.slice p nx cp, .slice a nl ca, .slice b nm cb, .bool st] w fun e w' => e = .returned (.bool q) ∧ Below w.heap.size w w' := by
  have HX := box hX
  have HF := box hF
  have HG := box hG
  have HT := box hW
  have FX := box ZX.out.fit
  obtain ⟨c1, hc1⟩ : ∃ c, classS X L st = c := ⟨_, rfl⟩
  obtain ⟨c2, hc2⟩ : ∃ c, classS X M st = c := ⟨_, rfl⟩
  have HC1 := box hc1
  have HC2 := box hc2
  cases hv : validX X with
  | false =>
    have HV := box hv
    have HQ : Box (q = false) := box (by rw [← h.out]; unfold sameC; rw [hv]; rfl)
    clear hX hF hG hW hv hc1 hc2
    go_enter Tryz.func14, Tryz.ntmps14
    go_wp2_with fail
    refine (mValid17_is hx FX HX.out HV hnx).mono ?_; rintro e w1 ⟨rfl, hb1⟩
    have B1 := box hb1
    clear hb1
    go_wp2
    go_ret
    exact ⟨by rw [HQ.out]; rfl, B1.out⟩
  | true =>
    have HV := box hv
    have HQ : Box (q = decide (c1 = c2)) := box (by rw [← h.out]; unfold sameC; rw [hv, hc1, hc2]; rfl)
    obtain ⟨z, hz⟩ : ∃ z, (c1.toList == c2.toList) = z := ⟨_, rfl⟩
    have HQ2 : Box (q = z) := box (by rw [HQ.out, ← hz, beq_str])
    clear hX hF hG hW hv hc1 hc2 HQ
    go_enter Tryz.func14, Tryz.ntmps14
    go_wp2_with fail
    refine (mValid17_is hx FX HX.out HV hnx).mono ?_; rintro e w1 ⟨rfl, hb1⟩
    have B1 := box hb1
    clear hb1
    go_wp2_with fail
    refine (mClass_is hx ZX FL (HX.out.below B1.out) (HF.out.below B1.out) (HT.out.below B1.out) HC1 hnx hnl).mono ?_; rintro e w2 ⟨rfl, hb2⟩
    have B2 := box (B1.out.trans (hb2.mono B1.out.size))
    clear hb2
    go_wp2_with fail
    refine (mClass_is hx ZX FM (HX.out.below B2.out) (HG.out.below B2.out) (HT.out.below B2.out) HC2 hnx hnm).mono ?_; rintro e w3 ⟨rfl, hb3⟩
    have B3 := box (B2.out.trans (hb3.mono B2.out.size))
    clear hb3
    go_wp2
    go_ret
    exact ⟨by rw [HQ2.out]; rfl, B3.out⟩
end
section
open Go.RowKit
theorem Qs.news {w : World} {ad : Addr} {M : List QP} (h : Qs w (some ad) M) : ∀ j u, (cellsQ M)[j]? = some u → w.cell? (ad.add j) = some u := by
  intro j u hj
  have hlen := (List.getElem?_eq_some_iff.mp hj).1
  rw [cellsQ_len] at hlen
  have hi : j / 2 < M.length := by omega
  obtain ⟨g, off, e, c0, c1⟩ := h (j / 2) hi
  obtain ⟨q0, q1⟩ := cellsQ_at M (j / 2) hi
  cases e
  rw [add_at]
  rcases Nat.mod_two_eq_zero_or_one j with r | r
  · have ej : j = j / 2 * 2 := by omega
    rw [← ej] at q0 c0
    rw [q0] at hj; cases hj; exact c0
  · have ej : j = j / 2 * 2 + 1 := by omega
    rw [← ej] at q1
    have ec : off + j / 2 * 2 + 1 = off + j := by omega
    rw [ec] at c1
    rw [q1] at hj; cases hj; exact c1
end
section
open Go.RowKit
section
variable {ops : Array Oper} {o : Oper} {a : Act} {K : Act → World → Prop} {Q : Exit → Act → World → Prop} {E : Prop}
theorem step_append_prf (w : World) (hgd : o.guard = none) (s x : Operand)
    (ho : o.op = .call { callee := .builtin .append, args := #[s, x], argTypes := #[50, 50] })
    (B : Nat) (v : Value) (L : List QP) (hs : a.eval s = v) (hown : OwnQ w B v L)
    (g : Nat) (c : Nat) (hx : a.eval x = .slice (some ⟨g, 0, none⟩) 1 c) (n : ByteArray) (u : Int) (h0 : w.cell? ⟨g, 0, none⟩ = some (.string n)) (h1 : w.cell? ⟨g, 1, none⟩ = some (.int .i64 u)) (hl : L.length ≤ 65536) (hB : B ≤ w.heap.size)
    (h : ∀ v' w', OwnQ w' B v' (L ++ [(n, u)]) → Below B w w' → K (a.put o.dst v') w') :
    if Region.wanted o (yielded ops a.tmps) = true then Oper.wp Tryz.prog o a w K Q else E := by
  obtain ⟨i0, hi0, hz0, hz1, hz2⟩ := info_parts info_prf
  refine step_append_lies (P := Tryz.prog) w hgd s x 50 ho B 55 i0 _ 2 24 Tryz.underlying50 hi0 hz0 hz1 hz2 rfl (by decide) v L.length (cellsQ L) hs hown ⟨g, 0, none⟩ 1 c [.string n, .int .i64 u] hx rfl ?_ ?_ (by omega) (by unfold maxLen; omega) (by omega) hB _ rfl ?_
  · intro j y hj
    match j, hj with
    | 0, hj => simp at hj; subst hj; simpa [Addr.add] using h0
    | 1, hj => simp at hj; subst hj; simpa [Addr.add] using h1
  · intro y hy; simp at hy; rcases hy with rfl | rfl <;> rfl
  · intro g' cap' w' q1 q2 _ _
    exact h _ w' (by simpa [OwnQ, cellsQ_app, cellsQ] using q1) ((Below.refl _ _).grown q2 hB (fun k hk => own_block hown k hk))
end
end
section
open Go.RowKit
theorem star_beq (x : ByteArray) : (x.toList == [42]) = decide (x = star) := is_star x
set_option maxHeartbeats 1000000 in
theorem mNamed_any (k : Int) (x : ByteArray) (w : World) (hk : InI64 k) (hx : x.size ≤ 65000) :
    Calls Tryz.prog 81 #[.int .i64 k, .string x] w fun e w' => e = .returned (.bool (nameV k x)) ∧ Below w.heap.size w w' := by
  obtain ⟨z, hz⟩ : ∃ z, nameV k x = z := ⟨_, rfl⟩
  rw [hz]
  by_cases h1 : k = 1
  · subst h1
    obtain ⟨⟨a, b, L⟩, hm⟩ : ∃ m, ofM (mediaL x.data.toList) = m := ⟨_, rfl⟩
    have hq : (mediaL x.data.toList).isSome = z := by rw [← hz]; unfold nameV; rw [if_pos rfl]
    have HM := box (And.intro hm hq)
    clear hm hq hz
    go_enter Tryz.func81, Tryz.ntmps81
    go_wp2_with fail
    refine (mMed13_is hx HM).mono ?_; rintro e w1 ⟨p1, c1, rfl, hF1, hb1⟩
    have B1 := box (hb1.trans ((below_new w1 (.cells #[.string a, .string b, .slice p1 L.length c1] 77)).mono hb1.size))
    clear hF1 hb1
    go_wp2
    go_ret
    exact ⟨rfl, B1.out⟩
  · have hk1 : (k == 1) = false := by rw [beq_eq_false_iff_ne]; exact h1
    by_cases h2 : k = 2
    · subst h2
      have HT : Box (tagL x.data.toList = z) := box (by rw [← hz]; unfold nameV; rw [if_neg (by decide), if_pos rfl])
      clear hz
      go_enter Tryz.func81, Tryz.ntmps81
      go_wp2_with fail
      refine (mTagM_is hx HT).mono ?_; rintro e w1 ⟨rfl, hb1⟩
      have B1 := box hb1
      clear hb1
      go_wp2
      go_ret
      exact ⟨rfl, B1.out⟩
    · have hk2 : (k == 2) = false := by rw [beq_eq_false_iff_ne]; exact h2
      obtain ⟨t, ht⟩ : ∃ t, tokL x.data.toList = t := ⟨_, rfl⟩
      have HT := box ht
      have hzz : z = (t && decide (x ≠ star)) := by rw [← hz]; unfold nameV; rw [if_neg h1, if_neg h2, ht]
      have hxm : x.size ≤ maxLen := by unfold maxLen; omega
      obtain ⟨s, hs⟩ : ∃ s, (x.toList == [42]) = s := ⟨_, rfl⟩
      have hzs : z = (t && !s) := by rw [hzz, ← hs, star_beq]; congr 1; by_cases e : x = star <;> simp [e]
      have HZ := box hzs
      clear hz ht hzz hzs h1 h2
      go_enter Tryz.func81, Tryz.ntmps81
      go_wp2_with fail
      refine (aToken_is hxm HT).mono ?_; rintro e w1 ⟨rfl, rfl⟩
      cases t with
      | false =>
        have HR : Box (z = false) := box (by rw [HZ.out]; rfl)
        go_wp2
        go_ret
        exact ⟨by rw [HR.out]; rfl, Below.refl _ _⟩
      | true =>
        have HR : Box (z = !s) := box (by rw [HZ.out]; rfl)
        cases s with
        | false =>
          go_wp2
          go_ret
          exact ⟨by rw [HR.out]; rfl, Below.refl _ _⟩
        | true =>
          go_wp2
          go_ret
          exact ⟨by rw [HR.out]; rfl, Below.refl _ _⟩
theorem mNamed_is {k : Int} {x : ByteArray} {z : Bool} {w : World} (hk : InI64 k) (hx : x.size ≤ 65000) (h : Box (nameV k x = z)) :
    Calls Tryz.prog 81 #[.int .i64 k, .string x] w fun e w' => e = .returned (.bool z) ∧ Below w.heap.size w w' := by
  have := mNamed_any k x w hk hx
  rw [h.out] at this; exact this
/-- the values that can be named, each with its quality -/
def namedL (k : Int) (P : List QP) (V : List ByteArray) : List QP := (V.filter (nameV k)).map fun v => (v, qualR k P true v.data.toList)
theorem namedL_more {k : Int} {P : List QP} {V : List ByteArray} {j : Nat} (h : j < V.length) : namedL k P (V.take (j + 1)) = namedL k P (V.take j) ++ (if nameV k V[j] = true then [(V[j], qualR k P true V[j].data.toList)] else []) := by
  unfold namedL
  rw [List.take_succ_eq_append_getElem h, List.filter_append, List.map_append, List.filter_cons, List.filter_nil]
  split <;> rfl
theorem namedL_len (k : Int) (P : List QP) (V : List ByteArray) : (namedL k P V).length ≤ V.length := by unfold namedL; rw [List.length_map]; exact List.length_filter_le _ _
theorem namedL_small {k : Int} {P : List QP} {V : List ByteArray} {n : Nat} (h : ∀ v ∈ V, v.size ≤ n) : ∀ i (hi : i < (namedL k P V).length), (namedL k P V)[i].1.size ≤ n := by
  intro i hi
  obtain ⟨v, hv, e⟩ := List.mem_map.1 (List.getElem_mem hi)
  rw [← e]
  exact h v (List.mem_filter.1 hv).1
theorem namedL_q {k : Int} {P : List QP} {V : List ByteArray} (h : ∀ p ∈ P, 0 ≤ p.2 ∧ p.2 ≤ 1000) : ∀ i (hi : i < (namedL k P V).length), InI64 (namedL k P V)[i].2 := by
  intro i hi
  obtain ⟨v, hv, e⟩ := List.mem_map.1 (List.getElem_mem hi)
  rw [← e]
  have := qualR_rng (k := k) (o := true) (v := v.data.toList) h
  unfold InI64
  show _ ≤ qualR k P true v.data.toList ∧ qualR k P true v.data.toList ≤ _
  omega
theorem named_norm {k : Int} {L : List F} {V : List ByteArray} (h : prefsO k L = true) : normP k L V = namedL k (prefsV k L) V := by unfold normP namedL; rw [h]
def PnRel (k : Int) (P : List QP) (V : List ByteArray) (W : World) (v i : Value) (wr : World) : Prop :=
  ∃ j : Nat, i = .int .i64 j ∧ j ≤ V.length ∧ OwnQ wr W.heap.size v (namedL k P (V.take j)) ∧ Box (Below W.heap.size W wr)
set_option maxHeartbeats 4000000 in
theorem mNamedL_any (k : Int) (a : Option Addr) (cap : Nat) (P : List QP) (b : Option Addr) (cb : Nat) (V : List ByteArray) (w : World) (hk : InI64 k) (hl : P.length ≤ 65536) (hz : Box (∀ i (hi : i < P.length), P[i].1.size ≤ 20000)) (hvl : V.length ≤ 65536) (hvz : Box (∀ v ∈ V, v.size ≤ 20000)) (hQ : Box (Qs w a P)) (hS : Box (Ss w b V)) :
    Calls Tryz.prog 46 #[.int .i64 k, .slice a P.length cap, .slice b V.length cb] w fun e w' => ∃ v, e = .returned v ∧ OwnQ w' w.heap.size v (namedL k P V) ∧ Below w.heap.size w w' := by
  go_enter Tryz.func46, Tryz.ntmps46
  go_wp2
  go_loopw [7, 12] (fun v i wr => PnRel k P V w v i wr) (fun _ i _ => V.length - (intOf i).toNat)
  case atStart => exact ⟨0, rfl, Nat.zero_le _, OwnQ.nil _ _, box (Below.refl _ _)⟩
  case round =>
    obtain ⟨ws, rfl⟩ : ∃ ws, ws = wr := ⟨_, rfl⟩
    obtain ⟨j, rfl, hj, hO, B3⟩ := hrel
    have hs3 := B3.out.size
    obtain ⟨acc, hacc⟩ : ∃ acc, namedL k P (V.take j) = acc := ⟨_, rfl⟩
    rw [hacc] at hO
    obtain ⟨va, vc, rfl, _, _⟩ := hO.qs
    have O3 := box hO
    have HACC := box hacc
    have hacl : acc.length ≤ 65536 := by rw [← hacc]; have := namedL_len k P (V.take j); rw [List.length_take] at this; omega
    obtain ⟨vn, hvn⟩ : ∃ vn, Value.slice va acc.length vc = vn := ⟨_, rfl⟩
    clear hO hacc
    by_cases hlt : j < V.length
    · have hji : (j : Int) < (V.length : Int) := by omega
      have hj0 : (0 : Int) ≤ (j : Int) := by omega
      obtain ⟨x, hx⟩ : ∃ x, V[j] = x := ⟨_, rfl⟩
      have hxz : x.size ≤ 20000 := by rw [← hx]; exact hvz.out _ (List.getElem_mem hlt)
      have hxz6 : x.size ≤ 65000 := by omega
      obtain ⟨g, off, rfl, c0⟩ := (hS.out.below B3.out) j hlt
      rw [hx] at c0
      have HNX := box (namedL_more (k := k) (P := P) hlt)
      rw [HACC.out, hx] at HNX
      obtain ⟨z, hz1⟩ : ∃ z, nameV k x = z := ⟨_, rfl⟩
      have HZ := box hz1
      obtain ⟨q, hq⟩ : ∃ q, qualR k P true x.data.toList = q := ⟨_, rfl⟩
      have HQ := box hq
      rw [hz1, hq] at HNX
      clear hx hz1 hq
      rw [hvn] at O3 ⊢
      clear hvn
      go_wp2_with fail
      refine (mNamed_is hk hxz6 HZ).mono ?_; rintro e w1 ⟨rfl, hb1⟩
      have B1 := box (B3.out.trans (hb1.mono hs3))
      have hs1 := B1.out.size
      have O1 := box (own_below O3.out hb1)
      clear hb1 c0
      cases z with
      | false =>
        have HN2 : Box (namedL k P (V.take (j + 1)) = acc) := box (by rw [HNX.out]; simp)
        go_wp2
        go_roundw
        case rel => exact ⟨j + 1, by go_num, by omega, by rw [HN2.out]; exact O1.out, B1⟩
        case measure => simp [intOf]; omega
      | true =>
        have HN2 : Box (namedL k P (V.take (j + 1)) = acc ++ [(x, q)]) := box (by rw [HNX.out]; simp)
        have Q1 := box (hQ.out.below B1.out)
        go_wp2_with fail
        refine (mQuality_is2 hk hl hz hxz Q1.out HQ).mono ?_; rintro e w2 ⟨rfl, hb2⟩
        have B2 := box (B1.out.trans (hb2.mono hs1))
        have hs2 := B2.out.size
        have O2 := box (own_below O1.out hb2)
        clear hb2
        go_wp2_with (at_builtin; refine wpList_append_prf _ rfl (.tmp 19) (.tmp 26) rfl w.heap.size vn acc rfl ?a1 _ _ rfl x q ?b1 ?c1 hacl ?d1 ?_)
        case a1 => exact own_below O2.out (below_new _ _)
        case b1 => exact (World.cell?_alloc_at (w := w2) #[.string x, .int .i64 q] 55 w2.heap.size 0 rfl).trans rfl
        case c1 => exact (World.cell?_alloc_at (w := w2) #[.string x, .int .i64 q] 55 w2.heap.size 1 rfl).trans rfl
        case d1 => first | exact Nat.le_trans hs2 (below_new _ _).size | (simp; omega)
        intro v6 w6 hO6 hb6
        rw [← HN2.out] at hO6
        have O6 := box hO6
        have B6 := box ((B2.out.alloc hs2 _).trans hb6)
        clear hO6 hb6
        go_wp2
        go_roundw
        case rel => exact ⟨j + 1, by go_num, by omega, O6.out, B6⟩
        case measure => simp [intOf]; omega
    · have hji : ¬ (j : Int) < (V.length : Int) := by omega
      have HE : Box (acc = namedL k P V) := box (by rw [← HACC.out, List.take_of_length_le (by omega)])
      clear hvn
      go_wp2
      go_ret
      exact ⟨_, rfl, by rw [← HE.out]; exact O3.out, B3.out⟩
theorem mNamedL_is {k : Int} {a : Option Addr} {cap : Nat} {P R : List QP} {b : Option Addr} {cb nv : Nat} {V : List ByteArray} {w : World} (hk : InI64 k) (hl : P.length ≤ 65536) (hz : Box (∀ i (hi : i < P.length), P[i].1.size ≤ 20000)) (hvl : V.length ≤ 65536) (hvz : Box (∀ v ∈ V, v.size ≤ 20000)) (hQ : Qs w a P) (hS : Ss w b V) (h : Box (namedL k P V = R)) (hn : Box (V.length = nv)) :
    Calls Tryz.prog 46 #[.int .i64 k, .slice a P.length cap, .slice b nv cb] w fun e w' => ∃ v, e = .returned v ∧ OwnQ w' w.heap.size v R ∧ Below w.heap.size w w' := by
  have := mNamedL_any k a cap P b cb V w hk hl hz hvl hvz (box hQ) (box hS)
  rw [h.out, hn.out] at this; exact this
theorem nameK_size (k : Int) : (nameK k).size ≤ 100 := by
  unfold nameK
  split
  · decide
  · split
    · decide
    · split
      · decide
      · split <;> decide
/-- what Normalize returns -/
def NormPost (w : World) (M : List F) (e : Ending) (w' : World) : Prop := ∃ v, e = .returned v ∧ OwnF w' w.heap.size v M ∧ Below w.heap.size w w'
theorem mClone18_is {a : Option Addr} {cap n : Nat} {L : List F} {w : World} (hl : L.length ≤ 65536) (hF : Fs w a L) (hn : Box (L.length = n)) :
    Calls Tryz.prog 43 #[.slice a n cap] w fun e w' => ∃ v, e = .returned v ∧ OwnF w' w.heap.size v L ∧ Below w.heap.size w w' := by
  have := Clone_any a cap L w hl (box hF)
  rw [hn.out] at this; exact this
theorem mRem18_is {a : Option Addr} {cap n : Nat} {L M : List F} {nm : ByteArray} {w : World} (FL : Box (FitL L)) (hm : Box (nm.size ≤ 65536)) (hF : Fs w a L) (h : Box (remL nm L = M)) (hn : Box (L.length = n)) :
    Calls Tryz.prog 47 #[.slice a n cap, .string nm] w fun e w' => ∃ v, e = .returned v ∧ OwnF w' w.heap.size v M ∧ Below w.heap.size w w' := by
  have := Remove_any a cap L nm w FL.out.1.1 (box FL.out.1) hm (box hF)
  rw [h.out, hn.out] at this; exact this
theorem mFmt18_is {a : Option Addr} {cap : Nat} {P : List QP} {x : ByteArray} {w : World} (hl : P.length ≤ 65536) (hz : Box (∀ i (hi : i < P.length), P[i].1.size ≤ 65000)) (hq : Box (∀ i (hi : i < P.length), InI64 P[i].2)) (hF : Qs w a P) (hW : Wts w) (h : Box (fmtPf P = x)) :
    Calls Tryz.prog 45 #[.slice a P.length cap] w fun e w' => e = .returned (.string x) ∧ Below w.heap.size w w' := by
  have := mFmtPrefs_any a cap P w hl hz hq (box hF) hW
  rw [h.out] at this; exact this
theorem mName18_is {k : Int} {x : ByteArray} {w : World} (hk : InI64 k) (h : Box (nameK k = x)) :
    Calls Tryz.prog 44 #[.int .i64 k] w fun e w' => e = .returned (.string x) ∧ Below w.heap.size w w' := by
  have := mName_any k w hk
  rw [h.out] at this; exact this
set_option maxHeartbeats 4000000 in
theorem mNorm_any (k : Int) (a : Option Addr) (cap nl : Nat) (L : List F) (b : Option Addr) (cb nv : Nat) (V : List ByteArray) (w : World) (hk : InI64 k) (FL : Box (FitL L)) (hvl : V.length ≤ 65536) (hvz : Box (∀ v ∈ V, v.size ≤ 20000)) (hF : Box (Fs w a L)) (hS : Box (Ss w b V)) (hW : Wts w) (HNL : Box (L.length = nl)) (HNV : Box (V.length = nv)) :
    Calls Tryz.prog 19 #[.int .i64 k, .slice a nl cap, .slice b nv cb] w fun e w' => NormPost w (normF k L V) e w' := by
  obtain ⟨N, hN⟩ : ∃ N, normF k L V = N := ⟨_, rfl⟩
  rw [hN]
  have HT := box hW
  have hl6 := FL.out.1.1
  obtain ⟨P, hP⟩ : ∃ P, prefsV k L = P := ⟨_, rfl⟩
  obtain ⟨o, ho⟩ : ∃ o, prefsO k L = o := ⟨_, rfl⟩
  have HP : Box (prefsV k L = P ∧ prefsO k L = o) := box ⟨hP, ho⟩
  have hpl : P.length ≤ 65536 := by rw [← hP]; exact prefs17_len _ _
  have HPz : Box (∀ i (hi : i < P.length), P[i].1.size ≤ 20000) := box (by rw [← hP]; exact prefs17_small FL.out.2)
  cases o with
  | false =>
    have HR : Box (N = L) := box (by rw [← hN]; unfold normF; rw [if_neg (by rw [ho]; simp)])
    clear hN hW hP ho
    go_enter Tryz.func19, Tryz.ntmps19
    go_wp2_with fail
    refine (mPrefs17_is hk FL hF.out HT.out HP HNL).mono ?_; rintro e w1 ⟨p1, c1, rfl, _, hb1⟩
    have B1 := box hb1
    have F1 := box (hF.out.below hb1)
    clear hb1
    go_wp2_with fail
    refine (mClone18_is hl6 F1.out HNL).mono ?_; rintro e w2 ⟨v2, rfl, hO2, hb2⟩
    obtain ⟨a2, c2, rfl, _, _⟩ := hO2.fs
    have B2 := box (B1.out.trans (hb2.mono B1.out.size))
    have O2 := box (show OwnF w2 w.heap.size _ L from Go.Joins.ownsRow_le hO2 B1.out.size)
    clear hO2 hb2
    go_wp2
    go_ret
    exact ⟨_, rfl, by rw [HR.out]; exact O2.out, B2.out⟩
  | true =>
    obtain ⟨nm, hnm⟩ : ∃ nm, nameK k = nm := ⟨_, rfl⟩
    have HNM := box hnm
    have hnz : Box (nm.size ≤ 65536) := box (by rw [← hnm]; have := nameK_size k; omega)
    obtain ⟨R, hR⟩ : ∃ R, namedL k P V = R := ⟨_, rfl⟩
    have HR := box hR
    have hrl : R.length ≤ 65536 := by rw [← hR]; have := namedL_len k P V; omega
    have HRz : Box (∀ i (hi : i < R.length), R[i].1.size ≤ 65000) := box (by rw [← hR]; exact namedL_small (fun v hv => by have := hvz.out v hv; omega))
    have HRq : Box (∀ i (hi : i < R.length), InI64 R[i].2) := box (by rw [← hR]; exact namedL_q (by rw [← hP]; exact prefs_q))
    obtain ⟨x, hx⟩ : ∃ x, fmtPf R = x := ⟨_, rfl⟩
    have HX := box hx
    obtain ⟨M, hM⟩ : ∃ M, remL nm L = M := ⟨_, rfl⟩
    have HM := box hM
    have hml : M.length ≤ 65536 := by rw [← hM]; unfold remL; have := List.length_filter_le (fun p => !nmd nm p) L; omega
    have HN : Box (M ++ [(nm, x)] = N) := box (by rw [← hN]; unfold normF; rw [if_pos ho, named_norm ho, hP, hR, hx, hnm, hM])
    clear hN hW hP ho hnm hR hx hM
    go_enter Tryz.func19, Tryz.ntmps19
    go_wp2_with fail
    refine (mPrefs17_is hk FL hF.out HT.out HP HNL).mono ?_; rintro e w1 ⟨p1, c1, rfl, hQ1, hb1⟩
    have B1 := box hb1
    have Q1 := box hQ1
    clear hQ1 hb1
    go_wp2_with fail
    refine (mName18_is hk HNM).mono ?_; rintro e w2 ⟨rfl, hb2⟩
    have B2 := box (B1.out.trans (hb2.mono B1.out.size))
    have Q2 := box (Q1.out.below hb2)
    clear hb2
    go_wp2_with fail
    refine (mNamedL_is hk hpl HPz hvl hvz Q2.out (hS.out.below B2.out) HR HNV).mono ?_; rintro e w3 ⟨v3, rfl, hO3, hb3⟩
    obtain ⟨a3, c3, rfl, hQ3, _⟩ := hO3.qs
    have B3 := box (B2.out.trans (hb3.mono B2.out.size))
    have Q3 := box hQ3
    clear hO3 hQ3 hb3
    go_wp2_with fail
    refine (mFmt18_is hrl HRz HRq Q3.out (HT.out.below B3.out) HX).mono ?_; rintro e w4 ⟨rfl, hb4⟩
    have B4 := box (B3.out.trans (hb4.mono B3.out.size))
    have F4 := box (hF.out.below B4.out)
    clear hb4
    go_wp2_with fail
    refine (mRem18_is FL hnz F4.out HM HNL).mono ?_; rintro e w5 ⟨v5, rfl, hO5, hb5⟩
    obtain ⟨a5, c5, rfl, _, _⟩ := hO5.fs
    obtain ⟨vn, hvn⟩ : ∃ vn, Value.slice a5 M.length c5 = vn := ⟨_, rfl⟩
    have B5 := box (B4.out.trans (hb5.mono B4.out.size))
    have hs5 := B5.out.size
    have O5 := box (show OwnF w5 w.heap.size _ M from Go.Joins.ownsRow_le hO5 B4.out.size)
    rw [hvn] at O5 ⊢
    clear hO5 hb5 hvn
    go_wp2_with (at_builtin; refine wpList_append_fld _ rfl (.tmp 30) (.tmp 34) rfl w.heap.size vn M rfl ?a1 _ _ rfl nm x ?b1 ?c1 hml ?d1 ?_)
    case a1 => exact own_below O5.out (below_new _ _)
    case b1 => exact (World.cell?_alloc_at (w := w5) #[.string nm, .string x] 42 w5.heap.size 0 rfl).trans rfl
    case c1 => exact (World.cell?_alloc_at (w := w5) #[.string nm, .string x] 42 w5.heap.size 1 rfl).trans rfl
    case d1 => first | exact Nat.le_trans hs5 (below_new _ _).size | (simp; omega)
    intro v6 w6 hO6 hb6
    rw [HN.out] at hO6
    obtain ⟨a6, c6, rfl, _, _⟩ := OwnF.fs hO6
    have O6 := box hO6
    have B6 := box ((B5.out.alloc hs5 _).trans hb6)
    clear hO6 hb6
    go_wp2
    go_ret
    exact ⟨_, rfl, O6.out, B6.out⟩
end
section
open Go.RowKit
def fitX (L : List AX) : Prop := ∀ i (hi : i < L.length), fitA L[i]
theorem fitX.small {L : List AX} (h : fitX L) : smallA L := fun i hi => by
  obtain ⟨h1, h2, h3⟩ := h i hi
  exact ⟨by omega, by omega, fun j hj => by have := h3 _ (List.getElem_mem hj); omega⟩
end
section
open Go.RowKit
/-- what the function value has captured -/
def KofAt (w : World) (ga gv gi : Nat) (n : ByteArray) (x : ByteArray) (m : Nat) (q : Nat) (o : Nat) (len c : Nat) : Prop :=
  w.cell? ⟨ga, 0, none⟩ = some (.string n) ∧ w.cell? ⟨gv, 0, none⟩ = some (.slice (some ⟨q, o, none⟩) len c) ∧ w.cell? ⟨gi, 0, none⟩ = some (.int .i64 (m : Int)) ∧ w.cell? ⟨q, o + m, none⟩ = some (.string x)
theorem KofAt.below {w w' : World} {ga gv gi m q o len c : Nat} {n x : ByteArray} (h : KofAt w ga gv gi n x m q o len c) (hb : Below w.heap.size w w') : KofAt w' ga gv gi n x m q o len c :=
  ⟨(hb.cell (cell_lt h.1)).trans h.1, (hb.cell (cell_lt h.2.1)).trans h.2.1, (hb.cell (cell_lt h.2.2.1)).trans h.2.2.1, (hb.cell (cell_lt h.2.2.2)).trans h.2.2.2⟩
end
section
open Go.RowKit
def aw15A : ByteArray := ⟨#[97, 99, 99, 101, 112, 116, 45, 108, 97, 110, 103, 117, 97, 103, 101]⟩
def aw15B : ByteArray := ⟨#[97, 99, 99, 101, 112, 116, 45, 101, 110, 99, 111, 100, 105, 110, 103]⟩
def aw15X : List AX := [(aw15A, [⟨#[101, 110]⟩, ⟨#[102, 114]⟩]), (aw15B, [⟨#[103, 122, 105, 112]⟩, ⟨#[105, 100, 101, 110, 116, 105, 116, 121]⟩])]
theorem aw15_fit : fitX aw15X := by
  intro i hi
  match i, hi with
  | 0, _ => exact (show fitA (aw15A, [⟨#[101, 110]⟩, ⟨#[102, 114]⟩]) from ⟨by decide, by decide, by decide⟩)
  | 1, _ => exact (show fitA (aw15B, [⟨#[103, 122, 105, 112]⟩, ⟨#[105, 100, 101, 110, 116, 105, 116, 121]⟩]) from ⟨by decide, by decide, by decide⟩)
theorem ss_two15 (x y : ByteArray) (w : World) (t : TypeId) : Ss (w.alloc (.cells #[.string x, .string y] t)) (some ⟨w.heap.size, 0, none⟩) [x, y] := by
  intro i hi
  refine ⟨w.heap.size, 0, rfl, ?_⟩
  rw [World.cell?_alloc_mark]
  match i, hi with
  | 0, _ => rfl
  | 1, _ => rfl
end
section
open Go.RowKit
theorem keepAx_is {a : Option Addr} {cap : Nat} {L : List AX} {q : Bool} {w : World} (hl : L.length ≤ maxLen) (hF : Axs w a L ∧ ∀ i (hi : i < L.length), L[i].2.length ≤ maxLen) (h : Box (keepA L = q)) :
    Calls Tryz.prog 10 #[.slice a L.length cap] w fun e w' => e = .returned (.bool q) ∧ w = w' :=
  (keepAxes_any a cap L w hl (box hF.1) (box hF.2)).mono fun e w' ⟨h1, h2⟩ => ⟨by rw [h1, h.out], h2⟩
theorem keepF15_is {a : Option Addr} {cap : Nat} {L : List F} {q : Bool} {w : World} (hl : L.length ≤ maxLen) (hF : Fs w a L) (h : Box (keepF L = q)) :
    Calls Tryz.prog 11 #[.slice a L.length cap] w fun e w' => e = .returned (.bool q) ∧ w = w' :=
  (keepFields_any a cap L w hl (box hF)).mono fun e w' ⟨h1, h2⟩ => ⟨by rw [h1, h.out], h2⟩
end
section
open Go.RowKit
theorem fit_small {L : List F} {m : Nat} (h0 : L.length ≤ 65536) (h : ∀ i (hi : i < L.length), L[i].1.size ≤ 9000 ∧ L[i].2.size ≤ 9000) : FitL L := by
  refine ⟨⟨h0, fun i hi => by have := h i hi; omega⟩, fun nm x hx => ?_⟩
  unfold getL at hx
  obtain ⟨p, hp, rfl⟩ := List.mem_map.1 hx
  obtain ⟨i, hi, rfl⟩ := List.getElem_of_mem (List.mem_filter.1 hp).1
  have := h i hi; omega
theorem fit_keepF {L : List F} (h : keepF L = true) : FitL L := by
  obtain ⟨h1, h2⟩ := keep_parts h
  exact fit_small (m := 0) (by omega) (fun i hi => by have := h2 i hi; omega)
theorem fit_keepA {X : List AX} (h : keepA X = true) : FitX X := fun i hi => by
  obtain ⟨h1, h2⟩ := keep_fit h
  obtain ⟨h3, h4, h5⟩ := h2 i hi
  exact ⟨by omega, by omega, fun j hj => by have := h5 _ (List.getElem_mem hj); omega⟩
theorem keepF17_is {a : Option Addr} {cap n : Nat} {L : List F} {q : Bool} {w : World} (hl : L.length ≤ maxLen) (hF : Fs w a L) (h : Box (keepF L = q)) (hn : Box (L.length = n)) :
    Calls Tryz.prog 11 #[.slice a n cap] w fun e w' => e = .returned (.bool q) ∧ w = w' := by
  have := keepF15_is (cap := cap) hl hF h
  rw [hn.out] at this; exact this
theorem keepA17_is {a : Option Addr} {cap n : Nat} {X : List AX} {q : Bool} {w : World} (hl : X.length ≤ maxLen) (hF : Axs w a X ∧ ∀ i (hi : i < X.length), X[i].2.length ≤ maxLen) (h : Box (keepA X = q)) (hn : Box (X.length = n)) :
    Calls Tryz.prog 10 #[.slice a n cap] w fun e w' => e = .returned (.bool q) ∧ w = w' := by
  have := keepAx_is (cap := cap) hl hF h
  rw [hn.out] at this; exact this
end
section
open Go.RowKit Go.ChangeShapes Go.WideShapes Go.Deep
theorem open_fieldsn {H : Type} {enc : TypeId × Value → H} {W : World} {base : Nat} {sp : Nat → Bool} {held : Bool} {r : Reach} {b0 : Nat} {v : Value} {d : DataW H} {p : List MemPlace}
    (hval : Value.okWide Tryz.prog W r b0 23 v) (h : DataW.Trod enc Tryz.prog W base sp held 23 v d p) :
    ∃ (a : Option Addr) (cap : Nat) (L : List F), v = .slice a L.length cap ∧ L.length ≤ maxLen ∧ Fs W a L ∧ (L.length ≤ cap ∧ (a = none → cap = 0)) := by
  have h2 := h
  obtain ⟨a, cap, L, rfl, h3, h4, h5⟩ := open_fields hval h
  refine ⟨a, cap, L, rfl, h3, h4, h5, fun ha => ?_⟩
  subst ha
  obtain ⟨fuel, hf⟩ := h2
  rcases open_slice_pairs Tryz.underlying23 Tryz.underlying42 (by kernel_rfl) rfl rfl (by kernel_rfl) (by kernel_rfl) hf with ⟨hcs, hx⟩ | ⟨a, len', cap', m, n, V0, V1, D0, D1, P0, P1, hcs, _⟩
  · simp [Value.cells] at hcs
    exact hcs.2
  · simp [Value.cells] at hcs
section
variable {ops : Array Oper} {o : Oper} {a : Act} {K : Act → World → Prop} {Q : Exit → Act → World → Prop} {E : Prop}
end
theorem wpList_append_flds17 (w : World) {ops : Array Oper} {rest : List Oper} {o : Oper} {a : Act} {Q : Exit → Act → World → Prop} (hgd : o.guard = none) (s x : Operand)
    (ho : o.op = .call { callee := .builtin .append, args := #[s, x], argTypes := #[23, 23] })
    (B : Nat) (v : Value) (L M : List F) (hs : a.eval s = v) (hown : OwnF w B v L)
    (ad : Option Addr) (m c : Nat) (hx : a.eval x = .slice ad m c) (hm : M.length = m) (hn : ad = none → c = 0) (hM : Fs w ad M) (hl : L.length ≤ 65536) (hm6 : M.length ≤ 65536) (hB : B ≤ w.heap.size)
    (h : ∀ v' w', OwnF w' B v' (L ++ M) → Below B w w' → wpList Tryz.prog ops Q rest (a.put o.dst v') w') : wpList Tryz.prog ops Q (o :: rest) a w := by
  subst hm
  exact wpList_append_flds w hgd s x ho B v L M hs hown ad c hx hn hM hl hm6 hB h
theorem Fs.nil17 (w : World) (a : Option Addr) : Fs w a [] := fun i hi => absurd hi (by simp)
end
end Go.Proofs.YtklfpkaemnhdhaaGreatDoor.Asc
