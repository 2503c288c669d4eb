/- Merged texts: BldMem BldMore ParMine MedHas. -/
import Derived.Test.YtnpllgjkbpnimaaGreatDoorM02
import Derived.Test.YtnpllgjkbpnimaaGreatDoorM07
import Derived.Test.YtnpllgjkbpnimaaGreatDoorM08
import Derived.Test.YtnpllgjkbpnimaaGreatDoorM10
import Derived.BigQuiet
import Derived.Deep.QuietTactic
import Derived.Deep.RegionHeld3
import Derived.Laws.Externs
import Derived.Laws.IdiomCopy
import Derived.Lib.AppendStr
import Derived.Lib.Builder
import Derived.Lib.MakeNoZero
import Derived.Lib.UnsafeStr
set_option linter.unusedVariables false
set_option linter.unusedSimpArgs false
set_option maxRecDepth 100000
namespace Go.Proofs.YtnpllgjkbpnimaaGreatDoor.Asc
section
open Go.RowKit
theorem bld_info : ∃ j, Tryz.prog.info? 73 = some j ∧ j.size = 2 := by
  obtain ⟨j, h1, h2⟩ := Option.map_eq_some_iff.1 (show (Tryz.prog.info? 73).map (·.size) = some 2 by kernel_rfl)
  exact ⟨j, h1, h2⟩
theorem bld_lies : liesAt Tryz.prog Tryz.prog.depth 73 (2 / Tryz.prog.cellsOf 73) 0 73 1 = true := by kernel_rfl
/-- the builder of block b: not yet written, or in use; its bytes l -/
def BldAt (w : World) (B b : Nat) (p : Value) (l : List UInt8) : Prop := Lib.BuilderAt 73 5 B b p (Lib.byteCells l) w
def Bld (w : World) (B b : Nat) (l : List UInt8) : Prop := BldAt w B b (.pointer none) l ∨ BldAt w B b (.pointer (some ⟨b, 0, none⟩)) l
theorem check_used (b : Nat) (w : World) (h0 : w.cell? ⟨b, 0, none⟩ = some (.pointer (some ⟨b, 0, none⟩))) :
    Calls Tryz.prog 88 #[.pointer (some ⟨b, 0, none⟩)] w fun e w' => e = .returned (.tuple #[]) ∧ w' = w := by
  obtain ⟨j, hj, hjs⟩ := bld_info
  go_enter Tryz.func88, Tryz.ntmps88
  go_wp2
  rw [Lib.run_neq_ptr_same w _ Tryz.underlying71 hj]
  go_wp2
  go_end0
  exact ⟨rfl, rfl⟩
theorem check_new (b : Nat) (w : World) (h0 : w.cell? ⟨b, 0, none⟩ = some (.pointer none)) (hsh : w.shape? b = some (73, 2)) (hf : w.frozen? ⟨b, 0, none⟩ = false) :
    Calls Tryz.prog 88 #[.pointer (some ⟨b, 0, none⟩)] w fun e w' => e = .returned (.tuple #[]) ∧ w' = w.setCell ⟨b, 0, none⟩ (.pointer (some ⟨b, 0, none⟩)) := by
  obtain ⟨j, hj, hjs⟩ := bld_info
  have hj0 : j.size ≠ 0 := by omega
  go_enter Tryz.func88, Tryz.ntmps88
  go_wp2
  rw [Lib.run_to_unsafe w ⟨b, 0, none⟩ Tryz.underlying71 Tryz.underlying106 hj hj0 hsh (Nat.zero_lt_succ 1)]
  simp only [Result.andThen]
  rw [Oper.upon_value]
  go_wp2
  rw [run_callFunc_extern Tryz.func104 (by kernel_rfl) (by kernel_rfl) (by kernel_rfl) (e := Extern.AbiNoEscape.same) (by kernel_rfl), Lib.run_noEscape]
  simp only [Result.andThen]
  rw [Oper.upon_value]
  go_wp2
  rw [Lib.run_from_unsafe w ⟨b, 0, none⟩ Tryz.underlying106 Tryz.underlying71 hj hsh bld_lies]
  simp only [Result.andThen]
  rw [Oper.upon_value]
  go_wp2
  go_end0
  exact ⟨rfl, rfl⟩
/-- behind copyCheck the builder is in use -/
theorem check_any (B b : Nat) (l : List UInt8) (w : World) (h : Bld w B b l) :
    Calls Tryz.prog 88 #[.pointer (some ⟨b, 0, none⟩)] w fun e w' => e = .returned (.tuple #[]) ∧ BldAt w' B b (.pointer (some ⟨b, 0, none⟩)) l ∧ Below B w w' := by
  rcases h with h | h
  · refine (check_new b w h.cell0 h.shape h.frozen0).mono ?_
    rintro e w' ⟨rfl, rfl⟩
    exact ⟨rfl, h.used _, (Below.refl B w).setCell (p := ⟨b, 0, none⟩) h.1 _⟩
  · refine (check_used b w h.cell0).mono ?_
    rintro e w' ⟨rfl, rfl⟩
    exact ⟨rfl, h, Below.refl B _⟩
theorem blk_lt {w : World} {b : Nat} {o : Obj} (h : w.heap[b]? = some o) : b < w.heap.size := by
  rcases Nat.lt_or_ge b w.heap.size with q | q
  · exact q
  · rw [Array.getElem?_eq_none q] at h; cases h
set_option maxHeartbeats 4000000 in
/-- grow, at a builder in use that has no buffer yet -/
theorem grow_new (B b n : Nat) (w : World) (hB : B ≤ b) (hb : w.heap[b]? = some (.cells #[.pointer (some ⟨b, 0, none⟩), .slice none 0 0] 73 (0, 0))) (hBw : B ≤ w.heap.size) (hn : n ≤ 281474976710656) :
    Calls Tryz.prog 89 #[.pointer (some ⟨b, 0, none⟩), .int .i64 n] w fun e w' => e = .returned (.tuple #[]) ∧ BldAt w' B b (.pointer (some ⟨b, 0, none⟩)) [] ∧ Below B w w' := by
  obtain ⟨cs, hrun, hle, hmax⟩ := Lib.run_makeNoZero (P := Tryz.prog) w.drew #[3] 70 5 Tryz.underlying70 n hn
  have hlt := blk_lt hb
  have hw : IntKind.i64.wrap (IntKind.i64.wrap 0 + (n : Int)) = n := by rw [IntKind.wrap_i64, IntKind.wrap_i64]; omega
  have hcall : (callFunc 105 #[.int .i64 (IntKind.i64.wrap (IntKind.i64.wrap 0 + (n : Int)))]).run Tryz.prog w.drew = .ok (.value (.slice (some ⟨w.drew.heap.size, 0, none⟩) n cs.size)) (w.drew.drew.drew.alloc (.cells cs 5)) := by
    rw [hw, run_callFunc_extern Tryz.func105 (by kernel_rfl) (by kernel_rfl) (by kernel_rfl) (e := Extern.BytealgMakeNoZero.makeNoZero #[3] #[70]) (by kernel_rfl), hrun]
    rfl
  have c1 : w.drew.cell? ⟨b, 1, none⟩ = some (.slice none 0 0) := by
    rw [Lib.cell_of_heap (w := w.drew) hb]; rfl
  have hb2 : (w.alloc (.cells cs 5)).heap[b]? = _ := (Lib.alloc_old w _ b hlt).trans hb
  have c2 : (w.alloc (.cells cs 5)).cell? ⟨b, 1, none⟩ = some (.slice none 0 0) := by rw [Lib.cell_of_heap hb2]; rfl
  have f2 : (w.alloc (.cells cs 5)).frozen? ⟨b, 1, none⟩ = false := Lib.frozen_of_heap hb2 1
  have hcopy : ∀ W : World, (Builtin.copy_ #[70, 70] 3 #[.slice (some ⟨w.heap.size, 0, none⟩) 0 cs.size, .slice none 0 0]).run Tryz.prog W = .ok (goInt 0) W :=
    fun W => run_copy_none W 70 70 3 5 _ _ 0 cs.size 0 0 Tryz.underlying70 (by kernel_rfl) rfl
  have hfin := Lib.grown_fresh (T := 73) (e := 5) (cs := cs) hB hb hBw (hmax (by unfold maxLen; omega)) (by decide)
  rw [World.setCell_alloc_past _ _ _ _ hlt] at hfin
  have HF := box hfin
  clear hw hb2 hfin
  go_enter Tryz.func89, Tryz.ntmps89
  go_wp2
  go_region_held3 (fun w' => w'.cell? ⟨b, 1, none⟩ = some (.slice none 0 0)) (first | exact c1 | exact c2) (fail)
  go_wp2
  go_end0
  exact ⟨rfl, HF.out⟩
/-- Grow, at a builder that has not been written -/
theorem Grow_new (B b n : Nat) (w : World) (hB : B ≤ b) (hb : w.heap[b]? = some (.cells #[.pointer none, .slice none 0 0] 73 (0, 0))) (hBw : B ≤ w.heap.size) (hn : n ≤ 281474976710656) :
    Calls Tryz.prog 68 #[.pointer (some ⟨b, 0, none⟩), .int .i64 n] w fun e w' => e = .returned (.tuple #[]) ∧ BldAt w' B b (.pointer (some ⟨b, 0, none⟩)) [] ∧ Below B w w' := by
  obtain ⟨w1, hw1⟩ : ∃ w1, w.setCell ⟨b, 0, none⟩ (.pointer (some ⟨b, 0, none⟩)) = w1 := ⟨_, rfl⟩
  have hb1 : w1.heap[b]? = some (.cells #[.pointer (some ⟨b, 0, none⟩), .slice none 0 0] 73 (0, 0)) := by
    rw [← hw1]; simp [World.setCell, Array.getElem?_modify, hb]
  have HB1 : Box (Below B w w1) := box (by rw [← hw1]; exact (Below.refl B w).setCell (p := ⟨b, 0, none⟩) hB _)
  have hBw1 : B ≤ w1.heap.size := Nat.le_trans hBw HB1.out.size
  have hA1 : BldAt w1 B b (.pointer (some ⟨b, 0, none⟩)) [] := ⟨hB, .slice none 0 0, hb1, World.ownsRow_nil _ _ _ _, by simp [Value.ownBlock]⟩
  have A1 := box hA1
  have c1 : w1.cell? ⟨b, 1, none⟩ = some (.slice none 0 0) := by rw [Lib.cell_of_heap hb1]; rfl
  have h0 : w.cell? ⟨b, 0, none⟩ = some (.pointer none) := by rw [Lib.cell_of_heap hb]; rfl
  have h1 : w.shape? b = some (73, 2) := by simp [World.shape?, hb]
  have h2 : w.frozen? ⟨b, 0, none⟩ = false := Lib.frozen_of_heap hb 0
  have H := box h1
  have HB := box hb1
  clear h1 hb hA1 hb1
  go_enter Tryz.func68, Tryz.ntmps68
  go_wp2_with fail
  refine (check_new b w h0 H.out h2).mono ?_; rintro e w2 ⟨rfl, rfl⟩
  rw [hw1]
  clear h0 h2 hw1
  by_cases hn0 : n = 0
  · subst hn0
    go_wp2
    go_quiet (fail)
    go_wp2
    go_end0
    exact ⟨rfl, A1.out, HB1.out.trans (Below.mono (below_drewN _ _) hBw1)⟩
  · have hp : (0 : Int) < (n : Int) := by omega
    go_wp2
    go_quiet (fail)
    go_wp2_with fail
    refine (grow_new B b n (w1.drewN _) hB HB.out hBw1 hn).mono ?_; rintro e w3 ⟨rfl, hA, hb3⟩
    have A3 := box hA
    have B3 := box (HB1.out.trans ((Below.mono (below_drewN _ _) hBw1).trans hb3))
    clear hA hb3
    go_wp2
    go_end0
    exact ⟨rfl, A3.out, B3.out⟩
/-- WriteString: the string's bytes behind those that are there -/
theorem WriteString_any (B b : Nat) (l : List UInt8) (s : ByteArray) (w : World) (h : Box (Bld w B b l)) (hl : l.length + s.size ≤ 140737488355328) (hBw : B ≤ w.heap.size) :
    Calls Tryz.prog 69 #[.pointer (some ⟨b, 0, none⟩), .string s] w fun e w' => e = .returned (.tuple #[.int .i64 s.size, .nilIface]) ∧ BldAt w' B b (.pointer (some ⟨b, 0, none⟩)) (l ++ s.data.toList) ∧ Below B w w' := by
  obtain ⟨i0, hi0, hz0, hz1, hz2⟩ := info_parts info_u8
  go_enter Tryz.func69, Tryz.ntmps69
  go_wp2_with fail
  refine (check_any B b l _ h.out).mono ?_; rintro e w1 ⟨rfl, hA, hb1⟩
  obtain ⟨hB, v, hbk, hown, hne⟩ := hA
  have c0 : w1.cell? ⟨b, 0, none⟩ = some (.pointer (some ⟨b, 0, none⟩)) := by rw [Lib.cell_of_heap hbk]; rfl
  have c1 : w1.cell? ⟨b, 1, none⟩ = some v := by rw [Lib.cell_of_heap hbk]; rfl
  have hbw := hb1.size
  have B1 := box hb1
  have H1 := box hown
  have HN := box hne
  have HK := box hbk
  have hll : (Lib.byteCells l).length = l.length := Lib.byteCells_length l
  have hlt := blk_lt hbk
  clear hb1 hown hne hbk
  go_wp2_with (at_builtin; refine Lib.wpList_append_own_string _ rfl _ _ 70 9 rfl B 5 i0 Tryz.underlying70 Tryz.underlying9 hi0 hz0 hz1 hz2 _ _ _ rfl H1.out s rfl ?c3 ?c4 ?c5 ?_)
  case c3 => unfold maxLen; omega
  case c4 => omega
  case c5 => omega
  intro v' w2 hown' hgrow _
  have hb2 : w2.heap[b]? = some (.cells #[.pointer (some ⟨b, 0, none⟩), v] 73 (0, 0)) := by
    rw [hgrow.block b hlt (fun e => HN.out e.symm)]
    exact HK.out
  have d1 : w2.cell? ⟨b, 1, none⟩ = some v := by rw [Lib.cell_of_heap hb2]; rfl
  have f1 : w2.frozen? ⟨b, 1, none⟩ = false := Lib.frozen_of_heap hb2 1
  have A2 : Box (BldAt (w2.setCell ⟨b, 1, none⟩ v') B b (.pointer (some ⟨b, 0, none⟩)) (l ++ s.data.toList)) := box
    (Lib.BuilderAt.put (T := 73) (e := 5) hB hb2 (bs' := Lib.byteCells (l ++ s.data.toList)) (by
      rw [Lib.byteCells_append, List.length_append, ← Lib.strCells_eq, Lib.strCells_length, hll]; exact hown') (by decide))
  have B2 : Box (Below B w (w2.setCell ⟨b, 1, none⟩ v')) := box ((B1.out.grown hgrow (by omega) (fun k hk => (H1.out.lt k hk).1)).setCell (p := ⟨b, 1, none⟩) hB _)
  obtain ⟨ax, nx, cx, rfl⟩ : ∃ a n c, v' = .slice a n c := by
    rcases hown'.2 with ⟨hv, _⟩ | ⟨g, cap, cur, hv, _⟩
    · exact ⟨_, _, _, hv⟩
    · exact ⟨_, _, _, hv⟩
  clear hown' hgrow hb2
  go_wp2
  go_ret2
  exact ⟨rfl, A2.out, B2.out⟩
theorem String_some (B b g cap : Nat) (p : Value) (l : List UInt8) (cur : Array Value) (w : World) (hb : w.heap[b]? = some (.cells #[p, .slice (some ⟨g, 0, none⟩) l.length cap] 73 (0, 0))) (hBg : B ≤ g) (hg : w.heap[g]? = some (.cells cur 5 (0, 0))) (h0 : l ≠ []) (hlc : l.length ≤ cap) (hcap : cap ≤ maxLen) (hcs : cur.size = cap)
    (hc : ∀ j x, l[j]? = some x → w.cell? ((⟨g, 0, none⟩ : Addr).add j) = some (.int .u8 (x.toNat : Int))) :
    Calls Tryz.prog 70 #[.pointer (some ⟨b, 0, none⟩)] w fun e w' => e = .returned (.string ⟨l.toArray⟩) ∧ Below B w w' := by
  have hl0 : l.length ≠ 0 := by simpa using h0
  have c1 : w.drew.cell? ⟨b, 1, none⟩ = some (.slice (some ⟨g, 0, none⟩) l.length cap) := by rw [Lib.cell_of_heap (w := w.drew) hb]; rfl
  have hSD : (Builtin.unsafeSliceData_ #[70] 95 #[.slice (some ⟨g, 0, none⟩) l.length cap]).run Tryz.prog w.drew = .ok (.pointer (some ⟨g, 0, none⟩)) w.drew :=
    Lib.run_unsafeSliceData_row _ _ _ _ _ _ (by omega)
  have hUS : (Builtin.unsafeString_ #[95, 3] 9 #[.pointer (some ⟨g, 0, none⟩), .int .i64 l.length]).run Tryz.prog w.drew = .ok (.string ⟨l.toArray⟩) (w.drew.freeze ⟨g, 0, none⟩ l.length) :=
    Lib.run_unsafeString_row w.drew 95 3 9 5 Tryz.underlying95 (by kernel_rfl) g cur.size (by simp [World.shape?, show w.drew.heap[g]? = _ from hg]) l h0 (by omega) (by unfold maxLen at hcap; omega) hc
  have HB : Box (Below B w (w.drew.freeze ⟨g, 0, none⟩ l.length)) := box (Lib.below_freeze (Below.drew (Below.refl B w)) (p := ⟨g, 0, none⟩) hBg _)
  clear hc hb hg hcap
  go_enter Tryz.func70, Tryz.ntmps70
  go_wp2
  go_region
  all_goals (go_wp2; go_ret; exact ⟨rfl, HB.out⟩)
/-- String, at a builder that holds bytes; what they lie in is closed to later stores -/
theorem String_any (B b : Nat) (l : List UInt8) (w : World) (h : Box (Bld w B b l)) (h0 : l ≠ []) :
    Calls Tryz.prog 70 #[.pointer (some ⟨b, 0, none⟩)] w fun e w' => e = .returned (.string ⟨l.toArray⟩) ∧ Below B w w' := by
  obtain ⟨p, hB, v, hbk, hown, hne⟩ : ∃ p, BldAt w B b p l := by
    rcases h.out with q | q
    · exact ⟨_, q⟩
    · exact ⟨_, q⟩
  rw [Lib.byteCells_length] at hown
  rcases hown.2 with ⟨_, hz⟩ | ⟨g, cap, cur, rfl, hbg, hg, hnc, hcm, hcs, htk⟩
  · exact absurd (by simpa using hz) h0
  · refine String_some B b g cap p l cur w hbk hbg hg h0 hnc hcm (by omega) (fun j x hx => ?_)
    exact hown.cells (g := g) rfl j (.int .u8 x.toNat) (by simp [Lib.byteCells, hx])
end
section
open Go.RowKit
/-- all blocks but b that hold no bytes are as they were -/
def KeepU (b : Nat) (w w' : World) : Prop := ∀ k cs T fr, k ≠ b → T ≠ 5 → w.heap[k]? = some (.cells cs T fr) → w'.heap[k]? = some (.cells cs T fr)
theorem KeepU.refl (b : Nat) (w : World) : KeepU b w w := fun _ _ _ _ _ _ h => h
theorem KeepU.trans {b : Nat} {w w1 w2 : World} (h1 : KeepU b w w1) (h2 : KeepU b w1 w2) : KeepU b w w2 := fun k cs T fr hk hT h => h2 k cs T fr hk hT (h1 k cs T fr hk hT h)
theorem KeepU.below {b : Nat} {w w' : World} (h : Below w.heap.size w w') : KeepU b w w' := fun k cs T fr _ _ hk => (h.block k (blk_lt hk)).trans hk
def BldV (w : World) (B b : Nat) (p v : Value) (l : List UInt8) : Prop :=
  B ≤ b ∧ w.heap[b]? = some (.cells #[p, v] 73 (0, 0)) ∧ w.ownsRow B 5 1 v (Lib.byteCells l).length (Lib.byteCells l) ∧ v.ownBlock ≠ some b ∧ (v = .slice none 0 0 ↔ l = [])
/-- the builder of block b, made by the call itself and never grown: its bytes l -/
def BldZ (w : World) (B b : Nat) (l : List UInt8) : Prop := ∃ p v, (p = .pointer none ∨ p = .pointer (some ⟨b, 0, none⟩)) ∧ BldV w B b p v l
theorem BldV.at {w : World} {B b : Nat} {p v : Value} {l : List UInt8} (h : BldV w B b p v l) : BldAt w B b p l := ⟨h.1, v, h.2.1, h.2.2.1, h.2.2.2.1⟩
theorem BldV.of {w : World} {B b : Nat} {p v : Value} {l : List UInt8} (h : BldAt w B b p l) (hb : w.heap[b]? = some (.cells #[p, v] 73 (0, 0))) (hn : v = .slice none 0 0 ↔ l = []) : BldV w B b p v l := by
  obtain ⟨hB, v2, hb2, hown, hne⟩ := h
  rw [hb] at hb2
  simp at hb2
  subst hb2
  exact ⟨hB, hb, hown, hne, hn⟩
theorem BldZ.bld {w : World} {B b : Nat} {l : List UInt8} (h : BldZ w B b l) : Bld w B b l := by
  obtain ⟨p, v, hp, hV⟩ := h
  rcases hp with rfl | rfl
  · exact .inl hV.at
  · exact .inr hV.at
theorem BldZ.lt {w : World} {B b : Nat} {l : List UInt8} (h : BldZ w B b l) : b < w.heap.size := by
  obtain ⟨p, v, hp, hV⟩ := h
  exact blk_lt hV.2.1
theorem BldZ.next {w w' : World} {B b : Nat} {l : List UInt8} (h : BldZ w B b l) (hb : Below w.heap.size w w') : BldZ w' B b l := by
  obtain ⟨p, v, hp, h1, h2, h3, h4, h5⟩ := h
  exact ⟨p, v, hp, h1, (hb.block b (blk_lt h2)).trans h2, own_below h3 hb, h4, h5⟩
theorem BldZ.fresh (w : World) : BldZ (w.alloc (.cells #[.pointer none, .slice none 0 0] 73)) w.heap.size w.heap.size [] :=
  ⟨.pointer none, .slice none 0 0, .inl rfl, Nat.le_refl _, heap_alloc_new w _, World.ownsRow_nil _ _ _ _, by simp [Value.ownBlock], by simp⟩
theorem check_z (B b : Nat) (l : List UInt8) (w : World) (h : BldZ w B b l) :
    Calls Tryz.prog 88 #[.pointer (some ⟨b, 0, none⟩)] w fun e w' => e = .returned (.tuple #[]) ∧ (∃ v, BldV w' B b (.pointer (some ⟨b, 0, none⟩)) v l) ∧ Below B w w' ∧ KeepU b w w' := by
  obtain ⟨p, v, hp, hV⟩ := h
  rcases hp with rfl | rfl
  · refine (check_new b w hV.at.cell0 hV.at.shape hV.at.frozen0).mono ?_
    rintro e w' ⟨rfl, rfl⟩
    refine ⟨rfl, ⟨v, BldV.of (hV.at.used _) ?_ hV.2.2.2.2⟩, (Below.refl B w).setCell (p := ⟨b, 0, none⟩) hV.1 _, fun k cs T fr hk hT hh => ?_⟩
    · simp [World.setCell, Array.getElem?_modify, hV.2.1]
    · simp only [World.setCell, Array.getElem?_modify]
      rw [if_neg (fun e => hk e.symm)]; exact hh
  · refine (check_used b w hV.at.cell0).mono ?_
    rintro e w' ⟨rfl, rfl⟩
    exact ⟨rfl, ⟨v, hV⟩, Below.refl B _, KeepU.refl _ _⟩
/-- WriteString: the string's bytes behind those that are there; what other blocks hold stays -/
theorem WriteString_z (B b : Nat) (l : List UInt8) (s : ByteArray) (w : World) (h : Box (BldZ w B b l)) (hl : l.length + s.size ≤ 140737488355328) (hBw : B ≤ w.heap.size) :
    Calls Tryz.prog 69 #[.pointer (some ⟨b, 0, none⟩), .string s] w fun e w' => e = .returned (.tuple #[.int .i64 s.size, .nilIface]) ∧ BldZ w' B b (l ++ s.data.toList) ∧ Below B w w' ∧ KeepU b w w' := by
  obtain ⟨i0, hi0, hz0, hz1, hz2⟩ := info_parts info_u8
  go_enter Tryz.func69, Tryz.ntmps69
  go_wp2_with fail
  refine (check_z B b l _ h.out).mono ?_; rintro e w1 ⟨rfl, ⟨v, hB, hbk, hown, hne, hnil⟩, hb1, hk1⟩
  have c0 : w1.cell? ⟨b, 0, none⟩ = some (.pointer (some ⟨b, 0, none⟩)) := by rw [Lib.cell_of_heap hbk]; rfl
  have c1 : w1.cell? ⟨b, 1, none⟩ = some v := by rw [Lib.cell_of_heap hbk]; rfl
  have hbw := hb1.size
  have B1 := box hb1
  have K1 := box hk1
  have H1 := box hown
  have HN := box hne
  have HK := box hbk
  have HNL := box hnil
  have hll : (Lib.byteCells l).length = l.length := Lib.byteCells_length l
  have hlt := blk_lt hbk
  clear hb1 hk1 hown hne hbk hnil
  go_wp2_with (at_builtin; refine Lib.wpList_append_own_string _ rfl _ _ 70 9 rfl B 5 i0 Tryz.underlying70 Tryz.underlying9 hi0 hz0 hz1 hz2 _ _ _ rfl H1.out s rfl ?c3 ?c4 ?c5 ?_)
  case c3 => unfold maxLen; omega
  case c4 => omega
  case c5 => omega
  intro v' w2 hown' hgrow hiff
  have hb2 : w2.heap[b]? = some (.cells #[.pointer (some ⟨b, 0, none⟩), v] 73 (0, 0)) := by
    rw [hgrow.block b hlt (fun e => HN.out e.symm)]
    exact HK.out
  have d1 : w2.cell? ⟨b, 1, none⟩ = some v := by rw [Lib.cell_of_heap hb2]; rfl
  have f1 : w2.frozen? ⟨b, 1, none⟩ = false := Lib.frozen_of_heap hb2 1
  have A2 : Box (BldAt (w2.setCell ⟨b, 1, none⟩ v') B b (.pointer (some ⟨b, 0, none⟩)) (l ++ s.data.toList)) := box
    (Lib.BuilderAt.put (T := 73) (e := 5) hB hb2 (bs' := Lib.byteCells (l ++ s.data.toList)) (by
      rw [Lib.byteCells_append, List.length_append, ← Lib.strCells_eq, Lib.strCells_length, hll]; exact hown') (by decide))
  have Z2 : Box (BldZ (w2.setCell ⟨b, 1, none⟩ v') B b (l ++ s.data.toList)) := box ⟨_, v', .inr rfl, BldV.of A2.out (by simp [World.setCell, Array.getElem?_modify, hb2]) (by
    rw [hiff, HNL.out, List.append_eq_nil_iff]
    have e : s.data.toList = [] ↔ s = ByteArray.empty := ⟨fun q => ByteArray.ext (Array.toList_inj.mp q), fun q => by rw [q]; rfl⟩
    rw [e])⟩
  have B2 : Box (Below B w (w2.setCell ⟨b, 1, none⟩ v')) := box ((B1.out.grown hgrow (by omega) (fun k hk => (H1.out.lt k hk).1)).setCell (p := ⟨b, 1, none⟩) hB _)
  have K2 : Box (KeepU b w (w2.setCell ⟨b, 1, none⟩ v')) := box (K1.out.trans (fun k cs T fr hk hT hh => by
    simp only [World.setCell, Array.getElem?_modify]
    rw [if_neg (fun e => hk e.symm), hgrow.block k (blk_lt hh) (fun e => Lib.ownBlock_ne H1.out hh hT e.symm)]; exact hh))
  obtain ⟨ax, nx, cx, rfl⟩ : ∃ a n c, v' = .slice a n c := by
    rcases hown'.2 with ⟨hv, _⟩ | ⟨g, cap, cur, hv, _⟩
    · exact ⟨_, _, _, hv⟩
    · exact ⟨_, _, _, hv⟩
  clear hown' hgrow hb2 hiff A2
  go_wp2
  go_ret2
  exact ⟨rfl, Z2.out, B2.out, K2.out⟩
theorem String_nil (b : Nat) (p : Value) (w : World) (hb : w.heap[b]? = some (.cells #[p, .slice none 0 0] 73 (0, 0))) :
    Calls Tryz.prog 70 #[.pointer (some ⟨b, 0, none⟩)] w fun e w' => e = .returned (.string ⟨#[]⟩) ∧ Below w.heap.size w w' := by
  have c1 : w.drew.cell? ⟨b, 1, none⟩ = some (.slice none 0 0) := by rw [Lib.cell_of_heap (w := w.drew) hb]; rfl
  have hSD : (Builtin.unsafeSliceData_ #[70] 95 #[.slice none 0 0]).run Tryz.prog w.drew = .ok (.pointer none) w.drew := Lib.run_unsafeSliceData_nil _ _ _ _ _
  have hUS : (Builtin.unsafeString_ #[95, 3] 9 #[.pointer none, .int .i64 0]).run Tryz.prog w.drew = .ok (.string ⟨#[]⟩) w.drew := Lib.run_unsafeString_none _ _ _ _ _
  clear hb
  go_enter Tryz.func70, Tryz.ntmps70
  go_wp2
  go_region
  all_goals (go_wp2; go_ret; exact ⟨rfl, below_drewN w 1⟩)
theorem String_z (B b : Nat) (l : List UInt8) (w : World) (h : Box (BldZ w B b l)) (hB : B ≤ w.heap.size) :
    Calls Tryz.prog 70 #[.pointer (some ⟨b, 0, none⟩)] w fun e w' => e = .returned (.string ⟨l.toArray⟩) ∧ Below B w w' := by
  by_cases h0 : l = []
  · obtain ⟨p, v, hp, hV⟩ := h.out
    have hv := hV.2.2.2.2.mpr h0
    subst hv h0
    exact (String_nil b p w hV.2.1).mono fun e w' ⟨h1, h2⟩ => ⟨h1, h2.mono hB⟩
  · exact String_any B b l w (box h.out.bld) h0
end
section
open Go.RowKit
/-- what a token or a quoted string stands for -/
def contO (l : List UInt8) : Option (List UInt8) := if tokL l = true then some l else unqL l
theorem cont_nil : contO [] = none := rfl
theorem cut2_nil {x : List UInt8} (h : cutB 61 x = false) : cut2 61 x = [] := by
  rcases idx_cases x 61 with hi | ⟨o, hi, ho⟩
  · exact (cut_no hi).2.1
  · rw [(cut_at hi).2.2.2] at h; exact absurd h (by decide)
theorem param_cont0 {x : List UInt8} (h : contO (cut2 61 x) = none) : paramL x = none := by
  unfold paramL
  split
  · rfl
  · unfold contO at h
    split at h
    · cases h
    · rename_i q; rw [if_neg q, h]
theorem param_cont1 {x : List UInt8} (h : tokL (cut1 61 x) = false) : paramL x = none := by
  unfold paramL; rw [if_pos (.inr h)]
theorem param_cont2 {x u : List UInt8} (h : tokL (cut1 61 x) = true) (hu : contO (cut2 61 x) = some u) : paramL x = some (bs (lowL (cut1 61 x)), bs u) := by
  have hb : cutB 61 x = true := by
    rcases q : cutB 61 x with _ | _
    · rw [cut2_nil q, cont_nil] at hu; cases hu
    · rfl
  unfold paramL
  rw [if_neg (by rw [hb, h]; simp)]
  unfold contO at hu
  split at hu
  · rename_i q; rw [if_pos q]; cases hu; rfl
  · rename_i q; rw [if_neg q, hu]
theorem aToken_is {s : ByteArray} {b : Bool} {w : World} (hs : s.size ≤ maxLen) (h : Box (tokL s.data.toList = b)) :
    Calls Tryz.prog 31 #[.string s] w fun e w' => e = .returned (.bool b) ∧ w = w' :=
  (Token_any s w hs).mono fun e w' ⟨h1, h2⟩ => ⟨by rw [h1, h.out], h2⟩
theorem aUnq_is {s : ByteArray} {o : Option (List UInt8)} {w : World} (hs : s.size ≤ 4294967296) (h : Box (unqL s.data.toList = o)) :
    Calls Tryz.prog 109 #[.string s] w fun e w' => e = .returned (optV o) ∧ Below w.heap.size w w' :=
  (Unquote_any s w hs).mono fun e w' ⟨h1, h2⟩ => ⟨by rw [h1, h.out], h2⟩
theorem aLower_is {s x : ByteArray} {w : World} (hs : s.size ≤ 4294967296) (h : Box (bs (lowL s.data.toList) = x)) :
    Calls Tryz.prog 51 #[.string s] w fun e w' => e = .returned (.string x) ∧ Below w.heap.size w w' :=
  (Lower_any s w hs).mono fun e w' ⟨h1, h2⟩ => ⟨by rw [h1, ← h.out]; rfl, h2⟩
theorem aQuote_is {s x : ByteArray} {w : World} (hs : s.size ≤ 1073741824) (h : Box (bs (quoteL s.data.toList) = x)) :
    Calls Tryz.prog 119 #[.string s] w fun e w' => e = .returned (.string x) ∧ Below w.heap.size w w' :=
  (Quote_any s w hs).mono fun e w' ⟨h1, h2⟩ => ⟨by rw [h1, ← h.out]; rfl, h2⟩
theorem parseContent_is (s : ByteArray) (o : Option (List UInt8)) (w : World) (hs : s.size ≤ 4294967296) (h : Box (contO s.data.toList = o)) :
    Calls Tryz.prog 99 #[.string s] w fun e w' => e = .returned (optV o) ∧ Below w.heap.size w w' := by
  have hm : s.size ≤ maxLen := by unfold maxLen; omega
  have HM := box hm
  clear hm
  rcases htk : tokL s.data.toList with _ | _
  · have HT := box htk
    have hu : unqL s.data.toList = o := by
      have := h.out
      unfold contO at this
      rwa [if_neg (by rw [htk]; decide)] at this
    have HU := box hu
    clear htk hu h
    rcases o with _ | u
    · go_enter Tryz.func99, Tryz.ntmps99
      go_wp2_with fail
      refine (aToken_is HM.out HT).mono ?_; rintro e w1 ⟨rfl, rfl⟩
      go_wp2_with fail
      refine (aUnq_is hs HU).mono ?_; rintro e w2 ⟨rfl, hb⟩
      have B := box hb
      clear hb
      unfold optV
      go_wp2
      go_ret2
      exact ⟨rfl, B.out⟩
    · go_enter Tryz.func99, Tryz.ntmps99
      go_wp2_with fail
      refine (aToken_is HM.out HT).mono ?_; rintro e w1 ⟨rfl, rfl⟩
      go_wp2_with fail
      refine (aUnq_is hs HU).mono ?_; rintro e w2 ⟨rfl, hb⟩
      have B := box hb
      clear hb
      unfold optV
      go_wp2
      go_ret2
      exact ⟨rfl, B.out⟩
  · have HT := box htk
    have ho : o = some s.data.toList := by
      rw [← h.out]; unfold contO; rw [if_pos htk]
    subst ho
    clear htk h
    go_enter Tryz.func99, Tryz.ntmps99
    go_wp2_with fail
    refine (aToken_is HM.out HT).mono ?_; rintro e w1 ⟨rfl, rfl⟩
    go_wp2
    go_ret2
    exact ⟨rfl, Below.refl _ _⟩
def pieceV : Option F → Value
  | some f => .tuple #[.string f.1, .string f.2, .bool true]
  | none => .tuple #[.string ⟨#[]⟩, .string ⟨#[]⟩, .bool false]
set_option maxHeartbeats 1000000 in
theorem parsePiece_is (x : ByteArray) (o : Option F) (w : World) (hs : x.size ≤ 65000) (h : Box (paramL x.data.toList = o)) :
    Calls Tryz.prog 79 #[.string x] w fun e w' => e = .returned (pieceV o) ∧ Below w.heap.size w w' := by
  have hm : x.size ≤ maxLen := by unfold maxLen; omega
  obtain ⟨n, hn⟩ : ∃ n, bs (cut1 61 x.data.toList) = n := ⟨_, rfl⟩
  obtain ⟨f, hf⟩ : ∃ f, bs (cut2 61 x.data.toList) = f := ⟨_, rfl⟩
  obtain ⟨b, hb⟩ : ∃ b, cutB 61 x.data.toList = b := ⟨_, rfl⟩
  have HV : Box (cutV 61 x.data.toList = .tuple #[.string n, .string f, .bool b]) := box (by unfold cutV; rw [hn, hf, hb])
  have hxl : x.data.toList.length = x.size := by simp
  have hnz : n.size ≤ 65000 := by
    rw [← hn, bs_size]
    have : (cut1 61 x.data.toList).length ≤ x.data.toList.length := by unfold cut1; exact (List.takeWhile_sublist _).length_le
    omega
  have hfz : f.size ≤ 65000 := by
    rw [← hf, bs_size]
    have : (cut2 61 x.data.toList).length ≤ x.data.toList.length := by
      unfold cut2; rw [List.length_drop]; have := (List.dropWhile_sublist (· != (61 : UInt8)) (l := x.data.toList)).length_le; omega
    omega
  have hn1 : n.data.toList = cut1 61 x.data.toList := by rw [← hn]; rfl
  have hf1 : f.data.toList = cut2 61 x.data.toList := by rw [← hf]; rfl
  have hnm : n.size ≤ maxLen := by unfold maxLen; omega
  have hn4 : n.size ≤ 4294967296 := by omega
  have hf4 : f.size ≤ 4294967296 := by omega
  have HNM := box hnm
  have HN4 := box hn4
  have HF4 := box hf4
  have HM := box hm
  clear hn hf hb hxl hnm hn4 hf4 hm hnz hfz hs
  rcases hc : contO (cut2 61 x.data.toList) with _ | u
  · have HC : Box (contO f.data.toList = none) := box (by rw [hf1, hc])
    obtain rfl : o = none := by rw [← h.out]; exact param_cont0 hc
    clear hc hn1 hf1 h
    go_enter Tryz.func79, Tryz.ntmps79
    go_wp2_with fail
    refine (Cut_any x 61 _ HM.out).mono ?_; rintro e w1 ⟨rfl, hb1⟩; rw [HV.out]
    have B1 := box hb1
    clear hb1
    go_wp2_with fail
    refine (parseContent_is f none _ HF4.out HC).mono ?_; rintro e w2 ⟨rfl, hb2⟩
    have B2 := box (B1.out.trans (hb2.mono B1.out.size))
    clear hb2
    unfold optV
    go_wp2
    go_ret3
    exact ⟨rfl, B2.out⟩
  · have HC : Box (contO f.data.toList = some u) := box (by rw [hf1, hc])
    rcases ht : tokL (cut1 61 x.data.toList) with _ | _
    · have HT : Box (tokL n.data.toList = false) := box (by rw [hn1, ht])
      obtain rfl : o = none := by rw [← h.out]; exact param_cont1 ht
      clear hc ht hn1 hf1 h
      go_enter Tryz.func79, Tryz.ntmps79
      go_wp2_with fail
      refine (Cut_any x 61 _ HM.out).mono ?_; rintro e w1 ⟨rfl, hb1⟩; rw [HV.out]
      have B1 := box hb1
      clear hb1
      go_wp2_with fail
      refine (parseContent_is f (some u) _ HF4.out HC).mono ?_; rintro e w2 ⟨rfl, hb2⟩
      have B2 := box (B1.out.trans (hb2.mono B1.out.size))
      clear hb2
      unfold optV
      go_wp2_with fail
      refine (aToken_is HNM.out HT).mono ?_; rintro e w3 ⟨rfl, rfl⟩
      go_wp2
      go_ret3
      exact ⟨rfl, B2.out⟩
    · have HT : Box (tokL n.data.toList = true) := box (by rw [hn1, ht])
      obtain ⟨nm, hnm⟩ : ∃ nm, bs (lowL n.data.toList) = nm := ⟨_, rfl⟩
      have HL := box hnm
      obtain ⟨ub, hub⟩ : ∃ ub, bs u = ub := ⟨_, rfl⟩
      have HU : Box (optV (some u) = .tuple #[.string ub, .bool true]) := box (by rw [← hub]; rfl)
      obtain rfl : o = some (nm, ub) := by rw [← h.out, param_cont2 ht hc, ← hnm, hn1, hub]
      clear hc ht hn1 hf1 h hnm hub
      go_enter Tryz.func79, Tryz.ntmps79
      go_wp2_with fail
      refine (Cut_any x 61 _ HM.out).mono ?_; rintro e w1 ⟨rfl, hb1⟩; rw [HV.out]
      have B1 := box hb1
      clear hb1
      go_wp2_with fail
      refine (parseContent_is f (some u) _ HF4.out HC).mono ?_; rintro e w2 ⟨rfl, hb2⟩; rw [HU.out]
      have B2 := box (B1.out.trans (hb2.mono B1.out.size))
      clear hb2
      go_wp2_with fail
      refine (aToken_is HNM.out HT).mono ?_; rintro e w3 ⟨rfl, rfl⟩
      go_wp2_with fail
      refine (aLower_is HN4.out HL).mono ?_; rintro e w4 ⟨rfl, hb4⟩
      have B4 := box (B2.out.trans (hb4.mono B2.out.size))
      clear hb4
      go_wp2
      go_ret3
      exact ⟨rfl, B4.out⟩
def ParRelM (T : Option (List F)) (B n : Nat) (w : World) (r m v : Value) (wr : World) : Prop :=
  ∃ (acc : List F) (t : ByteArray) (b : Bool), r = .string t ∧ m = .bool b ∧ acc.length + t.size ≤ n ∧ T = parF (moreL 59 b t.data.toList) acc ∧ OwnP wr B v acc ∧ Below B w wr
set_option maxHeartbeats 4000000 in
theorem mPar_any (s : ByteArray) (w : World) (hs : s.size ≤ 65000) :
    Calls Tryz.prog 49 #[.string s] w fun e w' => parW w w' s.data.toList e := by
  obtain ⟨p, r0, m0, hp⟩ : ∃ p r m, pcL 59 s.data.toList = (p, r, m) := ⟨_, _, _, rfl⟩
  have HV : Box (pcV 59 s.data.toList = .tuple #[.string (bs p), .string (bs r0), .bool m0]) := box (by unfold pcV; rw [hp])
  have hcut : cutL 59 s.data.toList = p :: moreL 59 m0 r0 := by
    have := cutL_pc (sep := 59) (by decide) s.data.toList
    rwa [hp] at this
  have HQ := box hcut
  have hsz := pcF_size 59 s.data.toList 0 []
  rw [show pcF 59 0 s.data.toList [] = (p, r0, m0) from hp] at hsz
  simp only [List.length_nil, Nat.zero_add] at hsz
  rw [show s.data.toList.length = s.size from by simp] at hsz
  have hrz : (bs r0).size ≤ 65000 := by rw [bs_size]; omega
  have hpz : (bs p).size ≤ maxLen := by rw [bs_size]; unfold maxLen; omega
  clear hp hcut hsz
  by_cases ht : trimL p = []
  · have HT : Box (bs (trimL (bs p).data.toList) = ⟨#[]⟩) := box (by rw [bs_toList, ht]; rfl)
    have HN := box (par_none0 HQ.out ht)
    clear ht
    go_enter Tryz.func49, Tryz.ntmps49
    go_wp2_with fail
    refine (pieceCut_any s 59 _ hs).mono ?_; rintro e w1 ⟨rfl, hb1⟩
    rw [HV.out]
    have B1 := box hb1
    clear hb1
    go_wp2_with fail
    refine (aTrim_is hpz HT).mono ?_; rintro e w2 ⟨rfl, rfl⟩
    go_wp2
    go_ret3
    exact parW_none HN.out B1.out
  · obtain ⟨x0, hx0⟩ : ∃ x0, bs (trimL p) = x0 := ⟨_, rfl⟩
    have HT : Box (bs (trimL (bs p).data.toList) = x0) := box (by rw [bs_toList, hx0])
    have hxe : x0.toList.isEmpty = false := by
      rw [← hx0, toList_bs]
      cases h : trimL p with
      | nil => exact absurd h ht
      | cons c r => rfl
    have HX0 := box hx0
    have HNE := box ht
    obtain ⟨T, hT⟩ : ∃ T, parF (moreL 59 m0 r0) [] = T := ⟨_, rfl⟩
    have HTT := box hT
    clear hx0 ht hT
    go_enter Tryz.func49, Tryz.ntmps49
    go_wp2_with fail
    refine (pieceCut_any s 59 _ hs).mono ?_; rintro e w1 ⟨rfl, hb1⟩
    rw [HV.out]
    have B1 := box hb1
    have hB1 := hb1.size
    clear hb1
    go_wp2_with fail
    refine (aTrim_is hpz HT).mono ?_; rintro e w2 ⟨rfl, rfl⟩
    go_wp2
    go_loopw [6, 7, 9] (fun r m v wr => ParRelM T w1.heap.size 65000 w1 r m v wr) (fun r m _ _ => msr m r)
    case atStart => exact ⟨[], bs r0, m0, rfl, rfl, by simpa using hrz, by rw [bs_toList]; exact HTT.out.symm, OwnP.nil _ _, Below.refl _ _⟩
    case round =>
      obtain ⟨acc, t, b, rfl, rfl, hat, hTM, hO, hbel⟩ := hrel
      have O0 := box hO
      have BL := box hbel
      have HM := box hTM
      have hBw := hbel.size
      obtain ⟨av, cv, rfl, _, _⟩ := hO.fs
      clear hO hbel hTM
      rcases b with _ | _
      · have HD : Box (parA s.data.toList = x0 ∧ parB s.data.toList = acc ∧ parO s.data.toList = true) := box (by
          have := par_some HQ.out HNE.out (HTT.out.trans HM.out)
          rwa [HX0.out] at this)
        go_wp2
        go_ret3
        obtain ⟨d1, d2, d3⟩ := HD.out
        exact ⟨_, by rw [d1, d3]; rfl, by rw [d2]; exact Go.Joins.ownsRow_le O0.out hB1, B1.out.trans (BL.out.mono hB1)⟩
      · have ht6 : t.size ≤ 65000 := by omega
        obtain ⟨p, r, m, hp⟩ : ∃ p r m, pcL 59 t.data.toList = (p, r, m) := ⟨_, _, _, rfl⟩
        have HV : Box (pcV 59 t.data.toList = .tuple #[.string (bs p), .string (bs r), .bool m]) := box (by unfold pcV; rw [hp])
        have hcut : T = parF (p :: moreL 59 m r) acc := by
          have := cutL_pc (sep := 59) (by decide) t.data.toList
          rw [hp] at this
          rw [HM.out]
          show parF (cutL 59 t.data.toList) acc = _
          rw [this]
        have hsz := pcF_size 59 t.data.toList 0 []
        rw [show pcF 59 0 t.data.toList [] = (p, r, m) from hp] at hsz
        simp only [List.length_nil, Nat.zero_add] at hsz
        rw [show t.data.toList.length = t.size from by simp] at hsz
        have hrz : acc.length + (bs r).size ≤ 65000 := by rw [bs_size]; omega
        have hms : Box (msr (.bool m) (.string (bs r)) < t.size + 1) := box (by
          cases m
          · exact Nat.zero_lt_succ _
          · show (bs r).size + 1 < t.size + 1
            rw [bs_size]; have := hsz.2 rfl; omega)
        have hpz : (bs p).size ≤ maxLen := by rw [bs_size]; unfold maxLen; omega
        have HSZ := box hsz.1
        have HCut := box hcut
        clear hp hcut hsz HM
        by_cases htr : trimL p = []
        · have HTr : Box (bs (trimL (bs p).data.toList) = ⟨#[]⟩) := box (by rw [bs_toList, htr]; rfl)
          have HN : Box (T = parF (moreL 59 m (bs r).data.toList) acc) := box (by rw [HCut.out, parF_skip htr, bs_toList])
          clear HCut htr
          go_wp2_with fail
          refine (pieceCut_any t 59 _ ht6).mono ?_; rintro e w3 ⟨rfl, hb3⟩
          rw [HV.out]
          have O3 := box (own_below O0.out hb3)
          have B3 := box (BL.out.trans (hb3.mono hBw))
          clear hb3
          go_wp2_with fail
          refine (aTrim_is hpz HTr).mono ?_; rintro e w4 ⟨rfl, rfl⟩
          go_wp2
          go_roundw
          case rel => exact ⟨acc, bs r, m, rfl, rfl, hrz, HN.out, O3.out, B3.out⟩
          case measure => exact hms.out
        · obtain ⟨x, hx⟩ : ∃ x, bs (trimL p) = x := ⟨_, rfl⟩
          have hxd : x.data.toList = trimL p := by rw [← hx]; rfl
          have HTr : Box (bs (trimL (bs p).data.toList) = x) := box (by rw [bs_toList, hx])
          have hxe : x.toList.isEmpty = false := by
            rw [← hx, toList_bs]
            cases h : trimL p with
            | nil => exact absurd h htr
            | cons c r => rfl
          have hxz : x.size ≤ 65000 := by
            have h1 := trim_le p
            have h2 : x.size = (trimL p).length := by rw [← hx, bs_size]
            have := HSZ.out
            omega
          have hp1 : 1 ≤ p.length := by
            cases h : p with
            | nil => rw [h] at htr; exact absurd rfl htr
            | cons c r => simp
          have hmz : acc.length + 1 + (bs r).size ≤ 65000 := by rw [bs_size]; have := HSZ.out; omega
          rcases hpm : paramL x.data.toList with _ | f
          · have HP := box hpm
            have HB := box (par_none1 HQ.out HNE.out (HTT.out.trans (HCut.out.trans (parF_bad htr (by rw [← hxd]; exact hpm)))))
            clear HCut hx hxd hpm htr
            go_wp2_with fail
            refine (pieceCut_any t 59 _ ht6).mono ?_; rintro e w3 ⟨rfl, hb3⟩
            rw [HV.out]
            have B3 := box (BL.out.trans (hb3.mono hBw))
            clear hb3
            go_wp2_with fail
            refine (aTrim_is hpz HTr).mono ?_; rintro e w4 ⟨rfl, rfl⟩
            go_wp2_with fail
            refine (parsePiece_is x none _ hxz HP).mono ?_; rintro e w5 ⟨rfl, hb5⟩
            have B5 := box (B3.out.trans (hb5.mono B3.out.size))
            clear hb5
            unfold pieceV
            go_wp2
            go_ret3
            exact parW_none HB.out (B1.out.trans (B5.out.mono hB1))
          · have HP := box hpm
            obtain ⟨nm, ub⟩ := f
            have HN : Box (T = parF (moreL 59 m (bs r).data.toList) (acc ++ [(nm, ub)])) := box (by rw [HCut.out, parF_step htr (by rw [← hxd]; exact hpm), bs_toList])
            have hml : Box ((acc ++ [(nm, ub)]).length + (bs r).size ≤ 65000) := box (by rw [List.length_append]; simp only [List.length_cons, List.length_nil]; omega)
            clear HCut hx hxd hpm htr
            go_wp2_with fail
            refine (pieceCut_any t 59 _ ht6).mono ?_; rintro e w3 ⟨rfl, hb3⟩
            rw [HV.out]
            have O3 := box (own_below O0.out hb3)
            have B3 := box (BL.out.trans (hb3.mono hBw))
            clear hb3
            go_wp2_with fail
            refine (aTrim_is hpz HTr).mono ?_; rintro e w4 ⟨rfl, rfl⟩
            go_wp2_with fail
            refine (parsePiece_is x (some (nm, ub)) _ hxz HP).mono ?_; rintro e w5 ⟨rfl, hb5⟩
            have O5 := box (own_below O3.out hb5)
            have B5 := box (B3.out.trans (hb5.mono B3.out.size))
            clear hb5
            unfold pieceV
            go_wp2_with (at_builtin; refine wpList_append_prm _ rfl (.tmp 44) (.tmp 48) rfl w1.heap.size _ acc rfl ?a1 _ _ rfl nm ub ?b1 ?b2 ?c1 ?d1 ?_)
            case a1 => exact own_below O5.out (below_new _ _)
            case b1 => go_simp
            case b2 => go_simp
            case c1 => omega
            case d1 => have := B5.out.size; simp; omega
            intro v6 w6 hO6 hb6
            have O6 := box hO6
            have B6 := box ((B5.out.alloc B5.out.size _).trans hb6)
            clear hO6 hb6
            go_wp2
            go_roundw
            case rel => exact ⟨acc ++ [(nm, ub)], bs r, m, rfl, rfl, hml.out, HN.out, O6.out, B6.out⟩
            case measure => exact hms.out
theorem formatContent_is (s x : ByteArray) (w : World) (hs : s.size ≤ 65536) (h : Box (bs (valP s.data.toList) = x)) :
    Calls Tryz.prog 117 #[.string s] w fun e w' => e = .returned (.string x) ∧ Below w.heap.size w w' := by
  have hm : s.size ≤ maxLen := by unfold maxLen; omega
  have hq : s.size ≤ 1073741824 := by omega
  have HM := box hm
  clear hm
  rcases htk : tokL s.data.toList with _ | _
  · have HT := box htk
    have HX : Box (bs (quoteL s.data.toList) = x) := box (by rw [← h.out, val_not htk])
    clear htk h
    go_enter Tryz.func117, Tryz.ntmps117
    go_wp2_with fail
    refine (aToken_is HM.out HT).mono ?_; rintro e w1 ⟨rfl, rfl⟩
    go_wp2_with fail
    refine (aQuote_is hq HX).mono ?_; rintro e w2 ⟨rfl, hb⟩
    have B := box hb
    clear hb
    go_wp2
    go_ret
    exact ⟨rfl, B.out⟩
  · have HT := box htk
    have hx : s = x := by rw [← h.out, val_tok htk]; rfl
    subst hx
    clear htk h
    go_enter Tryz.func117, Tryz.ntmps117
    go_wp2_with fail
    refine (aToken_is HM.out HT).mono ?_; rintro e w1 ⟨rfl, rfl⟩
    go_wp2
    go_ret
    exact ⟨rfl, Below.refl _ _⟩
def FmtRelM (v : ByteArray) (L : List F) (B : Nat) (w : World) (i : Value) (wr : World) : Prop :=
  ∃ k : Nat, i = .int .i64 k ∧ k ≤ L.length ∧ Box (BldZ wr B B (fmtPL v.data.toList (L.take k))) ∧ Box ((fmtPL v.data.toList (L.take k)).length ≤ 65536 + 200000 * k) ∧ Box (Below B w wr)
set_option maxHeartbeats 4000000 in
theorem mFmt9_any (v : ByteArray) (a : Option Addr) (cap : Nat) (L : List F) (w : World) (hv : v.size ≤ 65536) (hl : L.length ≤ 65536) (hz : Box (∀ i (hi : i < L.length), L[i].1.size ≤ 65536 ∧ L[i].2.size ≤ 65536)) (hF : Box (Fs w a L)) :
    Calls Tryz.prog 113 #[.string v, .slice a L.length cap] w fun e w' => e = .returned (.string (fmtPB v L)) ∧ Below w.heap.size w w' := by
  have hvl : v.data.toList.length = v.size := by simp
  go_enter Tryz.func113, Tryz.ntmps113
  go_wp2_with fail
  refine (WriteString_z w.heap.size w.heap.size [] v _ (box (BldZ.fresh w)) (by rw [List.length_nil]; omega) (by simp)).mono ?_; rintro e w1 ⟨rfl, hZ1, hb1, _⟩
  have Z1 : Box (BldZ w1 w.heap.size w.heap.size (fmtPL v.data.toList (L.take 0))) := box (by simpa [fmtPL] using hZ1)
  have L1 : Box ((fmtPL v.data.toList (L.take 0)).length ≤ 65536 + 200000 * 0) := box (by simp [fmtPL]; omega)
  have B1 := box ((below_new w _).trans hb1)
  clear hZ1 hb1 hvl
  go_wp2
  go_loopw [12] (fun i wr => FmtRelM v L w.heap.size w i wr) (fun i _ => L.length - (intOf i).toNat)
  case atStart => exact ⟨0, rfl, Nat.zero_le _, Z1, L1, B1⟩
  case round =>
    obtain ⟨k, rfl, hk, Z2, L2, B2⟩ := hrel
    have hB2 := B2.out.size
    by_cases hlt : k < L.length
    · obtain ⟨q, off, rfl, c0, c1⟩ := (hF.out.below B2.out) k hlt
      obtain ⟨z1, z2⟩ := hz.out k hlt
      obtain ⟨nm, hnm⟩ : ∃ nm, L[k].1 = nm := ⟨_, rfl⟩
      obtain ⟨u, hu⟩ : ∃ u, L[k].2 = u := ⟨_, rfl⟩
      obtain ⟨vv, hvv⟩ : ∃ vv, bs (valP u.data.toList) = vv := ⟨_, rfl⟩
      have hvd : vv.data.toList = valP u.data.toList := by rw [← hvv]; rfl
      have hvz : vv.size ≤ 131074 := by
        rw [← hvv, bs_size]
        have h2 := val_len u.data.toList
        have e : u.data.toList.length = u.size := by simp
        rw [hu] at z2
        omega
      have HN : Box (fmtPL v.data.toList (L.take k) ++ [59] ++ nm.data.toList ++ [61] ++ vv.data.toList = fmtPL v.data.toList (L.take (k + 1))) := box (by
        rw [fmt_more hlt]
        unfold oneP
        rw [hnm, hu, hvd]
        simp)
      have HVV := box hvv
      have hnl : nm.data.toList.length = nm.size := by simp
      have hvl : vv.data.toList.length = vv.size := by simp
      have hL3 : Box ((fmtPL v.data.toList (L.take (k + 1))).length ≤ 65536 + 200000 * (k + 1)) := box (by
        rw [← HN.out]
        simp only [List.length_append, List.length_cons, List.length_nil]
        have := L2.out
        rw [hnm] at z1
        omega)
      obtain ⟨X, hX⟩ : ∃ X, fmtPL v.data.toList (L.take k) = X := ⟨_, rfl⟩
      rw [hX] at Z2 L2 HN
      have hXl : X.length ≤ 13200000000 := by have := L2.out; omega
      rw [hnm] at c0 z1
      rw [hu] at c1 z2
      clear hX hnm hu hvv hvd hnl hvl
      have hlt2 := Z2.out.lt
      have hne := Nat.ne_of_gt hlt2
      have h59 : (⟨#[59]⟩ : ByteArray).size = 1 := rfl
      have h61 : (⟨#[61]⟩ : ByteArray).size = 1 := rfl
      go_wp2_with fail
      refine (WriteString_z w.heap.size w.heap.size X ⟨#[59]⟩ _ (box (Z2.out.next (below_new _ _))) (by omega) (by simp; omega)).mono ?_; rintro e w3 ⟨rfl, hZ3, hb3, hk3⟩
      have hg3 := hk3 _ _ _ _ hne (by decide) (heap_alloc_new _ _)
      have d0 := (Lib.cell_of_heap hg3 0).trans rfl
      have G3 := box hg3
      have Z3 : Box (BldZ w3 w.heap.size w.heap.size (X ++ [59])) := box hZ3
      have B3 := box ((B2.out.alloc hB2 _).trans hb3)
      have hs3 := B3.out.size
      clear hZ3 hb3 hk3 hg3
      go_wp2_with fail
      refine (WriteString_z w.heap.size w.heap.size _ nm _ Z3 (by rw [List.length_append]; simp only [List.length_cons, List.length_nil]; omega) hs3).mono ?_; rintro e w4 ⟨rfl, hZ4, hb4, hk4⟩
      have G4 := box (hk4 _ _ _ _ hne (by decide) G3.out)
      have Z4 := box hZ4
      have B4 := box (B3.out.trans hb4)
      have hs4 := B4.out.size
      clear hZ4 hb4 hk4 d0
      go_wp2_with fail
      refine (WriteString_z w.heap.size w.heap.size _ ⟨#[61]⟩ _ Z4 (by rw [List.length_append, List.length_append]; simp only [List.length_cons, List.length_nil, Array.length_toList]; show _ + nm.size + 1 ≤ _; omega) hs4).mono ?_; rintro e w5 ⟨rfl, hZ5, hb5, hk5⟩
      have hg5 := hk5 _ _ _ _ hne (by decide) G4.out
      have d1 := (Lib.cell_of_heap hg5 1).trans rfl
      have Z5 : Box (BldZ w5 w.heap.size w.heap.size (X ++ [59] ++ nm.data.toList ++ [61])) := box hZ5
      have B5 := box (B4.out.trans hb5)
      have hs5 := B5.out.size
      clear hZ5 hb5 hk5 hg5
      go_wp2_with fail
      refine (formatContent_is u vv _ z2 HVV).mono ?_; rintro e w6 ⟨rfl, hb6⟩
      have Z6 := box (Z5.out.next hb6)
      have B6 := box (B5.out.trans (hb6.mono hs5))
      have hs6 := B6.out.size
      clear hb6 d1
      go_wp2_with fail
      refine (WriteString_z w.heap.size w.heap.size _ vv _ Z6 (by simp only [List.length_append, List.length_cons, List.length_nil, Array.length_toList]; show _ + 1 + nm.size + 1 + vv.size ≤ _; omega) hs6).mono ?_; rintro e w7 ⟨rfl, hZ7, hb7, _⟩
      rw [HN.out] at hZ7
      have Z7 := box hZ7
      have B7 := box (B6.out.trans hb7)
      clear hZ7 hb7
      go_wp2
      go_roundw
      case rel => exact ⟨k + 1, by go_num, by omega, Z7, hL3, B7⟩
      case measure => simp [intOf]; omega
    · have HE : Box (fmtPL v.data.toList (L.take k) = fmtPL v.data.toList L) := box (by rw [List.take_of_length_le (by omega)])
      rw [HE.out] at Z2
      go_wp2_with fail
      refine (String_z w.heap.size w.heap.size _ _ Z2 hB2).mono ?_; rintro e w6 ⟨rfl, hb6⟩
      have B6 := box (B2.out.trans hb6)
      clear hb6
      go_wp2
      go_ret
      exact ⟨rfl, B6.out⟩
end
section
open Go.RowKit
theorem results_cell1 {fn : Func} {p : Tmp} {ty : TypeId} (h : fn.results = #[.cell p ty]) (tmps : Array Value) (P : Program) (w : World) :
    (results fn tmps).run P w = ((asAddr (tmps.getD p undef)).run P w).andThen fun a w₁ => (loadVar ty a).run P w₁ := by
  simp only [results, h]
  simp [Sem.run_bind, Result.andThen]
def foldP (p : F) : F := (p.1, bs (lowL p.2.data.toList))
theorem foldValue_any (a b x : ByteArray) (w : World) (hb : b.size ≤ 4294967296) (hx : Box (bs (lowL b.data.toList) = x)) :
    Calls Tryz.prog 82 #[.agg #[.string a, .string b]] w fun e w' => e = .returned (.agg #[.string a, .string x]) ∧ Below w.heap.size w w' := by
  have F0 := box ((Fld.new a b w 52).more (.cells #[.string ⟨#[]⟩, .string ⟨#[]⟩] 52))
  have R0 : Box (Fld (w.heap.size + 1) ⟨#[]⟩ ⟨#[]⟩ ((w.alloc (.cells #[.string a, .string b] 52)).alloc (.cells #[.string ⟨#[]⟩, .string ⟨#[]⟩] 52))) := box (by
    have h := Fld.new ⟨#[]⟩ ⟨#[]⟩ (w.alloc (.cells #[.string a, .string b] 52)) 52
    rwa [show (w.alloc (.cells #[.string a, .string b] 52)).heap.size = w.heap.size + 1 from by simp] at h)
  have B0 := box (((below_new w (.cells #[.string a, .string b] 52))).alloc (below_new w _).size (.cells #[.string ⟨#[]⟩, .string ⟨#[]⟩] 52))
  go_enter Tryz.func82, Tryz.ntmps82
  go_wp2_with fail
  go_region_held3 (fun w' => w'.cell? ⟨w.heap.size, 0, none⟩ = some (.string a) ∧ w'.cell? ⟨w.heap.size, 1, none⟩ = some (.string b))
    (first | (exact ⟨F1.out.1, F1.out.2.1⟩) | (exact ⟨F0.out.1, F0.out.2.1⟩) | go_keep)
    (first | (go_at_call 51; refine (aLower_is hb hx).mono ?_; rintro e w1 ⟨rfl, hb1⟩; have F1 := box ((F0.out.drew).below hb1 (F0.out.drew).lt); obtain ⟨r0, r1, f0, f1⟩ := (R0.out.drew).below hb1 (R0.out.drew).lt))
  have B1 := (B0.out.drew).trans (hb1.mono (B0.out.drew).size)
  go_wp2
  (try simp only [Exit.inBlock, Exit.then])
  refine bodyPost_ret (v := .agg #[.string a, .string x]) (by rw [results_cell1 rfl]; go_simp) rfl ?_
  exact ⟨rfl, ((B1.setCell (p := ⟨w.heap.size + 1, 0, none⟩) (by simp) _).setCell (p := ⟨w.heap.size + 1, 1, none⟩) (by simp) _)⟩
/-- which parameters the first loop has laid by, and which of them are left behind the second's first k rounds -/
def inK (K : List F) (k : Nat) (p : F) : Prop := ∃ i, ∃ h : i < K.length, i < k ∧ foldP K[i] = p
def HasRel (K : List F) (w : World) (i : Value) (wr : World) : Prop := ∃ k : Nat, i = .int .i64 k ∧ k ≤ K.length ∧ Box (PSet wr (w.heap.size + 1) k (inK K k)) ∧ Box (Below w.heap.size w wr)
def DelRel (K L : List F) (w : World) (i : Value) (wr : World) : Prop := ∃ k : Nat, i = .int .i64 k ∧ k ≤ L.length ∧ Box (PSet wr (w.heap.size + 1) K.length (fun p => inK K K.length p ∧ ¬ inK L k p)) ∧ Box (Below w.heap.size w wr)
def HasIs (z : Bool) (K L : List F) : Prop := z = true ↔ ∀ p, inK K K.length p → inK L L.length p
theorem inK_zero (K : List F) (p : F) : ¬ inK K 0 p := fun ⟨_, _, h, _⟩ => by omega
theorem inK_more {K : List F} {k : Nat} (hk : k < K.length) (p : F) : inK K (k + 1) p ↔ inK K k p ∨ p = foldP K[k] := by
  constructor
  · rintro ⟨i, h, hi, rfl⟩
    by_cases e : i = k
    · subst e; exact .inr rfl
    · exact .inl ⟨i, h, by omega, rfl⟩
  · rintro (⟨i, h, hi, e⟩ | rfl)
    · exact ⟨i, h, by omega, e⟩
    · exact ⟨k, hk, by omega, rfl⟩
theorem fold_sml {p : F} (h1 : p.1.size ≤ 65536) (h2 : p.2.size ≤ 65536) : Sml (foldP p) := by
  refine ⟨by unfold maxLen foldP; simp only; omega, ?_⟩
  unfold maxLen foldP
  simp only [bs_size]
  have : (lowL p.2.data.toList).length = p.2.size := by unfold lowL; simp
  omega
theorem inK_sml {K : List F} (hz : ∀ i (hi : i < K.length), K[i].1.size ≤ 65536 ∧ K[i].2.size ≤ 65536) {k : Nat} {p : F} (h : inK K k p) : Sml p := by
  obtain ⟨i, hi, _, rfl⟩ := h
  exact fold_sml (hz i hi).1 (hz i hi).2
theorem inK_prm {K L : List F} : (∀ p, inK K K.length p → inK L L.length p) ↔ (K.all fun p => prmIn p L) = true := by
  have key : ∀ p q : F, prmOk p q = true ↔ foldP p = foldP q := fun p q => by
    unfold prmOk foldP
    rw [Bool.and_eq_true, Prod.mk.injEq]
    constructor
    · rintro ⟨h1, h2⟩
      unfold foldL at h2
      exact ⟨str_eq h1, by rw [of_decide_eq_true h2]⟩
    · rintro ⟨h1, h2⟩
      unfold foldL
      exact ⟨by rw [h1]; simp, decide_eq_true (bs_inj h2)⟩
  rw [List.all_eq_true]
  constructor
  · intro h x hx
    obtain ⟨i, hi, rfl⟩ := List.getElem_of_mem hx
    obtain ⟨j, hj, _, e⟩ := h _ ⟨i, hi, hi, rfl⟩
    unfold prmIn
    rw [List.any_eq_true]
    exact ⟨_, List.getElem_mem hj, (key _ _).2 e.symm⟩
  · rintro h p ⟨i, hi, _, rfl⟩
    have := h _ (List.getElem_mem hi)
    unfold prmIn at this
    rw [List.any_eq_true] at this
    obtain ⟨x, hx, hk⟩ := this
    obtain ⟨j, hj, rfl⟩ := List.getElem_of_mem hx
    exact ⟨j, hj, hj, ((key _ _).1 hk).symm⟩
set_option maxHeartbeats 1000000 in
theorem hasParams_any (c d : ByteArray) (p q : Option Addr) (cp cq : Nat) (K L : List F) (w : World) (z : Bool) (hk : K.length ≤ 65536) (hl : L.length ≤ 65536)
    (hzK : Box (∀ i (hi : i < K.length), K[i].1.size ≤ 65536 ∧ K[i].2.size ≤ 65536)) (hzL : Box (∀ i (hi : i < L.length), L[i].1.size ≤ 65536 ∧ L[i].2.size ≤ 65536)) (hK : Box (Fs w p K)) (hL : Box (Fs w q L))
    (hz : Box (HasIs z K L)) :
    Calls Tryz.prog 52 #[.agg #[.string c, .string d, .slice q L.length cq], .slice p K.length cp] w fun e w' => e = .returned (.bool z) ∧ Below w.heap.size w w' := by
  have hmm := makeHint10 K.length
  have BW := box (below_new w (.cells #[.string c, .string d, .slice q L.length cq] 33))
  have C0 := box (C3.new (.string c) (.string d) (.slice q L.length cq) w 33)
  have P0 : Box (PSet ((w.alloc (.cells #[.string c, .string d, .slice q L.length cq] 33)).alloc (.map #[] 0)) (w.heap.size + 1) 0 (inK K 0)) := box (by
    have h := PSet.made (w.alloc (.cells #[.string c, .string d, .slice q L.length cq] 33))
    rw [show (w.alloc (.cells #[.string c, .string d, .slice q L.length cq] 33)).heap.size = w.heap.size + 1 from by simp] at h
    exact h.iff (fun p => ⟨fun h => h.elim, fun h => absurd h (inK_zero K p)⟩))
  go_enter Tryz.func52, Tryz.ntmps52
  go_wp2
  go_loopw [15] (fun i wr => HasRel K w i wr ∧ Box (C3 w.heap.size (.string c) (.string d) (.slice q L.length cq) wr)) (fun i _ => K.length - (intOf i).toNat)
  case atStart => exact ⟨⟨0, rfl, Nat.zero_le _, P0, box (BW.out.alloc BW.out.size _)⟩, box (C0.out.next (below_new _ _))⟩
  case round =>
    obtain ⟨⟨k, rfl, hk2, hP, hB⟩, hC⟩ := hrel
    have hw1 : w.heap.size + 1 < wr.heap.size := hP.out.lt
    by_cases hlt : k < K.length
    · obtain ⟨g, off, rfl, c0, c1⟩ := (hK.out.below hB.out) k hlt
      obtain ⟨s1, s2⟩ := hzK.out k hlt
      have HS := box (fold_sml s1 s2)
      have s3 : K[k].2.size ≤ 4294967296 := by omega
      have HX : Box (bs (lowL K[k].2.data.toList) = (foldP K[k]).2) := box rfl
      have H1 : Box (K[k].1 = (foldP K[k]).1) := box rfl
      obtain ⟨f, hf⟩ : ∃ f, foldP K[k] = f := ⟨_, rfl⟩
      rw [hf] at HX H1 HS
      have HF := box hf
      clear hf
      go_wp2_with fail
      refine (foldValue_any _ _ f.2 _ s3 HX).mono ?_; rintro e w1 ⟨rfl, hb1⟩
      rw [H1.out]
      have hb2 := (below_new wr _).trans (hb1.mono (below_new wr _).size)
      have P1 := box (hP.out.below hb2 hP.out.lt)
      have C1 := box (hC.out.next hb2)
      have B1 := box (hB.out.trans (hb2.mono hB.out.size))
      have z1 : w.heap.size + 1 ≤ w1.heap.size := by have := hb2.size; omega
      clear hb1 hb2
      go_wp2_with (first | (at_mapUpdate; refine wpList_put10 rfl _ _ _ rfl P1.out HS.out (by unfold maxLen; omega) (Nat.le_refl _) rfl rfl rfl ?_; intro w2 hP2 hg2) | go_in)
      have hb3 : Below (w.heap.size + 1) w1 w2 := (Below.refl _ _).grown hg2 z1 (fun k hk => by cases hk; exact Nat.le_refl _)
      have R1 := box (hP2.iff (T := inK K (k + 1)) (fun p => by rw [inK_more hlt, HF.out]))
      have R2 := box (B1.out.trans (hb3.mono (Nat.le_succ _)))
      have R3 := box (C1.out.below hb3 (Nat.lt_succ_self _))
      clear hP2 hg2 hb3
      go_wp2
      go_roundw
      case rel => exact ⟨⟨k + 1, by go_num, by omega, R1, R2⟩, R3⟩
      case measure => simp [intOf]; omega
    · obtain rfl : k = K.length := by omega
      obtain ⟨⟨d0, d1, d2⟩, _⟩ := hC.out
      have P1 : Box (PSet wr (w.heap.size + 1) K.length (fun p => inK K K.length p ∧ ¬ inK L 0 p)) := box (hP.out.iff (fun p => ⟨fun h => ⟨h, inK_zero L p⟩, fun h => h.1⟩))
      obtain ⟨W, hW⟩ : ∃ W, W = wr := ⟨_, rfl⟩
      subst hW
      go_wp2
      go_loopw [26] (fun i wr => DelRel K L w i wr ∧ Box (C3 w.heap.size (.string c) (.string d) (.slice q L.length cq) wr)) (fun i _ => L.length - (intOf i).toNat)
      case atStart => exact ⟨⟨0, rfl, Nat.zero_le _, P1, hB⟩, hC⟩
      case round =>
        obtain ⟨⟨k, rfl, hk3, hP, hB⟩, hC⟩ := hrel
        have hw1 : w.heap.size + 1 < wr.heap.size := hP.out.lt
        by_cases hlt : k < L.length
        · obtain ⟨g, off, rfl, c0, c1⟩ := (hL.out.below hB.out) k hlt
          obtain ⟨s1, s2⟩ := hzL.out k hlt
          have HS := box (fold_sml s1 s2)
          have s3 : L[k].2.size ≤ 4294967296 := by omega
          have HX : Box (bs (lowL L[k].2.data.toList) = (foldP L[k]).2) := box rfl
          have H1 : Box (L[k].1 = (foldP L[k]).1) := box rfl
          obtain ⟨f, hf⟩ : ∃ f, foldP L[k] = f := ⟨_, rfl⟩
          rw [hf] at HX H1 HS
          have HF := box hf
          clear hf
          go_wp2_with fail
          refine (foldValue_any _ _ f.2 _ s3 HX).mono ?_; rintro e w1 ⟨rfl, hb1⟩
          rw [H1.out]
          have hb2 := (below_new wr _).trans (hb1.mono (below_new wr _).size)
          have P2 := box (hP.out.below hb2 hP.out.lt)
          have C1 := box (hC.out.next hb2)
          have B1 := box (hB.out.trans (hb2.mono hB.out.size))
          have z1 : w.heap.size + 1 ≤ w1.heap.size := by have := hb2.size; omega
          clear hb1 hb2
          go_wp2_with (first | (at_delete; refine wpList_del10 rfl _ _ rfl P2.out HS.out rfl rfl ?_; intro w2 hP2 hg2) | go_in)
          have hb3 : Below (w.heap.size + 1) w1 w2 := (Below.refl _ _).grown hg2 z1 (fun k hk => by cases hk; exact Nat.le_refl _)
          have R1 := box (hP2.iff (T := fun p => inK K K.length p ∧ ¬ inK L (k + 1) p) (fun p => by
            rw [inK_more hlt, HF.out]
            constructor
            · rintro ⟨⟨q1, q2⟩, q3⟩; exact ⟨q1, fun h => h.elim q2 q3⟩
            · rintro ⟨q1, q2⟩; exact ⟨⟨q1, fun h => q2 (.inl h)⟩, fun h => q2 (.inr h)⟩))
          have R2 := box (B1.out.trans (hb3.mono (Nat.le_succ _)))
          have R3 := box (C1.out.below hb3 (Nat.lt_succ_self _))
          clear hP2 hg2 hb3
          go_wp2
          go_roundw
          case rel => exact ⟨⟨k + 1, by go_num, by omega, R1, R2⟩, R3⟩
          case measure => simp [intOf]; omega
        · obtain rfl : k = L.length := by omega
          go_wp2_with (first | (at_len; refine wpList_len10 rfl _ rfl hP.out rfl ?_; intro n hn) | go_in)
          have HN := box hn
          clear hn
          go_ret
          refine ⟨?_, hB.out⟩
          have e : n = 0 ↔ z = true := by
            rw [HN.out, show (z = true ↔ ∀ p, inK K K.length p → inK L L.length p) from hz.out]
            constructor
            · intro h p hp
              by_cases hh : inK L L.length p
              · exact hh
              · exact absurd ⟨hp, hh⟩ (h p (inK_sml hzK.out hp))
            · rintro h p _ ⟨h1, h2⟩
              exact h2 (h p h1)
          cases z
          · have : n ≠ 0 := fun h => by have := e.1 h; cases this
            simp [this]
          · have := e.2 rfl
            simp [this]
end
end Go.Proofs.YtnpllgjkbpnimaaGreatDoor.Asc
