/- Merged texts: LstOpen LstFil LstGet LstSame EtaMem EtaRef EtaRef2. -/
import Derived.Test.YtiogngfemelifaaGreatDoorZs03
import Derived.Test.YtiogngfemelifaaGreatDoorZs04
import Derived.BigQuiet
import Derived.Carry
import Derived.Deep.QuietTactic
import Derived.Deep.RegionHeld3
import Derived.Deep.SlicePairs
import Derived.Lib.SmallJoins
import Derived.ProofKit
import Derived.RegionTactic
set_option linter.unusedVariables false
set_option linter.unusedSimpArgs false
set_option maxRecDepth 100000
namespace Go.Proofs.YtiogngfemelifaaGreatDoor.Asc
section
open Go.RowKit Go.ChangeShapes Go.WideShapes Go.Deep
def strOf : Value → ByteArray
  | .string s => s
  | _ => ByteArray.empty
theorem laid : laidOutB Tryz.prog = true := by kernel_rfl
theorem open_fields {H : Type} {enc : TypeId × Value → H} {W : World} {base : Nat} {sp : Nat → Bool} {held : Bool} {r : Reach} {b0 : Nat} {v : Value} {d : DataW H} {p : List MemPlace}
    (hval : Value.okWide Tryz.prog W r b0 22 v) (h : DataW.Trod enc Tryz.prog W base sp held 22 v d p) :
    ∃ (a : Option Addr) (cap : Nat) (L : List F), v = .slice a L.length cap ∧ L.length ≤ maxLen ∧ Fs W a L ∧ L.length ≤ cap := by
  obtain ⟨a0, len, cap, rfl⟩ := okWide_slice Tryz.underlying22 hval
  obtain ⟨fuel, hf⟩ := h
  rcases open_slice_pairs Tryz.underlying22 Tryz.underlying43 (by kernel_rfl) rfl rfl (by kernel_rfl) (by kernel_rfl) hf with ⟨hcs, hx⟩ | ⟨a, len', cap', m, n, V0, V1, D0, D1, P0, P1, hcs, _, hl, hm, hmm, hx, hi⟩
  · simp [Value.cells] at hcs
    obtain ⟨rfl, rfl, rfl⟩ := hcs
    exact ⟨none, 0, [], rfl, Nat.zero_le _, fun i hi => absurd hi (by simp), Nat.le_refl _⟩
  · simp [Value.cells] at hcs
    obtain ⟨rfl, rfl, rfl⟩ := hcs
    have hlm : len ≤ m := by rw [hmm]; split <;> omega
    refine ⟨some a, cap, (List.range len).map fun i => (strOf (V0 i), strOf (V1 i)), by simp, by simp; omega, fun i hi2 => ?_, by simp; omega⟩
    have hil : i < len := by simpa using hi2
    obtain ⟨g, off, spot⟩ := a
    obtain ⟨z0, _, _, _⟩ := hi 0 (by omega)
    have hspot : spot = none := by simpa [Addr.add] using World.cell?_spot z0
    subst hspot
    obtain ⟨k0, k1, t0, t1⟩ := hi i (by omega)
    obtain ⟨s0, e0, _, _⟩ := DataW.trod_string Tryz.underlying9 t0
    obtain ⟨s1, e1, _, _⟩ := DataW.trod_string Tryz.underlying9 t1
    rw [add_plain] at k0 k1
    simp at e0 e1
    refine ⟨g, off, rfl, ?_, ?_⟩
    · rw [k0, e0]; simp [strOf, e0]
    · rw [← Nat.add_assoc] at k1
      rw [k1, e1]; simp [strOf, e1]
end
section
open Go.RowKit
theorem filter_more {p : F → Bool} {L : List F} {k : Nat} (h : k < L.length) : (L.take (k + 1)).filter p = (L.take k).filter p ++ (if p L[k] then [L[k]] else []) := by
  rw [take_next h, List.filter_append]; simp [List.filter_cons]
theorem filter_le {p : F → Bool} {L : List F} {k : Nat} : ((L.take k).filter p).length ≤ L.length := by
  have h1 := List.length_filter_le p (L.take k)
  have h2 : (L.take k).length ≤ L.length := by rw [List.length_take]; omega
  omega
/-- what a function value answers, in every world in which what it has captured still lies -/
def Ans (f : FuncId) (c : Value) (p : F → Bool) (J : World → Prop) : Prop :=
  ∀ (n v : ByteArray) (w : World), J w → n.size ≤ 65536 → Calls Tryz.prog f #[.agg #[.string n, .string v], c] w fun e w' => e = .returned (.bool (p (n, v))) ∧ Below w.heap.size w w'
set_option maxHeartbeats 800000 in
theorem filterN_any (a : Option Addr) (cap : Nat) (L : List F) (c : Option Addr) (p : F → Bool) (J : World → Prop) (w : World) (hl : L.length ≤ 65536) (S : Box (Sm L)) (hF : Box (Fs w a L))
    (hA : Box (Ans 69 (.pointer c) p J)) (hJ : Box (∀ w', Below w.heap.size w w' → J w')) :
    Calls Tryz.prog 90 #[.slice a L.length cap, .func (.func 69) #[] #[.pointer c]] w fun e w' => ∃ v, e = .returned v ∧ OwnF w' w.heap.size v (L.filter p) ∧ Below w.heap.size w w' := by
  go_enter Tryz.func90, Tryz.ntmps90
  go_wp2
  go_loopw [5, 10] (fun v i wr => ∃ k : Nat, k ≤ L.length ∧ i = .int .i64 k ∧ OwnF wr w.heap.size v ((L.take k).filter p) ∧ Below w.heap.size w wr) (fun _ i _ => L.length - (intOf i).toNat)
  case atStart => exact ⟨0, Nat.zero_le _, rfl, OwnF.nil _ _, Below.refl _ _⟩
  case round =>
    obtain ⟨k, hk, rfl, hO, hbel⟩ := hrel
    by_cases hlt : k < L.length
    · obtain ⟨q, off, rfl, c0, c1⟩ := (hF.out.below hbel) k hlt
      have B1 := box ((S.out.2 k hlt).1)
      have O := box hO
      have BL := box hbel
      clear hO hbel
      go_wp2_with fail
      refine (hA.out L[k].1 L[k].2 _ (hJ.out _ (BL.out.alloc BL.out.size _)) B1.out).mono ?_; rintro e w1 ⟨rfl, hb1⟩
      obtain ⟨f0, f1, _, _⟩ := (Fld.new L[k].1 L[k].2 _ 43).below hb1 (by simp)
      have O1 := box (own_below (own_below O.out (below_new _ _)) hb1)
      have BL1 := box ((BL.out.alloc BL.out.size _).trans (hb1.mono (BL.out.alloc BL.out.size _).size))
      have hbs := BL1.out.size
      clear hb1 c0 c1
      rcases hp : p (L[k].1, L[k].2) with _ | _
      · go_wp2
        go_roundw
        case rel => exact ⟨k + 1, by omega, by go_num, by rw [filter_more hlt, if_neg (by rw [show p L[k] = false from hp]; simp), List.append_nil]; exact O1.out, BL1.out⟩
        case measure => simp [intOf]; omega
      · go_wp2_with (at_builtin; refine wpList_append_fld _ rfl (.tmp 17) (.tmp 19) rfl w.heap.size _ ((L.take k).filter p) rfl (own_below O1.out (below_new _ _)) _ _ rfl L[k].1 L[k].2 (by go_simp) (by go_simp) (Nat.le_trans filter_le hl) (by simp; omega) ?_; intro v' w2 hO2 hb2)
        go_roundw
        case rel => exact ⟨k + 1, by omega, by go_num, by rw [filter_more hlt, if_pos (show p L[k] = true from hp)]; exact hO2, (BL1.out.alloc BL1.out.size _).trans hb2⟩
        case measure => simp [intOf]; omega
    · have e : k = L.length := by omega
      subst e
      rw [List.take_length] at hO
      go_wp2
      go_ret
      exact ⟨_, rfl, hO, hbel⟩
end
section
open Go.RowKit
theorem ans_named (g : Nat) (nm : ByteArray) (M : Box (nm.size ≤ 65536)) : Ans 69 (.pointer (some ⟨g, 0, none⟩)) (nmd nm) (Nm g nm) :=
  fun n v w h hn => clo_any g nm n v w (box hn) M (box h)
set_option maxHeartbeats 800000 in
theorem Get_any (a : Option Addr) (cap : Nat) (L : List F) (nm : ByteArray) (w : World) (hl : L.length ≤ 65536) (S : Box (Sm L)) (M : Box (nm.size ≤ 65536)) (hF : Box (Fs w a L)) :
    Calls Tryz.prog 59 #[.slice a L.length cap, .string nm] w fun e w' => ∃ v, e = .returned v ∧ OwnS w' w.heap.size v (getL nm L) ∧ Below w.heap.size w w' := by
  go_enter Tryz.func59, Tryz.ntmps59
  go_wp2_with fail
  refine (named_any nm _).mono ?_; rintro e w1 ⟨rfl, rfl⟩
  unfold nmV
  go_wp2_with fail
  refine (filterN_any a cap L _ (nmd nm) (Nm w.heap.size nm) (w.alloc (.cells #[.string nm] 9)) hl S (box (hF.out.below (below_new _ _))) (box (ans_named _ nm M)) (box (fun w' hb => (Nm.new nm w _).below hb))).mono ?_
  rintro e w2 ⟨v, rfl, hO, hb2⟩
  obtain ⟨K, hK⟩ : ∃ K, L.filter (nmd nm) = K := ⟨_, rfl⟩
  have HG : Box (getL nm L = K.map (·.2)) := box (by unfold getL; rw [hK])
  rw [hK] at hO
  obtain ⟨a2, cap2, rfl, hfs, hcl⟩ := hO.fs
  have FS := box hfs
  have b2 := box ((below_new w _).trans (hb2.mono (below_new w _).size))
  have hKl : K.length ≤ 65536 := by rw [← hK]; exact Nat.le_trans (List.length_filter_le _ _) hl
  clear hb2 hO hfs hK hcl
  go_wp2
  go_loopw [5, 13] (fun v i wr => ∃ k : Nat, k ≤ K.length ∧ i = .int .i64 k ∧ OwnS wr w2.heap.size v ((K.take k).map (·.2)) ∧ Below w2.heap.size w2 wr) (fun _ i _ => K.length - (intOf i).toNat)
  case atStart => exact ⟨0, Nat.zero_le _, rfl, OwnS.nil _ _, Below.refl _ _⟩
  case round =>
    obtain ⟨k, hk, rfl, hO, hbel2⟩ := hrel
    by_cases hlt : k < K.length
    · obtain ⟨q, off, rfl, c0, c1⟩ := (FS.out.below hbel2) k hlt
      have O := box hO
      have BL2 := box hbel2
      have hbs := hbel2.size
      clear hO hbel2
      go_wp2_with (at_builtin; refine wpList_append_str _ rfl (.tmp 17) (.tmp 20) rfl w2.heap.size _ ((K.take k).map (·.2)) rfl ?a1 _ _ rfl K[k].2 ?b1 ?c1 ?d1 ?_)
      case a1 => exact own_below (own_below O.out (below_new _ _)) (below_new _ _)
      case b1 => go_simp
      case c1 => rw [List.length_map, List.length_take]; omega
      case d1 => simp; omega
      intro v' w3 hO2 hb2
      have hO3 := box hO2
      clear hO2
      go_wp2
      go_roundw
      case rel => exact ⟨k + 1, by omega, by go_num, by rw [take_next hlt, List.map_append]; simpa using hO3.out, ((BL2.out.alloc BL2.out.size _).alloc (by simp; omega) _).trans hb2⟩
      case measure => simp [intOf]; omega
    · have e : k = K.length := by omega
      subst e
      rw [List.take_length] at hO
      go_wp2
      go_ret
      exact ⟨_, rfl, by rw [HG.out]; exact Go.Joins.ownsRow_le hO b2.out.size, b2.out.trans (hbel2.mono b2.out.size)⟩
theorem get_more {nm : ByteArray} {L : List F} {k : Nat} (h : k < L.length) : getL nm (L.take (k + 1)) = getL nm (L.take k) ++ (if nmd nm L[k] then [L[k].2] else []) := by
  unfold getL; rw [filter_more h, List.map_append]; split <;> rfl
theorem get_le {nm : ByteArray} {L : List F} {k : Nat} : (getL nm (L.take k)).length ≤ L.length := by
  unfold getL; rw [List.length_map]; exact filter_le
theorem small_4g {s : ByteArray} (h : s.size ≤ 65536) : s.size ≤ 4294967296 := by omega
set_option maxHeartbeats 800000 in
theorem rGet_any (a : Option Addr) (cap : Nat) (L : List F) (nm : ByteArray) (w : World) (hl : L.length ≤ 65536) (S : Box (Sm L)) (M : Box (nm.size ≤ 65536)) (hF : Box (Fs w a L)) :
    Calls Tryz.prog 49 #[.slice a L.length cap, .string nm] w fun e w' => ∃ v, e = .returned v ∧ OwnS w' w.heap.size v (getL nm L) ∧ Below w.heap.size w w' := by
  go_enter Tryz.func49, Tryz.ntmps49
  go_wp2
  go_loopw [5, 6] (fun v i wr => ∃ k : Nat, k ≤ L.length ∧ i = .int .i64 k ∧ OwnS wr w.heap.size v (getL nm (L.take k)) ∧ Below w.heap.size w wr) (fun _ i _ => L.length - (intOf i).toNat)
  case atStart => exact ⟨0, Nat.zero_le _, rfl, OwnS.nil _ _, Below.refl _ _⟩
  case round =>
    obtain ⟨k, hk, rfl, hO, hbel⟩ := hrel
    by_cases hlt : k < L.length
    · obtain ⟨q, off, rfl, c0, c1⟩ := (hF.out.below hbel) k hlt
      have B1 := box ((S.out.2 k hlt).1)
      have O := box hO
      have BL := box hbel
      clear hO hbel
      go_wp2_with fail
      refine (rFold_any L[k].1 nm _ (small_4g B1.out) (small_4g M.out)).mono ?_; rintro e w1 ⟨rfl, hb1⟩
      have c2 := hb1.cell (p := ⟨q, off + k * 2 + 1, none⟩) (cell_lt c1)
      have O1 := box (own_below O.out hb1)
      have BL1 := box (BL.out.trans (hb1.mono BL.out.size))
      have hbs := BL1.out.size
      rw [c1] at c2
      clear hb1 c0 c1
      rcases hp : nmd nm L[k] with _ | _
      · rw [show foldL L[k].1.data.toList nm.data.toList = false from hp]
        have HP := box hp
        clear hp
        go_wp2
        go_roundw
        case rel => exact ⟨k + 1, by omega, by go_num, by rw [get_more hlt, HP.out, if_neg (by simp), List.append_nil]; exact O1.out, BL1.out⟩
        case measure => simp [intOf]; omega
      · rw [show foldL L[k].1.data.toList nm.data.toList = true from hp]
        have HP := box hp
        clear hp
        go_wp2_with (at_builtin; refine wpList_append_str _ rfl (.tmp 20) (.tmp 26) rfl w.heap.size _ (getL nm (L.take k)) rfl ?a1 _ _ rfl L[k].2 ?b1 ?c1 ?d1 ?_)
        case a1 => exact own_below O1.out (below_new _ _)
        case b1 => go_simp
        case c1 => exact Nat.le_trans get_le hl
        case d1 => simp; omega
        intro v' w3 hO2 hb2
        have O2 := box hO2
        clear hO2
        go_wp2
        go_roundw
        case rel => exact ⟨k + 1, by omega, by go_num, by rw [get_more hlt, HP.out]; exact O2.out, (BL1.out.alloc BL1.out.size _).trans hb2⟩
        case measure => simp [intOf]; omega
    · have e : k = L.length := by omega
      subst e
      rw [List.take_length] at hO
      go_wp2
      go_ret
      exact ⟨_, rfl, hO, hbel⟩
theorem get_any {nm : ByteArray} {L : List F} : decide (0 < (getL nm L).length) = L.any (nmd nm) := by
  rcases idx_ways nm L with ⟨_, h⟩ | ⟨k, hk, _, ha, h1⟩
  · rw [get_none h, h]; rfl
  · rw [get_at hk ha h1, List.any_eq_true.mpr ⟨L[k], List.getElem_mem hk, h1⟩]; simp
theorem rHas_any (a : Option Addr) (cap : Nat) (L : List F) (nm : ByteArray) (w : World) (hl : L.length ≤ 65536) (S : Box (Sm L)) (M : Box (nm.size ≤ 65536)) (hF : Box (Fs w a L)) :
    Calls Tryz.prog 26 #[.slice a L.length cap, .string nm] w fun e w' => e = .returned (.bool (L.any (nmd nm))) ∧ Below w.heap.size w w' := by
  go_enter Tryz.func26, Tryz.ntmps26
  go_wp2_with fail
  refine (rGet_any a cap L nm _ hl S M hF).mono ?_; rintro e w1 ⟨v, rfl, hO, hb⟩
  obtain ⟨a2, cap2, rfl, hS, hc⟩ := hO.ss
  clear hO hS hc
  go_wp2
  go_ret
  exact ⟨ret_bool (by rw [← get_any]), hb⟩
theorem rFirst_any (a : Option Addr) (cap : Nat) (L : List F) (nm : ByteArray) (w : World) (hl : L.length ≤ 65536) (S : Box (Sm L)) (M : Box (nm.size ≤ 65536)) (hF : Box (Fs w a L)) :
    Calls Tryz.prog 56 #[.slice a L.length cap, .string nm] w fun e w' => e = .returned (firstV nm L) ∧ Below w.heap.size w w' := by
  unfold firstV
  rcases hg : getL nm L with _ | ⟨u, R⟩
  · have HG := box hg
    clear hg
    go_enter Tryz.func56, Tryz.ntmps56
    go_wp2_with fail
    refine (rGet_any a cap L nm _ hl S M hF).mono ?_; rintro e w1 ⟨v, rfl, hO, hb⟩
    obtain ⟨a2, cap2, rfl, hS, hc⟩ := hO.ss
    rw [HG.out] at hc ⊢
    clear hO hS
    go_wp2
    go_ret2
    exact ⟨rfl, hb⟩
  · have HG := box hg
    clear hg
    go_enter Tryz.func56, Tryz.ntmps56
    go_wp2_with fail
    refine (rGet_any a cap L nm _ hl S M hF).mono ?_; rintro e w1 ⟨v, rfl, hO, hb⟩
    obtain ⟨a2, cap2, rfl, hS, hc⟩ := hO.ss
    rw [HG.out] at hS ⊢
    obtain ⟨q, off, rfl, c0⟩ := hS 0 (by simp)
    simp only [List.getElem_cons_zero, Nat.add_zero] at c0
    clear hO hS hc
    go_wp2
    go_ret2
    exact ⟨rfl, hb⟩
end
section
open Go.RowKit
theorem str_eq {a b : ByteArray} (h : (a.toList == b.toList) = true) : a = b := by
  rw [toList_data, toList_data] at h
  rw [bs_of a, bs_of b, eq_of_beq h]
end
section
open Go.RowKit Go.ChangeShapes Go.WideShapes Go.Deep
/-- two values lie at the block's start, and may be written -/
def T2 (g : Nat) (c0 c1 : Value) (w : World) : Prop :=
  (w.cell? ⟨g, 0, none⟩ = some c0 ∧ w.cell? ⟨g, 1, none⟩ = some c1) ∧ (w.frozen? ⟨g, 0, none⟩ = false ∧ w.frozen? ⟨g, 1, none⟩ = false)
section
variable {g B : Nat} {c0 c1 : Value} {w w' : World}
theorem T2.new (c0 c1 : Value) (w : World) (t : TypeId) : T2 w.heap.size c0 c1 (w.alloc (.cells #[c0, c1] t)) := by
  refine ⟨⟨?_, ?_⟩, ⟨?_, ?_⟩⟩
  all_goals first
    | (rw [World.cell?_alloc_mark]; rfl)
    | exact World.frozen?_alloc_at _ _ _ _ rfl
theorem T2.below (f : T2 g c0 c1 w) (hb : Below B w w') (hg : g < B) : T2 g c0 c1 w' := by
  obtain ⟨⟨h0, h1⟩, ⟨f0, f1⟩⟩ := f
  exact ⟨⟨(hb.cell hg).trans h0, (hb.cell hg).trans h1⟩, ⟨(hb.frozen hg).trans f0, (hb.frozen hg).trans f1⟩⟩
theorem T2.lt (f : T2 g c0 c1 w) : g < w.heap.size := cell_lt (p := ⟨g, 0, none⟩) f.1.1
theorem T2.next (f : T2 g c0 c1 w) (hb : Below w.heap.size w w') : T2 g c0 c1 w' := f.below hb f.lt
end
theorem set2_below {w w1 : World} {g : Nat} (h : Below w.heap.size w w1) (hg : w.heap.size ≤ g) (v0 v1 : Value) : Below w.heap.size w ((w1.setCell ⟨g, 0, none⟩ v0).setCell ⟨g, 1, none⟩ v1) :=
  (h.setCell (p := ⟨g, 0, none⟩) hg v0).setCell (p := ⟨g, 1, none⟩) hg v1
/-- tags at an address -/
def Es (w : World) (a : Option Addr) (L : List ET) : Prop :=
  ∀ i (h : i < L.length), ∃ g off, a = some ⟨g, off, none⟩ ∧ w.cell? ⟨g, off + i * 2, none⟩ = some (.bool L[i].1) ∧ w.cell? ⟨g, off + i * 2 + 1, none⟩ = some (.string L[i].2)
theorem Es.below {w w' : World} {a : Option Addr} {L : List ET} (h : Es w a L) (hb : Below w.heap.size w w') : Es w' a L := fun i hi => by
  obtain ⟨g, off, e, c0, c1⟩ := h i hi
  exact ⟨g, off, e, (hb.cell (cell_lt c0)).trans c0, (hb.cell (cell_lt c1)).trans c1⟩
def cellsE (L : List ET) : List Value := L.flatMap fun p => [.bool p.1, .string p.2]
def OwnE (w : World) (B : Nat) (v : Value) (L : List ET) : Prop := w.ownsRow B 45 2 v L.length (cellsE L)
section
variable {w w' : World} {B : Nat} {v : Value}
theorem OwnE.nil (w : World) (B : Nat) : OwnE w B (.slice none 0 0) [] := World.ownsRow_nil _ _ _ _
end
end
section
open Go.RowKit
theorem tagI_no {b : Int} (h : tagI b = false) : b < 33 ∨ (¬ b < 33 ∧ b = 34) ∨ (¬ b < 33 ∧ b ≠ 34 ∧ b = 127) := by
  have h2 : ¬ (32 < b ∧ b ≠ 34 ∧ b ≠ 127) := by simpa [tagI] using h
  omega
theorem tagI_yes {b : Int} (h : tagI b = true) : ¬ b < 33 ∧ b ≠ 34 ∧ b ≠ 127 := by
  have h2 : 32 < b ∧ b ≠ 34 ∧ b ≠ 127 := by simpa [tagI] using h
  omega
theorem tagT_not {s : ByteArray} {k : Nat} (hk : k < s.size) (hp : tagI (s[k].toNat) = false) : tagT s.data.toList = false := all_not hk hp
theorem tagT_end {s : ByteArray} {k : Nat} (h : allI tagI (s.data.toList.take k) = true) (hk : s.size ≤ k) : tagT s.data.toList = true := all_end h hk
theorem rTagX_any (s : ByteArray) (w : World) (hs : s.size ≤ maxLen) :
    Calls Tryz.prog 87 #[.string s] w fun e w' => e = .returned (.bool (tagT s.data.toList)) ∧ w = w' := by
  unfold maxLen at hs
  go_enter Tryz.func87, Tryz.ntmps87
  go_wp2
  go_loop [3] (fun i => ∃ k : Nat, k ≤ s.size ∧ i = .int .i64 k ∧ allI tagI (s.data.toList.take k) = true) (fun i => s.size - (intOf i).toNat)
  case atStart => exact ⟨0, Nat.zero_le _, rfl, rfl⟩
  case round =>
    obtain ⟨k, hk, rfl, hall⟩ := hrel
    by_cases hlt : k < s.size
    · have hb := byte_bd s k hlt
      rcases hp : tagI (s[k].toNat) with _ | _
      · have HP := Lib.hid hp
        have hq := tagI_no hp
        have HA := Lib.hid hall
        clear hp hall
        rcases hq with hq | ⟨h1, hq⟩ | ⟨h1, h2, hq⟩
        · go_wp2
          go_ret
          exact ⟨ret_bool (tagT_not hlt HP.out).symm, rfl⟩
        · have e1 : ((s[k].toNat : Int) == 34) = true := by rw [beq_iff_eq]; exact hq
          clear hq
          go_wp2
          go_ret
          exact ⟨ret_bool (tagT_not hlt HP.out).symm, rfl⟩
        · have e1 : ((s[k].toNat : Int) == 34) = false := by rw [beq_eq_false_iff_ne]; exact h2
          have e2 : ((s[k].toNat : Int) == 127) = true := by rw [beq_iff_eq]; exact hq
          clear hq h2
          go_wp2
          go_ret
          exact ⟨ret_bool (tagT_not hlt HP.out).symm, rfl⟩
      · obtain ⟨h1, h2, h3⟩ := tagI_yes hp
        have HA := Lib.hid (all_more hall hlt hp)
        have e1 : ((s[k].toNat : Int) == 34) = false := by rw [beq_eq_false_iff_ne]; exact h2
        have e2 : ((s[k].toNat : Int) == 127) = false := by rw [beq_eq_false_iff_ne]; exact h3
        clear hp hall h2 h3
        go_wp2
        go_round
        case rel => exact ⟨k + 1, by omega, by go_num, HA.out⟩
        case measure => simp [intOf]; omega
    · go_wp2
      go_ret
      exact ⟨ret_bool (tagT_end hall (by omega)).symm, rfl⟩
theorem rTagX_is {s : ByteArray} {b : Bool} {w : World} (hs : s.size ≤ 65536) (h : Box (tagT s.data.toList = b)) :
    Calls Tryz.prog 87 #[.string s] w fun e w' => e = .returned (.bool b) ∧ w = w' :=
  (rTagX_any s w (by unfold maxLen; omega)).mono fun e w' ⟨h1, h2⟩ => ⟨by rw [h1, h.out], h2⟩
end
section
open Go.RowKit
/-- the results of reading a tag -/
def tgV : Option ET → Value
  | none => .tuple #[.agg #[.bool false, .string ⟨#[]⟩], .bool false]
  | some e => .tuple #[.agg #[.bool e.1, .string e.2], .bool true]
theorem slice_two {s x : ByteArray} (h : 2 ≤ s.size) (hx : s.extract 2 s.size = x) (w : World) : (Instr.slice 9 (.string s) (some (.int .i64 2)) none none).run Tryz.prog w = .ok (.string x) w := by
  have h2 : (2 : Int) ≤ (s.size : Int) := by omega
  subst hx
  simp [Instr.slice, Instr.sliceBounds, Instr.sliceBound, run_underlying Tryz.underlying9, asIntOf, Result.andThen, h2]
theorem slice_one {s x : ByteArray} {p : Nat} (h : 1 ≤ p) (hp : p ≤ s.size) (hx : s.extract 1 p = x) (w : World) : (Instr.slice 9 (.string s) (some (.int .i64 1)) (some (.int .i64 (p : Int))) none).run Tryz.prog w = .ok (.string x) w := by
  have h0 : (0 : Int) ≤ (p : Int) := by omega
  have h1 : (1 : Int) ≤ (p : Int) := by omega
  have h2 : (p : Int) ≤ (s.size : Int) := by omega
  subst hx
  simp [Instr.slice, Instr.sliceBounds, Instr.sliceBound, run_underlying Tryz.underlying9, asIntOf, Result.andThen, h0, h1, h2, h, hp]
theorem tagOf_list {l : List UInt8} {p : Nat} (hp : l.length = p + 1) (h1 : 1 ≤ p) : tagOf l = if l[0]'(by omega) = 34 ∧ l[p]'(by omega) = 34 ∧ tagT ((l.take p).drop 1) = true then some ((l.take p).drop 1) else none := by
  rcases l with _ | ⟨c, r⟩
  · simp at hp
  · have hr : r.length = p := by simpa using hp
    have q1 : r.getLast? = some (r[p - 1]'(by omega)) := by
      rw [List.getLast?_eq_getElem?, show r.length - 1 = p - 1 from by omega]
      exact List.getElem?_eq_getElem (by omega)
    have q2 : ((c :: r).take p).drop 1 = r.dropLast := by
      rw [List.dropLast_eq_take, hr]
      obtain ⟨q, rfl⟩ : ∃ q, p = q + 1 := ⟨p - 1, by omega⟩
      simp
    have q3 : (c :: r)[p]'(by simp; omega) = r[p - 1]'(by omega) := by
      obtain ⟨q, rfl⟩ : ∃ q, p = q + 1 := ⟨p - 1, by omega⟩
      simp
    rw [tagOf_cons, q1, q2, q3]
    simp
theorem tagOf_at {x : ByteArray} {p : Nat} (hp : x.size = p + 1) (h1 : 1 ≤ p) : tagOf x.data.toList = if x[0]'(by omega) = 34 ∧ x[p]'(by omega) = 34 ∧ tagT (x.extract 1 p).data.toList = true then some (x.extract 1 p).data.toList else none := by
  rw [ext_bs, bs_toList]
  exact tagOf_list (l := x.data.toList) (by simp; exact hp) h1
theorem parE_w {s x : ByteArray} (hx : s.extract 2 s.size = x) (h : s.data.toList.take 2 = [87, 47]) : parE s.data.toList = (tagOf x.data.toList).map fun t => (true, bs t) := by
  unfold parE
  rw [if_pos h, ← hx, ext_bs, bs_toList, List.take_of_length_le (by simp)]
theorem parE_s {s : ByteArray} (h : s.size ≤ 2 ∨ s.data.toList.take 2 ≠ [87, 47]) : parE s.data.toList = (tagOf s.data.toList).map fun t => (false, bs t) := by
  unfold parE
  by_cases e : s.data.toList.take 2 = [87, 47]
  · have hz : s.data.toList.length = s.size := by simp
    have h2 : s.size ≤ 2 := h.resolve_right (fun q => q e)
    have e2 : s.data.toList = [87, 47] := by rw [← e, List.take_of_length_le (by omega)]
    rw [e2]; rfl
  · rw [if_neg e]
theorem take_two21 {s : ByteArray} {b : Bool} (h : ((s.extract 0 2).toList == [87, 47]) = b) : (s.data.toList.take 2 = [87, 47]) ↔ b = true := by
  rw [← h, beq_iff_eq, toList_data, ext_bs, bs_toList, List.drop_zero]
theorem below2_drew (w : World) (a b : Obj) : Below w.heap.size w ((w.alloc a).alloc b).drew :=
  ((below_new w a).alloc (below_new w a).size b).trans ((below_drewN _ 1).mono ((below_new w a).alloc (below_new w a).size b).size)
set_option maxHeartbeats 1000000 in
theorem rParE_short (s : ByteArray) (w : World) (h : s.size < 2) :
    Calls Tryz.prog 57 #[.string s] w fun e w' => e = .returned (tgV (parE s.data.toList)) ∧ Below w.heap.size w w' := by
  have HE : Box (parE s.data.toList = none) := box (by rw [parE_s (.inl (by omega)), tagOf_short (by simpa using h)]; rfl)
  have h1 : ¬ (2 : Int) < (s.size : Int) := by omega
  have h2 : (s.size : Int) < 2 := by omega
  obtain ⟨⟨r0, r1⟩, ⟨f0, f1⟩⟩ := (T2.new (.bool false) (.string ⟨#[]⟩) w 45).next (below_new _ (.cells #[.bool false, .string ⟨#[]⟩] 45))
  go_enter Tryz.func57, Tryz.ntmps57
  go_wp2
  (try simp only [Exit.inBlock, Exit.then])
  refine bodyPost_ret (v := tgV none) (by rw [results_cell_tmp rfl]; go_simp; rfl) rfl ?_
  exact ⟨by rw [HE.out], (below_new _ _).alloc (below_new _ _).size _⟩
set_option maxHeartbeats 4000000 in
theorem rParE_w (s : ByteArray) (w : World) (hs : s.size ≤ 65000) (hz : 2 < s.size) (hcm : ((s.extract 0 2).toList == [87, 47]) = true) (x : ByteArray) (hx : s.extract 2 s.size = x) :
    Calls Tryz.prog 57 #[.string s] w fun e w' => e = .returned (tgV (parE s.data.toList)) ∧ Below w.heap.size w w' := by
  have hpar : parE s.data.toList = (tagOf x.data.toList).map fun t => (true, bs t) := by rw [parE_w hx ((take_two21 hcm).mpr rfl)]
  have hxz : x.size = s.size - 2 := by rw [← hx]; simp
  by_cases h2 : x.size < 2
  · have HE : Box (parE s.data.toList = none) := box (by rw [hpar, tagOf_short (by simpa using h2)]; rfl)
    have hg : (2 : Int) < (s.size : Int) := by omega
    have hsl := slice_two (s := s) (x := x) (by omega) hx
    have h3 : (x.size : Int) < 2 := by omega
    obtain ⟨⟨r0, r1⟩, ⟨f0, f1⟩⟩ := (T2.new (.bool false) (.string ⟨#[]⟩) w 45).next (below_new _ (.cells #[.bool false, .string ⟨#[]⟩] 45))
    obtain ⟨⟨r2, r3⟩, ⟨f2, f3⟩⟩ := T2.new (.bool false) (.string ⟨#[]⟩) (w.alloc (.cells #[.bool false, .string ⟨#[]⟩] 45)) 45
    clear hpar hx hxz
    go_enter Tryz.func57, Tryz.ntmps57
    go_wp2
    go_region
    all_goals
      go_wp2
      (try simp only [Exit.inBlock, Exit.then])
      refine bodyPost_ret (v := tgV none) (by rw [results_cell_tmp rfl]; go_simp; rfl) rfl ?_
      exact ⟨by rw [HE.out], below2_drew _ _ _⟩
  · obtain ⟨p, hp⟩ : ∃ p, x.size = p + 1 := ⟨x.size - 1, by omega⟩
    have hp1 : 1 ≤ p := by omega
    have h0 : 0 < x.size := by omega
    have hpx : p < x.size := by omega
    have hat := tagOf_at hp hp1
    have i0 : decide ((x.size : Int) < 2) = false := by rw [decide_eq_false_iff_not]; omega
    have hpb : p ≤ 65000 := by omega
    have hpi : (x.size : Int) - 1 = (p : Int) := by omega
    have hpw : (p : Int) < (x.size : Int) := by omega
    have hp0 : (0 : Int) < (x.size : Int) := by omega
    by_cases c0 : x[0] = 34
    · have e0 : ((x[0].toNat : Int) != 34) = false := by rw [c0]; rfl
      by_cases c1 : x[p] = 34
      · have e1 : ((x[p].toNat : Int) != 34) = false := by rw [c1]; rfl
        obtain ⟨t, ht⟩ : ∃ t, x.extract 1 p = t := ⟨_, rfl⟩
        have hst := slice_one hp1 (Nat.le_of_lt hpx) ht
        have htz : t.size ≤ 65536 := by rw [← ht]; simp; omega
        rw [ht] at hat
        cases hg2 : tagT t.data.toList with
        | false =>
          have HB := box hg2
          have HE : Box (parE s.data.toList = none) := box (by rw [hpar, hat, if_neg (fun q => by rw [hg2] at q; cases q.2.2)]; rfl)
          have hg : (2 : Int) < (s.size : Int) := by omega
          have hsl := slice_two (s := s) (x := x) (by omega) hx
          clear hat c0 c1 h2 hg2 ht
          obtain ⟨⟨r0, r1⟩, ⟨f0, f1⟩⟩ := (T2.new (.bool false) (.string ⟨#[]⟩) w 45).next (below_new _ (.cells #[.bool false, .string ⟨#[]⟩] 45))
          obtain ⟨⟨r2, r3⟩, ⟨f2, f3⟩⟩ := T2.new (.bool false) (.string ⟨#[]⟩) (w.alloc (.cells #[.bool false, .string ⟨#[]⟩] 45)) 45
          clear hpar hx hxz
          clear hp
          go_enter Tryz.func57, Tryz.ntmps57
          go_wp2
          go_region
          all_goals
            go_wp2_with fail
            refine (rTagX_is htz HB).mono ?_; rintro e w1 ⟨rfl, rfl⟩
            go_wp2
            (try simp only [Exit.inBlock, Exit.then])
            refine bodyPost_ret (v := tgV none) (by rw [results_cell_tmp rfl]; go_simp; rfl) rfl ?_
            exact ⟨by rw [HE.out], below2_drew _ _ _⟩
        | true =>
          have HB := box hg2
          have HE : Box (parE s.data.toList = some (true, t)) := box (by rw [hpar, hat, if_pos ⟨c0, c1, hg2⟩]; rfl)
          have hg : (2 : Int) < (s.size : Int) := by omega
          have hsl := slice_two (s := s) (x := x) (by omega) hx
          clear hat c0 c1 h2 hg2 ht
          obtain ⟨⟨r0, r1⟩, ⟨f0, f1⟩⟩ := (T2.new (.bool false) (.string ⟨#[]⟩) w 45).next (below_new _ (.cells #[.bool false, .string ⟨#[]⟩] 45))
          obtain ⟨⟨r2, r3⟩, ⟨f2, f3⟩⟩ := T2.new (.bool false) (.string ⟨#[]⟩) (w.alloc (.cells #[.bool false, .string ⟨#[]⟩] 45)) 45
          clear hpar hx hxz
          clear hp
          go_enter Tryz.func57, Tryz.ntmps57
          go_wp2
          go_region
          all_goals
            go_wp2_with fail
            refine (rTagX_is htz HB).mono ?_; rintro e w1 ⟨rfl, rfl⟩
            go_wp2
            (try simp only [Exit.inBlock, Exit.then])
            refine bodyPost_ret (v := tgV (some (true, t))) (by rw [results_cell_tmp rfl]; go_simp; rfl) rfl ?_
            exact ⟨by rw [HE.out], below2_drew _ _ _⟩
      · have HE : Box (parE s.data.toList = none) := box (by rw [hpar, hat, if_neg (fun q => c1 q.2.1)]; rfl)
        have hg : (2 : Int) < (s.size : Int) := by omega
        have hsl := slice_two (s := s) (x := x) (by omega) hx
        have e1 : ((x[p].toNat : Int) != 34) = true := by rw [bne_iff_ne]; intro e; exact c1 (UInt8.toNat_inj.mp (by have e2 : ((34 : UInt8).toNat : Int) = 34 := rfl; omega))
        clear hat c0 c1 h2
        obtain ⟨⟨r0, r1⟩, ⟨f0, f1⟩⟩ := (T2.new (.bool false) (.string ⟨#[]⟩) w 45).next (below_new _ (.cells #[.bool false, .string ⟨#[]⟩] 45))
        obtain ⟨⟨r2, r3⟩, ⟨f2, f3⟩⟩ := T2.new (.bool false) (.string ⟨#[]⟩) (w.alloc (.cells #[.bool false, .string ⟨#[]⟩] 45)) 45
        clear hpar hx hxz
        clear hp
        go_enter Tryz.func57, Tryz.ntmps57
        go_wp2
        go_region
        all_goals
          go_wp2
          (try simp only [Exit.inBlock, Exit.then])
          refine bodyPost_ret (v := tgV none) (by rw [results_cell_tmp rfl]; go_simp; rfl) rfl ?_
          exact ⟨by rw [HE.out], below2_drew _ _ _⟩
    · have HE : Box (parE s.data.toList = none) := box (by rw [hpar, hat, if_neg (fun q => c0 q.1)]; rfl)
      have hg : (2 : Int) < (s.size : Int) := by omega
      have hsl := slice_two (s := s) (x := x) (by omega) hx
      have e0 : ((x[0].toNat : Int) != 34) = true := by rw [bne_iff_ne]; intro e; exact c0 (UInt8.toNat_inj.mp (by have e2 : ((34 : UInt8).toNat : Int) = 34 := rfl; omega))
      clear hat c0 h2
      obtain ⟨⟨r0, r1⟩, ⟨f0, f1⟩⟩ := (T2.new (.bool false) (.string ⟨#[]⟩) w 45).next (below_new _ (.cells #[.bool false, .string ⟨#[]⟩] 45))
      obtain ⟨⟨r2, r3⟩, ⟨f2, f3⟩⟩ := T2.new (.bool false) (.string ⟨#[]⟩) (w.alloc (.cells #[.bool false, .string ⟨#[]⟩] 45)) 45
      clear hpar hx hxz
      clear hp
      go_enter Tryz.func57, Tryz.ntmps57
      go_wp2
      go_region
      all_goals
        go_wp2
        (try simp only [Exit.inBlock, Exit.then])
        refine bodyPost_ret (v := tgV none) (by rw [results_cell_tmp rfl]; go_simp; rfl) rfl ?_
        exact ⟨by rw [HE.out], below2_drew _ _ _⟩
set_option maxHeartbeats 4000000 in
theorem rParE_s (s : ByteArray) (w : World) (hs : s.size ≤ 65000) (hz : 2 < s.size) (hcm : ((s.extract 0 2).toList == [87, 47]) = false) :
    Calls Tryz.prog 57 #[.string s] w fun e w' => e = .returned (tgV (parE s.data.toList)) ∧ Below w.heap.size w w' := by
  have hpar : parE s.data.toList = (tagOf s.data.toList).map fun t => (false, bs t) := by rw [parE_s (.inr (fun e => by have := (take_two21 hcm).mp e; cases this))]
  by_cases h2 : s.size < 2
  · omega
  · obtain ⟨p, hp⟩ : ∃ p, s.size = p + 1 := ⟨s.size - 1, by omega⟩
    have hp1 : 1 ≤ p := by omega
    have h0 : 0 < s.size := by omega
    have hpx : p < s.size := by omega
    have hat := tagOf_at hp hp1
    have i0 : decide ((s.size : Int) < 2) = false := by rw [decide_eq_false_iff_not]; omega
    have hpb : p ≤ 65000 := by omega
    have hpi : (s.size : Int) - 1 = (p : Int) := by omega
    have hpw : (p : Int) < (s.size : Int) := by omega
    have hp0 : (0 : Int) < (s.size : Int) := by omega
    by_cases c0 : s[0] = 34
    · have e0 : ((s[0].toNat : Int) != 34) = false := by rw [c0]; rfl
      by_cases c1 : s[p] = 34
      · have e1 : ((s[p].toNat : Int) != 34) = false := by rw [c1]; rfl
        obtain ⟨t, ht⟩ : ∃ t, s.extract 1 p = t := ⟨_, rfl⟩
        have hst := slice_one hp1 (Nat.le_of_lt hpx) ht
        have htz : t.size ≤ 65536 := by rw [← ht]; simp; omega
        rw [ht] at hat
        cases hg2 : tagT t.data.toList with
        | false =>
          have HB := box hg2
          have HE : Box (parE s.data.toList = none) := box (by rw [hpar, hat, if_neg (fun q => by rw [hg2] at q; cases q.2.2)]; rfl)
          have hg : (2 : Int) < (s.size : Int) := by omega
          clear hat c0 c1 h2 hg2 ht
          obtain ⟨⟨r0, r1⟩, ⟨f0, f1⟩⟩ := (T2.new (.bool false) (.string ⟨#[]⟩) w 45).next (below_new _ (.cells #[.bool false, .string ⟨#[]⟩] 45))
          obtain ⟨⟨r2, r3⟩, ⟨f2, f3⟩⟩ := T2.new (.bool false) (.string ⟨#[]⟩) (w.alloc (.cells #[.bool false, .string ⟨#[]⟩] 45)) 45
          clear hpar
          clear hp
          go_enter Tryz.func57, Tryz.ntmps57
          go_wp2_with fail
          refine (rTagX_is htz HB).mono ?_; rintro e w1 ⟨rfl, rfl⟩
          go_wp2
          (try simp only [Exit.inBlock, Exit.then])
          refine bodyPost_ret (v := tgV none) (by rw [results_cell_tmp rfl]; go_simp; rfl) rfl ?_
          exact ⟨by rw [HE.out], (below_new _ _).alloc (below_new _ _).size _⟩
        | true =>
          have HB := box hg2
          have HE : Box (parE s.data.toList = some (false, t)) := box (by rw [hpar, hat, if_pos ⟨c0, c1, hg2⟩]; rfl)
          have hg : (2 : Int) < (s.size : Int) := by omega
          clear hat c0 c1 h2 hg2 ht
          obtain ⟨⟨r0, r1⟩, ⟨f0, f1⟩⟩ := (T2.new (.bool false) (.string ⟨#[]⟩) w 45).next (below_new _ (.cells #[.bool false, .string ⟨#[]⟩] 45))
          obtain ⟨⟨r2, r3⟩, ⟨f2, f3⟩⟩ := T2.new (.bool false) (.string ⟨#[]⟩) (w.alloc (.cells #[.bool false, .string ⟨#[]⟩] 45)) 45
          clear hpar
          clear hp
          go_enter Tryz.func57, Tryz.ntmps57
          go_wp2_with fail
          refine (rTagX_is htz HB).mono ?_; rintro e w1 ⟨rfl, rfl⟩
          go_wp2
          (try simp only [Exit.inBlock, Exit.then])
          refine bodyPost_ret (v := tgV (some (false, t))) (by rw [results_cell_tmp rfl]; go_simp; rfl) rfl ?_
          exact ⟨by rw [HE.out], (below_new _ _).alloc (below_new _ _).size _⟩
      · have HE : Box (parE s.data.toList = none) := box (by rw [hpar, hat, if_neg (fun q => c1 q.2.1)]; rfl)
        have hg : (2 : Int) < (s.size : Int) := by omega
        have e1 : ((s[p].toNat : Int) != 34) = true := by rw [bne_iff_ne]; intro e; exact c1 (UInt8.toNat_inj.mp (by have e2 : ((34 : UInt8).toNat : Int) = 34 := rfl; omega))
        clear hat c0 c1 h2
        obtain ⟨⟨r0, r1⟩, ⟨f0, f1⟩⟩ := (T2.new (.bool false) (.string ⟨#[]⟩) w 45).next (below_new _ (.cells #[.bool false, .string ⟨#[]⟩] 45))
        obtain ⟨⟨r2, r3⟩, ⟨f2, f3⟩⟩ := T2.new (.bool false) (.string ⟨#[]⟩) (w.alloc (.cells #[.bool false, .string ⟨#[]⟩] 45)) 45
        clear hpar
        clear hp
        go_enter Tryz.func57, Tryz.ntmps57
        go_wp2
        (try simp only [Exit.inBlock, Exit.then])
        refine bodyPost_ret (v := tgV none) (by rw [results_cell_tmp rfl]; go_simp; rfl) rfl ?_
        exact ⟨by rw [HE.out], (below_new _ _).alloc (below_new _ _).size _⟩
    · have HE : Box (parE s.data.toList = none) := box (by rw [hpar, hat, if_neg (fun q => c0 q.1)]; rfl)
      have hg : (2 : Int) < (s.size : Int) := by omega
      have e0 : ((s[0].toNat : Int) != 34) = true := by rw [bne_iff_ne]; intro e; exact c0 (UInt8.toNat_inj.mp (by have e2 : ((34 : UInt8).toNat : Int) = 34 := rfl; omega))
      clear hat c0 h2
      obtain ⟨⟨r0, r1⟩, ⟨f0, f1⟩⟩ := (T2.new (.bool false) (.string ⟨#[]⟩) w 45).next (below_new _ (.cells #[.bool false, .string ⟨#[]⟩] 45))
      obtain ⟨⟨r2, r3⟩, ⟨f2, f3⟩⟩ := T2.new (.bool false) (.string ⟨#[]⟩) (w.alloc (.cells #[.bool false, .string ⟨#[]⟩] 45)) 45
      clear hpar
      clear hp
      go_enter Tryz.func57, Tryz.ntmps57
      go_wp2
      (try simp only [Exit.inBlock, Exit.then])
      refine bodyPost_ret (v := tgV none) (by rw [results_cell_tmp rfl]; go_simp; rfl) rfl ?_
      exact ⟨by rw [HE.out], (below_new _ _).alloc (below_new _ _).size _⟩
set_option maxHeartbeats 4000000 in
theorem rParE_t (s : ByteArray) (w : World) (hs : s.size ≤ 65000) (hz : s.size = 2) :
    Calls Tryz.prog 57 #[.string s] w fun e w' => e = .returned (tgV (parE s.data.toList)) ∧ Below w.heap.size w w' := by
  have hpar : parE s.data.toList = (tagOf s.data.toList).map fun t => (false, bs t) := by rw [parE_s (.inl (by omega))]
  by_cases h2 : s.size < 2
  · omega
  · obtain ⟨p, hp⟩ : ∃ p, s.size = p + 1 := ⟨s.size - 1, by omega⟩
    have hp1 : 1 ≤ p := by omega
    have h0 : 0 < s.size := by omega
    have hpx : p < s.size := by omega
    have hat := tagOf_at hp hp1
    have i0 : decide ((s.size : Int) < 2) = false := by rw [decide_eq_false_iff_not]; omega
    have hpb : p ≤ 65000 := by omega
    have hpi : (s.size : Int) - 1 = (p : Int) := by omega
    have hpw : (p : Int) < (s.size : Int) := by omega
    have hp0 : (0 : Int) < (s.size : Int) := by omega
    by_cases c0 : s[0] = 34
    · have e0 : ((s[0].toNat : Int) != 34) = false := by rw [c0]; rfl
      by_cases c1 : s[p] = 34
      · have e1 : ((s[p].toNat : Int) != 34) = false := by rw [c1]; rfl
        obtain ⟨t, ht⟩ : ∃ t, s.extract 1 p = t := ⟨_, rfl⟩
        have hst := slice_one hp1 (Nat.le_of_lt hpx) ht
        have htz : t.size ≤ 65536 := by rw [← ht]; simp; omega
        rw [ht] at hat
        cases hg2 : tagT t.data.toList with
        | false =>
          have HB := box hg2
          have HE : Box (parE s.data.toList = none) := box (by rw [hpar, hat, if_neg (fun q => by rw [hg2] at q; cases q.2.2)]; rfl)
          have hg : ¬ (2 : Int) < (s.size : Int) := by omega
          clear hat c0 c1 h2 hg2 ht
          obtain ⟨⟨r0, r1⟩, ⟨f0, f1⟩⟩ := (T2.new (.bool false) (.string ⟨#[]⟩) w 45).next (below_new _ (.cells #[.bool false, .string ⟨#[]⟩] 45))
          obtain ⟨⟨r2, r3⟩, ⟨f2, f3⟩⟩ := T2.new (.bool false) (.string ⟨#[]⟩) (w.alloc (.cells #[.bool false, .string ⟨#[]⟩] 45)) 45
          clear hpar hz
          clear hp
          go_enter Tryz.func57, Tryz.ntmps57
          go_wp2_with fail
          refine (rTagX_is htz HB).mono ?_; rintro e w1 ⟨rfl, rfl⟩
          go_wp2
          (try simp only [Exit.inBlock, Exit.then])
          refine bodyPost_ret (v := tgV none) (by rw [results_cell_tmp rfl]; go_simp; rfl) rfl ?_
          exact ⟨by rw [HE.out], (below_new _ _).alloc (below_new _ _).size _⟩
        | true =>
          have HB := box hg2
          have HE : Box (parE s.data.toList = some (false, t)) := box (by rw [hpar, hat, if_pos ⟨c0, c1, hg2⟩]; rfl)
          have hg : ¬ (2 : Int) < (s.size : Int) := by omega
          clear hat c0 c1 h2 hg2 ht
          obtain ⟨⟨r0, r1⟩, ⟨f0, f1⟩⟩ := (T2.new (.bool false) (.string ⟨#[]⟩) w 45).next (below_new _ (.cells #[.bool false, .string ⟨#[]⟩] 45))
          obtain ⟨⟨r2, r3⟩, ⟨f2, f3⟩⟩ := T2.new (.bool false) (.string ⟨#[]⟩) (w.alloc (.cells #[.bool false, .string ⟨#[]⟩] 45)) 45
          clear hpar hz
          clear hp
          go_enter Tryz.func57, Tryz.ntmps57
          go_wp2_with fail
          refine (rTagX_is htz HB).mono ?_; rintro e w1 ⟨rfl, rfl⟩
          go_wp2
          (try simp only [Exit.inBlock, Exit.then])
          refine bodyPost_ret (v := tgV (some (false, t))) (by rw [results_cell_tmp rfl]; go_simp; rfl) rfl ?_
          exact ⟨by rw [HE.out], (below_new _ _).alloc (below_new _ _).size _⟩
      · have HE : Box (parE s.data.toList = none) := box (by rw [hpar, hat, if_neg (fun q => c1 q.2.1)]; rfl)
        have hg : ¬ (2 : Int) < (s.size : Int) := by omega
        have e1 : ((s[p].toNat : Int) != 34) = true := by rw [bne_iff_ne]; intro e; exact c1 (UInt8.toNat_inj.mp (by have e2 : ((34 : UInt8).toNat : Int) = 34 := rfl; omega))
        clear hat c0 c1 h2
        obtain ⟨⟨r0, r1⟩, ⟨f0, f1⟩⟩ := (T2.new (.bool false) (.string ⟨#[]⟩) w 45).next (below_new _ (.cells #[.bool false, .string ⟨#[]⟩] 45))
        obtain ⟨⟨r2, r3⟩, ⟨f2, f3⟩⟩ := T2.new (.bool false) (.string ⟨#[]⟩) (w.alloc (.cells #[.bool false, .string ⟨#[]⟩] 45)) 45
        clear hpar hz
        clear hp
        go_enter Tryz.func57, Tryz.ntmps57
        go_wp2
        (try simp only [Exit.inBlock, Exit.then])
        refine bodyPost_ret (v := tgV none) (by rw [results_cell_tmp rfl]; go_simp; rfl) rfl ?_
        exact ⟨by rw [HE.out], (below_new _ _).alloc (below_new _ _).size _⟩
    · have HE : Box (parE s.data.toList = none) := box (by rw [hpar, hat, if_neg (fun q => c0 q.1)]; rfl)
      have hg : ¬ (2 : Int) < (s.size : Int) := by omega
      have e0 : ((s[0].toNat : Int) != 34) = true := by rw [bne_iff_ne]; intro e; exact c0 (UInt8.toNat_inj.mp (by have e2 : ((34 : UInt8).toNat : Int) = 34 := rfl; omega))
      clear hat c0 h2
      obtain ⟨⟨r0, r1⟩, ⟨f0, f1⟩⟩ := (T2.new (.bool false) (.string ⟨#[]⟩) w 45).next (below_new _ (.cells #[.bool false, .string ⟨#[]⟩] 45))
      obtain ⟨⟨r2, r3⟩, ⟨f2, f3⟩⟩ := T2.new (.bool false) (.string ⟨#[]⟩) (w.alloc (.cells #[.bool false, .string ⟨#[]⟩] 45)) 45
      clear hpar hz
      clear hp
      go_enter Tryz.func57, Tryz.ntmps57
      go_wp2
      (try simp only [Exit.inBlock, Exit.then])
      refine bodyPost_ret (v := tgV none) (by rw [results_cell_tmp rfl]; go_simp; rfl) rfl ?_
      exact ⟨by rw [HE.out], (below_new _ _).alloc (below_new _ _).size _⟩
theorem rParE_any (s : ByteArray) (w : World) (hs : s.size ≤ 65000) :
    Calls Tryz.prog 57 #[.string s] w fun e w' => e = .returned (tgV (parE s.data.toList)) ∧ Below w.heap.size w w' := by
  by_cases h1 : s.size < 2
  · exact rParE_short s w h1
  · by_cases h2 : s.size = 2
    · exact rParE_t s w hs h2
    · cases hc : ((s.extract 0 2).toList == [87, 47]) with
      | false => exact rParE_s s w hs (by omega) hc
      | true => exact rParE_w s w hs (by omega) hc _ rfl
theorem rParE_is {s t : ByteArray} {b q : Bool} {w : World} (hs : s.size ≤ 65000) (h : Box (tgV (parE s.data.toList) = .tuple #[.agg #[.bool b, .string t], .bool q])) :
    Calls Tryz.prog 57 #[.string s] w fun e w' => e = .returned (.tuple #[.agg #[.bool b, .string t], .bool q]) ∧ Below w.heap.size w w' :=
  (rParE_any s w hs).mono fun e w' ⟨h1, h2⟩ => ⟨by rw [h1, h.out], h2⟩
end
end Go.Proofs.YtiogngfemelifaaGreatDoor.Asc
