/- Merged texts: AscFold LstIdx LstOwn MedMem LstOpen LstFil LstGet. -/
import Derived.Test.YtjjlgnackjjbfaaGreatDoorM04
import Derived.BigQuiet
import Derived.Carry
import Derived.Deep.AppendLies
import Derived.Deep.QuietTactic
import Derived.Deep.SlicePairs
import Derived.Laws.AppendOwnNone
import Derived.Laws.ResultCell
import Derived.Lib.SmallJoins
import Derived.ProofKit
set_option linter.unusedVariables false
set_option linter.unusedSimpArgs false
set_option maxRecDepth 100000
namespace Go.Proofs.YtjjlgnackjjbfaaGreatDoor.Asc
section
open Go.RowKit
theorem Fold_any (a b : ByteArray) (w : World) (ha : a.size ≤ maxLen) (hb : b.size ≤ maxLen) :
    Calls Tryz.prog 64 #[.string a, .string b] w fun e w' => e = .returned (.bool (foldL a.data.toList b.data.toList)) ∧ Below w.heap.size w w' := by
  unfold maxLen at ha hb
  by_cases hab : a.size = b.size
  · have hne : ((a.size : Int) != (b.size : Int)) = false := by simp [hab]
    have HAB := Lib.hid hab
    clear hab
    go_enter Tryz.func64, Tryz.ntmps64
    go_wp2
    go_loopw [5, 13] (fun _ i wr => ∃ k : Nat, k ≤ a.size ∧ i = .int .i64 k ∧ lowL (a.data.toList.take k) = lowL (b.data.toList.take k) ∧ Below w.heap.size w wr) (fun _ i _ => a.size - (intOf i).toNat)
    case atStart => exact ⟨0, Nat.zero_le _, rfl, rfl, Below.refl _ _⟩
    case round =>
      obtain ⟨k, hk, rfl, hall, hbel⟩ := hrel
      have HH := Lib.hid hall
      clear hall
      by_cases hlt : k < a.size
      · have hltb : k < b.size := by have := HAB.out; omega
        have ba := byte_bd a k hlt
        have bb := byte_bd b k hltb
        by_cases hc : lowI a[k].toNat = lowI b[k].toNat
        · have HC := Lib.hid (fold_more HH.out hlt hltb hc)
          have hcn : (lowI a[k].toNat != lowI b[k].toNat) = false := by simp [hc]
          clear hc
          go_wp2
          go_quiet ((go_at_call 89; exact Calls.quiet_of_same ((lowerByte_any _ _ (by omega) (by omega)).mono fun e w' ⟨h1, h2⟩ => ⟨h1, h2.symm⟩)))
          go_wp2
          go_roundw
          case rel => exact ⟨k + 1, by omega, by go_num, HC.out, hbel.trans ⟨rfl, rfl, rfl, Nat.le_refl _, fun _ _ => rfl⟩⟩
          case measure => simp [intOf]; omega
        · have HC := Lib.hid (fold_not hlt hltb hc)
          have hcn : (lowI a[k].toNat != lowI b[k].toNat) = true := by simp [hc]
          clear hc
          go_wp2
          go_quiet ((go_at_call 89; exact Calls.quiet_of_same ((lowerByte_any _ _ (by omega) (by omega)).mono fun e w' ⟨h1, h2⟩ => ⟨h1, h2.symm⟩)))
          go_wp2
          go_ret
          exact ⟨ret_bool HC.out.symm, hbel.trans ⟨rfl, rfl, rfl, Nat.le_refl _, fun _ _ => rfl⟩⟩
      · go_wp2
        go_ret
        exact ⟨ret_bool (fold_end HH.out (by omega) (by have := HAB.out; omega)).symm, hbel⟩
  · have hne : ((a.size : Int) != (b.size : Int)) = true := by simp; omega
    have HAB := Lib.hid hab
    clear hab
    go_enter Tryz.func64, Tryz.ntmps64
    go_wp2
    go_ret
    exact ⟨ret_bool (fold_len HAB.out).symm, Below.refl _ _⟩
theorem rFold_any (a b : ByteArray) (w : World) (ha : a.size ≤ 4294967296) (hb : b.size ≤ 4294967296) :
    Calls Tryz.prog 24 #[.string a, .string b] w fun e w' => e = .returned (.bool (foldL a.data.toList b.data.toList)) ∧ Below w.heap.size w w' := by
  by_cases hab : a.size = b.size
  · have hne : ((a.size : Int) == (b.size : Int)) = true := by simp [hab]
    have HAB := Lib.hid hab
    clear hab
    go_enter Tryz.func24, Tryz.ntmps24
    go_wp2_with fail
    refine (rLower_any _ _ ha).mono ?_; rintro e w1 ⟨rfl, hb1⟩
    go_wp2_with fail
    refine (rLower_any _ _ hb).mono ?_; rintro e w2 ⟨rfl, hb2⟩
    go_wp2
    go_ret
    exact ⟨ret_bool (by unfold foldL; rw [Bool.eq_iff_iff]; simp), hb1.trans (hb2.mono hb1.size)⟩
  · have hne : ((a.size : Int) == (b.size : Int)) = false := by simp; omega
    have HAB := Lib.hid hab
    clear hab
    go_enter Tryz.func24, Tryz.ntmps24
    go_wp2
    go_ret
    exact ⟨ret_bool (fold_len HAB.out).symm, Below.refl _ _⟩
end
section
open Go.RowKit
/-- the name lies in the block that the function value has captured -/
def Nm (g : Nat) (nm : ByteArray) (w : World) : Prop := w.cell? ⟨g, 0, none⟩ = some (.string nm)
theorem Nm.below {w w' : World} {g : Nat} {nm : ByteArray} (h : Nm g nm w) (hb : Below w.heap.size w w') : Nm g nm w' := (hb.cell (cell_lt h)).trans h
def nmV (g : Nat) : Value := .func (.func 132) #[] #[.pointer (some ⟨g, 0, none⟩)]
theorem named_any (nm : ByteArray) (w : World) :
    Calls Tryz.prog 101 #[.string nm] w fun e w' => e = .returned (nmV w.heap.size) ∧ w' = w.alloc (.cells #[.string nm] 9) := by
  have hmf : ∀ (fn : Fn) (first cap : Array Value) (w : World), (Instr.makeFunc fn first cap).run Tryz.prog w = .ok (.func fn first cap) w := fun _ _ _ _ => rfl
  go_enter Tryz.func101, Tryz.ntmps101
  go_wp2
  go_ret
  exact ⟨rfl, rfl⟩
theorem clo_any (g : Nat) (nm n v : ByteArray) (w : World) (N : Box (n.size ≤ 65536)) (M : Box (nm.size ≤ 65536)) (h : Box (Nm g nm w)) :
    Calls Tryz.prog 132 #[.agg #[.string n, .string v], .pointer (some ⟨g, 0, none⟩)] w fun e w' => e = .returned (.bool (nmd nm (n, v))) ∧ Below w.heap.size w w' := by
  have c0 : w.cell? ⟨g, 0, none⟩ = some (.string nm) := h.out
  have hlt := cell_lt c0
  simp only at hlt
  go_enter Tryz.func132, Tryz.ntmps132
  go_wp2_with fail
  refine (Fold_any _ _ _ (small_max N).out (small_max M).out).mono ?_; rintro e w1 ⟨rfl, hb1⟩
  go_wp2
  go_ret
  exact ⟨rfl, (below_new w _).trans (hb1.mono (below_new w _).size)⟩
/-- all names are small -/
def Sm (L : List F) : Prop := L.length ≤ 65536 ∧ ∀ i (h : i < L.length), L[i].1.size ≤ 65536 ∧ L[i].2.size ≤ 65536
set_option maxHeartbeats 400000 in
theorem IndexFunc_any (a : Option Addr) (cap : Nat) (L : List F) (g : Nat) (nm : ByteArray) (w : World) (hl : L.length ≤ 65536) (S : Box (Sm L)) (M : Box (nm.size ≤ 65536)) (hF : Box (Fs w a L)) (hN : Box (Nm g nm w)) :
    Calls Tryz.prog 131 #[.slice a L.length cap, nmV g] w fun e w' => e = .returned (.int .i64 (idxL nm L)) ∧ Below w.heap.size w w' := by
  unfold nmV
  go_enter Tryz.func131, Tryz.ntmps131
  go_wp2
  go_loopw [8] (fun i wr => ∃ k : Nat, k ≤ L.length ∧ i = .int .i64 k ∧ (L.take k).any (nmd nm) = false ∧ Below w.heap.size w wr) (fun i _ => L.length - (intOf i).toNat)
  case atStart => exact ⟨0, Nat.zero_le _, rfl, rfl, Below.refl _ _⟩
  case round =>
    obtain ⟨k, hk, rfl, hall, hbel⟩ := hrel
    have HA := box hall
    clear hall
    by_cases hlt : k < L.length
    · obtain ⟨q, off, rfl, c0, c1⟩ := (hF.out.below hbel) k hlt
      have N := box (hN.out.below hbel)
      have B1 := box ((S.out.2 k hlt).1)
      go_wp2_with fail
      refine (clo_any g nm L[k].1 L[k].2 _ B1 M N).mono ?_; rintro e w1 ⟨rfl, hb1⟩
      go_wp2
      · have e1 : nmd nm L[k] = true := by assumption
        go_ret
        exact ⟨ret_int (idx_hit hlt HA.out e1).symm, (hbel.mono (Nat.le_refl _)).trans (hb1.mono hbel.size)⟩
      · have e1 : nmd nm L[k] = false := by assumption
        go_roundw
        case rel => exact ⟨k + 1, by omega, by go_num, none_more hlt HA.out e1, hbel.trans (hb1.mono hbel.size)⟩
        case measure => simp [intOf]; omega
    · have e : k = L.length := by omega
      go_wp2
      go_ret
      exact ⟨ret_int (idx_end (by rw [← e]; exact HA.out)).symm, hbel⟩
theorem ContainsFunc_any (a : Option Addr) (cap : Nat) (L : List F) (g : Nat) (nm : ByteArray) (w : World) (hl : L.length ≤ 65536) (S : Box (Sm L)) (M : Box (nm.size ≤ 65536)) (hF : Box (Fs w a L)) (hN : Box (Nm g nm w)) :
    Calls Tryz.prog 100 #[.slice a L.length cap, nmV g] w fun e w' => e = .returned (.bool (L.any (nmd nm))) ∧ Below w.heap.size w w' := by
  go_enter Tryz.func100, Tryz.ntmps100
  go_wp2_with fail
  refine (IndexFunc_any a cap L g nm _ hl S M hF hN).mono ?_; rintro e w1 ⟨rfl, hb1⟩
  go_wp2
  go_ret
  exact ⟨ret_bool idx_any, hb1⟩
theorem Nm.new (nm : ByteArray) (w : World) (t : TypeId) : Nm w.heap.size nm (w.alloc (.cells #[.string nm] t)) := by
  unfold Nm; rw [World.cell?_alloc_at _ _ _ _ rfl]; rfl
theorem Has_any (a : Option Addr) (cap : Nat) (L : List F) (nm : ByteArray) (w : World) (hl : L.length ≤ 65536) (S : Box (Sm L)) (M : Box (nm.size ≤ 65536)) (hF : Box (Fs w a L)) :
    Calls Tryz.prog 71 #[.slice a L.length cap, .string nm] w fun e w' => e = .returned (.bool (L.any (nmd nm))) ∧ Below w.heap.size w w' := by
  go_enter Tryz.func71, Tryz.ntmps71
  go_wp2_with fail
  refine (named_any nm _).mono ?_; rintro e w1 ⟨rfl, rfl⟩
  go_wp2_with fail
  refine (ContainsFunc_any a cap L _ nm _ hl S M (box (hF.out.below (below_new _ _))) (box (Nm.new nm w _))).mono ?_; rintro e w2 ⟨rfl, hb2⟩
  go_wp2
  go_ret
  exact ⟨rfl, (below_new w _).trans (hb2.mono (below_new w _).size)⟩
theorem get_none {nm : ByteArray} {L : List F} (h : L.any (nmd nm) = false) : getL nm L = [] := by
  unfold getL
  rw [List.filter_eq_nil_iff.mpr (fun p hp => by rw [none_not h p hp]; simp)]; rfl
theorem get_at {nm : ByteArray} {L : List F} {k : Nat} (h : k < L.length) (ha : (L.take k).any (nmd nm) = false) (h1 : nmd nm L[k] = true) : getL nm L = L[k].2 :: getL nm (L.drop (k + 1)) := by
  unfold getL
  conv => lhs; rw [split_at h]
  rw [List.filter_append, List.filter_eq_nil_iff.mpr (fun p hp => by rw [none_not ha p hp]; simp), List.nil_append, List.filter_cons, h1]
  rfl
end
section
open Go.RowKit
theorem info_fld : (Tryz.prog.info? 46).map (fun i => (i.zero, i.size, i.bytes)) = some (some (.agg #[.string ⟨#[]⟩, .string ⟨#[]⟩]), 2, 32) := by kernel_rfl
def cellsF (L : List F) : List Value := L.flatMap fun p => [.string p.1, .string p.2]
theorem cellsF_len (L : List F) : (cellsF L).length = L.length * 2 := by
  induction L with
  | nil => rfl
  | cons p L ih => simp only [cellsF, List.flatMap_cons, List.length_append, List.length_cons, List.length_nil] at *; omega
theorem cellsF_app (L M : List F) : cellsF (L ++ M) = cellsF L ++ cellsF M := by simp [cellsF]
theorem cellsF_at (L : List F) (i : Nat) (h : i < L.length) : (cellsF L)[i * 2]? = some (.string L[i].1) ∧ (cellsF L)[i * 2 + 1]? = some (.string L[i].2) := by
  have e := split_at h
  have hl : (cellsF (L.take i)).length = i * 2 := by rw [cellsF_len, List.length_take, Nat.min_eq_left (Nat.le_of_lt h)]
  have e2 : cellsF L = cellsF (L.take i) ++ (.string L[i].1 :: .string L[i].2 :: cellsF (L.drop (i + 1))) := by
    conv => lhs; rw [e, cellsF_app]
    rfl
  rw [e2]
  constructor
  · rw [List.getElem?_append_right (by omega), hl]; simp
  · rw [List.getElem?_append_right (by omega), hl]; simp
def OwnF (w : World) (B : Nat) (v : Value) (L : List F) : Prop := w.ownsRow B 46 2 v L.length (cellsF L)
section
variable {w w' : World} {B : Nat} {v : Value}
theorem OwnF.nil (w : World) (B : Nat) : OwnF w B (.slice none 0 0) [] := World.ownsRow_nil _ _ _ _
/-- what a slice of fields that a call owns looks like -/
theorem OwnF.fs {L : List F} (h : OwnF w B v L) : ∃ a cap, v = .slice a L.length cap ∧ Fs w a L ∧ L.length ≤ cap := by
  rcases h.2 with ⟨rfl, hn⟩ | ⟨g, cap, cur, rfl, hB, hg, hc, hm, hs, ht⟩
  · exact ⟨none, 0, by rw [hn], fun i hi => by omega, by omega⟩
  · refine ⟨_, cap, rfl, fun i hi => ⟨g, 0, rfl, ?_, ?_⟩, hc⟩
    all_goals
      obtain ⟨q0, q1⟩ := cellsF_at L i hi
      rw [← ht] at q0 q1
      rw [List.getElem?_take] at q0 q1
      rw [if_pos (by omega)] at q0 q1
      simp only [World.cell?, hg]
    · simpa using q0
    · simpa [Nat.add_assoc] using q1
end
/-- append of one field that lies in a block of its own -/
theorem wpList_append_fld (w : World) {ops : Array Oper} {rest : List Oper} {o : Oper} {a : Act} {Q : Exit → Act → World → Prop} (hgd : o.guard = none) (s x : Operand)
    (ho : o.op = .call { callee := .builtin .append, args := #[s, x], argTypes := #[25, 25] })
    (B : Nat) (v : Value) (L : List F) (hs : a.eval s = v) (hown : OwnF w B v L)
    (g : Nat) (c : Nat) (hx : a.eval x = .slice (some ⟨g, 0, none⟩) 1 c) (n u : ByteArray) (h0 : w.cell? ⟨g, 0, none⟩ = some (.string n)) (h1 : w.cell? ⟨g, 1, none⟩ = some (.string u)) (hl : L.length ≤ 65536) (hB : B ≤ w.heap.size)
    (h : ∀ v' w', OwnF w' B v' (L ++ [(n, u)]) → Below B w w' → wpList Tryz.prog ops Q rest (a.put o.dst v') w') : wpList Tryz.prog ops Q (o :: rest) a w := by
  obtain ⟨i0, hi0, hz0, hz1, hz2⟩ := info_parts info_fld
  refine wpList_append_own (P := Tryz.prog) w hgd s x 25 ho B 46 i0 _ 2 32 Tryz.underlying25 hi0 hz0 hz1 hz2 rfl (by decide) v L.length (cellsF L) hs hown ⟨g, 0, none⟩ 1 c [.string n, .string u] hx rfl ?_ ?_ (by unfold maxLen; omega) (by omega) hB ?_
  · intro j u hj
    match j, hj with
    | 0, hj => simp at hj; subst hj; simpa [Addr.add] using h0
    | 1, hj => simp at hj; subst hj; simpa [Addr.add] using h1
  · intro u hu; simp at hu; rcases hu with rfl | rfl <;> rfl
  · intro v' w' q1 q2 _
    refine h v' w' (by simpa [OwnF, cellsF_app, cellsF] using q1) ((Below.refl _ _).grown q2 hB (fun k hk => own_block hown k hk))
/-- the same at a step of a region that draws its order -/
theorem step_append_fld (w : World) {ops : Array Oper} {o : Oper} {a : Act} {K : Act → World → Prop} {Q : Exit → Act → World → Prop} {E : Prop} (hgd : o.guard = none) (s x : Operand)
    (ho : o.op = .call { callee := .builtin .append, args := #[s, x], argTypes := #[25, 25] })
    (B : Nat) (v : Value) (L : List F) (hs : a.eval s = v) (hown : OwnF w B v L)
    (g : Nat) (c : Nat) (hx : a.eval x = .slice (some ⟨g, 0, none⟩) 1 c) (n u : ByteArray) (h0 : w.cell? ⟨g, 0, none⟩ = some (.string n)) (h1 : w.cell? ⟨g, 1, none⟩ = some (.string u)) (hl : L.length ≤ 65536) (hB : B ≤ w.heap.size)
    (h : ∀ v' w', OwnF w' B v' (L ++ [(n, u)]) → Below B w w' → K (a.put o.dst v') w') :
    if Region.wanted o (yielded ops a.tmps) = true then Oper.wp Tryz.prog o a w K Q else E := by
  obtain ⟨i0, hi0, hz0, hz1, hz2⟩ := info_parts info_fld
  refine step_append_lies (P := Tryz.prog) w hgd s x 25 ho B 46 i0 _ 2 32 Tryz.underlying25 hi0 hz0 hz1 hz2 rfl (by decide) v L.length (cellsF L) hs hown ⟨g, 0, none⟩ 1 c [.string n, .string u] hx rfl ?_ ?_ (by omega) (by unfold maxLen; omega) (by omega) hB _ rfl ?_
  · intro j u hj
    match j, hj with
    | 0, hj => simp at hj; subst hj; simpa [Addr.add] using h0
    | 1, hj => simp at hj; subst hj; simpa [Addr.add] using h1
  · intro u hu; simp at hu; rcases hu with rfl | rfl <;> rfl
  · intro g' cap' w' q1 q2 _ _
    refine h _ w' (by simpa [OwnF, cellsF_app, cellsF] using q1) ((Below.refl _ _).grown q2 hB (fun k hk => own_block hown k hk))
end
section
open Go.RowKit
/-- three values lie at the block's start, and may be written -/
def C3 (g : Nat) (c0 c1 c2 : Value) (w : World) : Prop :=
  (w.cell? ⟨g, 0, none⟩ = some c0 ∧ w.cell? ⟨g, 1, none⟩ = some c1 ∧ w.cell? ⟨g, 2, none⟩ = some c2) ∧
  (w.frozen? ⟨g, 0, none⟩ = false ∧ w.frozen? ⟨g, 1, none⟩ = false ∧ w.frozen? ⟨g, 2, none⟩ = false)
section
variable {g B : Nat} {c0 c1 c2 : Value} {w w' : World}
theorem C3.new (c0 c1 c2 : Value) (w : World) (t : TypeId) : C3 w.heap.size c0 c1 c2 (w.alloc (.cells #[c0, c1, c2] t)) := by
  refine ⟨⟨?_, ?_, ?_⟩, ⟨?_, ?_, ?_⟩⟩
  all_goals first
    | (rw [World.cell?_alloc_mark]; rfl)
    | exact World.frozen?_alloc_at _ _ _ _ rfl
theorem C3.below (f : C3 g c0 c1 c2 w) (hb : Below B w w') (hg : g < B) : C3 g c0 c1 c2 w' := by
  obtain ⟨⟨h0, h1, h2⟩, ⟨f0, f1, f2⟩⟩ := f
  exact ⟨⟨(hb.cell hg).trans h0, (hb.cell hg).trans h1, (hb.cell hg).trans h2⟩, ⟨(hb.frozen hg).trans f0, (hb.frozen hg).trans f1, (hb.frozen hg).trans f2⟩⟩
theorem C3.lt (f : C3 g c0 c1 c2 w) : g < w.heap.size := cell_lt (p := ⟨g, 0, none⟩) f.1.1
theorem C3.next (f : C3 g c0 c1 c2 w) (hb : Below w.heap.size w w') : C3 g c0 c1 c2 w' := f.below hb f.lt
end
theorem only3 (k : Nat) (w : World) (v0 v1 v2 : Value) : Only k w (((w.setCell ⟨k, 0, none⟩ v0).setCell ⟨k, 1, none⟩ v1).setCell ⟨k, 2, none⟩ v2) :=
  (((Only.refl k w).setAt 0 v0).setAt 1 v1).setAt 2 v2
theorem below3 {w w1 : World} {g : Nat} (h : Below w.heap.size w w1) (hg : w.heap.size ≤ g) (v0 v1 v2 : Value) : Below w.heap.size w (((w1.setCell ⟨g, 0, none⟩ v0).setCell ⟨g, 1, none⟩ v1).setCell ⟨g, 2, none⟩ v2) :=
  ((h.setCell (p := ⟨g, 0, none⟩) hg v0).setCell (p := ⟨g, 1, none⟩) hg v1).setCell (p := ⟨g, 2, none⟩) hg v2
end
section
open Go.RowKit Go.ChangeShapes Go.WideShapes Go.Deep
def strOf : Value → ByteArray
  | .string s => s
  | _ => ByteArray.empty
theorem laid : laidOutB Tryz.prog = true := by kernel_rfl
theorem open_fields {H : Type} {enc : TypeId × Value → H} {W : World} {base : Nat} {sp : Nat → Bool} {held : Bool} {r : Reach} {b0 : Nat} {v : Value} {d : DataW H} {p : List MemPlace}
    (hval : Value.okWide Tryz.prog W r b0 25 v) (h : DataW.Trod enc Tryz.prog W base sp held 25 v d p) :
    ∃ (a : Option Addr) (cap : Nat) (L : List F), v = .slice a L.length cap ∧ L.length ≤ maxLen ∧ Fs W a L ∧ L.length ≤ cap := by
  obtain ⟨a0, len, cap, rfl⟩ := okWide_slice Tryz.underlying25 hval
  obtain ⟨fuel, hf⟩ := h
  rcases open_slice_pairs Tryz.underlying25 Tryz.underlying46 (by kernel_rfl) rfl rfl (by kernel_rfl) (by kernel_rfl) hf with ⟨hcs, hx⟩ | ⟨a, len', cap', m, n, V0, V1, D0, D1, P0, P1, hcs, _, hl, hm, hmm, hx, hi⟩
  · simp [Value.cells] at hcs
    obtain ⟨rfl, rfl, rfl⟩ := hcs
    exact ⟨none, 0, [], rfl, Nat.zero_le _, fun i hi => absurd hi (by simp), Nat.le_refl _⟩
  · simp [Value.cells] at hcs
    obtain ⟨rfl, rfl, rfl⟩ := hcs
    have hlm : len ≤ m := by rw [hmm]; split <;> omega
    refine ⟨some a, cap, (List.range len).map fun i => (strOf (V0 i), strOf (V1 i)), by simp, by simp; omega, fun i hi2 => ?_, by simp; omega⟩
    have hil : i < len := by simpa using hi2
    obtain ⟨g, off, spot⟩ := a
    obtain ⟨z0, _, _, _⟩ := hi 0 (by omega)
    have hspot : spot = none := by simpa [Addr.add] using World.cell?_spot z0
    subst hspot
    obtain ⟨k0, k1, t0, t1⟩ := hi i (by omega)
    obtain ⟨s0, e0, _, _⟩ := DataW.trod_string Tryz.underlying9 t0
    obtain ⟨s1, e1, _, _⟩ := DataW.trod_string Tryz.underlying9 t1
    rw [add_plain] at k0 k1
    simp at e0 e1
    refine ⟨g, off, rfl, ?_, ?_⟩
    · rw [k0, e0]; simp [strOf, e0]
    · rw [← Nat.add_assoc] at k1
      rw [k1, e1]; simp [strOf, e1]
end
section
open Go.RowKit
theorem filter_more {p : F → Bool} {L : List F} {k : Nat} (h : k < L.length) : (L.take (k + 1)).filter p = (L.take k).filter p ++ (if p L[k] then [L[k]] else []) := by
  rw [take_next h, List.filter_append]; simp [List.filter_cons]
theorem filter_le {p : F → Bool} {L : List F} {k : Nat} : ((L.take k).filter p).length ≤ L.length := by
  have h1 := List.length_filter_le p (L.take k)
  have h2 : (L.take k).length ≤ L.length := by rw [List.length_take]; omega
  omega
/-- what a function value answers, in every world in which what it has captured still lies -/
def Ans (f : FuncId) (c : Value) (p : F → Bool) (J : World → Prop) : Prop :=
  ∀ (n v : ByteArray) (w : World), J w → n.size ≤ 65536 → Calls Tryz.prog f #[.agg #[.string n, .string v], c] w fun e w' => e = .returned (.bool (p (n, v))) ∧ Below w.heap.size w w'
set_option maxHeartbeats 800000 in
theorem filterN_any (a : Option Addr) (cap : Nat) (L : List F) (c : Option Addr) (p : F → Bool) (J : World → Prop) (w : World) (hl : L.length ≤ 65536) (S : Box (Sm L)) (hF : Box (Fs w a L))
    (hA : Box (Ans 132 (.pointer c) p J)) (hJ : Box (∀ w', Below w.heap.size w w' → J w')) :
    Calls Tryz.prog 111 #[.slice a L.length cap, .func (.func 132) #[] #[.pointer c]] w fun e w' => ∃ v, e = .returned v ∧ OwnF w' w.heap.size v (L.filter p) ∧ Below w.heap.size w w' := by
  go_enter Tryz.func111, Tryz.ntmps111
  go_wp2
  go_loopw [5, 10] (fun v i wr => ∃ k : Nat, k ≤ L.length ∧ i = .int .i64 k ∧ OwnF wr w.heap.size v ((L.take k).filter p) ∧ Below w.heap.size w wr) (fun _ i _ => L.length - (intOf i).toNat)
  case atStart => exact ⟨0, Nat.zero_le _, rfl, OwnF.nil _ _, Below.refl _ _⟩
  case round =>
    obtain ⟨k, hk, rfl, hO, hbel⟩ := hrel
    by_cases hlt : k < L.length
    · obtain ⟨q, off, rfl, c0, c1⟩ := (hF.out.below hbel) k hlt
      have B1 := box ((S.out.2 k hlt).1)
      have O := box hO
      have BL := box hbel
      clear hO hbel
      go_wp2_with fail
      refine (hA.out L[k].1 L[k].2 _ (hJ.out _ (BL.out.alloc BL.out.size _)) B1.out).mono ?_; rintro e w1 ⟨rfl, hb1⟩
      obtain ⟨f0, f1, _, _⟩ := (Fld.new L[k].1 L[k].2 _ 46).below hb1 (by simp)
      have O1 := box (own_below (own_below O.out (below_new _ _)) hb1)
      have BL1 := box ((BL.out.alloc BL.out.size _).trans (hb1.mono (BL.out.alloc BL.out.size _).size))
      have hbs := BL1.out.size
      clear hb1 c0 c1
      rcases hp : p (L[k].1, L[k].2) with _ | _
      · go_wp2
        go_roundw
        case rel => exact ⟨k + 1, by omega, by go_num, by rw [filter_more hlt, if_neg (by rw [show p L[k] = false from hp]; simp), List.append_nil]; exact O1.out, BL1.out⟩
        case measure => simp [intOf]; omega
      · go_wp2_with (at_builtin; refine wpList_append_fld _ rfl (.tmp 17) (.tmp 19) rfl w.heap.size _ ((L.take k).filter p) rfl (own_below O1.out (below_new _ _)) _ _ rfl L[k].1 L[k].2 (by go_simp) (by go_simp) (Nat.le_trans filter_le hl) (by simp; omega) ?_; intro v' w2 hO2 hb2)
        go_roundw
        case rel => exact ⟨k + 1, by omega, by go_num, by rw [filter_more hlt, if_pos (show p L[k] = true from hp)]; exact hO2, (BL1.out.alloc BL1.out.size _).trans hb2⟩
        case measure => simp [intOf]; omega
    · have e : k = L.length := by omega
      subst e
      rw [List.take_length] at hO
      go_wp2
      go_ret
      exact ⟨_, rfl, hO, hbel⟩
end
section
open Go.RowKit
theorem ans_named (g : Nat) (nm : ByteArray) (M : Box (nm.size ≤ 65536)) : Ans 132 (.pointer (some ⟨g, 0, none⟩)) (nmd nm) (Nm g nm) :=
  fun n v w h hn => clo_any g nm n v w (box hn) M (box h)
set_option maxHeartbeats 800000 in
theorem Get_any (a : Option Addr) (cap : Nat) (L : List F) (nm : ByteArray) (w : World) (hl : L.length ≤ 65536) (S : Box (Sm L)) (M : Box (nm.size ≤ 65536)) (hF : Box (Fs w a L)) :
    Calls Tryz.prog 75 #[.slice a L.length cap, .string nm] w fun e w' => ∃ v, e = .returned v ∧ OwnS w' w.heap.size v (getL nm L) ∧ Below w.heap.size w w' := by
  go_enter Tryz.func75, Tryz.ntmps75
  go_wp2_with fail
  refine (named_any nm _).mono ?_; rintro e w1 ⟨rfl, rfl⟩
  unfold nmV
  go_wp2_with fail
  refine (filterN_any a cap L _ (nmd nm) (Nm w.heap.size nm) (w.alloc (.cells #[.string nm] 9)) hl S (box (hF.out.below (below_new _ _))) (box (ans_named _ nm M)) (box (fun w' hb => (Nm.new nm w _).below hb))).mono ?_
  rintro e w2 ⟨v, rfl, hO, hb2⟩
  obtain ⟨K, hK⟩ : ∃ K, L.filter (nmd nm) = K := ⟨_, rfl⟩
  have HG : Box (getL nm L = K.map (·.2)) := box (by unfold getL; rw [hK])
  rw [hK] at hO
  obtain ⟨a2, cap2, rfl, hfs, hcl⟩ := hO.fs
  have FS := box hfs
  have b2 := box ((below_new w _).trans (hb2.mono (below_new w _).size))
  have hKl : K.length ≤ 65536 := by rw [← hK]; exact Nat.le_trans (List.length_filter_le _ _) hl
  clear hb2 hO hfs hK hcl
  go_wp2
  go_loopw [5, 13] (fun v i wr => ∃ k : Nat, k ≤ K.length ∧ i = .int .i64 k ∧ OwnS wr w2.heap.size v ((K.take k).map (·.2)) ∧ Below w2.heap.size w2 wr) (fun _ i _ => K.length - (intOf i).toNat)
  case atStart => exact ⟨0, Nat.zero_le _, rfl, OwnS.nil _ _, Below.refl _ _⟩
  case round =>
    obtain ⟨k, hk, rfl, hO, hbel2⟩ := hrel
    by_cases hlt : k < K.length
    · obtain ⟨q, off, rfl, c0, c1⟩ := (FS.out.below hbel2) k hlt
      have O := box hO
      have BL2 := box hbel2
      have hbs := hbel2.size
      clear hO hbel2
      go_wp2_with (at_builtin; refine wpList_append_str _ rfl (.tmp 17) (.tmp 20) rfl w2.heap.size _ ((K.take k).map (·.2)) rfl ?a1 _ _ rfl K[k].2 ?b1 ?c1 ?d1 ?_)
      case a1 => exact own_below (own_below O.out (below_new _ _)) (below_new _ _)
      case b1 => go_simp
      case c1 => rw [List.length_map, List.length_take]; omega
      case d1 => simp; omega
      intro v' w3 hO2 hb2
      have hO3 := box hO2
      clear hO2
      go_wp2
      go_roundw
      case rel => exact ⟨k + 1, by omega, by go_num, by rw [take_next hlt, List.map_append]; simpa using hO3.out, ((BL2.out.alloc BL2.out.size _).alloc (by simp; omega) _).trans hb2⟩
      case measure => simp [intOf]; omega
    · have e : k = K.length := by omega
      subst e
      rw [List.take_length] at hO
      go_wp2
      go_ret
      exact ⟨_, rfl, by rw [HG.out]; exact Go.Joins.ownsRow_le hO b2.out.size, b2.out.trans (hbel2.mono b2.out.size)⟩
theorem get_more {nm : ByteArray} {L : List F} {k : Nat} (h : k < L.length) : getL nm (L.take (k + 1)) = getL nm (L.take k) ++ (if nmd nm L[k] then [L[k].2] else []) := by
  unfold getL; rw [filter_more h, List.map_append]; split <;> rfl
theorem get_le {nm : ByteArray} {L : List F} {k : Nat} : (getL nm (L.take k)).length ≤ L.length := by
  unfold getL; rw [List.length_map]; exact filter_le
theorem small_4g {s : ByteArray} (h : s.size ≤ 65536) : s.size ≤ 4294967296 := by omega
set_option maxHeartbeats 800000 in
theorem rGet_any (a : Option Addr) (cap : Nat) (L : List F) (nm : ByteArray) (w : World) (hl : L.length ≤ 65536) (S : Box (Sm L)) (M : Box (nm.size ≤ 65536)) (hF : Box (Fs w a L)) :
    Calls Tryz.prog 54 #[.slice a L.length cap, .string nm] w fun e w' => ∃ v, e = .returned v ∧ OwnS w' w.heap.size v (getL nm L) ∧ Below w.heap.size w w' := by
  go_enter Tryz.func54, Tryz.ntmps54
  go_wp2
  go_loopw [5, 6] (fun v i wr => ∃ k : Nat, k ≤ L.length ∧ i = .int .i64 k ∧ OwnS wr w.heap.size v (getL nm (L.take k)) ∧ Below w.heap.size w wr) (fun _ i _ => L.length - (intOf i).toNat)
  case atStart => exact ⟨0, Nat.zero_le _, rfl, OwnS.nil _ _, Below.refl _ _⟩
  case round =>
    obtain ⟨k, hk, rfl, hO, hbel⟩ := hrel
    by_cases hlt : k < L.length
    · obtain ⟨q, off, rfl, c0, c1⟩ := (hF.out.below hbel) k hlt
      have B1 := box ((S.out.2 k hlt).1)
      have O := box hO
      have BL := box hbel
      clear hO hbel
      go_wp2_with fail
      refine (rFold_any L[k].1 nm _ (small_4g B1.out) (small_4g M.out)).mono ?_; rintro e w1 ⟨rfl, hb1⟩
      have c2 := hb1.cell (p := ⟨q, off + k * 2 + 1, none⟩) (cell_lt c1)
      have O1 := box (own_below O.out hb1)
      have BL1 := box (BL.out.trans (hb1.mono BL.out.size))
      have hbs := BL1.out.size
      rw [c1] at c2
      clear hb1 c0 c1
      rcases hp : nmd nm L[k] with _ | _
      · rw [show foldL L[k].1.data.toList nm.data.toList = false from hp]
        have HP := box hp
        clear hp
        go_wp2
        go_roundw
        case rel => exact ⟨k + 1, by omega, by go_num, by rw [get_more hlt, HP.out, if_neg (by simp), List.append_nil]; exact O1.out, BL1.out⟩
        case measure => simp [intOf]; omega
      · rw [show foldL L[k].1.data.toList nm.data.toList = true from hp]
        have HP := box hp
        clear hp
        go_wp2_with (at_builtin; refine wpList_append_str _ rfl (.tmp 20) (.tmp 26) rfl w.heap.size _ (getL nm (L.take k)) rfl ?a1 _ _ rfl L[k].2 ?b1 ?c1 ?d1 ?_)
        case a1 => exact own_below O1.out (below_new _ _)
        case b1 => go_simp
        case c1 => exact Nat.le_trans get_le hl
        case d1 => simp; omega
        intro v' w3 hO2 hb2
        have O2 := box hO2
        clear hO2
        go_wp2
        go_roundw
        case rel => exact ⟨k + 1, by omega, by go_num, by rw [get_more hlt, HP.out]; exact O2.out, (BL1.out.alloc BL1.out.size _).trans hb2⟩
        case measure => simp [intOf]; omega
    · have e : k = L.length := by omega
      subst e
      rw [List.take_length] at hO
      go_wp2
      go_ret
      exact ⟨_, rfl, hO, hbel⟩
theorem get_any {nm : ByteArray} {L : List F} : decide (0 < (getL nm L).length) = L.any (nmd nm) := by
  rcases idx_ways nm L with ⟨_, h⟩ | ⟨k, hk, _, ha, h1⟩
  · rw [get_none h, h]; rfl
  · rw [get_at hk ha h1, List.any_eq_true.mpr ⟨L[k], List.getElem_mem hk, h1⟩]; simp
theorem rHas_any (a : Option Addr) (cap : Nat) (L : List F) (nm : ByteArray) (w : World) (hl : L.length ≤ 65536) (S : Box (Sm L)) (M : Box (nm.size ≤ 65536)) (hF : Box (Fs w a L)) :
    Calls Tryz.prog 36 #[.slice a L.length cap, .string nm] w fun e w' => e = .returned (.bool (L.any (nmd nm))) ∧ Below w.heap.size w w' := by
  go_enter Tryz.func36, Tryz.ntmps36
  go_wp2_with fail
  refine (rGet_any a cap L nm _ hl S M hF).mono ?_; rintro e w1 ⟨v, rfl, hO, hb⟩
  obtain ⟨a2, cap2, rfl, hS, hc⟩ := hO.ss
  clear hO hS hc
  go_wp2
  go_ret
  exact ⟨ret_bool (by rw [← get_any]), hb⟩
end
end Go.Proofs.YtjjlgnackjjbfaaGreatDoor.Asc
