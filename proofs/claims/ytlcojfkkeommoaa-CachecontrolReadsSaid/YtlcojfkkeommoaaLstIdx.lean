/- The function value that 'named' makes, and the functions of slices that call it. -/
import Derived.Test.YtlcojfkkeommoaaLstMem
import Derived.Test.YtlcojfkkeommoaaAscFold
set_option linter.unusedVariables false
set_option linter.unusedSimpArgs false
set_option maxRecDepth 100000
namespace Go.Proofs.Ytlcojfkkeommoaa.Asc
open Go.RowKit

/-- the name lies in the block that the function value has captured -/
def Nm (g : Nat) (nm : ByteArray) (w : World) : Prop := w.cell? ⟨g, 0, none⟩ = some (.string nm)
theorem Nm.below {w w' : World} {g : Nat} {nm : ByteArray} (h : Nm g nm w) (hb : Below w.heap.size w w') : Nm g nm w' := (hb.cell (cell_lt h)).trans h
def nmV (g : Nat) : Value := .func (.func 55) #[] #[.pointer (some ⟨g, 0, none⟩)]

theorem named_any (nm : ByteArray) (w : World) :
    Calls Try.prog 42 #[.string nm] w fun e w' => e = .returned (nmV w.heap.size) ∧ w' = w.alloc (.cells #[.string nm] 9) := by
  have hmf : ∀ (fn : Fn) (first cap : Array Value) (w : World), (Instr.makeFunc fn first cap).run Try.prog w = .ok (.func fn first cap) w := fun _ _ _ _ => rfl
  go_enter Try.func42, Try.ntmps42
  go_wp2
  go_ret
  exact ⟨rfl, rfl⟩

theorem clo_any (g : Nat) (nm n v : ByteArray) (w : World) (N : Box (n.size ≤ 65536)) (M : Box (nm.size ≤ 65536)) (h : Box (Nm g nm w)) :
    Calls Try.prog 55 #[.agg #[.string n, .string v], .pointer (some ⟨g, 0, none⟩)] w fun e w' => e = .returned (.bool (nmd nm (n, v))) ∧ Below w.heap.size w w' := by
  have c0 : w.cell? ⟨g, 0, none⟩ = some (.string nm) := h.out
  have hlt := cell_lt c0
  simp only at hlt
  go_enter Try.func55, Try.ntmps55
  go_wp2_with fail
  refine (Fold_any _ _ _ (small_max N).out (small_max M).out).mono ?_; rintro e w1 ⟨rfl, hb1⟩
  go_wp2
  go_ret
  exact ⟨rfl, (below_new w _).trans (hb1.mono (below_new w _).size)⟩

/-- all names are small -/
def Sm (L : List F) : Prop := L.length ≤ 65536 ∧ ∀ i (h : i < L.length), L[i].1.size ≤ 65536 ∧ L[i].2.size ≤ 65536
set_option maxHeartbeats 400000 in
theorem IndexFunc_any (a : Option Addr) (cap : Nat) (L : List F) (g : Nat) (nm : ByteArray) (w : World) (hl : L.length ≤ 65536) (S : Box (Sm L)) (M : Box (nm.size ≤ 65536)) (hF : Box (Fs w a L)) (hN : Box (Nm g nm w)) :
    Calls Try.prog 54 #[.slice a L.length cap, nmV g] w fun e w' => e = .returned (.int .i64 (idxL nm L)) ∧ Below w.heap.size w w' := by
  unfold nmV
  go_enter Try.func54, Try.ntmps54
  go_wp2
  go_loopw [8] (fun i wr => ∃ k : Nat, k ≤ L.length ∧ i = .int .i64 k ∧ (L.take k).any (nmd nm) = false ∧ Below w.heap.size w wr) (fun i _ => L.length - (intOf i).toNat)
  case atStart => exact ⟨0, Nat.zero_le _, rfl, rfl, Below.refl _ _⟩
  case round =>
    obtain ⟨k, hk, rfl, hall, hbel⟩ := hrel
    have HA := box hall
    clear hall
    by_cases hlt : k < L.length
    · obtain ⟨q, off, rfl, c0, c1⟩ := (hF.out.below hbel) k hlt
      have N := box (hN.out.below hbel)
      have B1 := box ((S.out.2 k hlt).1)
      go_wp2_with fail
      refine (clo_any g nm L[k].1 L[k].2 _ B1 M N).mono ?_; rintro e w1 ⟨rfl, hb1⟩
      go_wp2
      · have e1 : nmd nm L[k] = true := by assumption
        go_ret
        exact ⟨ret_int (idx_hit hlt HA.out e1).symm, (hbel.mono (Nat.le_refl _)).trans (hb1.mono hbel.size)⟩
      · have e1 : nmd nm L[k] = false := by assumption
        go_roundw
        case rel => exact ⟨k + 1, by omega, by go_num, none_more hlt HA.out e1, hbel.trans (hb1.mono hbel.size)⟩
        case measure => simp [intOf]; omega
    · have e : k = L.length := by omega
      go_wp2
      go_ret
      exact ⟨ret_int (idx_end (by rw [← e]; exact HA.out)).symm, hbel⟩

theorem ContainsFunc_any (a : Option Addr) (cap : Nat) (L : List F) (g : Nat) (nm : ByteArray) (w : World) (hl : L.length ≤ 65536) (S : Box (Sm L)) (M : Box (nm.size ≤ 65536)) (hF : Box (Fs w a L)) (hN : Box (Nm g nm w)) :
    Calls Try.prog 41 #[.slice a L.length cap, nmV g] w fun e w' => e = .returned (.bool (L.any (nmd nm))) ∧ Below w.heap.size w w' := by
  go_enter Try.func41, Try.ntmps41
  go_wp2_with fail
  refine (IndexFunc_any a cap L g nm _ hl S M hF hN).mono ?_; rintro e w1 ⟨rfl, hb1⟩
  go_wp2
  go_ret
  exact ⟨ret_bool idx_any, hb1⟩
theorem Nm.new (nm : ByteArray) (w : World) (t : TypeId) : Nm w.heap.size nm (w.alloc (.cells #[.string nm] t)) := by
  unfold Nm; rw [World.cell?_alloc_at _ _ _ _ rfl]; rfl
theorem Has_any (a : Option Addr) (cap : Nat) (L : List F) (nm : ByteArray) (w : World) (hl : L.length ≤ 65536) (S : Box (Sm L)) (M : Box (nm.size ≤ 65536)) (hF : Box (Fs w a L)) :
    Calls Try.prog 27 #[.slice a L.length cap, .string nm] w fun e w' => e = .returned (.bool (L.any (nmd nm))) ∧ Below w.heap.size w w' := by
  go_enter Try.func27, Try.ntmps27
  go_wp2_with fail
  refine (named_any nm _).mono ?_; rintro e w1 ⟨rfl, rfl⟩
  go_wp2_with fail
  refine (ContainsFunc_any a cap L _ nm _ hl S M (box (hF.out.below (below_new _ _))) (box (Nm.new nm w _))).mono ?_; rintro e w2 ⟨rfl, hb2⟩
  go_wp2
  go_ret
  exact ⟨rfl, (below_new w _).trans (hb2.mono (below_new w _).size)⟩

/-- the first value, and whether there is one -/
def firstV (nm : ByteArray) (L : List F) : Value :=
  match getL nm L with
  | [] => .tuple #[.string ⟨#[]⟩, .bool false]
  | v :: _ => .tuple #[.string v, .bool true]
theorem get_none {nm : ByteArray} {L : List F} (h : L.any (nmd nm) = false) : getL nm L = [] := by
  unfold getL
  rw [List.filter_eq_nil_iff.mpr (fun p hp => by rw [none_not h p hp]; simp)]; rfl
theorem get_at {nm : ByteArray} {L : List F} {k : Nat} (h : k < L.length) (ha : (L.take k).any (nmd nm) = false) (h1 : nmd nm L[k] = true) : getL nm L = L[k].2 :: getL nm (L.drop (k + 1)) := by
  unfold getL
  conv => lhs; rw [split_at h]
  rw [List.filter_append, List.filter_eq_nil_iff.mpr (fun p hp => by rw [none_not ha p hp]; simp), List.nil_append, List.filter_cons, h1]
  rfl
end Go.Proofs.Ytlcojfkkeommoaa.Asc
