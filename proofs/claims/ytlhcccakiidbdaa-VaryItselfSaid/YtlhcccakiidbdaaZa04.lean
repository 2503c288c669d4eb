/- Merged texts: AscOwn AscLow AscFold LstIdx LstOwn MedMem LstOpen. -/
import Derived.Test.YtlhcccakiidbdaaZa03
import Derived.BigQuiet
import Derived.Carry
import Derived.Deep.AppendLies
import Derived.Deep.QuietTactic
import Derived.Deep.SlicePairs
import Derived.Laws.AppendOwnNone
import Derived.Laws.ResultCell
import Derived.Lib.Hide
import Derived.LoopTactic
import Derived.ProofKit
set_option linter.unusedVariables false
set_option linter.unusedSimpArgs false
set_option maxRecDepth 100000
namespace Go.Proofs.Ytlhcccakiidbdaa.Asc
section
open Go.RowKit
theorem info_u8 : (Try.prog.info? 5).map (fun i => (i.zero, i.size, i.bytes)) = some (some (.int .u8 0), 1, 1) := by kernel_rfl
theorem data_at (s : ByteArray) (k : Nat) (h : k < s.size) : s.data.toList.getD k 0 = s[k] := by
  rw [getD_get _ _ (by simpa using h)]; rfl
theorem size_list (s : ByteArray) : s.data.toList.length = s.size := by simp
def Own (w : World) (B : Nat) (v : Value) (l : List UInt8) : Prop := w.ownsRow B 5 1 v l.length (l.map bv)
section
variable {w w' : World} {B : Nat} {v : Value} {l : List UInt8}
theorem Own.nil (w : World) (B : Nat) : Own w B (.slice none 0 0) [] := World.ownsRow_nil _ _ _ _
theorem Own.alloc (h : Own w B v l) (o : Obj) : Own (w.alloc o) B v l := World.ownsRow.alloc h o
theorem Own.drew (h : Own w B v l) : Own w.drew B v l := h
theorem Own.block (h : Own w B v l) : ∀ k, v.ownBlock = some k → B ≤ k := by
  intro k hk
  rcases h.2 with ⟨rfl, _⟩ | ⟨g, cap, cur, rfl, hb, _⟩
  · simp [Value.ownBlock] at hk
  · simp [Value.ownBlock] at hk; omega
/-- 'string(v)' -/
theorem Own.str (h : Own w B v l) : (convert 46 9 v).run Try.prog w = .ok (.string ⟨l.toArray⟩) w := by
  rcases h.2 with ⟨rfl, hn⟩ | ⟨g, cap, cur, rfl, hb, hh, hnc, hcm, hcs, htake⟩
  · have : l = [] := by simpa using hn
    subst this
    rw [run_convert_bytes_string w 46 9 5 none 0 0 Try.underlying46 Try.underlying5 Try.underlying9]
    rfl
  · refine run_convert_bytes_back w 46 9 5 ⟨g, 0, none⟩ cap l Try.underlying46 Try.underlying5 Try.underlying9 fun j hj => ?_
    have ea : (⟨g, 0, none⟩ : Addr).add j = ⟨g, j, none⟩ := by unfold Addr.add; split <;> simp_all
    rw [ea, World.ownsRow.cellAt h j (by omega)]
    simp [hj, bv]
end
end
section
open Go.RowKit
theorem Lower_any (s : ByteArray) (w : World) (hs : s.size ≤ 4294967296) :
    Calls Try.prog 27 #[.string s] w fun e w' => e = .returned (.string ⟨(lowL s.data.toList).toArray⟩) ∧ Below w.heap.size w w' := by
  obtain ⟨i0, hi0, hz0, hz1, hz2⟩ := info_parts info_u8
  have hmk := fun (w : World) => run_make (P := Try.prog) w 46 5 i0 _ Try.underlying46 hi0 hz0 .i64 .i64 s.size s.size (by omega) (by omega) (by rw [hz2]; omega) (by omega)
  simp only [Int.toNat_natCast, hz1, Nat.mul_one] at hmk
  go_enter Try.func27, Try.ntmps27
  go_wp2
  have hr : (List.replicate s.size (0 : UInt8)).length = s.data.toList.length := by simp
  have hB0 : Bys (w.alloc (.cells (madeCells #[.int .u8 0] s.size) 5)) w.heap.size (half (List.replicate s.size (0 : UInt8)) s.data.toList 0) := by
    rw [half_zero]
    refine ⟨by simp, fun j hj => ?_⟩
    rw [List.length_replicate] at hj
    refine ⟨?_, by go_simp⟩
    rw [World.cell?_alloc_at (hn := rfl), ← Array.getElem?_toList, toList_madeCells_one]
    simp [hj, bv, List.getD_eq_getElem?_getD, List.getElem?_replicate]
  go_loopw [4, 10] (fun u i wr => ∃ k : Nat, k ≤ s.size ∧ i = .int .i64 k ∧ Bys wr w.heap.size (half (List.replicate s.size (0 : UInt8)) s.data.toList k) ∧ Below w.heap.size w wr) (fun _ i _ => s.size - (intOf i).toNat)
  case atStart => exact ⟨0, Nat.zero_le _, rfl, hB0, ((Below.refl _ _).alloc (Nat.le_refl _) _)⟩
  case round =>
    obtain ⟨k, hk, rfl, hB, hbel⟩ := hrel
    clear hB0 hmk
    have hz := size_list s
    by_cases hlt : k < s.size
    · have hlt' : k < s.data.toList.length := by omega
      have hlh := half_length _ _ k hr
      obtain ⟨cv, hc⟩ : ∃ cv, wr.cell? ⟨w.heap.size, k, none⟩ = some cv := ⟨_, hB.cell (by omega)⟩
      have hf : wr.frozen? ⟨w.heap.size, k, none⟩ = false := hB.frozen (by omega)
      have hb := byte_bd s k hlt
      have hset := hB.set (k := k) (by omega) (lowB s[k])
      rw [half_step _ _ k hr hlt' s[k] rfl, bv_low] at hset
      have hbs := hbel.setCell (p := ⟨w.heap.size, k, none⟩) (Nat.le_refl _) (.int .u8 (lowI s[k].toNat))
      have HS := Lib.hid hset
      have HB := Lib.hid hbs
      clear hset hbs hz hr hlh
      go_wp2_with (go_at_call 42; refine (lowerByte_any _ _ hb.1 hb.2).mono ?_; rintro e w' ⟨rfl, rfl⟩)
      go_roundw
      case rel => exact ⟨k + 1, by omega, by go_num, HS.out, HB.out⟩
      case measure => simp [intOf]; omega
    · have hst := hB.str (P := Try.prog) 46 9 5 s.size s.size (by rw [half_length _ _ k hr, hz]) Try.underlying46 Try.underlying5 Try.underlying9
      rw [half_end _ _ k hr (by omega)] at hst
      clear hz hr
      go_wp2
      go_ret
      exact ⟨rfl, hbel⟩
theorem rLower_any (s : ByteArray) (w : World) (hs : s.size ≤ 4294967296) :
    Calls Try.prog 20 #[.string s] w fun e w' => e = .returned (.string ⟨(lowL s.data.toList).toArray⟩) ∧ Below w.heap.size w w' := by
  have hcv := fun (w : World) => run_bytes_of_string (P := Try.prog) w 9 46 5 s Try.underlying9 Try.underlying46 Try.underlying5
  go_enter Try.func20, Try.ntmps20
  go_wp2
  have hB0 : Bys (w.alloc (.cells (bytesRow s (grownCap w s.size 0 5)) 5 ((bytesRow s (grownCap w s.size 0 5)).size, (bytesRow s (grownCap w s.size 0 5)).size + 1))).drew w.heap.size (half s.data.toList s.data.toList 0) := by
    rw [half_zero]
    refine (Bys.new w _ _ _ _ _ ?_ ?_).drew
    · simp [bytesRow]
    · intro j hj
      rw [bytesRow_at s _ j (by simpa using hj), getD_get _ _ hj]; rfl
  go_loopw [4] (fun i wr => ∃ k : Nat, k ≤ s.size ∧ i = .int .i64 k ∧ Bys wr w.heap.size (half s.data.toList s.data.toList k) ∧ Below w.heap.size w wr) (fun i _ => s.size - (intOf i).toNat)
  case atStart => exact ⟨0, Nat.zero_le _, rfl, hB0, ((Below.refl _ _).alloc (Nat.le_refl _) _).drew⟩
  case round =>
    obtain ⟨k, hk, rfl, hB, hbel⟩ := hrel
    clear hB0 hcv
    have hz := size_list s
    by_cases hlt : k < s.size
    · have hlt' : k < s.data.toList.length := by omega
      have hlh := half_length s.data.toList s.data.toList k rfl
      have hc : wr.cell? ⟨w.heap.size, k, none⟩ = some (.int .u8 (s[k].toNat : Int)) := by
        have := hB.cell (j := k) (by omega)
        rw [half_get _ _ k rfl hlt', data_at s k hlt] at this; exact this
      have hf : wr.frozen? ⟨w.heap.size, k, none⟩ = false := hB.frozen (by omega)
      have hb := byte_bd s k hlt
      have hset := hB.set (k := k) (by omega) (lowB s[k])
      rw [half_step _ _ k rfl hlt' s[k] rfl, bv_low] at hset
      have hsame : lowI s[k].toNat = s[k].toNat → Bys wr w.heap.size (half s.data.toList s.data.toList (k + 1)) := fun h => by
        have e := half_step s.data.toList s.data.toList k rfl hlt' s[k] rfl
        rw [← e]
        rw [lowB_same h]
        have h3 : (half s.data.toList s.data.toList k).set k s[k] = half s.data.toList s.data.toList k := by
          apply List.ext_getElem?; intro j
          by_cases ej : k = j
          · subst ej
            have h4 := half_get s.data.toList s.data.toList k rfl hlt'
            rw [data_at s k hlt, getD_get _ _ (by omega)] at h4
            rw [List.getElem?_set_self (by omega), List.getElem?_eq_getElem (by omega), h4]
          · rw [List.getElem?_set_ne ej]
        rw [h3]; exact hB
      have hbs := hbel.setCell (p := ⟨w.heap.size, k, none⟩) (Nat.le_refl _) (.int .u8 (lowI s[k].toNat))
      have HS := Lib.hid hset
      have HB := Lib.hid hbs
      have HM := Lib.hid hsame
      clear hset hbs hz hlh hsame
      go_wp2
      · go_roundw
        case rel =>
          have el : lowI s[k].toNat = s[k].toNat + 32 := by unfold lowI; rw [if_pos ⟨‹_›, ‹_›⟩]
          have h1 := HS.out; have h2 := HB.out
          rw [el] at h1 h2
          exact ⟨k + 1, by omega, by go_num, h1, h2⟩
        case measure => simp [intOf]; omega
      all_goals
        go_roundw
        case rel => exact ⟨k + 1, by omega, by go_num, HM.out (by unfold lowI; rw [if_neg (by omega)]), hbel⟩
        case measure => simp [intOf]; omega
    · have hst := fun cap => hB.str (P := Try.prog) 46 9 5 s.size cap (by rw [half_length _ _ k rfl, hz]) Try.underlying46 Try.underlying5 Try.underlying9
      rw [half_end _ _ k rfl (by omega)] at hst
      clear hz
      go_wp2
      go_ret
      exact ⟨rfl, hbel⟩
end
section
open Go.RowKit
theorem Fold_any (a b : ByteArray) (w : World) (ha : a.size ≤ maxLen) (hb : b.size ≤ maxLen) :
    Calls Try.prog 70 #[.string a, .string b] w fun e w' => e = .returned (.bool (foldL a.data.toList b.data.toList)) ∧ Below w.heap.size w w' := by
  unfold maxLen at ha hb
  by_cases hab : a.size = b.size
  · have hne : ((a.size : Int) != (b.size : Int)) = false := by simp [hab]
    have HAB := Lib.hid hab
    clear hab
    go_enter Try.func70, Try.ntmps70
    go_wp2
    go_loopw [5, 13] (fun _ i wr => ∃ k : Nat, k ≤ a.size ∧ i = .int .i64 k ∧ lowL (a.data.toList.take k) = lowL (b.data.toList.take k) ∧ Below w.heap.size w wr) (fun _ i _ => a.size - (intOf i).toNat)
    case atStart => exact ⟨0, Nat.zero_le _, rfl, rfl, Below.refl _ _⟩
    case round =>
      obtain ⟨k, hk, rfl, hall, hbel⟩ := hrel
      have HH := Lib.hid hall
      clear hall
      by_cases hlt : k < a.size
      · have hltb : k < b.size := by have := HAB.out; omega
        have ba := byte_bd a k hlt
        have bb := byte_bd b k hltb
        by_cases hc : lowI a[k].toNat = lowI b[k].toNat
        · have HC := Lib.hid (fold_more HH.out hlt hltb hc)
          have hcn : (lowI a[k].toNat != lowI b[k].toNat) = false := by simp [hc]
          clear hc
          go_wp2
          go_quiet ((go_at_call 42; exact Calls.quiet_of_same ((lowerByte_any _ _ (by omega) (by omega)).mono fun e w' ⟨h1, h2⟩ => ⟨h1, h2.symm⟩)))
          go_wp2
          go_roundw
          case rel => exact ⟨k + 1, by omega, by go_num, HC.out, hbel.trans ⟨rfl, rfl, rfl, Nat.le_refl _, fun _ _ => rfl⟩⟩
          case measure => simp [intOf]; omega
        · have HC := Lib.hid (fold_not hlt hltb hc)
          have hcn : (lowI a[k].toNat != lowI b[k].toNat) = true := by simp [hc]
          clear hc
          go_wp2
          go_quiet ((go_at_call 42; exact Calls.quiet_of_same ((lowerByte_any _ _ (by omega) (by omega)).mono fun e w' ⟨h1, h2⟩ => ⟨h1, h2.symm⟩)))
          go_wp2
          go_ret
          exact ⟨ret_bool HC.out.symm, hbel.trans ⟨rfl, rfl, rfl, Nat.le_refl _, fun _ _ => rfl⟩⟩
      · go_wp2
        go_ret
        exact ⟨ret_bool (fold_end HH.out (by omega) (by have := HAB.out; omega)).symm, hbel⟩
  · have hne : ((a.size : Int) != (b.size : Int)) = true := by simp; omega
    have HAB := Lib.hid hab
    clear hab
    go_enter Try.func70, Try.ntmps70
    go_wp2
    go_ret
    exact ⟨ret_bool (fold_len HAB.out).symm, Below.refl _ _⟩
theorem rFold_any (a b : ByteArray) (w : World) (ha : a.size ≤ 4294967296) (hb : b.size ≤ 4294967296) :
    Calls Try.prog 23 #[.string a, .string b] w fun e w' => e = .returned (.bool (foldL a.data.toList b.data.toList)) ∧ Below w.heap.size w w' := by
  by_cases hab : a.size = b.size
  · have hne : ((a.size : Int) == (b.size : Int)) = true := by simp [hab]
    have HAB := Lib.hid hab
    clear hab
    go_enter Try.func23, Try.ntmps23
    go_wp2_with fail
    refine (rLower_any _ _ ha).mono ?_; rintro e w1 ⟨rfl, hb1⟩
    go_wp2_with fail
    refine (rLower_any _ _ hb).mono ?_; rintro e w2 ⟨rfl, hb2⟩
    go_wp2
    go_ret
    exact ⟨ret_bool (by unfold foldL; rw [Bool.eq_iff_iff]; simp), hb1.trans (hb2.mono hb1.size)⟩
  · have hne : ((a.size : Int) == (b.size : Int)) = false := by simp; omega
    have HAB := Lib.hid hab
    clear hab
    go_enter Try.func23, Try.ntmps23
    go_wp2
    go_ret
    exact ⟨ret_bool (fold_len HAB.out).symm, Below.refl _ _⟩
end
section
open Go.RowKit
/-- the name lies in the block that the function value has captured -/
def Nm (g : Nat) (nm : ByteArray) (w : World) : Prop := w.cell? ⟨g, 0, none⟩ = some (.string nm)
theorem Nm.below {w w' : World} {g : Nat} {nm : ByteArray} (h : Nm g nm w) (hb : Below w.heap.size w w') : Nm g nm w' := (hb.cell (cell_lt h)).trans h
def nmV (g : Nat) : Value := .func (.func 69) #[] #[.pointer (some ⟨g, 0, none⟩)]
theorem named_any (nm : ByteArray) (w : World) :
    Calls Try.prog 46 #[.string nm] w fun e w' => e = .returned (nmV w.heap.size) ∧ w' = w.alloc (.cells #[.string nm] 9) := by
  have hmf : ∀ (fn : Fn) (first cap : Array Value) (w : World), (Instr.makeFunc fn first cap).run Try.prog w = .ok (.func fn first cap) w := fun _ _ _ _ => rfl
  go_enter Try.func46, Try.ntmps46
  go_wp2
  go_ret
  exact ⟨rfl, rfl⟩
theorem clo_any (g : Nat) (nm n v : ByteArray) (w : World) (N : Box (n.size ≤ 65536)) (M : Box (nm.size ≤ 65536)) (h : Box (Nm g nm w)) :
    Calls Try.prog 69 #[.agg #[.string n, .string v], .pointer (some ⟨g, 0, none⟩)] w fun e w' => e = .returned (.bool (nmd nm (n, v))) ∧ Below w.heap.size w w' := by
  have c0 : w.cell? ⟨g, 0, none⟩ = some (.string nm) := h.out
  have hlt := cell_lt c0
  simp only at hlt
  go_enter Try.func69, Try.ntmps69
  go_wp2_with fail
  refine (Fold_any _ _ _ (small_max N).out (small_max M).out).mono ?_; rintro e w1 ⟨rfl, hb1⟩
  go_wp2
  go_ret
  exact ⟨rfl, (below_new w _).trans (hb1.mono (below_new w _).size)⟩
/-- all names are small -/
def Sm (L : List F) : Prop := L.length ≤ 65536 ∧ ∀ i (h : i < L.length), L[i].1.size ≤ 65536 ∧ L[i].2.size ≤ 65536
set_option maxHeartbeats 400000 in
theorem IndexFunc_any (a : Option Addr) (cap : Nat) (L : List F) (g : Nat) (nm : ByteArray) (w : World) (hl : L.length ≤ 65536) (S : Box (Sm L)) (M : Box (nm.size ≤ 65536)) (hF : Box (Fs w a L)) (hN : Box (Nm g nm w)) :
    Calls Try.prog 68 #[.slice a L.length cap, nmV g] w fun e w' => e = .returned (.int .i64 (idxL nm L)) ∧ Below w.heap.size w w' := by
  unfold nmV
  go_enter Try.func68, Try.ntmps68
  go_wp2
  go_loopw [8] (fun i wr => ∃ k : Nat, k ≤ L.length ∧ i = .int .i64 k ∧ (L.take k).any (nmd nm) = false ∧ Below w.heap.size w wr) (fun i _ => L.length - (intOf i).toNat)
  case atStart => exact ⟨0, Nat.zero_le _, rfl, rfl, Below.refl _ _⟩
  case round =>
    obtain ⟨k, hk, rfl, hall, hbel⟩ := hrel
    have HA := box hall
    clear hall
    by_cases hlt : k < L.length
    · obtain ⟨q, off, rfl, c0, c1⟩ := (hF.out.below hbel) k hlt
      have N := box (hN.out.below hbel)
      have B1 := box ((S.out.2 k hlt).1)
      go_wp2_with fail
      refine (clo_any g nm L[k].1 L[k].2 _ B1 M N).mono ?_; rintro e w1 ⟨rfl, hb1⟩
      go_wp2
      · have e1 : nmd nm L[k] = true := by assumption
        go_ret
        exact ⟨ret_int (idx_hit hlt HA.out e1).symm, (hbel.mono (Nat.le_refl _)).trans (hb1.mono hbel.size)⟩
      · have e1 : nmd nm L[k] = false := by assumption
        go_roundw
        case rel => exact ⟨k + 1, by omega, by go_num, none_more hlt HA.out e1, hbel.trans (hb1.mono hbel.size)⟩
        case measure => simp [intOf]; omega
    · have e : k = L.length := by omega
      go_wp2
      go_ret
      exact ⟨ret_int (idx_end (by rw [← e]; exact HA.out)).symm, hbel⟩
theorem ContainsFunc_any (a : Option Addr) (cap : Nat) (L : List F) (g : Nat) (nm : ByteArray) (w : World) (hl : L.length ≤ 65536) (S : Box (Sm L)) (M : Box (nm.size ≤ 65536)) (hF : Box (Fs w a L)) (hN : Box (Nm g nm w)) :
    Calls Try.prog 45 #[.slice a L.length cap, nmV g] w fun e w' => e = .returned (.bool (L.any (nmd nm))) ∧ Below w.heap.size w w' := by
  go_enter Try.func45, Try.ntmps45
  go_wp2_with fail
  refine (IndexFunc_any a cap L g nm _ hl S M hF hN).mono ?_; rintro e w1 ⟨rfl, hb1⟩
  go_wp2
  go_ret
  exact ⟨ret_bool idx_any, hb1⟩
theorem Nm.new (nm : ByteArray) (w : World) (t : TypeId) : Nm w.heap.size nm (w.alloc (.cells #[.string nm] t)) := by
  unfold Nm; rw [World.cell?_alloc_at _ _ _ _ rfl]; rfl
theorem Has_any (a : Option Addr) (cap : Nat) (L : List F) (nm : ByteArray) (w : World) (hl : L.length ≤ 65536) (S : Box (Sm L)) (M : Box (nm.size ≤ 65536)) (hF : Box (Fs w a L)) :
    Calls Try.prog 31 #[.slice a L.length cap, .string nm] w fun e w' => e = .returned (.bool (L.any (nmd nm))) ∧ Below w.heap.size w w' := by
  go_enter Try.func31, Try.ntmps31
  go_wp2_with fail
  refine (named_any nm _).mono ?_; rintro e w1 ⟨rfl, rfl⟩
  go_wp2_with fail
  refine (ContainsFunc_any a cap L _ nm _ hl S M (box (hF.out.below (below_new _ _))) (box (Nm.new nm w _))).mono ?_; rintro e w2 ⟨rfl, hb2⟩
  go_wp2
  go_ret
  exact ⟨rfl, (below_new w _).trans (hb2.mono (below_new w _).size)⟩
end
section
open Go.RowKit
theorem info_fld : (Try.prog.info? 40).map (fun i => (i.zero, i.size, i.bytes)) = some (some (.agg #[.string ⟨#[]⟩, .string ⟨#[]⟩]), 2, 32) := by kernel_rfl
def cellsF (L : List F) : List Value := L.flatMap fun p => [.string p.1, .string p.2]
theorem cellsF_len (L : List F) : (cellsF L).length = L.length * 2 := by
  induction L with
  | nil => rfl
  | cons p L ih => simp only [cellsF, List.flatMap_cons, List.length_append, List.length_cons, List.length_nil] at *; omega
theorem cellsF_app (L M : List F) : cellsF (L ++ M) = cellsF L ++ cellsF M := by simp [cellsF]
theorem cellsF_at (L : List F) (i : Nat) (h : i < L.length) : (cellsF L)[i * 2]? = some (.string L[i].1) ∧ (cellsF L)[i * 2 + 1]? = some (.string L[i].2) := by
  have e := split_at h
  have hl : (cellsF (L.take i)).length = i * 2 := by rw [cellsF_len, List.length_take, Nat.min_eq_left (Nat.le_of_lt h)]
  have e2 : cellsF L = cellsF (L.take i) ++ (.string L[i].1 :: .string L[i].2 :: cellsF (L.drop (i + 1))) := by
    conv => lhs; rw [e, cellsF_app]
    rfl
  rw [e2]
  constructor
  · rw [List.getElem?_append_right (by omega), hl]; simp
  · rw [List.getElem?_append_right (by omega), hl]; simp
def OwnF (w : World) (B : Nat) (v : Value) (L : List F) : Prop := w.ownsRow B 40 2 v L.length (cellsF L)
section
variable {w w' : World} {B : Nat} {v : Value}
theorem OwnF.nil (w : World) (B : Nat) : OwnF w B (.slice none 0 0) [] := World.ownsRow_nil _ _ _ _
/-- what a slice of fields that a call owns looks like -/
theorem OwnF.fs {L : List F} (h : OwnF w B v L) : ∃ a cap, v = .slice a L.length cap ∧ Fs w a L ∧ L.length ≤ cap := by
  rcases h.2 with ⟨rfl, hn⟩ | ⟨g, cap, cur, rfl, hB, hg, hc, hm, hs, ht⟩
  · exact ⟨none, 0, by rw [hn], fun i hi => by omega, by omega⟩
  · refine ⟨_, cap, rfl, fun i hi => ⟨g, 0, rfl, ?_, ?_⟩, hc⟩
    all_goals
      obtain ⟨q0, q1⟩ := cellsF_at L i hi
      rw [← ht] at q0 q1
      rw [List.getElem?_take] at q0 q1
      rw [if_pos (by omega)] at q0 q1
      simp only [World.cell?, hg]
    · simpa using q0
    · simpa [Nat.add_assoc] using q1
end
/-- append of one field that lies in a block of its own -/
theorem wpList_append_fld (w : World) {ops : Array Oper} {rest : List Oper} {o : Oper} {a : Act} {Q : Exit → Act → World → Prop} (hgd : o.guard = none) (s x : Operand)
    (ho : o.op = .call { callee := .builtin .append, args := #[s, x], argTypes := #[22, 22] })
    (B : Nat) (v : Value) (L : List F) (hs : a.eval s = v) (hown : OwnF w B v L)
    (g : Nat) (c : Nat) (hx : a.eval x = .slice (some ⟨g, 0, none⟩) 1 c) (n u : ByteArray) (h0 : w.cell? ⟨g, 0, none⟩ = some (.string n)) (h1 : w.cell? ⟨g, 1, none⟩ = some (.string u)) (hl : L.length ≤ 65536) (hB : B ≤ w.heap.size)
    (h : ∀ v' w', OwnF w' B v' (L ++ [(n, u)]) → Below B w w' → wpList Try.prog ops Q rest (a.put o.dst v') w') : wpList Try.prog ops Q (o :: rest) a w := by
  obtain ⟨i0, hi0, hz0, hz1, hz2⟩ := info_parts info_fld
  refine wpList_append_own (P := Try.prog) w hgd s x 22 ho B 40 i0 _ 2 32 Try.underlying22 hi0 hz0 hz1 hz2 rfl (by decide) v L.length (cellsF L) hs hown ⟨g, 0, none⟩ 1 c [.string n, .string u] hx rfl ?_ ?_ (by unfold maxLen; omega) (by omega) hB ?_
  · intro j u hj
    match j, hj with
    | 0, hj => simp at hj; subst hj; simpa [Addr.add] using h0
    | 1, hj => simp at hj; subst hj; simpa [Addr.add] using h1
  · intro u hu; simp at hu; rcases hu with rfl | rfl <;> rfl
  · intro v' w' q1 q2 _
    refine h v' w' (by simpa [OwnF, cellsF_app, cellsF] using q1) ((Below.refl _ _).grown q2 hB (fun k hk => own_block hown k hk))
end
section
open Go.RowKit
/-- three values lie at the block's start, and may be written -/
def C3 (g : Nat) (c0 c1 c2 : Value) (w : World) : Prop :=
  (w.cell? ⟨g, 0, none⟩ = some c0 ∧ w.cell? ⟨g, 1, none⟩ = some c1 ∧ w.cell? ⟨g, 2, none⟩ = some c2) ∧
  (w.frozen? ⟨g, 0, none⟩ = false ∧ w.frozen? ⟨g, 1, none⟩ = false ∧ w.frozen? ⟨g, 2, none⟩ = false)
section
variable {g B : Nat} {c0 c1 c2 : Value} {w w' : World}
theorem C3.new (c0 c1 c2 : Value) (w : World) (t : TypeId) : C3 w.heap.size c0 c1 c2 (w.alloc (.cells #[c0, c1, c2] t)) := by
  refine ⟨⟨?_, ?_, ?_⟩, ⟨?_, ?_, ?_⟩⟩
  all_goals first
    | (rw [World.cell?_alloc_mark]; rfl)
    | exact World.frozen?_alloc_at _ _ _ _ rfl
theorem C3.below (f : C3 g c0 c1 c2 w) (hb : Below B w w') (hg : g < B) : C3 g c0 c1 c2 w' := by
  obtain ⟨⟨h0, h1, h2⟩, ⟨f0, f1, f2⟩⟩ := f
  exact ⟨⟨(hb.cell hg).trans h0, (hb.cell hg).trans h1, (hb.cell hg).trans h2⟩, ⟨(hb.frozen hg).trans f0, (hb.frozen hg).trans f1, (hb.frozen hg).trans f2⟩⟩
theorem C3.lt (f : C3 g c0 c1 c2 w) : g < w.heap.size := cell_lt (p := ⟨g, 0, none⟩) f.1.1
end
end
section
open Go.RowKit Go.ChangeShapes Go.WideShapes Go.Deep
def strOf : Value → ByteArray
  | .string s => s
  | _ => ByteArray.empty
theorem laid : laidOutB Try.prog = true := by kernel_rfl
theorem open_fields {H : Type} {enc : TypeId × Value → H} {W : World} {base : Nat} {sp : Nat → Bool} {held : Bool} {r : Reach} {b0 : Nat} {v : Value} {d : DataW H} {p : List MemPlace}
    (hval : Value.okWide Try.prog W r b0 22 v) (h : DataW.Trod enc Try.prog W base sp held 22 v d p) :
    ∃ (a : Option Addr) (cap : Nat) (L : List F), v = .slice a L.length cap ∧ L.length ≤ maxLen ∧ Fs W a L ∧ L.length ≤ cap := by
  obtain ⟨a0, len, cap, rfl⟩ := okWide_slice Try.underlying22 hval
  obtain ⟨fuel, hf⟩ := h
  rcases open_slice_pairs Try.underlying22 Try.underlying40 (by kernel_rfl) rfl rfl (by kernel_rfl) (by kernel_rfl) hf with ⟨hcs, hx⟩ | ⟨a, len', cap', m, n, V0, V1, D0, D1, P0, P1, hcs, _, hl, hm, hmm, hx, hi⟩
  · simp [Value.cells] at hcs
    obtain ⟨rfl, rfl, rfl⟩ := hcs
    exact ⟨none, 0, [], rfl, Nat.zero_le _, fun i hi => absurd hi (by simp), Nat.le_refl _⟩
  · simp [Value.cells] at hcs
    obtain ⟨rfl, rfl, rfl⟩ := hcs
    have hlm : len ≤ m := by rw [hmm]; split <;> omega
    refine ⟨some a, cap, (List.range len).map fun i => (strOf (V0 i), strOf (V1 i)), by simp, by simp; omega, fun i hi2 => ?_, by simp; omega⟩
    have hil : i < len := by simpa using hi2
    obtain ⟨g, off, spot⟩ := a
    obtain ⟨z0, _, _, _⟩ := hi 0 (by omega)
    have hspot : spot = none := by simpa [Addr.add] using World.cell?_spot z0
    subst hspot
    obtain ⟨k0, k1, t0, t1⟩ := hi i (by omega)
    obtain ⟨s0, e0, _, _⟩ := DataW.trod_string Try.underlying9 t0
    obtain ⟨s1, e1, _, _⟩ := DataW.trod_string Try.underlying9 t1
    rw [add_plain] at k0 k1
    simp at e0 e1
    refine ⟨g, off, rfl, ?_, ?_⟩
    · rw [k0, e0]; simp [strOf, e0]
    · rw [← Nat.add_assoc] at k1
      rw [k1, e1]; simp [strOf, e1]
end
end Go.Proofs.Ytlhcccakiidbdaa.Asc
