/- The contracts of strings.HasPrefix, bytes.LastIndexByte and package target's withoutLastSegment; the append of a string to a slice of bytes. -/
import Derived.Test.YthfhoacflkbhhaaTarTri
import Derived.Test.YthfhoacflkbhhaaTarRSeg
import Derived.Lib.AppendStr
set_option linter.unusedVariables false
set_option linter.unusedSimpArgs false
namespace Go.Proofs.Ythfhoacflkbhhaa.Asc
open Go.RowKit

def preB (l p : List UInt8) : Bool := p.isPrefixOf l
theorem pre_take (l p : List UInt8) : preB l p = (l.take p.length == p) := by
  unfold preB
  rw [Bool.eq_iff_iff, List.isPrefixOf_iff_prefix, List.prefix_iff_eq_take, beq_iff_eq]
  exact eq_comm
theorem sHasPrefix_any (s p : ByteArray) (w : World) (hs : s.size ≤ 65536) (hp : p.size ≤ 65536) :
    Calls Try.prog 61 #[.string s, .string p] w fun e w' => e = .returned (.bool (preB s.data.toList p.data.toList)) ∧ w = w' := by
  have hz : s.data.toList.length = s.size := by simp
  have hz2 : p.data.toList.length = p.size := by simp
  by_cases h : p.size ≤ s.size
  · have HE : Box (preB s.data.toList p.data.toList = ((s.extract 0 p.size).toList == p.toList)) := box (by
      rw [pre_take, toList_data, toList_data, ext_bs, List.drop_zero, hz2]; rfl)
    have hi : (p.size : Int) ≤ (s.size : Int) := by omega
    clear hz hz2
    obtain ⟨b, hb⟩ : ∃ b, ((s.extract 0 p.size).toList == p.toList) = b := ⟨_, rfl⟩
    rw [hb] at HE
    go_enter Try.func61, Try.ntmps61
    go_wp2
    go_ret
    exact ⟨ret_bool HE.out.symm, rfl⟩
  · have HE : Box (preB s.data.toList p.data.toList = false) := box (by
      rw [pre_take, beq_eq_false_iff_ne]
      intro e
      have := congrArg List.length e
      rw [List.length_take] at this
      omega)
    have hi : (s.size : Int) < (p.size : Int) := by omega
    clear hz hz2
    go_enter Try.func61, Try.ntmps61
    go_wp2
    go_ret
    exact ⟨ret_bool HE.out.symm, rfl⟩
/-- where the byte stands last among the first k, or -1 -/
def lastF (d : UInt8) (l : List UInt8) : Nat → Int
  | 0 => -1
  | k + 1 => if l.getD k 0 = d then (k : Int) else lastF d l k
theorem last_none {d : UInt8} {l : List UInt8} : ∀ {k : Nat}, k ≤ l.length → d ∉ l.take k → lastF d l k = -1
  | 0, _, _ => rfl
  | k + 1, hk, h => by
    rw [List.take_succ_eq_append_getElem (by omega)] at h
    have e : l.getD k 0 = l[k] := getD_get _ _ (by omega)
    rw [lastF, e, if_neg (fun e => h (by rw [← e]; exact List.mem_append_right _ (List.mem_singleton.mpr rfl))), last_none (by omega) (fun q => h (List.mem_append_left _ q))]
theorem last_app {d : UInt8} {a b : List UInt8} (h : d ∉ b) : ∀ (j : Nat), j ≤ b.length → lastF d (a ++ d :: b) (a.length + 1 + j) = a.length
  | 0, _ => by
    show lastF d (a ++ d :: b) (a.length + 1) = a.length
    rw [lastF, if_pos (by simp [List.getD_eq_getElem?_getD])]
  | j + 1, hj => by
    show lastF d (a ++ d :: b) (a.length + 1 + j + 1) = a.length
    rw [lastF, if_neg ?_]
    · exact last_app h j (by omega)
    · intro e
      have hlt : a.length + 1 + j < (a ++ d :: b).length := by simp; omega
      rw [getD_get _ _ hlt, List.getElem_append_right (by omega)] at e
      have e2 : b[j]'(by omega) = d := by
        rw [← e]
        have : a.length + 1 + j - a.length = j + 1 := by omega
        simp [this]
      exact h (by rw [← e2]; exact List.getElem_mem _)
theorem last_lt (d : UInt8) (l : List UInt8) : ∀ k, -1 ≤ lastF d l k ∧ lastF d l k < (k : Int) ∨ lastF d l k = -1
  | 0 => .inr rfl
  | k + 1 => by
    rw [lastF]; split
    · left; omega
    · have := last_lt d l k; omega
theorem Own.form {w : World} {B : Nat} {v : Value} {l : List UInt8} (h : Own w B v l) (hn : l ≠ []) : ∃ g cap, v = .slice (some ⟨g, 0, none⟩) l.length cap ∧ l.length ≤ cap ∧ cap ≤ maxLen ∧ (∀ j, j < l.length → w.cell? ⟨g, j, none⟩ = some (bv (l.getD j 0))) ∧ ∀ m, m ≤ l.length → Own w B (.slice (some ⟨g, 0, none⟩) m cap) (l.take m) := by
  have hcells := h
  rcases h.2 with ⟨_, h0⟩ | ⟨g, cap, cur, hv, hB, hg, hc, hm, hs, ht⟩
  · exact absurd (List.eq_nil_of_length_eq_zero h0) hn
  · refine ⟨g, cap, hv, hc, hm, fun j hj => ?_, fun m hml => ?_⟩
    · subst hv
      rw [World.ownsRow.cellAt hcells j (by omega)]
      simp [hj, List.getD_eq_getElem?_getD]
    · refine ⟨by simp, .inr ⟨g, cap, cur, ?_, hB, hg, ?_, hm, hs, ?_⟩⟩
      · rw [List.length_take, Nat.min_eq_left hml]
      · rw [List.length_take, Nat.min_eq_left hml]; omega
      · rw [List.length_take, Nat.min_eq_left hml, List.map_take, ← ht, List.take_take]
        congr 1; omega
/-- a call returns a slice that holds the bytes l, and the world is as it was -/
def OwnSame (B : Nat) (l : List UInt8) (w : World) (e : Ending) (w' : World) : Prop := w = w' ∧ ∃ v, e = .returned v ∧ Own w B v l
theorem str_cells (s : ByteArray) : Lib.strCells s = s.data.toList.map bv := rfl
/-- append of a string's bytes -/
theorem wpList_append_sb (w : World) {ops : Array Oper} {rest : List Oper} {o : Oper} {a : Act} {Q : Exit → Act → World → Prop} (hgd : o.guard = none) (sl x : Operand)
    (ho : o.op = .call { callee := .builtin .append, args := #[sl, x], argTypes := #[40, 9] })
    (B : Nat) (v : Value) (l : List UInt8) (hs : a.eval sl = v) (hown : Own w B v l) (s : ByteArray) (hx : a.eval x = .string s) (hl : l.length + s.size < 8589934592) (hB : B ≤ w.heap.size)
    (h : ∀ v' w', Own w' B v' (l ++ s.data.toList) → Below B w w' → wpList Try.prog ops Q rest (a.put o.dst v') w') : wpList Try.prog ops Q (o :: rest) a w := by
  obtain ⟨i0, hi0, hz0, hz1, hz2⟩ := info_parts info_u8
  refine Lib.wpList_append_own_string (P := Try.prog) w hgd sl x 40 9 ho B 5 i0 Try.underlying40 Try.underlying9 hi0 hz0 hz1 hz2 v l.length (l.map bv) hs hown s hx (by unfold maxLen; omega) (by omega) hB ?_
  intro v' w' h1 h2 _
  refine h v' w' ?_ ((Below.refl _ _).grown h2 hB (fun k hk => Own.block hown k hk))
  rw [str_cells] at h1
  have e : (l ++ s.data.toList).length = l.length + s.size := by rw [List.length_append]; simp
  unfold Own
  rw [e, List.map_append]; exact h1

end Go.Proofs.Ythfhoacflkbhhaa.Asc
