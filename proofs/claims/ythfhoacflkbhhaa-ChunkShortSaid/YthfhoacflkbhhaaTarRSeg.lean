/- The contract of the reference's Segments. -/
import Derived.Test.YthfhoacflkbhhaaTarRef
import Derived.Test.YthfhoacflkbhhaaStrMem
import Derived.Test.YthfhoacflkbhhaaAscTrim
import Derived.Deep.QuietTactic
import Derived.BigQuiet
set_option linter.unusedVariables false
set_option linter.unusedSimpArgs false
namespace Go.Proofs.Ythfhoacflkbhhaa.Asc
open Go.RowKit

def outL (ob : List ByteArray) : List (List UInt8) := ob.map (·.data.toList)
theorem outL_app (a b : List ByteArray) : outL (a ++ b) = outL a ++ outL b := by simp [outL]
theorem outL_last (a : List ByteArray) : outL a.dropLast = (outL a).dropLast := by simp [outL, List.map_dropLast]
/-- out has been left of the pieces of r0; rest is to come -/
def SegAt (r0 : List UInt8) (ob : List ByteArray) (rest : List UInt8) : Bool → Prop
  | true => dotsL [] (piecesL r0) = dotsL (outL ob) (piecesL rest) ∧ (joinL (outL ob)).length + rest.length ≤ r0.length
  | false => dotsL [] (piecesL r0) = outL ob ∧ (joinL (outL ob)).length ≤ r0.length + 1
theorem SegAt.start (r0 : List UInt8) : SegAt r0 [] r0 true := ⟨rfl, by simp [outL, joinL]⟩
theorem join_app (a b : List (List UInt8)) : joinL (a ++ b) = joinL a ++ joinL b := by simp [joinL]
theorem join_last (a : List (List UInt8)) : (joinL a.dropLast).length ≤ (joinL a).length := by
  rcases List.eq_nil_or_concat a with rfl | ⟨b, x, rfl⟩
  · simp [joinL]
  · rw [List.concat_eq_append, List.dropLast_concat, join_app]; simp
theorem len_join (a : List (List UInt8)) : a.length ≤ (joinL a).length := by
  induction a with
  | nil => simp [joinL]
  | cons x a ih => simp only [joinL, List.flatMap_cons, List.length_append, List.length_cons] at *; omega
theorem SegAt.len {r0 rest : List UInt8} {ob : List ByteArray} {m : Bool} (h : SegAt r0 ob rest m) : ob.length ≤ r0.length + 1 := by
  have h1 := len_join (outL ob)
  have h2 : (outL ob).length = ob.length := by simp [outL]
  cases m
  · have := h.2; omega
  · have := h.2; omega
/-- a round: the piece x, and whether there is more behind it -/
theorem seg_step {r0 rest x r2 : List UInt8} {ob : List ByteArray} {m : Bool} (h : SegAt r0 ob rest true) (hp : piecesL rest = x :: (if m then piecesL r2 else [])) (hl : x.length + (if m then r2.length + 1 else 0) = rest.length) :
    (∀ xb : ByteArray, xb.data.toList = x → x ≠ dot2 → x ≠ dot1 → SegAt r0 (ob ++ [xb]) r2 m) ∧
    (x = dot2 → m = true → SegAt r0 ob.dropLast r2 m) ∧ (x = dot2 → m = false → SegAt r0 (ob.dropLast ++ [⟨#[]⟩]) r2 m) ∧
    (x = dot1 → m = true → SegAt r0 ob r2 m) ∧ (x = dot1 → m = false → SegAt r0 (ob ++ [⟨#[]⟩]) r2 m) := by
  obtain ⟨h1, h2⟩ := h
  rw [hp] at h1
  have hd := join_last (outL ob)
  have d12 : dot1 ≠ dot2 := by decide
  refine ⟨fun xb hb n2 n1 => ?_, fun e em => ?_, fun e em => ?_, fun e em => ?_, fun e em => ?_⟩
  · cases m
    · refine ⟨?_, ?_⟩
      · rw [h1, dotsL, if_neg n2, if_neg n1, outL_app]; simp [dotsL, outL, hb]
      · rw [outL_app, join_app, List.length_append]; simp [outL, joinL, hb] at hl h2 ⊢; omega
    · refine ⟨?_, ?_⟩
      · rw [h1, dotsL, if_neg n2, if_neg n1, outL_app]; simp [outL, hb]
      · rw [outL_app, join_app, List.length_append]; simp [outL, joinL, hb] at hl h2 ⊢; omega
  · subst em
    refine ⟨?_, ?_⟩
    · rw [h1, dotsL, if_pos e, if_neg (by simpa using pieces_ne r2), outL_last]; rfl
    · rw [outL_last]; simp at hl; omega
  · subst em
    refine ⟨?_, ?_⟩
    · rw [h1, dotsL, if_pos e, if_pos (by simp), outL_app, outL_last]; simp [outL]
    · rw [outL_app, outL_last, join_app, List.length_append]; simp [outL, joinL] at hl h2 hd ⊢; omega
  · subst em
    refine ⟨?_, ?_⟩
    · rw [h1, dotsL, if_neg (by rw [e]; exact d12), if_pos e, if_neg (by simpa using pieces_ne r2)]; rfl
    · simp at hl; omega
  · subst em
    refine ⟨?_, ?_⟩
    · rw [h1, dotsL, if_neg (by rw [e]; exact d12), if_pos e, if_pos (by simp), outL_app]; simp [outL]
    · rw [outL_app, join_app, List.length_append]; simp [outL, joinL] at hl h2 ⊢; omega
theorem OwnS.form {w : World} {B : Nat} {v : Value} {L : List ByteArray} (h : OwnS w B v L) (hn : L ≠ []) : ∃ g cap, v = .slice (some ⟨g, 0, none⟩) L.length cap ∧ L.length ≤ cap ∧ OwnS w B (.slice (some ⟨g, 0, none⟩) (L.length - 1) cap) L.dropLast := by
  rcases h.2 with ⟨_, h0⟩ | ⟨g, cap, cur, hv, hB, hg, hc, hm, hs, ht⟩
  · exact absurd (List.eq_nil_of_length_eq_zero h0) hn
  · refine ⟨g, cap, hv, hc, by simp, .inr ⟨g, cap, cur, by simp, hB, hg, by simp; omega, hm, hs, ?_⟩⟩
    have hcl : cur.toList.length = cap := by simpa using hs
    have e : (cur.toList.take (L.length * 1)).dropLast = cur.toList.take (L.length - 1) := by
      rw [List.dropLast_eq_take, List.take_take, List.length_take]
      congr 1; omega
    show cur.toList.take (L.dropLast.length * 1) = L.dropLast.map Value.string
    rw [List.length_dropLast, List.map_dropLast, ← ht, e, Nat.mul_one]
def strSize : Value → Nat
  | .string s => s.size
  | _ => 0
def isT : Value → Nat
  | .bool true => 1
  | _ => 0
theorem seg_head_not {s : ByteArray} (h : s.toList.isEmpty = true ∨ ∃ h : 0 < s.size, s[0].toNat ≠ 47) : segL s.data.toList = s.data.toList := by
  refine seg_other ?_
  rcases h with h | ⟨h, h2⟩
  · rw [toList_data, List.isEmpty_iff] at h; rw [h]; simp
  · intro e
    rw [List.head?_eq_getElem?, List.getElem?_eq_getElem (by simpa using h)] at e
    simp at e
    exact h2 (by rw [show s[0] = s.data[0] from rfl, e]; rfl)
theorem cell_new' (w : World) (v : Value) (t : TypeId) (n : Nat) (hn : n = w.heap.size) : (w.alloc (.cells #[v] t)).cell? ⟨n, 0, none⟩ = some v := by
  rw [World.cell?_alloc_at _ _ _ _ hn]; rfl
theorem size_more' (w : World) (o : Obj) : w.heap.size ≤ (w.alloc o).heap.size := ((Below.refl w.heap.size w).alloc (Nat.le_refl _) o).size
theorem below_alloc' (w : World) (o : Obj) : Below w.heap.size w (w.alloc o) := (Below.refl _ _).alloc (Nat.le_refl _) o
end Go.Proofs.Ythfhoacflkbhhaa.Asc
