/- The contract of the reference's Normalize. -/
import Derived.Test.YthfhoacflkbhhaaTarRef
import Derived.Test.YthfhoacflkbhhaaAscOwn
import Derived.Test.YthfhoacflkbhhaaAscUn
import Derived.Deep.QuietTactic
import Derived.BigQuiet
import Derived.Deep.RegionHeld3
import Derived.Deep.AppendLies
set_option linter.unusedVariables false
set_option linter.unusedSimpArgs false
namespace Go.Proofs.Ythfhoacflkbhhaa.Asc
open Go.RowKit

/-- acc has been written for the first k bytes -/
def NmAt (l : List UInt8) (k : Nat) (acc : List UInt8) : Prop := acc.length ≤ k ∧ normL l = (normL (l.drop k)).map (acc ++ ·)
theorem NmAt.start (l : List UInt8) : NmAt l 0 [] := ⟨by simp, by simp⟩
theorem NmAt.fin {l : List UInt8} {k : Nat} {acc : List UInt8} (h : NmAt l k acc) (hk : l.length ≤ k) : normL l = some acc := by
  rw [h.2, List.drop_of_length_le hk]; simp [normL]
theorem NmAt.bad {s : ByteArray} {k : Nat} {acc : List UInt8} (h : NmAt s.data.toList k acc) (hk : k < s.size) (hc : okB s[k] = false) : normL s.data.toList = none := by
  rw [h.2, drop_cons s k hk, norm_bad hc]; rfl
theorem NmAt.plain {s : ByteArray} {k : Nat} {acc : List UInt8} (h : NmAt s.data.toList k acc) (hk : k < s.size) (hc : okB s[k] = true) (h37 : s[k] ≠ 37) : NmAt s.data.toList (k + 1) (acc ++ [s[k]]) := by
  refine ⟨by have := h.1; simp; omega, ?_⟩
  rw [h.2, drop_cons s k hk, norm_plain hc h37, Option.map_map]; congr 1; funext x; simp
theorem NmAt.short {s : ByteArray} {k : Nat} {acc : List UInt8} (h : NmAt s.data.toList k acc) (hk : k < s.size) (hc : s[k] = 37) (h2 : s.size ≤ k + 2) : normL s.data.toList = none := by
  rw [h.2, drop_cons s k hk, hc]
  by_cases h1 : k + 1 < s.size
  · rw [drop_cons s (k + 1) h1, List.drop_of_length_le (by simp; omega), norm_short2]; rfl
  · rw [List.drop_of_length_le (by simp; omega), norm_short1]; rfl
theorem NmAt.nohex {s : ByteArray} {k : Nat} {acc : List UInt8} (h : NmAt s.data.toList k acc) (hk : k + 2 < s.size) (hc : s[k] = 37) (h2 : (hexB s[k + 1] && hexB s[k + 2]) = false) : normL s.data.toList = none := by
  rw [h.2, drop_cons s k (by omega), drop_cons s (k + 1) (by omega), drop_cons s (k + 1 + 1) (by omega), hc, norm_notrip h2]; rfl
theorem NmAt.trip {s : ByteArray} {k : Nat} {acc : List UInt8} (h : NmAt s.data.toList k acc) (hk : k + 2 < s.size) (hc : s[k] = 37) (h1 : hexB s[k + 1] = true) (h2 : hexB s[k + 2] = true) : NmAt s.data.toList (k + 1 + 1 + 1) (acc ++ tripL (tripN s[k + 1] s[k + 2])) := by
  refine ⟨?_, ?_⟩
  · have := h.1
    have ht : (tripL (tripN s[k + 1] s[k + 2])).length ≤ 3 := by unfold tripL; split <;> simp
    simp; omega
  · rw [h.2, drop_cons s k (by omega), drop_cons s (k + 1) (by omega), drop_cons s (k + 1 + 1) (by omega), hc, norm_trip h1 h2, Option.map_map]; congr 1; funext x; simp
theorem Own.drewN {w : World} {B n : Nat} {v : Value} {l : List UInt8} (h : Own w B v l) : Own (w.drewN n) B v l := h
theorem trip_un {y : UInt8} (h : unresI y.toNat = true) : tripL y.toNat = [y] := by
  unfold tripL; rw [if_pos h]; simp
theorem cell_new (w : World) (v : Value) (t : TypeId) (n : Nat) (hn : n = w.heap.size) : (w.alloc (.cells #[v] t)).cell? ⟨n, 0, none⟩ = some v := by
  rw [World.cell?_alloc_at _ _ _ _ hn]; rfl
theorem cell_new3 (w : World) (v0 v1 v2 : Value) (t : TypeId) (n : Nat) (hn : n = w.heap.size) : (w.alloc (.cells #[v0, v1, v2] t)).cell? ⟨n, 0, none⟩ = some v0 ∧ (w.alloc (.cells #[v0, v1, v2] t)).cell? ⟨n, 1, none⟩ = some v1 ∧ (w.alloc (.cells #[v0, v1, v2] t)).cell? ⟨n, 2, none⟩ = some v2 := by
  refine ⟨?_, ?_, ?_⟩ <;> (rw [World.cell?_alloc_at _ _ _ _ hn]; rfl)
theorem size_more (w : World) (o : Obj) : w.heap.size ≤ (w.alloc o).heap.size := ((Below.refl w.heap.size w).alloc (Nat.le_refl _) o).size
theorem and15 : ∀ x : Fin 256, bits .and .u8 ((x.1 : Nat) : Int) 15 = ((x.1 % 16 : Nat) : Int) := by decide +kernel
def hexS : ByteArray := ⟨#[48, 49, 50, 51, 52, 53, 54, 55, 56, 57, 65, 66, 67, 68, 69, 70]⟩
theorem hexS_at : ∀ k : Fin 16, hexS[k.1]'(k.2) = hexD.getD k.1 0 := by decide +kernel
theorem trip_no {y : UInt8} (h : unresI y.toNat = false) : tripL y.toNat = [37, hexD.getD (y.toNat / 16) 0, hexD.getD (y.toNat % 16) 0] := by
  unfold tripL; rw [if_neg (by rw [h]; simp)]
theorem step_append_b3 (w : World) {ops : Array Oper} {o : Oper} {a : Act} {K : Act → World → Prop} {Q : Exit → Act → World → Prop} {E : Prop} (hgd : o.guard = none) (s x : Operand)
    (ho : o.op = .call { callee := .builtin .append, args := #[s, x], argTypes := #[40, 40] })
    (B : Nat) (v : Value) (l : List UInt8) (hs : a.eval s = v) (hown : Own w B v l)
    (g c : Nat) (hx : a.eval x = .slice (some ⟨g, 0, none⟩) 3 c) (b0 b1 b2 : UInt8) (h0 : w.cell? ⟨g, 0, none⟩ = some (bv b0)) (h1 : w.cell? ⟨g, 1, none⟩ = some (bv b1)) (h2 : w.cell? ⟨g, 2, none⟩ = some (bv b2)) (hl : l.length ≤ 65536) (hB : B ≤ w.heap.size)
    (h : ∀ v' w', Own w' B v' (l ++ [b0, b1, b2]) → Below B w w' → K (a.put o.dst v') w') :
    if Region.wanted o (yielded ops a.tmps) = true then Oper.wp Try.prog o a w K Q else E := by
  obtain ⟨i0, hi0, hz0, hz1, hz2⟩ := info_parts info_u8
  refine step_append_lies (P := Try.prog) w hgd s x 40 ho B 5 i0 _ 1 1 Try.underlying40 hi0 hz0 hz1 hz2 rfl (by decide) v l.length (l.map bv) hs hown ⟨g, 0, none⟩ 3 c [bv b0, bv b1, bv b2] hx rfl ?_ ?_ (by omega) (by unfold maxLen; omega) (by omega) hB _ rfl ?_
  · intro j u hj
    match j, hj with
    | 0, hj => simp at hj; subst hj; simpa [Addr.add] using h0
    | 1, hj => simp at hj; subst hj; simpa [Addr.add] using h1
    | 2, hj => simp at hj; subst hj; simpa [Addr.add] using h2
  · intro u hu; simp at hu; rcases hu with rfl | rfl | rfl <;> rfl
  · intro g' cap' w' q1 q2 _ _
    refine h _ w' (by simpa [Own] using q1) ((Below.refl _ _).grown q2 hB (fun k hk => Own.block hown k hk))
theorem rHex_is {c : UInt8} {p : Int} {w : World} (h : Box (hexI c.toNat = p)) : Calls Try.prog 35 #[.int .u8 c.toNat] w fun e w' => e = .returned (.int .i64 p) ∧ w' = w :=
  (rHex_any c w).mono fun e w' ⟨h1, h2⟩ => ⟨by rw [h1, h.out], h2.symm⟩
end Go.Proofs.Ythfhoacflkbhhaa.Asc
