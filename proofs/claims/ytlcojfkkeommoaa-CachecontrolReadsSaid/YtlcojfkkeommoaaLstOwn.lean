/- Slices of fields and of strings that a call made itself and appends to. -/
import Derived.Test.YtlcojfkkeommoaaLstIdx
import Derived.Deep.AppendLies
import Derived.Laws.AppendOwnNone
set_option linter.unusedVariables false
set_option linter.unusedSimpArgs false
set_option maxRecDepth 100000
namespace Go.Proofs.Ytlcojfkkeommoaa.Asc
open Go.RowKit

theorem info_fld : (Try.prog.info? 32).map (fun i => (i.zero, i.size, i.bytes)) = some (some (.agg #[.string ⟨#[]⟩, .string ⟨#[]⟩]), 2, 32) := by kernel_rfl
def cellsF (L : List F) : List Value := L.flatMap fun p => [.string p.1, .string p.2]
theorem cellsF_len (L : List F) : (cellsF L).length = L.length * 2 := by
  induction L with
  | nil => rfl
  | cons p L ih => simp only [cellsF, List.flatMap_cons, List.length_append, List.length_cons, List.length_nil] at *; omega
theorem cellsF_app (L M : List F) : cellsF (L ++ M) = cellsF L ++ cellsF M := by simp [cellsF]
theorem cellsF_at (L : List F) (i : Nat) (h : i < L.length) : (cellsF L)[i * 2]? = some (.string L[i].1) ∧ (cellsF L)[i * 2 + 1]? = some (.string L[i].2) := by
  have e := split_at h
  have hl : (cellsF (L.take i)).length = i * 2 := by rw [cellsF_len, List.length_take, Nat.min_eq_left (Nat.le_of_lt h)]
  have e2 : cellsF L = cellsF (L.take i) ++ (.string L[i].1 :: .string L[i].2 :: cellsF (L.drop (i + 1))) := by
    conv => lhs; rw [e, cellsF_app]
    rfl
  rw [e2]
  constructor
  · rw [List.getElem?_append_right (by omega), hl]; simp
  · rw [List.getElem?_append_right (by omega), hl]; simp

def OwnF (w : World) (B : Nat) (v : Value) (L : List F) : Prop := w.ownsRow B 32 2 v L.length (cellsF L)
section
variable {w w' : World} {B : Nat} {v : Value}
theorem OwnF.nil (w : World) (B : Nat) : OwnF w B (.slice none 0 0) [] := World.ownsRow_nil _ _ _ _
/-- what a slice of fields that a call owns looks like -/
theorem OwnF.fs {L : List F} (h : OwnF w B v L) : ∃ a cap, v = .slice a L.length cap ∧ Fs w a L ∧ L.length ≤ cap := by
  rcases h.2 with ⟨rfl, hn⟩ | ⟨g, cap, cur, rfl, hB, hg, hc, hm, hs, ht⟩
  · exact ⟨none, 0, by rw [hn], fun i hi => by omega, by omega⟩
  · refine ⟨_, cap, rfl, fun i hi => ⟨g, 0, rfl, ?_, ?_⟩, hc⟩
    all_goals
      obtain ⟨q0, q1⟩ := cellsF_at L i hi
      rw [← ht] at q0 q1
      rw [List.getElem?_take] at q0 q1
      rw [if_pos (by omega)] at q0 q1
      simp only [World.cell?, hg]
    · simpa using q0
    · simpa [Nat.add_assoc] using q1
end

/-- append of one field that lies in a block of its own -/
theorem wpList_append_fld (w : World) {ops : Array Oper} {rest : List Oper} {o : Oper} {a : Act} {Q : Exit → Act → World → Prop} (hgd : o.guard = none) (s x : Operand)
    (ho : o.op = .call { callee := .builtin .append, args := #[s, x], argTypes := #[22, 22] })
    (B : Nat) (v : Value) (L : List F) (hs : a.eval s = v) (hown : OwnF w B v L)
    (g : Nat) (c : Nat) (hx : a.eval x = .slice (some ⟨g, 0, none⟩) 1 c) (n u : ByteArray) (h0 : w.cell? ⟨g, 0, none⟩ = some (.string n)) (h1 : w.cell? ⟨g, 1, none⟩ = some (.string u)) (hl : L.length ≤ 65536) (hB : B ≤ w.heap.size)
    (h : ∀ v' w', OwnF w' B v' (L ++ [(n, u)]) → Below B w w' → wpList Try.prog ops Q rest (a.put o.dst v') w') : wpList Try.prog ops Q (o :: rest) a w := by
  obtain ⟨i0, hi0, hz0, hz1, hz2⟩ := info_parts info_fld
  refine wpList_append_own (P := Try.prog) w hgd s x 22 ho B 32 i0 _ 2 32 Try.underlying22 hi0 hz0 hz1 hz2 rfl (by decide) v L.length (cellsF L) hs hown ⟨g, 0, none⟩ 1 c [.string n, .string u] hx rfl ?_ ?_ (by unfold maxLen; omega) (by omega) hB ?_
  · intro j u hj
    match j, hj with
    | 0, hj => simp at hj; subst hj; simpa [Addr.add] using h0
    | 1, hj => simp at hj; subst hj; simpa [Addr.add] using h1
  · intro u hu; simp at hu; rcases hu with rfl | rfl <;> rfl
  · intro v' w' q1 q2 _
    refine h v' w' (by simpa [OwnF, cellsF_app, cellsF] using q1) ((Below.refl _ _).grown q2 hB (fun k hk => own_block hown k hk))
/-- the same at a step of a region that draws its order -/
theorem step_append_fld (w : World) {ops : Array Oper} {o : Oper} {a : Act} {K : Act → World → Prop} {Q : Exit → Act → World → Prop} {E : Prop} (hgd : o.guard = none) (s x : Operand)
    (ho : o.op = .call { callee := .builtin .append, args := #[s, x], argTypes := #[22, 22] })
    (B : Nat) (v : Value) (L : List F) (hs : a.eval s = v) (hown : OwnF w B v L)
    (g : Nat) (c : Nat) (hx : a.eval x = .slice (some ⟨g, 0, none⟩) 1 c) (n u : ByteArray) (h0 : w.cell? ⟨g, 0, none⟩ = some (.string n)) (h1 : w.cell? ⟨g, 1, none⟩ = some (.string u)) (hl : L.length ≤ 65536) (hB : B ≤ w.heap.size)
    (h : ∀ v' w', OwnF w' B v' (L ++ [(n, u)]) → Below B w w' → K (a.put o.dst v') w') :
    if Region.wanted o (yielded ops a.tmps) = true then Oper.wp Try.prog o a w K Q else E := by
  obtain ⟨i0, hi0, hz0, hz1, hz2⟩ := info_parts info_fld
  refine step_append_lies (P := Try.prog) w hgd s x 22 ho B 32 i0 _ 2 32 Try.underlying22 hi0 hz0 hz1 hz2 rfl (by decide) v L.length (cellsF L) hs hown ⟨g, 0, none⟩ 1 c [.string n, .string u] hx rfl ?_ ?_ (by omega) (by unfold maxLen; omega) (by omega) hB _ rfl ?_
  · intro j u hj
    match j, hj with
    | 0, hj => simp at hj; subst hj; simpa [Addr.add] using h0
    | 1, hj => simp at hj; subst hj; simpa [Addr.add] using h1
  · intro u hu; simp at hu; rcases hu with rfl | rfl <;> rfl
  · intro g' cap' w' q1 q2 _ _
    refine h _ w' (by simpa [OwnF, cellsF_app, cellsF] using q1) ((Below.refl _ _).grown q2 hB (fun k hk => own_block hown k hk))

end Go.Proofs.Ytlcojfkkeommoaa.Asc
