/- The contract of slices.Clone. -/
import Derived.Test.YtmhedadollmekaaLstRem
import Derived.Lib.SliceRun
set_option linter.unusedVariables false
set_option linter.unusedSimpArgs false
namespace Go.Proofs.Ytmhedadollmekaa.Asc
open Go.RowKit

theorem eql_nil (w : World) (a : Option Addr) (n c n' c' : Nat) : (binOp .eql 31 (.slice a n c) (.slice none n' c')).run Try.prog w = .ok (.bool a.isNone) w := Lib.run_eql_slice_nil w _ _ a n c n' c' Try.underlying31
theorem add_at (g off j : Nat) : (⟨g, off, none⟩ : Addr).add j = ⟨g, off + j, none⟩ := by
  unfold Addr.add; split <;> simp_all
/-- the cells of a list of fields, out of memory -/
theorem Fs.news {w : World} {ad : Addr} {M : List F} (h : Fs w (some ad) M) : ∀ j u, (cellsF M)[j]? = some u → w.cell? (ad.add j) = some u := by
  intro j u hj
  have hlen := (List.getElem?_eq_some_iff.mp hj).1
  rw [cellsF_len] at hlen
  have hi : j / 2 < M.length := by omega
  obtain ⟨g, off, e, c0, c1⟩ := h (j / 2) hi
  obtain ⟨q0, q1⟩ := cellsF_at M (j / 2) hi
  cases e
  rw [add_at]
  rcases Nat.mod_two_eq_zero_or_one j with r | r
  · have ej : j = j / 2 * 2 := by omega
    rw [← ej] at q0 c0
    rw [q0] at hj; cases hj; exact c0
  · have ej : j = j / 2 * 2 + 1 := by omega
    rw [← ej] at q1
    rw [Nat.add_assoc, ← ej] at c1
    rw [q1] at hj; cases hj; exact c1
theorem cellsF_one (M : List F) : ∀ u ∈ cellsF M, u.oneCell' = true := by
  intro u hu
  obtain ⟨p, _, hp⟩ := List.mem_flatMap.mp hu
  simp at hp; rcases hp with rfl | rfl <;> rfl
/-- append of a list of fields -/
theorem wpList_append_flds (w : World) {ops : Array Oper} {rest : List Oper} {o : Oper} {a : Act} {Q : Exit → Act → World → Prop} (hgd : o.guard = none) (s x : Operand)
    (ho : o.op = .call { callee := .builtin .append, args := #[s, x], argTypes := #[31, 31] })
    (B : Nat) (v : Value) (L M : List F) (hs : a.eval s = v) (hown : OwnF w B v L)
    (ad : Option Addr) (c : Nat) (hx : a.eval x = .slice ad M.length c) (hn : ad = none → c = 0) (hM : Fs w ad M) (hl : L.length ≤ 65536) (hm : M.length ≤ 65536) (hB : B ≤ w.heap.size)
    (h : ∀ v' w', OwnF w' B v' (L ++ M) → Below B w w' → wpList Try.prog ops Q rest (a.put o.dst v') w') : wpList Try.prog ops Q (o :: rest) a w := by
  obtain ⟨i0, hi0, hz0, hz1, hz2⟩ := info_parts info_fld
  rcases ad with _ | ad
  · have hc := hn rfl
    subst hc
    have he : M = [] := by
      rcases M with _ | ⟨p, M⟩
      · rfl
      · obtain ⟨g, off, e, _⟩ := hM 0 (by simp)
        cases e
    subst he
    rw [List.append_nil] at h
    exact wpList_append_own_none (P := Try.prog) hgd s x 31 ho B 23 i0 2 Try.underlying31 hi0 v L.length (cellsF L) hs hown hx (h v w hown (Below.refl _ _))
  · refine wpList_append_own (P := Try.prog) w hgd s x 31 ho B 23 i0 _ 2 32 Try.underlying31 hi0 hz0 hz1 hz2 rfl (by decide) v L.length (cellsF L) hs hown ad M.length c (cellsF M) hx (cellsF_len M) hM.news (cellsF_one M) (by unfold maxLen; omega) (by omega) hB ?_
    intro v' w' q1 q2 _
    refine h v' w' (by simpa [OwnF, cellsF_app] using q1) ((Below.refl _ _).grown q2 hB (fun k hk => own_block hown k hk))
/-- what a slice of fields that a call owns looks like: nil has no capacity -/
theorem OwnF.fs2 {w : World} {B : Nat} {v : Value} {L : List F} (h : OwnF w B v L) : ∃ a cap, v = .slice a L.length cap ∧ Fs w a L ∧ (a = none → cap = 0) ∧ L.length ≤ cap := by
  rcases h.2 with ⟨rfl, hn⟩ | ⟨g, cap, cur, rfl, _⟩
  · exact ⟨none, 0, by rw [hn], fun i hi => by omega, fun _ => rfl, by omega⟩
  · obtain ⟨a, cap', hv, hf, hc⟩ := OwnF.fs h
    injection hv with e1 e2 e3
    exact ⟨_, cap, rfl, by rw [e1]; exact hf, fun ha => (by cases ha), by omega⟩
theorem OwnF.empty (w : World) : OwnF (w.alloc (.cells #[] 23)) w.heap.size (.slice (some ⟨w.heap.size, 0, none⟩) 0 0) [] :=
  ⟨rfl, .inr ⟨_, _, _, rfl, Nat.le_refl _, heap_alloc_new w _, Nat.zero_le _, by unfold maxLen; omega, rfl, rfl⟩⟩
theorem Clone_nil (cap : Nat) (w : World) :
    Calls Try.prog 45 #[.slice none 0 cap] w fun e w' => ∃ v, e = .returned v ∧ OwnF w' w.heap.size v [] ∧ Below w.heap.size w w' := by
  have hq := eql_nil
  go_enter Try.func45, Try.ntmps45
  go_wp2
  go_ret
  exact ⟨_, rfl, OwnF.nil _ _, Below.refl _ _⟩
theorem Clone_some (a : Addr) (cap : Nat) (L : List F) (w : World) (hl : L.length ≤ 65536) (hF : Box (Fs w (some a) L)) :
    Calls Try.prog 45 #[.slice (some a) L.length cap] w fun e w' => ∃ v, e = .returned v ∧ OwnF w' w.heap.size v L ∧ Below w.heap.size w w' := by
  have hq := eql_nil
  go_enter Try.func45, Try.ntmps45
  go_wp2_with (at_builtin; refine wpList_append_flds _ rfl (.tmp 5) (.tmp 6) rfl w.heap.size _ [] L rfl (OwnF.empty w) (some a) cap rfl (fun h => by cases h) (hF.out.below (below_new _ _)) (by simp) hl (by simp) ?_)
  intro v' w2 hO hb
  have O := box hO
  clear hO
  go_wp2
  go_ret
  exact ⟨_, rfl, O.out, (below_new w _).trans hb⟩
theorem Clone_any (a : Option Addr) (cap : Nat) (L : List F) (w : World) (hl : L.length ≤ 65536) (hF : Box (Fs w a L)) :
    Calls Try.prog 45 #[.slice a L.length cap] w fun e w' => ∃ v, e = .returned v ∧ OwnF w' w.heap.size v L ∧ Below w.heap.size w w' := by
  rcases a with _ | a
  · have he : L = [] := by
      rcases L with _ | ⟨p, L⟩
      · rfl
      · obtain ⟨g, off, e, _⟩ := hF.out 0 (by simp)
        cases e
    subst he
    exact Clone_nil cap w
  · exact Clone_some a cap L w hl hF

end Go.Proofs.Ytmhedadollmekaa.Asc
