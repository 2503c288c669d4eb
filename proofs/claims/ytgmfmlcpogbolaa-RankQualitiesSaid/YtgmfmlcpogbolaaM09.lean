/- Merged texts: RnkIns RnkPut PrfMem AccRef MedRef4. -/
import Derived.Test.YtgmfmlcpogbolaaM04
import Derived.Test.YtgmfmlcpogbolaaM05
import Derived.Test.YtgmfmlcpogbolaaM07
import Derived.Test.YtgmfmlcpogbolaaM08
import Derived.Deep.RegionLaw
import Derived.Laws.Externs
import Derived.Laws.NewBlocks
set_option linter.unusedVariables false
set_option linter.unusedSimpArgs false
set_option maxRecDepth 100000
namespace Go.Proofs.Ytgmfmlcpogbolaa.Asc
section
open Go.RowKit
def putT (T : List TL) (i : Nat) (p : Int) : List TL := T.take i ++ (p, .slice none 0 0, []) :: T.drop i
theorem cellsT_take (T : List TL) (i : Nat) (h : i ≤ T.length) : cellsT (T.take i) = (cellsT T).take (i * 2) := by
  have e : cellsT T = cellsT (T.take i) ++ cellsT (T.drop i) := by rw [← cellsT_app, List.take_append_drop]
  have hl : (cellsT (T.take i)).length = i * 2 := by rw [cellsT_len, List.length_take, Nat.min_eq_left h]
  rw [e, ← hl, List.take_left]
theorem cellsT_drop (T : List TL) (i : Nat) (h : i ≤ T.length) : cellsT (T.drop i) = (cellsT T).drop (i * 2) := by
  have e : cellsT T = cellsT (T.take i) ++ cellsT (T.drop i) := by rw [← cellsT_app, List.take_append_drop]
  have hl : (cellsT (T.take i)).length = i * 2 := by rw [cellsT_len, List.length_take, Nat.min_eq_left h]
  rw [e, ← hl, List.drop_left]
theorem putT_cells (T : List TL) (i : Nat) (p : Int) (h : i ≤ T.length) : cellsT (putT T i p) = (cellsT T).take (i * 2) ++ [.int .i64 p, .slice none 0 0] ++ (cellsT T).drop (i * 2) := by
  unfold putT
  rw [cellsT_app, cellsT_cons, cellsT_take T i h, cellsT_drop T i h]
  simp
theorem putT_len (T : List TL) (i : Nat) (p : Int) (h : i ≤ T.length) : (putT T i p).length = T.length + 1 := by
  unfold putT
  rw [List.length_append, List.length_take, List.length_cons, List.length_drop]; omega
theorem putT_end (T : List TL) (p : Int) : putT T T.length p = T ++ [(p, .slice none 0 0, [])] := by unfold putT; simp
/-- the two copies of an insertion in place -/
theorem shift_cells (l cs : List Value) (a n : Nat) (x : List Value) (hx : x.length = 2) (ha : a ≤ n) (hl : n + 2 ≤ l.length) (hc : l.take n = cs) (h1 : (l.take (a + 2) ++ cs.drop a ++ l.drop (a + 2 + (cs.drop a).length)).length = l.length → True) :
    (((l.take (a + 2) ++ cs.drop a ++ l.drop (a + 2 + (cs.drop a).length)).take a ++ x ++ (l.take (a + 2) ++ cs.drop a ++ l.drop (a + 2 + (cs.drop a).length)).drop (a + x.length))).take (n + 2) = cs.take a ++ x ++ cs.drop a := by
  have hcl : cs.length = n := by rw [← hc, List.length_take]; omega
  have hd : (cs.drop a).length = n - a := by rw [List.length_drop, hcl]
  have e1 : (l.take (a + 2) ++ cs.drop a ++ l.drop (a + 2 + (cs.drop a).length)).take a = cs.take a := by
    rw [List.append_assoc, List.take_append_of_le_length (by rw [List.length_take]; omega), List.take_take, ← hc, List.take_take]
    congr 1; omega
  have e2 : (l.take (a + 2) ++ cs.drop a ++ l.drop (a + 2 + (cs.drop a).length)).drop (a + x.length) = cs.drop a ++ l.drop (n + 2) := by
    have hl2 : (l.take (a + 2)).length = a + 2 := by rw [List.length_take]; omega
    have hk : a + 2 + (cs.drop a).length = n + 2 := by rw [hd]; omega
    rw [hx, List.append_assoc, hk]
    have := List.drop_left (l₁ := l.take (a + 2)) (l₂ := cs.drop a ++ l.drop (n + 2))
    rw [hl2] at this
    exact this
  rw [e1, e2, ← List.append_assoc]
  have hl3 : (cs.take a ++ x ++ cs.drop a).length = n + 2 := by rw [List.length_append, List.length_append, List.length_take, hx, hd]; omega
  rw [← hl3, List.take_left]
/-- the two copies of an insertion into a new row -/
theorem fresh_cells (r cs : List Value) (a n : Nat) (x : List Value) (hx : x.length = 2) (ha : a ≤ n) (hcl : cs.length = n) (hr : n + 2 ≤ r.length) (hc : r.take a = cs.take a) :
    ((r.take a ++ x ++ r.drop (a + x.length)).take (a + 2) ++ cs.drop a ++ (r.take a ++ x ++ r.drop (a + x.length)).drop (a + 2 + (cs.drop a).length)).take (n + 2) = cs.take a ++ x ++ cs.drop a := by
  have hd : (cs.drop a).length = n - a := by rw [List.length_drop, hcl]
  have hl : (r.take a ++ x).length = a + 2 := by rw [List.length_append, List.length_take, hx]; omega
  have e1 : (r.take a ++ x ++ r.drop (a + x.length)).take (a + 2) = cs.take a ++ x := by rw [← hl, List.take_left, hc]
  rw [e1]
  have hl3 : (cs.take a ++ x ++ cs.drop a).length = n + 2 := by rw [List.length_append, List.length_append, List.length_take, hx, hd]; omega
  rw [List.take_append_of_le_length (by omega), ← hl3, List.take_length]
/-- append of one level that lies in a block of its own -/
theorem wpList_append_lev (w : World) {ops : Array Oper} {rest : List Oper} {o : Oper} {a : Act} {Q : Exit → Act → World → Prop} (hgd : o.guard = none) (s x : Operand)
    (ho : o.op = .call { callee := .builtin .append, args := #[s, x], argTypes := #[39, 39] })
    (B : Nat) (v : Value) (T : List TL) (hs : a.eval s = v) (hown : OwnTL w B v T)
    (g : Nat) (c : Nat) (hx : a.eval x = .slice (some ⟨g, 0, none⟩) 1 c) (p : Int) (h0 : w.cell? ⟨g, 0, none⟩ = some (.int .i64 p)) (h1 : w.cell? ⟨g, 1, none⟩ = some (.slice none 0 0)) (hl : T.length ≤ 65536) (hB : B ≤ w.heap.size)
    (h : ∀ v' w', OwnTL w' B v' (T ++ [(p, .slice none 0 0, [])]) → w.grownBy w' v.ownBlock → wpList Try.prog ops Q rest (a.put o.dst v') w') : wpList Try.prog ops Q (o :: rest) a w := by
  obtain ⟨i0, hi0, hz0, hz1, hz2⟩ := info_parts info_lev
  refine wpList_append_own (P := Try.prog) w hgd s x 39 ho B 42 i0 _ 2 32 Try.underlying39 hi0 hz0 hz1 hz2 rfl (by decide) v T.length (cellsT T) hs hown ⟨g, 0, none⟩ 1 c [.int .i64 p, .slice none 0 0] hx rfl ?_ ?_ (by unfold maxLen; omega) (by omega) hB ?_
  · intro j u hj
    match j, hj with
    | 0, hj => simp at hj; subst hj; simpa [Addr.add] using h0
    | 1, hj => simp at hj; subst hj; simpa [Addr.add] using h1
  · intro u hu; simp at hu; rcases hu with rfl | rfl <;> rfl
  · intro v' w' q1 q2 _
    exact h v' w' (by simpa [OwnTL, cellsT_app, cellsT] using q1) q2
def InsPost (B : Nat) (v : Value) (T : List TL) (i : Nat) (p : Int) (w : World) (e : Ending) (w' : World) : Prop :=
  ∃ v', e = .returned v' ∧ OwnTL w' B v' (putT T i p) ∧ w.grownBy w' v.ownBlock
theorem mInsEnd (B : Nat) (v : Value) (T : List TL) (p : Int) (vb vc : Nat) (w : World) (hl : T.length ≤ 65536) (hO : Box (OwnTL w B v T)) (hB : B ≤ w.heap.size) (h0 : w.cell? ⟨vb, 0, none⟩ = some (.int .i64 p)) (h1 : w.cell? ⟨vb, 1, none⟩ = some (.slice none 0 0)) :
    Calls Try.prog 33 #[v, .int .i64 T.length, .slice (some ⟨vb, 0, none⟩) 1 vc] w fun e w' => InsPost B v T T.length p w e w' := by
  obtain ⟨a, c, hv, _, hc⟩ := hO.out.ts
  obtain ⟨n, hn⟩ : ∃ n, T.length = n := ⟨_, rfl⟩
  have HN := box hn
  rw [hn] at hv hc hl ⊢
  subst hv
  clear hn
  have hc63 : c ≤ 9223372036854775807 := by
    rcases hO.out.2 with ⟨h, _⟩ | ⟨g, cap, cur, h, _, _, _, hm, _⟩
    · cases h; omega
    · cases h; unfold maxLen at hm; omega
  go_enter Try.func33, Try.ntmps33
  go_wp2_with (at_builtin; refine wpList_append_lev _ rfl _ _ rfl B (.slice a n c) T rfl hO.out vb vc rfl p h0 h1 (by rw [HN.out]; exact hl) hB ?_; intro v2 w2 hO2 hg2)
  all_goals
    go_ret
    exact ⟨_, rfl, by rw [← HN.out, putT_end]; exact hO2, by first | exact hg2 | (subst h; exact hg2)⟩
theorem cellsT_one {T : List TL} (h : Slices T) : ∀ v ∈ cellsT T, v.oneCell' = true := by
  intro v hv
  obtain ⟨t, ht, hv⟩ := List.mem_flatMap.1 hv
  obtain ⟨i, hi, rfl⟩ := List.getElem_of_mem ht
  obtain ⟨a, n, c, e⟩ := h i hi
  simp at hv
  rcases hv with rfl | rfl
  · rfl
  · rw [e]; rfl
/-- in place: there is room -/
theorem mInsShift (B b n c i vb vc : Nat) (T : List TL) (p : Int) (cur : Array Value) (w : World) (hSl : Box (Slices T)) (hl : T.length ≤ 65536) (hn : T.length = n) (hB : B ≤ b) (hg : Box (w.heap[b]? = some (.cells cur 42 (0, 0)))) (hz : Box (cur.size = c * 2)) (hcs : Box (cur.toList.take (n * 2) = cellsT T))
    (hi : i < n) (hroom : n + 1 ≤ c) (hc63 : c ≤ 9223372036854775807) (hne : vb ≠ b) (hv : Box (w.heap[vb]? = some (.cells #[.int .i64 p, .slice none 0 0] 42 (0, 0)))) :
    Calls Try.prog 33 #[.slice (some ⟨b, 0, none⟩) n c, .int .i64 i, .slice (some ⟨vb, 0, none⟩) 1 vc] w fun e w' => InsPost B (.slice (some ⟨b, 0, none⟩) n c) T i p w e w' := by
  obtain ⟨i0, hi0, hz0, hz1, hz2⟩ := info_parts info_lev
  have hsz : (Try.prog.info? 42).map (·.size) = some 2 := by rw [hi0]; simp [hz1]
  have hsl : ∀ w, (Go.sizeOf 42).run Try.prog w = .ok 2 w := fun w => by simp [sizeOf, typeInfo, hi0, hz1]
  have hov : ∀ lb cb, (callFunc 52 #[.slice (some ⟨vb, 0, none⟩) 1 vc, .slice (some ⟨b, (i + 1) * 2, none⟩) lb cb]).run Try.prog w = .ok (.value (.bool false)) w := fun lb cb => by
    rw [run_callFunc_extern Try.func52 (by kernel_rfl) (by kernel_rfl) (by kernel_rfl) (e := Extern.SlicesOverlaps.overlaps #[39, 39] #[4]) (by kernel_rfl),
      Lib.run_overlaps_apart w 39 4 42 Try.underlying39 2 hsl ⟨vb, 0, none⟩ ⟨b, (i + 1) * 2, none⟩ 1 vc lb cb hne 42 42 2 cur.size (by simp [World.shape?, hv.out]) (by simp [World.shape?, hg.out]) (by have := hz.out; omega) (by simp [World.frozen?, hv.out]) (by simp [World.frozen?, hv.out])]
    rfl
  obtain ⟨cs, hc⟩ : ∃ cs, cellsT T = cs := ⟨_, rfl⟩
  have hcl : cs.length = n * 2 := by rw [← hc, cellsT_len, hn]
  have hcs2 := hcs.out
  have hzz := hz.out
  rw [hc] at hcs2
  have hdl : (cs.drop (i * 2)).length = (n - i) * 2 := by rw [List.length_drop, hcl]; omega
  have hlt : cur.toList.length = c * 2 := by simpa using hzz
  have hat : ∀ j v, cs[j]? = some v → cur[j]? = some v := fun j v hj => by
    rw [← hcs2, List.getElem?_take] at hj
    split at hj
    · simpa using hj
    · cases hj
  have h1c : ∀ v ∈ cs, v.oneCell' = true := fun v hv2 => by
    rw [← hc] at hv2
    exact cellsT_one hSl.out v hv2
  obtain ⟨R1, hR1⟩ : ∃ R1, cur.toList.take ((i + 1) * 2) ++ cs.drop (i * 2) ++ cur.toList.drop ((i + 1) * 2 + (cs.drop (i * 2)).length) = R1 := ⟨_, rfl⟩
  have hR1l : R1.length = c * 2 := by rw [← hR1]; simp only [List.length_append, List.length_take, List.length_drop, hlt, hcl]; omega
  obtain ⟨R2, hR2⟩ : ∃ R2, R1.take (i * 2) ++ [.int .i64 p, .slice none 0 0] ++ R1.drop (i * 2 + 2) = R2 := ⟨_, rfl⟩
  have hcp1 : ∀ (W : World) (hW : W.heap[b]? = some (.cells cur 42 (0, 0))) ty dc sc, (Builtin.copy_ #[39, 39] ty #[.slice (some ⟨b, (i + 1) * 2, none⟩) (n - i) dc, .slice (some ⟨b, i * 2, none⟩) (n + 1 - i) sc]).run Try.prog W = .ok (goInt ((n - i : Nat))) (W.setRow b R1.toArray) := fun W hW ty dc sc => by
    rw [run_copy_rowN W 39 39 ty 42 2 (n - i) b ((i + 1) * 2) (n - i) dc ⟨b, i * 2, none⟩ (n + 1 - i) sc cur 42 (cs.drop (i * 2)) Try.underlying39 hsz hW (by simp only [Nat.min_def]; split <;> omega) hdl
      (fun j v hj => by rw [Addr.add_lit]; simp only [World.cell?, hW]; exact hat _ v (by rwa [List.getElem?_drop] at hj)) (by rw [hdl, hzz]; omega) (fun v hv2 => h1c v (List.mem_of_mem_drop hv2)), hR1]
  have hcp2 : ∀ (W : World) (hW : W.heap[b]? = some (.cells R1.toArray 42 (0, 0))) (hV : W.heap[vb]? = some (.cells #[.int .i64 p, .slice none 0 0] 42 (0, 0))) ty dc, (Builtin.copy_ #[39, 39] ty #[.slice (some ⟨b, i * 2, none⟩) (n + 1 - i) dc, .slice (some ⟨vb, 0, none⟩) 1 vc]).run Try.prog W = .ok (goInt ((1 : Nat))) (W.setRow b R2.toArray) := fun W hW hV ty dc => by
    rw [run_copy_rowN W 39 39 ty 42 2 1 b (i * 2) (n + 1 - i) dc ⟨vb, 0, none⟩ 1 vc R1.toArray 42 [.int .i64 p, .slice none 0 0] Try.underlying39 hsz hW (by simp only [Nat.min_def]; split <;> omega) rfl
      (fun j v hj => by
        rw [Addr.add_lit]; simp only [World.cell?, hV]
        match j, hj with
        | 0, hj => exact hj
        | 1, hj => exact hj) (by simp [hR1l]; omega) (fun v hv2 => by simp at hv2; rcases hv2 with rfl | rfl <;> rfl)]
    simp only [List.length_cons, List.length_nil, hR2]
  have HW1 : Box ((w.drew.setRow b R1.toArray).heap[b]? = some (.cells R1.toArray 42 (0, 0))) := box (setRow_heap w.drew b cur _ _ _ hg.out)
  have HV1 : Box ((w.drew.setRow b R1.toArray).heap[vb]? = some (.cells #[.int .i64 p, .slice none 0 0] 42 (0, 0))) := box (by rw [setRow_other _ _ _ _ hne]; exact hv.out)
  have hz1' : ¬ (i : Int) = (n : Int) := by omega
  have hw1 : IntKind.i64.wrap ((n : Int) + 1) = (n : Int) + 1 := by rw [IntKind.wrap_i64]; omega
  have hw2 : IntKind.i64.wrap ((i : Int) + 1) = (i : Int) + 1 := by rw [IntKind.wrap_i64]; omega
  have hb1 : (0 : Int) ≤ (i : Int) + 1 := by omega
  have hin : i ≤ n := by omega
  have htn : ((i : Int) + 1).toNat = i + 1 := by omega
  have hb2 : ¬ (c = i + 1) := by omega
  have hb3 : (i : Int) ≤ (n : Int) + 1 := by omega
  have hb4 : ¬ (c = i) := by omega
  have hg3 : ¬ ((c : Int) < (n : Int) + 1) := by omega
  go_enter Try.func33, Try.ntmps33
  go_wp2_with (simp only [hov])
  go_region_law (refine step_copy_run14 rfl _ _ 39 39 rfl (.slice (some ⟨b, (i + 1) * 2, none⟩) (n - i) (c - (i + 1))) (.slice (some ⟨b, i * 2, none⟩) (n + 1 - i) (c - i)) (by simp [Act.eval, Act.put]) (by simp [Act.eval, Act.put]) (hcp1 w.drew hg.out _ _ _) ?_)
  have hh := hcp2 (w.drew.setRow b R1.toArray) HW1.out HV1.out 3 (c - i)
  go_wp2
  go_ret
  have hpl := putT_len T i p (by omega)
  have h2 : (i + 1) * 2 = i * 2 + 2 := by omega
  refine ⟨.slice (some ⟨b, 0, none⟩) (n + 1) c, rfl, ?_, ⟨rfl, rfl, rfl, by simp, fun k hk hkb => ?_⟩⟩
  · unfold OwnTL
    rw [hpl, hn]
    refine ⟨by rw [cellsT_len, hpl, hn], .inr ⟨b, c, R2.toArray, rfl, hB, setRow_heap _ _ _ _ _ _ HW1.out, hroom, by unfold maxLen; omega, ?_, ?_⟩⟩
    · have : R2.length = c * 2 := by rw [← hR2]; simp only [List.length_append, List.length_take, List.length_drop, hR1l, List.length_cons, List.length_nil]; omega
      simpa using this
    · rw [putT_cells T i p (by omega), hc]
      show R2.take ((n + 1) * 2) = _
      have := shift_cells cur.toList cs (i * 2) (n * 2) [.int .i64 p, .slice none 0 0] rfl (by omega) (by omega) hcs2 (fun _ => trivial)
      rw [← h2, hR1] at this
      rw [show (n + 1) * 2 = n * 2 + 2 by omega, ← hR2]
      exact this
  · have hkn : k ≠ b := fun e => hkb (by rw [e]; rfl)
    rw [setRow_other _ _ _ _ hkn, setRow_other _ _ _ _ hkn]; rfl
/-- into a new row: there is no room -/
theorem mInsGrow (B b n i vb vc : Nat) (T : List TL) (p : Int) (cur : Array Value) (w : World) (hSl : Box (Slices T)) (hl : T.length ≤ 65536) (hn : T.length = n) (hB : B ≤ w.heap.size) (hg : Box (w.heap[b]? = some (.cells cur 42 (0, 0)))) (hz : Box (cur.size = n * 2)) (hcs : Box (cur.toList.take (n * 2) = cellsT T))
    (hi : i < n) (hv : Box (w.heap[vb]? = some (.cells #[.int .i64 p, .slice none 0 0] 42 (0, 0)))) :
    Calls Try.prog 33 #[.slice (some ⟨b, 0, none⟩) n n, .int .i64 i, .slice (some ⟨vb, 0, none⟩) 1 vc] w fun e w' => InsPost B (.slice (some ⟨b, 0, none⟩) n n) T i p w e w' := by
  obtain ⟨i0, hi0, hz0, hz1, hz2⟩ := info_parts info_lev
  have hsz : (Try.prog.info? 42).map (·.size) = some 2 := by rw [hi0]; simp [hz1]
  have hl2 : n ≤ 65536 := by omega
  have hbH : b < w.heap.size := (Array.getElem?_eq_some_iff.1 hg.out).1
  have hvH : vb < w.heap.size := (Array.getElem?_eq_some_iff.1 hv.out).1
  obtain ⟨cs, hc⟩ : ∃ cs, cellsT T = cs := ⟨_, rfl⟩
  have hcl : cs.length = n * 2 := by rw [← hc, cellsT_len, hn]
  have hcs2 := hcs.out
  have hzz := hz.out
  rw [hc] at hcs2
  have hdl : (cs.drop (i * 2)).length = (n - i) * 2 := by rw [List.length_drop, hcl]; omega
  have hlt : cur.toList.length = n * 2 := by simpa using hzz
  have hat : ∀ j v, cs[j]? = some v → cur[j]? = some v := fun j v hj => by
    rw [← hcs2, List.getElem?_take] at hj
    split at hj
    · simpa using hj
    · cases hj
  have h1c : ∀ v ∈ cs, v.oneCell' = true := fun v hv2 => by
    rw [← hc] at hv2
    exact cellsT_one hSl.out v hv2
  have hold : (Builtin.firstCells i0.size i (.slice (some ⟨b, 0, none⟩) i n)).run Try.prog w.drew = .ok (cs.take (i * 2)).toArray w.drew := by
    rw [hz1]
    exact run_firstCells_some w.drew 2 i ⟨b, 0, none⟩ i n (cs.take (i * 2)) (by rw [List.length_take, hcl]; omega) (fun j v hj => by
      rw [Addr.add_lit, Nat.zero_add]
      rw [List.getElem?_take] at hj
      split at hj
      · simp only [World.cell?, show w.drew.heap[b]? = some (.cells cur 42 (0, 0)) from hg.out]; exact hat j v hj
      · cases hj)
  obtain ⟨G, hG⟩ : ∃ G, G = grownCap w (n + 1) n 42 := ⟨_, rfl⟩
  obtain ⟨ROW, hROW⟩ : ∃ ROW : Array Value, ROW = (cs.take (i * 2)).toArray ++ Builtin.zeroCells (Value.agg #[.int .i64 0, .slice none 0 0]).cells (n + 1 - i) ++ Builtin.zeroCells (Value.agg #[.int .i64 0, .slice none 0 0]).cells (G - (n + 1)) := ⟨_, rfl⟩
  have hrz : ∀ ty, (Builtin.append_ #[39, 3] ty #[.slice (some ⟨b, 0, none⟩) i n, .int .i64 ((n : Int) + 1 - (i : Int))]).run Try.prog w = .ok (.slice (some ⟨w.heap.size, 0, none⟩) (n + 1) G) (w.drew.alloc (.cells ROW 42)) := fun ty => by
    have h := Lib.run_append_grow_zeros w 39 3 ty 42 i0 _ .i64 .i64 Try.underlying39 Try.underlying3 hi0 hz0 (some ⟨b, 0, none⟩) i n (cs.take (i * 2)) hold (n + 1 - i) (by omega) (by omega) (by omega) (by omega) (by rw [hz2]; omega) (by rw [hz2, show i + (n + 1 - i) = n + 1 by omega]; exact growslice_fits (by omega) (by omega))
    rw [show i + (n + 1 - i) = n + 1 by omega, ← hG, ← hROW] at h
    rw [show (n : Int) + 1 - (i : Int) = ((n + 1 - i : Nat) : Int) by omega]
    exact h
  have hGn : n + 1 ≤ G := by rw [hG]; exact grownCap_ge w _ _ _
  have hG63 : G ≤ 9223372036854775807 := by
    have := grownCap_le_maxLen w (n + 1) n 42 (by unfold maxLen; omega)
    rw [← hG] at this
    unfold maxLen at this
    omega
  have hRs : ROW.size = G * 2 := by
    rw [hROW]
    simp [Builtin.zeroCells, Value.cells, hcl]
    omega
  have hRt : ROW.toList.take (i * 2) = cs.take (i * 2) := by
    rw [hROW, Array.append_assoc, Array.toList_append]
    rw [List.take_append_of_le_length (by simp [hcl]; omega)]
    simp
    rw [List.take_take, Nat.min_self]
  obtain ⟨R1, hR1⟩ : ∃ R1, ROW.toList.take (i * 2) ++ [.int .i64 p, .slice none 0 0] ++ ROW.toList.drop (i * 2 + 2) = R1 := ⟨_, rfl⟩
  have hR1l : R1.length = G * 2 := by rw [← hR1]; simp only [List.length_append, List.length_take, List.length_drop, List.length_cons, List.length_nil, Array.length_toList, hRs]; omega
  obtain ⟨R2, hR2⟩ : ∃ R2, R1.take ((i + 1) * 2) ++ cs.drop (i * 2) ++ R1.drop ((i + 1) * 2 + (cs.drop (i * 2)).length) = R2 := ⟨_, rfl⟩
  have hcpA : ∀ (W : World) (hW : W.heap[w.heap.size]? = some (.cells ROW 42 (0, 0))) (hV : W.heap[vb]? = some (.cells #[.int .i64 p, .slice none 0 0] 42 (0, 0))) ty dc, (Builtin.copy_ #[39, 39] ty #[.slice (some ⟨w.heap.size, i * 2, none⟩) (n + 1 - i) dc, .slice (some ⟨vb, 0, none⟩) 1 vc]).run Try.prog W = .ok (goInt ((1 : Nat))) (W.setRow w.heap.size R1.toArray) := fun W hW hV ty dc => by
    rw [run_copy_rowN W 39 39 ty 42 2 1 w.heap.size (i * 2) (n + 1 - i) dc ⟨vb, 0, none⟩ 1 vc ROW 42 [.int .i64 p, .slice none 0 0] Try.underlying39 hsz hW (by simp only [Nat.min_def]; split <;> omega) rfl
      (fun j v hj => by
        rw [Addr.add_lit]; simp only [World.cell?, hV]
        match j, hj with
        | 0, hj => exact hj
        | 1, hj => exact hj) (by simp [hRs]; omega) (fun v hv2 => by simp at hv2; rcases hv2 with rfl | rfl <;> rfl)]
    simp only [List.length_cons, List.length_nil, hR1]
  have hcpB : ∀ (W : World) (hW : W.heap[w.heap.size]? = some (.cells R1.toArray 42 (0, 0))) (hV : W.heap[b]? = some (.cells cur 42 (0, 0))) ty dc sc, (Builtin.copy_ #[39, 39] ty #[.slice (some ⟨w.heap.size, (i + 1) * 2, none⟩) (n - i) dc, .slice (some ⟨b, i * 2, none⟩) (n - i) sc]).run Try.prog W = .ok (goInt ((n - i : Nat))) (W.setRow w.heap.size R2.toArray) := fun W hW hV ty dc sc => by
    rw [run_copy_rowN W 39 39 ty 42 2 (n - i) w.heap.size ((i + 1) * 2) (n - i) dc ⟨b, i * 2, none⟩ (n - i) sc R1.toArray 42 (cs.drop (i * 2)) Try.underlying39 hsz hW (by simp only [Nat.min_def]; split <;> omega) hdl
      (fun j v hj => by rw [Addr.add_lit]; simp only [World.cell?, hV]; exact hat _ v (by rwa [List.getElem?_drop] at hj)) (by simp only [hdl, List.size_toArray, hR1l]; omega) (fun v hv2 => h1c v (List.mem_of_mem_drop hv2))]
    rw [hR2]
  have HA1 : Box (((w.alloc (.cells ROW 42)).drew).heap[w.heap.size]? = some (.cells ROW 42 (0, 0))) := box (heap_alloc_new w _)
  have HA2 : Box (((w.alloc (.cells ROW 42)).drew).heap[vb]? = some (.cells #[.int .i64 p, .slice none 0 0] 42 (0, 0))) := box ((heap_alloc_old w (.cells ROW 42) hvH).trans hv.out)
  have HA3 : Box (((w.alloc (.cells ROW 42)).drew).heap[b]? = some (.cells cur 42 (0, 0))) := box ((heap_alloc_old w (.cells ROW 42) hbH).trans hg.out)
  have HB1 : Box (((((w.alloc (.cells ROW 42)).drew).setRow w.heap.size R1.toArray).drew).heap[w.heap.size]? = some (.cells R1.toArray 42 (0, 0))) := box (setRow_heap _ _ _ _ _ _ HA1.out)
  have HB2 : Box (((((w.alloc (.cells ROW 42)).drew).setRow w.heap.size R1.toArray).drew).heap[b]? = some (.cells cur 42 (0, 0))) := box ((setRow_other _ _ _ _ (by omega)).trans HA3.out)
  have hh1 := hcpA ((w.alloc (.cells ROW 42)).drew) HA1.out HA2.out 3 (G - i)
  have hh2 := hcpB ((((w.alloc (.cells ROW 42)).drew).setRow w.heap.size R1.toArray).drew) HB1.out HB2.out
  have HR1 := box hR1
  have HR2 := box hR2
  have HRs := box hRs
  have HRt := box hRt
  have HCL := box hcl
  have HCS := box hcs2
  have HC := box hc
  clear hR1 hR2 hRs hRt hcl hcs2 hc hROW hold hat h1c hcpA hcpB hG hdl hlt hzz
  have hz1' : ¬ (i : Int) = (n : Int) := by omega
  have hw1 : IntKind.i64.wrap ((n : Int) + 1) = (n : Int) + 1 := by rw [IntKind.wrap_i64]; omega
  have hw2 : IntKind.i64.wrap ((i : Int) + 1) = (i : Int) + 1 := by rw [IntKind.wrap_i64]; omega
  have hw3 : IntKind.i64.wrap ((n : Int) + 1 - (i : Int)) = (n : Int) + 1 - (i : Int) := by rw [IntKind.wrap_i64]; omega
  have hb1 : (0 : Int) ≤ (i : Int) + 1 := by omega
  have hin : i ≤ n := by omega
  have htn : ((i : Int) + 1).toNat = i + 1 := by omega
  have hb2 : ¬ (G = i + 1) := by omega
  have hb3 : (i : Int) ≤ (n : Int) + 1 := by omega
  have hb4 : ¬ (G = i) := by omega
  have hb5 : ¬ (n = i) := by omega
  have hg3 : (n : Int) < (n : Int) + 1 := by omega
  go_enter Try.func33, Try.ntmps33
  go_wp2_with (at_builtin; refine Lib.wpList_append_run _ rfl _ _ _ _ rfl _ _ rfl rfl _ _ (hrz _) ?_)
  go_region_law (refine step_copy_run14 rfl _ _ 39 39 rfl (.slice (some ⟨w.heap.size, (i + 1) * 2, none⟩) (n - i) (G - (i + 1))) (.slice (some ⟨b, i * 2, none⟩) (n - i) (n - i)) (by simp [Act.eval, Act.put]) (by simp [Act.eval, Act.put]) (hh2 _ _ _) ?_)
  go_wp2
  go_ret
  have hpl := putT_len T i p (by omega)
  have h2 : (i + 1) * 2 = i * 2 + 2 := by omega
  refine ⟨.slice (some ⟨w.heap.size, 0, none⟩) (n + 1) G, rfl, ?_, ⟨rfl, rfl, rfl, by simp, fun k hk hkb => ?_⟩⟩
  · unfold OwnTL
    rw [hpl, hn]
    refine ⟨by rw [cellsT_len, hpl, hn], .inr ⟨w.heap.size, G, R2.toArray, rfl, hB, setRow_heap _ _ _ _ _ _ HB1.out, hGn, by unfold maxLen; omega, ?_, ?_⟩⟩
    · have hdl : (cs.drop (i * 2)).length = (n - i) * 2 := by rw [List.length_drop, HCL.out]; omega
      have : R2.length = G * 2 := by rw [← HR2.out]; simp only [List.length_append, List.length_take, List.length_drop, hR1l, HCL.out]; omega
      simpa using this
    · rw [putT_cells T i p (by omega), HC.out]
      show R2.take ((n + 1) * 2) = _
      have := fresh_cells ROW.toList cs (i * 2) (n * 2) [.int .i64 p, .slice none 0 0] rfl (by omega) HCL.out (by rw [Array.length_toList, HRs.out]; omega) HRt.out
      simp only [List.length_cons, List.length_nil, Nat.zero_add, Nat.reduceAdd] at this
      rw [HR1.out, ← h2, HR2.out] at this
      rw [show (n + 1) * 2 = n * 2 + 2 by omega]
      exact this
  · have hkn : k ≠ w.heap.size := by omega
    rw [setRow_other _ _ _ _ hkn]
    show ((w.alloc (.cells ROW 42)).drew.setRow w.heap.size R1.toArray).heap[k]? = _
    rw [setRow_other _ _ _ _ hkn]
    exact heap_alloc_old w (.cells ROW 42) hk
/-- one level more, whatever room there is -/
theorem mInsert14 (B : Nat) (v : Value) (T : List TL) (i vb vc : Nat) (p : Int) (w : World) (hSl : Box (Slices T)) (hl : T.length ≤ 65536) (hi : i ≤ T.length) (hO : Box (OwnTL w B v T)) (hB : B ≤ w.heap.size) (hne : v.ownBlock ≠ some vb) (hv : Box (w.heap[vb]? = some (.cells #[.int .i64 p, .slice none 0 0] 42 (0, 0)))) :
    Calls Try.prog 33 #[v, .int .i64 i, .slice (some ⟨vb, 0, none⟩) 1 vc] w fun e w' => InsPost B v T i p w e w' := by
  by_cases he : i = T.length
  · subst he
    exact mInsEnd B v T p vb vc w hl hO hB (by simp [World.cell?, hv.out]) (by simp [World.cell?, hv.out])
  · rcases hO.out.2 with ⟨_, h0⟩ | ⟨g, cap, cur, rfl, hBg, hg, hc, hm, hs, ht⟩
    · omega
    · by_cases hr : T.length + 1 ≤ cap
      · exact mInsShift B g T.length cap i vb vc T p cur w hSl hl rfl hBg (box hg) (box hs) (box ht) (by omega) hr (by unfold maxLen at hm; omega) (by intro e; apply hne; rw [e]; rfl) hv
      · obtain rfl : cap = T.length := by omega
        exact mInsGrow B g T.length i vb vc T p cur w hSl hl rfl hB (box hg) (box hs) (box ht) (by omega) hv
end
section
open Go.RowKit
theorem cellsT_set : ∀ {T : List TL} {k : Nat} (h : k < T.length) (s : Value) (vs : List ByteArray), cellsT (T.set k (T[k].1, s, vs)) = (cellsT T).set (k * 2 + 1) s
  | t :: T, 0, _, s, vs => rfl
  | t :: T, k + 1, h, s, vs => by
    have ih := cellsT_set (T := T) (k := k) (by simpa using h) s vs
    rw [List.set_cons_succ, cellsT_cons, cellsT_cons, show (k + 1) * 2 + 1 = k * 2 + 1 + 2 by omega]
    show _ :: _ :: cellsT (T.set k ((T[k]'(by simpa using h)).1, s, vs)) = _
    rw [ih]; rfl
theorem grown_set (w : World) (b k : Nat) (s : Value) {cur : Array Value} {e : TypeId} {fr : Nat × Nat} (hg : w.heap[b]? = some (.cells cur e fr)) : w.grownBy (w.setCell ⟨b, k, none⟩ s) (some b) := by
  rw [setCell_eq_setRow w b k cur e fr s hg]
  exact ⟨rfl, rfl, rfl, by simp, fun j hj hne => setRow_other _ _ _ _ (fun h => hne (by rw [h]))⟩
theorem Lev.slices {w : World} {B : Nat} {v : Value} {T : List TL} (h : Lev w B v T) : Slices T := fun i hi => by
  obtain ⟨a, c, e, _, _⟩ := h.slice (List.getElem_mem hi)
  exact ⟨a, _, c, e⟩
theorem own_ne {w : World} {B : Nat} {e : TypeId} {size n : Nat} {v : Value} {xs : List Value} (h : w.ownsRow B e size v n xs) {k : Nat} (hk : v.ownBlock = some k) : k < w.heap.size := (h.lt k hk).2
theorem some_ne {r s : Option Nat} (h : ∀ k, r = some k → s ≠ some k) : s = none ∨ s ≠ r := by
  cases r with
  | none => cases s with
    | none => exact .inl rfl
    | some k => exact .inr (by simp)
  | some k => exact .inr (h k rfl)
/-- a value more in the level at k -/
theorem lev_put {W w2 : World} {B b n c k g m cap : Nat} {T : List TL} {vs : List ByteArray} {cur : Array Value} (hL : Lev W B (.slice (some ⟨b, 0, none⟩) n c) T) (hk : k < T.length)
    (hg2 : W.grownBy w2 T[k].2.1.ownBlock) (hO2 : OwnS w2 B (.slice (some ⟨g, 0, none⟩) m cap) vs) (hat : T[k].2.1.ownBlock = some g ∨ g = W.heap.size) :
    Lev (w2.setCell ⟨b, k * 2 + 1, none⟩ (.slice (some ⟨g, 0, none⟩) m cap)) B (.slice (some ⟨b, 0, none⟩) n c) (T.set k (T[k].1, .slice (some ⟨g, 0, none⟩) m cap, vs)) ∧ Below B W (w2.setCell ⟨b, k * 2 + 1, none⟩ (.slice (some ⟨g, 0, none⟩) m cap)) := by
  have hrow2 : OwnTL w2 B (.slice (some ⟨b, 0, none⟩) n c) T := World.ownsRow.kept hL.row hg2 (some_ne (fun j hj => by
    intro e; exact lev_ne hL.row (hL.vals _ (List.getElem_mem hk)) e hj))
  rcases hrow2.2 with ⟨h, _⟩ | ⟨b', c', cur2, hv, hB, hg, hc, hm, hs, ht⟩
  · cases h
  · injection hv with e1 e2 e3
    injection e1 with e1
    injection e1 with e1 _ _
    subst e1; subst e2; subst e3
    have hgs := grown_set w2 b (k * 2 + 1) (.slice (some ⟨g, 0, none⟩) m cap) hg
    have hBW : B ≤ W.heap.size := by
      have := (hL.row.lt b rfl); omega
    have hkeep : ∀ {s : Value} {L : List ByteArray}, OwnS w2 B s L → OwnS (w2.setCell ⟨b, k * 2 + 1, none⟩ (.slice (some ⟨g, 0, none⟩) m cap)) B s L := fun {s L} h =>
      World.ownsRow.kept h hgs (by
        by_cases e : s.ownBlock = some b
        · exact absurd e (lev_ne hrow2 h rfl)
        · exact .inr e)
    have hold : ∀ j (hj : j < T.length), j ≠ k → OwnS w2 B T[j].2.1 T[j].2.2 ∧ ∀ q, T[j].2.1.ownBlock = some q → q ≠ g := fun j hj hjk => by
      have hap : Apart T[j] T[k] := by
        rcases Nat.lt_or_gt_of_ne hjk with h | h
        · exact List.pairwise_iff_getElem.1 hL.apart j k hj hk h
        · exact (List.pairwise_iff_getElem.1 hL.apart k j hk hj h).symm
      refine ⟨World.ownsRow.kept (hL.vals _ (List.getElem_mem hj)) hg2 (some_ne (fun q hq e => hap q e hq)), fun q hq e => ?_⟩
      subst e
      rcases hat with h | h
      · exact hap q hq h
      · have := own_ne (hL.vals _ (List.getElem_mem hj)) hq; omega
    refine ⟨⟨?_, fun t ht2 => ?_, ?_⟩, ?_⟩
    · have hlen : (T.set k (T[k].1, Value.slice (some ⟨g, 0, none⟩) m cap, vs)).length = T.length := List.length_set ..
      unfold OwnTL
      rw [hlen, cellsT_set hk, setCell_eq_setRow w2 b (k * 2 + 1) cur2 _ _ _ hg]
      refine ⟨by rw [List.length_set, cellsT_len], .inr ⟨b, c, _, rfl, hB, setRow_heap _ _ _ _ _ _ hg, hc, hm, by simpa using hs, ?_⟩⟩
      rw [Array.toList_setIfInBounds, ← ht]
      rw [List.take_set]
    · obtain ⟨j, hj, rfl⟩ := List.getElem_of_mem ht2
      have hjl : j < T.length := by simpa using hj
      rw [List.getElem_set]
      split
      · exact hkeep hO2
      · rename_i hjk
        exact hkeep (hold j hjl (fun e => hjk e.symm)).1
    · rw [List.pairwise_iff_getElem]
      intro i j hi hj hij
      have hil : i < T.length := by simpa using hi
      have hjl : j < T.length := by simpa using hj
      rw [List.getElem_set, List.getElem_set]
      split
      · rename_i hik
        rw [if_neg (by omega)]
        intro q hq h2
        have hqg : g = q := by simpa [Value.ownBlock] using hq
        exact (hold j hjl (by omega)).2 q h2 hqg.symm
      · rename_i hik
        split
        · rename_i hjk
          intro q hq h2
          have hqg : g = q := by simpa [Value.ownBlock] using h2
          exact (hold i hil (by omega)).2 q hq hqg.symm
        · exact List.pairwise_iff_getElem.1 hL.apart i j hil hjl hij
    · have h1 : Below B W w2 := (Below.refl B W).grown hg2 hBW (fun q hq => ((hL.vals _ (List.getElem_mem hk)).lt q hq).1)
      exact h1.grown hgs (Nat.le_trans hBW h1.size) (fun q hq => by cases hq; exact hB)
/-- a level more at i -/
theorem lev_ins {W w2 : World} {B i : Nat} {p : Int} {T : List TL} {v v' : Value} (hL : Lev W B v T) (hg2 : W.grownBy w2 v.ownBlock) (hO2 : OwnTL w2 B v' (putT T i p)) : Lev w2 B v' (putT T i p) := by
  have hold : ∀ t ∈ T, OwnS w2 B t.2.1 t.2.2 := fun t ht => World.ownsRow.kept (hL.vals t ht) hg2 (some_ne (fun q hq e => lev_ne hL.row (hL.vals t ht) hq e))
  have hsub : T = T.take i ++ T.drop i := (List.take_append_drop i T).symm
  refine ⟨hO2, fun t ht => ?_, ?_⟩
  · unfold putT at ht
    rcases List.mem_append.1 ht with ht | ht
    · exact hold t (List.mem_of_mem_take ht)
    · rcases List.mem_cons.1 ht with rfl | ht
      · exact World.ownsRow_nil _ _ _ _
      · exact hold t (List.mem_of_mem_drop ht)
  · have hp := hL.apart
    rw [hsub, List.pairwise_append] at hp
    unfold putT
    rw [List.pairwise_append]
    refine ⟨hp.1, List.pairwise_cons.2 ⟨fun t _ k hk => by simp [Value.ownBlock] at hk, hp.2.1⟩, fun a ha t ht => ?_⟩
    rcases List.mem_cons.1 ht with rfl | ht
    · intro k _ h2; simp [Value.ownBlock] at h2
    · exact hp.2.2 a ha t ht
/-- append of one string that lies in a block of its own, and where the new slice lies -/
theorem wpList_append_strL (w : World) {ops : Array Oper} {rest : List Oper} {o : Oper} {a : Act} {Q : Exit → Act → World → Prop} (hgd : o.guard = none) (s x : Operand)
    (ho : o.op = .call { callee := .builtin .append, args := #[s, x], argTypes := #[27, 27] })
    (B n : Nat) (v : Value) (L : List ByteArray) (hs : a.eval s = v) (hown : OwnS w B v L) (hn : L.length = n)
    (g : Nat) (c : Nat) (hx : a.eval x = .slice (some ⟨g, 0, none⟩) 1 c) (u : ByteArray) (h0 : w.cell? ⟨g, 0, none⟩ = some (.string u)) (hl : n ≤ 65536) (hB : B ≤ w.heap.size)
    (h : ∀ g' cap w', OwnS w' B (.slice (some ⟨g', 0, none⟩) (n + 1) cap) (L ++ [u]) → w.grownBy w' v.ownBlock → (v.ownBlock = some g' ∨ g' = w.heap.size) → wpList Try.prog ops Q rest (a.put o.dst (.slice (some ⟨g', 0, none⟩) (n + 1) cap)) w') : wpList Try.prog ops Q (o :: rest) a w := by
  obtain ⟨i0, hi0, hz0, hz1, hz2⟩ := info_parts info_str
  subst hn
  refine wpList_append_lies (P := Try.prog) w hgd s x 27 ho B 9 i0 _ 1 16 Try.underlying27 hi0 hz0 hz1 hz2 rfl (by decide) v L.length (L.map Value.string) hs hown ⟨g, 0, none⟩ 1 c [.string u] hx rfl ?_ ?_ (by omega) (by unfold maxLen; omega) (by omega) hB _ rfl ?_
  · intro j u hj
    match j, hj with
    | 0, hj => simp at hj; subst hj; simpa [Addr.add] using h0
  · intro u hu; simp at hu; subst hu; rfl
  · intro g' cap w' q1 q2 q3 _
    exact h g' cap w' (by simpa [OwnS] using q1) q2 q3
end
section
open Go.RowKit Go.ChangeShapes Go.WideShapes Go.Deep
abbrev QP := ByteArray × Int
/-- preferences at an address -/
def Qs (w : World) (a : Option Addr) (L : List QP) : Prop :=
  ∀ i (h : i < L.length), ∃ g off, a = some ⟨g, off, none⟩ ∧ w.cell? ⟨g, off + i * 2, none⟩ = some (.string L[i].1) ∧ w.cell? ⟨g, off + i * 2 + 1, none⟩ = some (.int .i64 L[i].2)
theorem Qs.below {w w' : World} {a : Option Addr} {L : List QP} (h : Qs w a L) (hb : Below w.heap.size w w') : Qs w' a L := fun i hi => by
  obtain ⟨g, off, e, c0, c1⟩ := h i hi
  exact ⟨g, off, e, (hb.cell (cell_lt c0)).trans c0, (hb.cell (cell_lt c1)).trans c1⟩
theorem info_prf : (Try.prog.info? 33).map (fun i => (i.zero, i.size, i.bytes)) = some (some (.agg #[.string ⟨#[]⟩, .int .i64 0]), 2, 24) := by kernel_rfl
def cellsQ (L : List QP) : List Value := L.flatMap fun p => [.string p.1, .int .i64 p.2]
theorem cellsQ_len (L : List QP) : (cellsQ L).length = L.length * 2 := by
  induction L with
  | nil => rfl
  | cons p L ih => simp only [cellsQ, List.flatMap_cons, List.length_append, List.length_cons, List.length_nil] at *; omega
theorem cellsQ_app (L M : List QP) : cellsQ (L ++ M) = cellsQ L ++ cellsQ M := by simp [cellsQ]
theorem cellsQ_at (L : List QP) (i : Nat) (h : i < L.length) : (cellsQ L)[i * 2]? = some (.string L[i].1) ∧ (cellsQ L)[i * 2 + 1]? = some (.int .i64 L[i].2) := by
  have e : L = L.take i ++ L[i] :: L.drop (i + 1) := by rw [← List.drop_eq_getElem_cons h, List.take_append_drop]
  have hl : (cellsQ (L.take i)).length = i * 2 := by rw [cellsQ_len, List.length_take, Nat.min_eq_left (Nat.le_of_lt h)]
  have e2 : cellsQ L = cellsQ (L.take i) ++ (.string L[i].1 :: .int .i64 L[i].2 :: cellsQ (L.drop (i + 1))) := by
    conv => lhs; rw [e, cellsQ_app]
    rfl
  rw [e2]
  constructor
  · rw [List.getElem?_append_right (by omega), hl]; simp
  · rw [List.getElem?_append_right (by omega), hl]; simp
def OwnQ (w : World) (B : Nat) (v : Value) (L : List QP) : Prop := w.ownsRow B 33 2 v L.length (cellsQ L)
section
variable {w w' : World} {B : Nat} {v : Value}
theorem OwnQ.nil (w : World) (B : Nat) : OwnQ w B (.slice none 0 0) [] := World.ownsRow_nil _ _ _ _
/-- what a slice of preferences that a call owns looks like -/
theorem OwnQ.qs {L : List QP} (h : OwnQ w B v L) : ∃ a cap, v = .slice a L.length cap ∧ Qs w a L ∧ L.length ≤ cap := by
  rcases h.2 with ⟨rfl, hn⟩ | ⟨g, cap, cur, rfl, hB, hg, hc, hm, hs, ht⟩
  · exact ⟨none, 0, by rw [hn], fun i hi => by omega, by omega⟩
  · refine ⟨_, cap, rfl, fun i hi => ⟨g, 0, rfl, ?_, ?_⟩, hc⟩
    all_goals
      obtain ⟨q0, q1⟩ := cellsQ_at L i hi
      rw [← ht] at q0 q1
      rw [List.getElem?_take] at q0 q1
      rw [if_pos (by omega)] at q0 q1
      simp only [World.cell?, hg]
    · simpa using q0
    · simpa [Nat.add_assoc] using q1
end
/-- append of one preference that lies in a block of its own -/
theorem wpList_append_prf (w : World) {ops : Array Oper} {rest : List Oper} {o : Oper} {a : Act} {Q : Exit → Act → World → Prop} (hgd : o.guard = none) (s x : Operand)
    (ho : o.op = .call { callee := .builtin .append, args := #[s, x], argTypes := #[22, 22] })
    (B : Nat) (v : Value) (L : List QP) (hs : a.eval s = v) (hown : OwnQ w B v L)
    (g : Nat) (c : Nat) (hx : a.eval x = .slice (some ⟨g, 0, none⟩) 1 c) (n : ByteArray) (u : Int) (h0 : w.cell? ⟨g, 0, none⟩ = some (.string n)) (h1 : w.cell? ⟨g, 1, none⟩ = some (.int .i64 u)) (hl : L.length ≤ 65536) (hB : B ≤ w.heap.size)
    (h : ∀ v' w', OwnQ w' B v' (L ++ [(n, u)]) → Below B w w' → wpList Try.prog ops Q rest (a.put o.dst v') w') : wpList Try.prog ops Q (o :: rest) a w := by
  obtain ⟨i0, hi0, hz0, hz1, hz2⟩ := info_parts info_prf
  refine wpList_append_own (P := Try.prog) w hgd s x 22 ho B 33 i0 _ 2 24 Try.underlying22 hi0 hz0 hz1 hz2 rfl (by decide) v L.length (cellsQ L) hs hown ⟨g, 0, none⟩ 1 c [.string n, .int .i64 u] hx rfl ?_ ?_ (by unfold maxLen; omega) (by omega) hB ?_
  · intro j u hj
    match j, hj with
    | 0, hj => simp at hj; subst hj; simpa [Addr.add] using h0
    | 1, hj => simp at hj; subst hj; simpa [Addr.add] using h1
  · intro u hu; simp at hu; rcases hu with rfl | rfl <;> rfl
  · intro v' w' q1 q2 _
    refine h v' w' (by simpa [OwnQ, cellsQ_app, cellsQ] using q1) ((Below.refl _ _).grown q2 hB (fun k hk => own_block hown k hk))
def intOfV : Value → Int | .int _ q => q | _ => 0
theorem open_prefs {H : Type} {enc : TypeId × Value → H} {W : World} {base : Nat} {sp : Nat → Bool} {held : Bool} {r : Reach} {b0 : Nat} {v : Value} {d : DataW H} {p : List MemPlace}
    (hval : Value.okWide Try.prog W r b0 22 v) (h : DataW.Trod enc Try.prog W base sp held 22 v d p) :
    ∃ (a : Option Addr) (cap : Nat) (L : List QP), v = .slice a L.length cap ∧ L.length ≤ maxLen ∧ (Qs W a L ∧ ∀ i (h : i < L.length), InI64 L[i].2) ∧ L.length ≤ cap := by
  obtain ⟨a0, len, cap, rfl⟩ := okWide_slice Try.underlying22 hval
  obtain ⟨fuel, hf⟩ := h
  rcases open_slice_pairs Try.underlying22 Try.underlying33 (by kernel_rfl) rfl rfl (by kernel_rfl) (by kernel_rfl) hf with ⟨hcs, hx⟩ | ⟨a, len', cap', m, n, V0, V1, D0, D1, P0, P1, hcs, _, hl, hm, hmm, hx, hi⟩
  · simp [Value.cells] at hcs
    obtain ⟨rfl, rfl, rfl⟩ := hcs
    exact ⟨none, 0, [], rfl, Nat.zero_le _, ⟨fun i hi => absurd hi (by simp), fun i hi => absurd hi (by simp)⟩, Nat.le_refl _⟩
  · simp [Value.cells] at hcs
    obtain ⟨rfl, rfl, rfl⟩ := hcs
    have hlm : len ≤ m := by rw [hmm]; split <;> omega
    have key : ∀ i, i < len → ∃ (s : ByteArray) (q : Int), V0 i = .string s ∧ V1 i = .int .i64 q ∧ InI64 q := fun i hil => by
      obtain ⟨k0, k1, t0, t1⟩ := hi i (by omega)
      obtain ⟨s0, e0, _, _⟩ := DataW.trod_string Try.underlying9 t0
      obtain ⟨q1, e1, _, hw⟩ := DataW.trod_int Try.underlying3 t1
      simp at e0 e1
      refine ⟨s0, q1, e0, e1, ?_⟩
      unfold InI64
      simp [Lit.wf, IntKind.min, IntKind.max, IntKind.bits, IntKind.signed] at hw
      omega
    refine ⟨some a, cap, (List.range len).map fun i => (strOf (V0 i), intOfV (V1 i)), by simp, by simp; omega, ⟨fun i hi2 => ?_, fun i hi2 => ?_⟩, by simp; omega⟩
    · have hil : i < len := by simpa using hi2
      obtain ⟨g, off, spot⟩ := a
      obtain ⟨z0, _, _, _⟩ := hi 0 (by omega)
      have hspot : spot = none := by simpa [Addr.add] using World.cell?_spot z0
      subst hspot
      obtain ⟨k0, k1, _, _⟩ := hi i (by omega)
      obtain ⟨s, q, e0, e1, _⟩ := key i hil
      rw [add_plain] at k0 k1
      refine ⟨g, off, rfl, ?_, ?_⟩
      · rw [k0, e0]; simp [strOf, e0]
      · rw [← Nat.add_assoc] at k1
        rw [k1, e1]; simp [intOfV, e1]
    · have hil : i < len := by simpa using hi2
      obtain ⟨s, q, e0, e1, hq⟩ := key i hil
      simp [intOfV, e1]; exact hq
end
section
open Go.RowKit
/-- two values lie at the block's start, and may be written -/
def C2 (g : Nat) (c0 c1 : Value) (w : World) : Prop :=
  (w.cell? ⟨g, 0, none⟩ = some c0 ∧ w.cell? ⟨g, 1, none⟩ = some c1) ∧ (w.frozen? ⟨g, 0, none⟩ = false ∧ w.frozen? ⟨g, 1, none⟩ = false)
section
variable {g B : Nat} {c0 c1 : Value} {w w' : World}
theorem C2.new (c0 c1 : Value) (w : World) (t : TypeId) : C2 w.heap.size c0 c1 (w.alloc (.cells #[c0, c1] t)) := by
  refine ⟨⟨?_, ?_⟩, ⟨?_, ?_⟩⟩
  all_goals first
    | (rw [World.cell?_alloc_mark]; rfl)
    | exact World.frozen?_alloc_at _ _ _ _ rfl
theorem C2.below (f : C2 g c0 c1 w) (hb : Below B w w') (hg : g < B) : C2 g c0 c1 w' := by
  obtain ⟨⟨h0, h1⟩, ⟨f0, f1⟩⟩ := f
  exact ⟨⟨(hb.cell hg).trans h0, (hb.cell hg).trans h1⟩, ⟨(hb.frozen hg).trans f0, (hb.frozen hg).trans f1⟩⟩
theorem C2.lt (f : C2 g c0 c1 w) : g < w.heap.size := cell_lt (p := ⟨g, 0, none⟩) f.1.1
theorem C2.next (f : C2 g c0 c1 w) (hb : Below w.heap.size w w') : C2 g c0 c1 w' := f.below hb f.lt
end
theorem rFold13_is {a b : ByteArray} {q : Bool} {w : World} (ha : a.size ≤ 4294967296) (hb : b.size ≤ 4294967296) (h : Box (foldL a.data.toList b.data.toList = q)) :
    Calls Try.prog 16 #[.string a, .string b] w fun e w' => e = .returned (.bool q) ∧ Below w.heap.size w w' :=
  (rFold_any a b w ha hb).mono fun e w' ⟨h1, h2⟩ => ⟨by rw [h1, h.out], h2⟩
end
section
open Go.RowKit
theorem rMatch_any (a b c d : ByteArray) (p q : Option Addr) (cp cq : Nat) (K L : List F) (w : World) (hk : K.length ≤ 65536) (hl : L.length ≤ 65536)
    (hzK : Box (∀ i (hi : i < K.length), K[i].1.size ≤ 65536 ∧ K[i].2.size ≤ 65536)) (hzL : Box (∀ i (hi : i < L.length), L[i].1.size ≤ 65536 ∧ L[i].2.size ≤ 65536)) (hK : Box (Fs w p K)) (hL : Box (Fs w q L)) :
    Calls Try.prog 21 #[.agg #[.string a, .string b, .slice p K.length cp], .agg #[.string c, .string d, .slice q L.length cq]] w fun e w' => e = .returned (.int .i64 (matchI (a, b, K) (c, d, L))) ∧ Below w.heap.size w w' := by
  by_cases h : (b.toList == [42]) = false ∧ (a.toList == c.toList) = true ∧ (b.toList == d.toList) = true
  · exact rMatch_late a b c d p q cp cq K L w hk hl hzK hzL hK hL _ rfl h.1 h.2.1 h.2.2
  · refine rMatch_early a b c d p q cp cq K L w 0 _ _ _ _ rfl rfl rfl rfl ?_
    rcases h2 : (b.toList == [42]) with _ | _
    · rcases h3 : (a.toList == c.toList) with _ | _
      · exact .inr (.inl rfl)
      · rcases h4 : (b.toList == d.toList) with _ | _
        · exact .inr (.inr (.inr rfl))
        · exact absurd ⟨h2, h3, h4⟩ h
    · exact .inr (.inr (.inl rfl))
end
end Go.Proofs.Ytgmfmlcpogbolaa.Asc
