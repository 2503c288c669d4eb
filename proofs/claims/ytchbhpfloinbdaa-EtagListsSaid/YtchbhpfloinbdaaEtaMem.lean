/- Entity tags in memory: a struct of two cells (T2), lists at an address (Es), lists owned by a call and appended to (OwnE), an argument opened; keep.SameTags. -/
import Derived.Test.YtchbhpfloinbdaaEtaSpec
import Derived.Test.YtchbhpfloinbdaaLstOwn
import Derived.Test.YtchbhpfloinbdaaLstOpen
import Derived.Test.YtchbhpfloinbdaaLstSame
set_option linter.unusedVariables false
set_option linter.unusedSimpArgs false
set_option maxRecDepth 100000
namespace Go.Proofs.Ytchbhpfloinbdaa.Asc
open Go.RowKit Go.ChangeShapes Go.WideShapes Go.Deep

/-- two values lie at the block's start, and may be written -/
def T2 (g : Nat) (c0 c1 : Value) (w : World) : Prop :=
  (w.cell? ⟨g, 0, none⟩ = some c0 ∧ w.cell? ⟨g, 1, none⟩ = some c1) ∧ (w.frozen? ⟨g, 0, none⟩ = false ∧ w.frozen? ⟨g, 1, none⟩ = false)
section
variable {g B : Nat} {c0 c1 : Value} {w w' : World}
theorem T2.new (c0 c1 : Value) (w : World) (t : TypeId) : T2 w.heap.size c0 c1 (w.alloc (.cells #[c0, c1] t)) := by
  refine ⟨⟨?_, ?_⟩, ⟨?_, ?_⟩⟩
  all_goals first
    | (rw [World.cell?_alloc_mark]; rfl)
    | exact World.frozen?_alloc_at _ _ _ _ rfl
theorem T2.below (f : T2 g c0 c1 w) (hb : Below B w w') (hg : g < B) : T2 g c0 c1 w' := by
  obtain ⟨⟨h0, h1⟩, ⟨f0, f1⟩⟩ := f
  exact ⟨⟨(hb.cell hg).trans h0, (hb.cell hg).trans h1⟩, ⟨(hb.frozen hg).trans f0, (hb.frozen hg).trans f1⟩⟩
theorem T2.lt (f : T2 g c0 c1 w) : g < w.heap.size := cell_lt (p := ⟨g, 0, none⟩) f.1.1
theorem T2.next (f : T2 g c0 c1 w) (hb : Below w.heap.size w w') : T2 g c0 c1 w' := f.below hb f.lt
end
theorem set2_below {w w1 : World} {g : Nat} (h : Below w.heap.size w w1) (hg : w.heap.size ≤ g) (v0 v1 : Value) : Below w.heap.size w ((w1.setCell ⟨g, 0, none⟩ v0).setCell ⟨g, 1, none⟩ v1) :=
  (h.setCell (p := ⟨g, 0, none⟩) hg v0).setCell (p := ⟨g, 1, none⟩) hg v1

/-- tags at an address -/
def Es (w : World) (a : Option Addr) (L : List ET) : Prop :=
  ∀ i (h : i < L.length), ∃ g off, a = some ⟨g, off, none⟩ ∧ w.cell? ⟨g, off + i * 2, none⟩ = some (.bool L[i].1) ∧ w.cell? ⟨g, off + i * 2 + 1, none⟩ = some (.string L[i].2)
theorem Es.below {w w' : World} {a : Option Addr} {L : List ET} (h : Es w a L) (hb : Below w.heap.size w w') : Es w' a L := fun i hi => by
  obtain ⟨g, off, e, c0, c1⟩ := h i hi
  exact ⟨g, off, e, (hb.cell (cell_lt c0)).trans c0, (hb.cell (cell_lt c1)).trans c1⟩
theorem info_etag : (Try.prog.info? 23).map (fun i => (i.zero, i.size, i.bytes)) = some (some (.agg #[.bool false, .string ⟨#[]⟩]), 2, 24) := by kernel_rfl
def cellsE (L : List ET) : List Value := L.flatMap fun p => [.bool p.1, .string p.2]
theorem cellsE_len (L : List ET) : (cellsE L).length = L.length * 2 := by
  induction L with
  | nil => rfl
  | cons p L ih => simp only [cellsE, List.flatMap_cons, List.length_append, List.length_cons, List.length_nil] at *; omega
theorem cellsE_app (L M : List ET) : cellsE (L ++ M) = cellsE L ++ cellsE M := by simp [cellsE]
theorem cellsE_at (L : List ET) (i : Nat) (h : i < L.length) : (cellsE L)[i * 2]? = some (.bool L[i].1) ∧ (cellsE L)[i * 2 + 1]? = some (.string L[i].2) := by
  have e : L = L.take i ++ L[i] :: L.drop (i + 1) := by rw [← List.drop_eq_getElem_cons h, List.take_append_drop]
  have hl : (cellsE (L.take i)).length = i * 2 := by rw [cellsE_len, List.length_take, Nat.min_eq_left (Nat.le_of_lt h)]
  have e2 : cellsE L = cellsE (L.take i) ++ (.bool L[i].1 :: .string L[i].2 :: cellsE (L.drop (i + 1))) := by
    conv => lhs; rw [e, cellsE_app]
    rfl
  rw [e2]
  constructor
  · rw [List.getElem?_append_right (by omega), hl]; simp
  · rw [List.getElem?_append_right (by omega), hl]; simp
def OwnE (w : World) (B : Nat) (v : Value) (L : List ET) : Prop := w.ownsRow B 23 2 v L.length (cellsE L)
section
variable {w w' : World} {B : Nat} {v : Value}
theorem OwnE.nil (w : World) (B : Nat) : OwnE w B (.slice none 0 0) [] := World.ownsRow_nil _ _ _ _
/-- what a slice of tags that a call owns looks like -/
theorem OwnE.es {L : List ET} (h : OwnE w B v L) : ∃ a cap, v = .slice a L.length cap ∧ Es w a L ∧ L.length ≤ cap := by
  rcases h.2 with ⟨rfl, hn⟩ | ⟨g, cap, cur, rfl, hB, hg, hc, hm, hs, ht⟩
  · exact ⟨none, 0, by rw [hn], fun i hi => by omega, by omega⟩
  · refine ⟨_, cap, rfl, fun i hi => ⟨g, 0, rfl, ?_, ?_⟩, hc⟩
    all_goals
      obtain ⟨q0, q1⟩ := cellsE_at L i hi
      rw [← ht] at q0 q1
      rw [List.getElem?_take] at q0 q1
      rw [if_pos (by omega)] at q0 q1
      simp only [World.cell?, hg]
    · simpa using q0
    · simpa [Nat.add_assoc] using q1
end
/-- append of one tag that lies in a block of its own -/
theorem wpList_append_etag (w : World) {ops : Array Oper} {rest : List Oper} {o : Oper} {a : Act} {Q : Exit → Act → World → Prop} (hgd : o.guard = none) (s x : Operand)
    (ho : o.op = .call { callee := .builtin .append, args := #[s, x], argTypes := #[32, 32] })
    (B : Nat) (v : Value) (L : List ET) (hs : a.eval s = v) (hown : OwnE w B v L)
    (g : Nat) (c : Nat) (hx : a.eval x = .slice (some ⟨g, 0, none⟩) 1 c) (n : Bool) (u : ByteArray) (h0 : w.cell? ⟨g, 0, none⟩ = some (.bool n)) (h1 : w.cell? ⟨g, 1, none⟩ = some (.string u)) (hl : L.length ≤ 65536) (hB : B ≤ w.heap.size)
    (h : ∀ v' w', OwnE w' B v' (L ++ [(n, u)]) → Below B w w' → wpList Try.prog ops Q rest (a.put o.dst v') w') : wpList Try.prog ops Q (o :: rest) a w := by
  obtain ⟨i0, hi0, hz0, hz1, hz2⟩ := info_parts info_etag
  refine wpList_append_own (P := Try.prog) w hgd s x 32 ho B 23 i0 _ 2 24 Try.underlying32 hi0 hz0 hz1 hz2 rfl (by decide) v L.length (cellsE L) hs hown ⟨g, 0, none⟩ 1 c [.bool n, .string u] hx rfl ?_ ?_ (by unfold maxLen; omega) (by omega) hB ?_
  · intro j u hj
    match j, hj with
    | 0, hj => simp at hj; subst hj; simpa [Addr.add] using h0
    | 1, hj => simp at hj; subst hj; simpa [Addr.add] using h1
  · intro u hu; simp at hu; rcases hu with rfl | rfl <;> rfl
  · intro v' w' q1 q2 _
    refine h v' w' (by simpa [OwnE, cellsE_app, cellsE] using q1) ((Below.refl _ _).grown q2 hB (fun k hk => own_block hown k hk))
theorem two21 {α : Type} {l : Array α} (h : l.size = 2) : ∃ a b, l = #[a, b] := by
  obtain ⟨l⟩ := l
  match l, h with
  | [a, b], _ => exact ⟨a, b, rfl⟩
theorem open_etag {H : Type} {enc : TypeId × Value → H} {W : World} {base : Nat} {sp : Nat → Bool} {held : Bool} {r : Reach} {b0 : Nat} {v : Value} {d : DataW H} {ps : List MemPlace}
    (hval : Value.okWide Try.prog W r b0 23 v) (h : DataW.Trod enc Try.prog W base sp held 23 v d ps) :
    ∃ (b : Bool) (x : ByteArray), v = .agg #[.bool b, .string x] ∧ x.size ≤ maxLen := by
  obtain ⟨cs, rfl, hsz⟩ := okWide_struct Try.underlying23 hval
  rw [show Try.prog.cellsOf 23 = 2 from by kernel_rfl] at hsz
  obtain ⟨c0, c1, rfl⟩ := two21 hsz
  obtain ⟨fuel, hf⟩ := h
  obtain ⟨xs, m, _, _, _, hlen, hg⟩ := DataW.trod_struct Try.underlying23 hf
  have cS : Try.prog.cellsOf 9 = 1 := by kernel_rfl
  have cB : Try.prog.cellsOf 4 = 1 := by kernel_rfl
  have g0 := hg 0 _ rfl
  have g1 := hg 1 _ rfl
  have hl : xs.length = 2 := hlen
  match xs, hl with
  | [y0, y1], _ =>
    simp [Value.cells, cS, cB] at g0 g1
    obtain ⟨b, e0, _⟩ := DataW.trod_bool Try.underlying4 g0
    obtain ⟨x, e1, _, w1⟩ := DataW.trod_string Try.underlying9 g1
    simp at e0 e1
    subst e0 e1
    exact ⟨b, x, rfl, w1⟩
theorem sameTags_any (a b : Option Addr) (ca cb : Nat) (L : List ET) (w : World) (hl : L.length ≤ 65536) (hA : Box (Es w a L)) (hB : Box (Es w b L)) :
    Calls Try.prog 18 #[.slice a L.length ca, .slice b L.length cb] w fun e w' => e = .returned (.bool true) ∧ Below w.heap.size w w' := by
  have hne : ((L.length : Int) != (L.length : Int)) = false := by simp
  go_enter Try.func18, Try.ntmps18
  go_wp2
  go_loopw [5] (fun i wr => ∃ k : Nat, i = .int .i64 k ∧ k ≤ L.length ∧ Below w.heap.size w wr) (fun i _ => L.length - (intOf i).toNat)
  case atStart => exact ⟨0, rfl, Nat.zero_le _, Below.refl _ _⟩
  case round =>
    obtain ⟨k, rfl, hk, hb⟩ := hrel
    have BL := box hb
    by_cases hlt : k < L.length
    · have hki : (k : Int) < (L.length : Int) := by omega
      obtain ⟨g, off, rfl, c0, c1⟩ := hA.out.below hb k hlt
      obtain ⟨g', off', rfl, d0, d1⟩ := hB.out.below hb k hlt
      obtain ⟨⟨q, x⟩, hp⟩ : ∃ p, L[k] = p := ⟨_, rfl⟩
      rw [hp] at c0 c1 d0 d1
      have e1 : (x.toList == x.toList) = true := by simp
      have e2 : (q == q) = true := by simp
      clear hb hp
      go_wp2
      go_quiet (fail)
      go_wp2
      go_roundw
      case rel => exact ⟨k + 1, by go_num, hlt, BL.out.trans ((below_drewN _ _).mono BL.out.size)⟩
      case measure => simp [intOf]; omega
    · have hki : ¬ (k : Int) < (L.length : Int) := by omega
      go_wp2
      go_ret
      exact ⟨rfl, BL.out⟩

end Go.Proofs.Ytchbhpfloinbdaa.Asc
