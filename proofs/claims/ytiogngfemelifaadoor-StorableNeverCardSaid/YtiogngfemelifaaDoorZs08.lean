/- Merged texts: PrfMem AccRef LstRem LstClo LanRef AccRef3 VrySpec. -/
import Derived.Test.YtiogngfemelifaaDoorZs01
import Derived.Test.YtiogngfemelifaaDoorZs02
import Derived.Test.YtiogngfemelifaaDoorZs03
import Derived.Test.YtiogngfemelifaaDoorZs04
import Derived.Test.YtiogngfemelifaaDoorZs05
import Derived.Test.YtiogngfemelifaaDoorZs06
import Derived.Test.YtiogngfemelifaaDoorZs07
import Derived.Deep.RegionHeld3
import Derived.Laws.EntriesVeiled
import Derived.Lib.SliceRun
import Derived.OwnWalk
set_option linter.unusedVariables false
set_option linter.unusedSimpArgs false
set_option maxRecDepth 100000
namespace Go.Proofs.YtiogngfemelifaaDoor.Asc
section
open Go.RowKit Go.ChangeShapes Go.WideShapes Go.Deep
abbrev QP := ByteArray × Int
/-- preferences at an address -/
def Qs (w : World) (a : Option Addr) (L : List QP) : Prop :=
  ∀ i (h : i < L.length), ∃ g off, a = some ⟨g, off, none⟩ ∧ w.cell? ⟨g, off + i * 2, none⟩ = some (.string L[i].1) ∧ w.cell? ⟨g, off + i * 2 + 1, none⟩ = some (.int .i64 L[i].2)
theorem Qs.below {w w' : World} {a : Option Addr} {L : List QP} (h : Qs w a L) (hb : Below w.heap.size w w') : Qs w' a L := fun i hi => by
  obtain ⟨g, off, e, c0, c1⟩ := h i hi
  exact ⟨g, off, e, (hb.cell (cell_lt c0)).trans c0, (hb.cell (cell_lt c1)).trans c1⟩
section
variable {w w' : World} {B : Nat} {v : Value}
end
end
section
open Go.RowKit
/-- two values lie at the block's start, and may be written -/
def C2 (g : Nat) (c0 c1 : Value) (w : World) : Prop :=
  (w.cell? ⟨g, 0, none⟩ = some c0 ∧ w.cell? ⟨g, 1, none⟩ = some c1) ∧ (w.frozen? ⟨g, 0, none⟩ = false ∧ w.frozen? ⟨g, 1, none⟩ = false)
section
variable {g B : Nat} {c0 c1 : Value} {w w' : World}
theorem C2.new (c0 c1 : Value) (w : World) (t : TypeId) : C2 w.heap.size c0 c1 (w.alloc (.cells #[c0, c1] t)) := by
  refine ⟨⟨?_, ?_⟩, ⟨?_, ?_⟩⟩
  all_goals first
    | (rw [World.cell?_alloc_mark]; rfl)
    | exact World.frozen?_alloc_at _ _ _ _ rfl
theorem C2.below (f : C2 g c0 c1 w) (hb : Below B w w') (hg : g < B) : C2 g c0 c1 w' := by
  obtain ⟨⟨h0, h1⟩, ⟨f0, f1⟩⟩ := f
  exact ⟨⟨(hb.cell hg).trans h0, (hb.cell hg).trans h1⟩, ⟨(hb.frozen hg).trans f0, (hb.frozen hg).trans f1⟩⟩
theorem C2.lt (f : C2 g c0 c1 w) : g < w.heap.size := cell_lt (p := ⟨g, 0, none⟩) f.1.1
theorem C2.next (f : C2 g c0 c1 w) (hb : Below w.heap.size w w') : C2 g c0 c1 w' := f.below hb f.lt
end
end
section
open Go.RowKit
/-- what the function value of Remove has captured: a variable that holds the function value of named -/
def Cap (g2 g1 : Nat) (nm : ByteArray) (w : World) : Prop := w.cell? ⟨g2, 0, none⟩ = some (nmV g1) ∧ Nm g1 nm w
theorem Cap.below {w w' : World} {g2 g1 : Nat} {nm : ByteArray} (h : Cap g2 g1 nm w) (hb : Below w.heap.size w w') : Cap g2 g1 nm w' := ⟨(hb.cell (cell_lt h.1)).trans h.1, h.2.below hb⟩
end
section
open Go.RowKit
theorem add_at (g off j : Nat) : (⟨g, off, none⟩ : Addr).add j = ⟨g, off + j, none⟩ := by
  unfold Addr.add; split <;> simp_all
/-- the cells of a list of fields, out of memory -/
theorem Fs.news {w : World} {ad : Addr} {M : List F} (h : Fs w (some ad) M) : ∀ j u, (cellsF M)[j]? = some u → w.cell? (ad.add j) = some u := by
  intro j u hj
  have hlen := (List.getElem?_eq_some_iff.mp hj).1
  rw [cellsF_len] at hlen
  have hi : j / 2 < M.length := by omega
  obtain ⟨g, off, e, c0, c1⟩ := h (j / 2) hi
  obtain ⟨q0, q1⟩ := cellsF_at M (j / 2) hi
  cases e
  rw [add_at]
  rcases Nat.mod_two_eq_zero_or_one j with r | r
  · have ej : j = j / 2 * 2 := by omega
    rw [← ej] at q0 c0
    rw [q0] at hj; cases hj; exact c0
  · have ej : j = j / 2 * 2 + 1 := by omega
    rw [← ej] at q1
    rw [Nat.add_assoc, ← ej] at c1
    rw [q1] at hj; cases hj; exact c1
theorem cellsF_one (M : List F) : ∀ u ∈ cellsF M, u.oneCell' = true := by
  intro u hu
  obtain ⟨p, _, hp⟩ := List.mem_flatMap.mp hu
  simp at hp; rcases hp with rfl | rfl <;> rfl
/-- append of a list of fields -/
theorem wpList_append_flds (w : World) {ops : Array Oper} {rest : List Oper} {o : Oper} {a : Act} {Q : Exit → Act → World → Prop} (hgd : o.guard = none) (s x : Operand)
    (ho : o.op = .call { callee := .builtin .append, args := #[s, x], argTypes := #[22, 22] })
    (B : Nat) (v : Value) (L M : List F) (hs : a.eval s = v) (hown : OwnF w B v L)
    (ad : Option Addr) (c : Nat) (hx : a.eval x = .slice ad M.length c) (hn : ad = none → c = 0) (hM : Fs w ad M) (hl : L.length ≤ 65536) (hm : M.length ≤ 65536) (hB : B ≤ w.heap.size)
    (h : ∀ v' w', OwnF w' B v' (L ++ M) → Below B w w' → wpList Tryd.prog ops Q rest (a.put o.dst v') w') : wpList Tryd.prog ops Q (o :: rest) a w := by
  obtain ⟨i0, hi0, hz0, hz1, hz2⟩ := info_parts info_fld
  rcases ad with _ | ad
  · have hc := hn rfl
    subst hc
    have he : M = [] := by
      rcases M with _ | ⟨p, M⟩
      · rfl
      · obtain ⟨g, off, e, _⟩ := hM 0 (by simp)
        cases e
    subst he
    rw [List.append_nil] at h
    exact wpList_append_own_none (P := Tryd.prog) hgd s x 22 ho B 30 i0 2 Tryd.underlying22 hi0 v L.length (cellsF L) hs hown hx (h v w hown (Below.refl _ _))
  · refine wpList_append_own (P := Tryd.prog) w hgd s x 22 ho B 30 i0 _ 2 32 Tryd.underlying22 hi0 hz0 hz1 hz2 rfl (by decide) v L.length (cellsF L) hs hown ad M.length c (cellsF M) hx (cellsF_len M) hM.news (cellsF_one M) (by unfold maxLen; omega) (by omega) hB ?_
    intro v' w' q1 q2 _
    refine h v' w' (by simpa [OwnF, cellsF_app] using q1) ((Below.refl _ _).grown q2 hB (fun k hk => own_block hown k hk))
theorem OwnF.empty (w : World) : OwnF (w.alloc (.cells #[] 30)) w.heap.size (.slice (some ⟨w.heap.size, 0, none⟩) 0 0) [] :=
  ⟨rfl, .inr ⟨_, _, _, rfl, Nat.le_refl _, heap_alloc_new w _, Nat.zero_le _, by unfold maxLen; omega, rfl, rfl⟩⟩
end
section
open Go.RowKit
theorem OwnS.drewN {w : World} {B n : Nat} {v : Value} {L : List ByteArray} (h : OwnS w B v L) : OwnS (w.drewN n) B v L := own_below h (below_drewN _ _)
end
section
open Go.RowKit
theorem all_mem {nm : ByteArray} {L : List F} {m : List UInt8} (h : m ∈ allL nm L) : ∃ x ∈ getL nm L, m.length ≤ x.size := by
  unfold allL at h
  have h := List.mem_of_mem_take h
  unfold allF at h
  obtain ⟨x, hx, hm⟩ := List.mem_flatMap.1 h
  refine ⟨x, hx, ?_⟩
  unfold splitL memL at hm
  have hm := (List.mem_filter.1 (List.mem_of_mem_take hm)).1
  obtain ⟨p, hp, rfl⟩ := List.mem_map.1 hm
  have h1 := cut_small _ _ _ _ p hp
  have h2 := trim_le p
  have hz : x.data.toList.length = x.size := by simp
  simp only [List.length_nil, Nat.zero_add] at h1
  omega
end
section
def nmVry : ByteArray := ⟨#[86, 97, 114, 121]⟩
abbrev BL := List UInt8
theorem ltB_irrefl (a : BL) : ¬ a < a := List.lt_irrefl a
theorem ltB_trans {a b c : BL} (h1 : a < b) (h2 : b < c) : a < c := List.lt_trans h1 h2
theorem ltB_tri (a b : BL) : a < b ∨ a = b ∨ b < a := by
  rcases Classical.em (a < b) with h | h
  · exact .inl h
  · rcases Classical.em (b < a) with h2 | h2
    · exact .inr (.inr h2)
    · exact .inr (.inl (List.le_antisymm (List.not_lt.1 h2) (List.not_lt.1 h)))
/-- one more, in its place -/
def insU (x : BL) : List BL → List BL
  | [] => [x]
  | y :: ys => if y < x then y :: insU x ys else if y = x then y :: ys else x :: y :: ys
def AscU (L : List BL) : Prop := L.Pairwise (· < ·)
theorem insU_mem {x z : BL} : ∀ {L : List BL}, z ∈ insU x L ↔ z = x ∨ z ∈ L
  | [] => by simp [insU]
  | y :: ys => by
    have ih := insU_mem (x := x) (z := z) (L := ys)
    unfold insU
    split
    · rw [List.mem_cons, ih, List.mem_cons]
      constructor
      · rintro (h | h | h)
        · exact .inr (.inl h)
        · exact .inl h
        · exact .inr (.inr h)
      · rintro (h | h | h)
        · exact .inr (.inl h)
        · exact .inl h
        · exact .inr (.inr h)
    · split
      · rename_i h1 h2
        subst h2
        constructor
        · intro h; exact .inr h
        · rintro (h | h)
          · rw [h]; exact List.mem_cons_self
          · exact h
      · exact List.mem_cons
theorem insU_asc {x : BL} : ∀ {L : List BL}, AscU L → AscU (insU x L)
  | [], _ => by unfold insU AscU; exact List.pairwise_singleton _ _
  | y :: ys, h => by
    have h' := List.pairwise_cons.1 h
    unfold insU
    split
    · rename_i hy
      refine List.pairwise_cons.2 ⟨fun z hz => ?_, insU_asc h'.2⟩
      rcases insU_mem.1 hz with rfl | hz
      · exact hy
      · exact h'.1 z hz
    · rename_i hy
      split
      · exact h
      · rename_i hne
        have hxy : x < y := by
          rcases ltB_tri x y with h | h | h
          · exact h
          · exact absurd h.symm hne
          · exact absurd h hy
        refine List.pairwise_cons.2 ⟨fun z hz => ?_, h⟩
        rcases List.mem_cons.1 hz with rfl | hz
        · exact hxy
        · exact ltB_trans hxy (h'.1 z hz)
/-- two ascending lists with the same elements -/
theorem ascU_ext : ∀ {A B : List BL}, AscU A → AscU B → (∀ z, z ∈ A ↔ z ∈ B) → A = B
  | [], [], _, _, _ => rfl
  | [], b :: B, _, _, h => by have := (h b).2 List.mem_cons_self; cases this
  | a :: A, [], _, _, h => by have := (h a).1 List.mem_cons_self; cases this
  | a :: A, b :: B, hA, hB, h => by
    have hA' := List.pairwise_cons.1 hA
    have hB' := List.pairwise_cons.1 hB
    have hab : a = b := by
      rcases ltB_tri a b with q | q | q
      · rcases List.mem_cons.1 ((h a).1 List.mem_cons_self) with e | e
        · exact e
        · exact absurd (ltB_trans q (hB'.1 a e)) (ltB_irrefl a)
      · exact q
      · rcases List.mem_cons.1 ((h b).2 List.mem_cons_self) with e | e
        · exact e.symm
        · exact absurd (ltB_trans q (hA'.1 b e)) (ltB_irrefl b)
    subst hab
    have : A = B := ascU_ext hA'.2 hB'.2 (fun z => by
      constructor
      · intro hz
        rcases List.mem_cons.1 ((h z).1 (List.mem_cons_of_mem _ hz)) with e | e
        · subst e; exact absurd (hA'.1 z hz) (ltB_irrefl z)
        · exact e
      · intro hz
        rcases List.mem_cons.1 ((h z).2 (List.mem_cons_of_mem _ hz)) with e | e
        · subst e; exact absurd (hB'.1 z hz) (ltB_irrefl z)
        · exact e)
    rw [this]
/-- the members in lower case, ascending, each once -/
def namesU (ms : List BL) : List BL := ms.foldl (fun acc m => insU (lowL m) acc) []
theorem foldU_asc : ∀ (ms : List BL) {acc : List BL}, AscU acc → AscU (ms.foldl (fun acc m => insU (lowL m) acc) acc)
  | [], _, h => h
  | m :: ms, acc, h => foldU_asc ms (insU_asc h)
theorem foldU_mem {z : BL} : ∀ (ms : List BL) {acc : List BL}, z ∈ ms.foldl (fun acc m => insU (lowL m) acc) acc ↔ (∃ m ∈ ms, lowL m = z) ∨ z ∈ acc
  | [], acc => by simp
  | m :: ms, acc => by
    rw [List.foldl_cons, foldU_mem ms, insU_mem]
    constructor
    · rintro (⟨y, hy, e⟩ | h | h)
      · exact .inl ⟨y, List.mem_cons_of_mem _ hy, e⟩
      · exact .inl ⟨m, List.mem_cons_self, h.symm⟩
      · exact .inr h
    · rintro (⟨y, hy, e⟩ | h)
      · rcases List.mem_cons.1 hy with rfl | hy
        · exact .inr (.inl e.symm)
        · exact .inl ⟨y, hy, e⟩
      · exact .inr (.inr h)
theorem namesU_asc (ms : List BL) : AscU (namesU ms) := foldU_asc ms List.Pairwise.nil
theorem namesU_mem {z : BL} {ms : List BL} : z ∈ namesU ms ↔ ∃ m ∈ ms, lowL m = z := by
  unfold namesU
  rw [foldU_mem]
  constructor
  · rintro (h | h)
    · exact h
    · cases h
  · exact .inl
theorem insU_len (x : BL) : ∀ L : List BL, (insU x L).length ≤ L.length + 1
  | [] => Nat.le_refl _
  | y :: ys => by
    have ih := insU_len x ys
    unfold insU
    split
    · simp only [List.length_cons]; omega
    · split
      · simp only [List.length_cons]; omega
      · simp only [List.length_cons]; omega
theorem namesU_len : ∀ (ms : List BL), (namesU ms).length ≤ ms.length := by
  intro ms
  have key : ∀ (ms acc : List BL), (ms.foldl (fun acc m => insU (lowL m) acc) acc).length ≤ acc.length + ms.length := by
    intro ms
    induction ms with
    | nil => intro acc; simp
    | cons m ms ih =>
      intro acc
      rw [List.foldl_cons]
      have h1 := ih (insU (lowL m) acc)
      have h2 := insU_len (lowL m) acc
      simp only [List.length_cons]
      omega
  have := key ms []
  simpa [namesU] using this
/-- is the list one of tokens without "*"? -/
def okU (ms : List BL) : Bool := decide (ms.length < 64) && ms.all fun m => tokL m && decide (m ≠ [42])
/-- 19.1 -/
def namesV (L : List F) : List BL := if okU (allL nmVry L) = true then namesU (allL nmVry L) else []
def namesO (L : List F) : Bool := okU (allL nmVry L)
end
end Go.Proofs.YtiogngfemelifaaDoor.Asc
