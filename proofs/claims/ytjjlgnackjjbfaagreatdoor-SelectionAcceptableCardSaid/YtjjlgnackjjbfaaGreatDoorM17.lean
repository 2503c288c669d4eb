/- Merged texts: AccLaws KeyMem SelRef2 LanMem SelMem SelRef3 RnkLvl RnkLev. -/
import Derived.Test.YtjjlgnackjjbfaaGreatDoorM04
import Derived.Test.YtjjlgnackjjbfaaGreatDoorM07
import Derived.Test.YtjjlgnackjjbfaaGreatDoorM08
import Derived.Test.YtjjlgnackjjbfaaGreatDoorM09
import Derived.Test.YtjjlgnackjjbfaaGreatDoorM10
import Derived.Test.YtjjlgnackjjbfaaGreatDoorM12
import Derived.Test.YtjjlgnackjjbfaaGreatDoorM13
import Derived.Test.YtjjlgnackjjbfaaGreatDoorM14
import Derived.Test.YtjjlgnackjjbfaaGreatDoorM16
import Derived.Deep.AppendLies
import Derived.Laws.AppendOwnNone
import Derived.Lib.AppendZerosOnto
import Derived.Lib.Overlaps
set_option linter.unusedVariables false
set_option linter.unusedSimpArgs false
set_option maxRecDepth 100000
namespace Go.Proofs.YtjjlgnackjjbfaaGreatDoor.Asc
section
open Go.RowKit
theorem mKind_is {n : ByteArray} {k : Int} {w : World} (hn : n.size ≤ 65536) (h : Box (kindN n = k)) :
    Calls Tryz.prog 44 #[.string n] w fun e w' => e = .returned (.int .i64 k) ∧ Below w.heap.size w w' :=
  (mKind_any n w hn).mono fun e w' ⟨h1, h2⟩ => ⟨by rw [h1, h.out], h2⟩
theorem rKind_is {n : ByteArray} {k : Int} {w : World} (hn : n.size ≤ 4294967296) (h : Box (kindN n = k)) :
    Calls Tryz.prog 21 #[.string n] w fun e w' => e = .returned (.int .i64 k) ∧ Below w.heap.size w w' :=
  (rKind_any n w hn).mono fun e w' ⟨h1, h2⟩ => ⟨by rw [h1, h.out], h2⟩
theorem vals_of {nm : ByteArray} {L : List F} (hv : Box (∀ x ∈ getL nm L, x.size ≤ 20000)) : Box (∀ x ∈ getL nm L, x.size ≤ 65000) := box (fun x hx => by have := hv.out x hx; omega)
theorem mems_of {nm : ByteArray} {L : List F} (hv : Box (∀ x ∈ getL nm L, x.size ≤ 20000)) : Box (∀ m ∈ allL nm L, m.length ≤ 20000) := box (fun m hm => by obtain ⟨x, hx, hle⟩ := all_mem hm; have := hv.out x hx; omega)
theorem mPrefs_is {k : Int} {a : Option Addr} {cap n : Nat} {L : List F} {X : List QP} {o : Bool} {w : World} (hk : InI64 k) (S : Box (Sm L)) (hv : Box (∀ x ∈ getL (nameK k) L, x.size ≤ 20000)) (hF : Fs w a L) (hW : Wts w) (h : Box (prefsV k L = X ∧ prefsO k L = o)) (hn : Box (L.length = n) := by exact box rfl) :
    Calls Tryz.prog 45 #[.int .i64 k, .slice a n cap] w fun e w' => ∃ p c, e = .returned (.tuple #[.slice p X.length c, .bool o]) ∧ Qs w' p X ∧ Below w.heap.size w w' := by
  have := mPrefs_any k a cap L w hk S (vals_of hv) (mems_of hv) (box hF) hW
  rw [h.out.1, h.out.2, hn.out] at this; exact this
theorem rPrefs_is {k : Int} {a : Option Addr} {cap n : Nat} {L : List F} {X : List QP} {o : Bool} {w : World} (hk : InI64 k) (S : Box (Sm L)) (hv : Box (∀ x ∈ getL (nameK k) L, x.size ≤ 20000)) (hF : Fs w a L) (h : Box (prefsV k L = X ∧ prefsO k L = o)) (hn : Box (L.length = n) := by exact box rfl) :
    Calls Tryz.prog 22 #[.int .i64 k, .slice a n cap] w fun e w' => ∃ p c, e = .returned (.tuple #[.slice p X.length c, .bool o]) ∧ Qs w' p X ∧ Below w.heap.size w w' := by
  have := rPrefs_any k a cap L w hk S (vals_of hv) (mems_of hv) (box hF)
  rw [h.out.1, h.out.2, hn.out] at this
  refine this.mono fun e w' ⟨v, h1, h2, h3⟩ => ?_
  obtain ⟨p, c, rfl, hQ, _⟩ := h2.qs
  exact ⟨p, c, h1, hQ, h3⟩
theorem prefs13_len (k : Int) (L : List F) : (prefsV k L).length ≤ 64 := by
  unfold prefsV
  split
  · unfold prefsL
    refine Nat.le_trans (List.length_filterMap_le _ _) ?_
    unfold allL; rw [List.length_take]; omega
  · simp
end
section
open Go.RowKit Go.ChangeShapes Go.WideShapes Go.Deep
def Kss (w : World) (a : Option Addr) (L : List KY) : Prop :=
  ∀ i (h : i < L.length), ∃ g off v, a = some ⟨g, off, none⟩ ∧ w.cell? ⟨g, off + i, none⟩ = some v ∧ SsV w v L[i]
theorem Kss.below {w w' : World} {a : Option Addr} {L : List KY} (h : Kss w a L) (hb : Below w.heap.size w w') : Kss w' a L := fun i hi => by
  obtain ⟨g, off, v, e, c0, hs⟩ := h i hi
  exact ⟨g, off, v, e, (hb.cell (cell_lt c0)).trans c0, hs.below hb⟩
theorem info_strs : (Tryz.prog.info? 22).map (fun i => (i.zero, i.size, i.bytes)) = some (some (.slice none 0 0), 1, 24) := by kernel_rfl
def CellsK (w : World) (B : Nat) (cs : List Value) (L : List KY) : Prop :=
  cs.length = L.length ∧ (∀ u ∈ cs, u.oneCell' = true) ∧ ∀ i (h : i < L.length), ∃ u, cs[i]? = some u ∧ OwnS w B u L[i]
def OwnK (w : World) (B : Nat) (v : Value) (L : List KY) : Prop := ∃ cs, w.ownsRow B 22 1 v L.length cs ∧ CellsK w B cs L
theorem OwnK.nil (w : World) (B : Nat) : OwnK w B (.slice none 0 0) [] := ⟨[], World.ownsRow_nil _ _ _ _, rfl, by simp, fun i h => absurd h (by simp)⟩
theorem CellsK.next {w w' : World} {B : Nat} {cs : List Value} {L : List KY} (h : CellsK w B cs L) (hb : Below w.heap.size w w') : CellsK w' B cs L :=
  ⟨h.1, h.2.1, fun i hi => by obtain ⟨u, h2, h3⟩ := h.2.2 i hi; exact ⟨u, h2, own_below h3 hb⟩⟩
theorem OwnK.next {w w' : World} {B : Nat} {v : Value} {L : List KY} (h : OwnK w B v L) (hb : Below w.heap.size w w') : OwnK w' B v L := by
  obtain ⟨cs, h1, h2⟩ := h
  exact ⟨cs, own_below h1 hb, h2.next hb⟩
theorem OwnK.le {w : World} {B B' : Nat} {v : Value} {L : List KY} (h : OwnK w B v L) (hB : B' ≤ B) : OwnK w B' v L := by
  obtain ⟨cs, h1, h2⟩ := h
  exact ⟨cs, Go.Joins.ownsRow_le h1 hB, h2.1, h2.2.1, fun i hi => by obtain ⟨u, q2, q3⟩ := h2.2.2 i hi; exact ⟨u, q2, Go.Joins.ownsRow_le q3 hB⟩⟩
theorem OwnK.kss {w : World} {B : Nat} {v : Value} {L : List KY} (h : OwnK w B v L) : ∃ a cap, v = .slice a L.length cap ∧ Kss w a L ∧ L.length ≤ cap := by
  obtain ⟨cs, h, hC⟩ := h
  rcases h.2 with ⟨rfl, hn⟩ | ⟨g, cap, cur, rfl, hB, hg, hc, hm, hs, ht⟩
  · exact ⟨none, 0, by rw [hn], fun i hi => by omega, by omega⟩
  · refine ⟨_, cap, rfl, fun i hi => ?_, hc⟩
    obtain ⟨u, q1, q2⟩ := hC.2.2 i hi
    have hl := hC.1
    rw [← ht] at q1
    rw [List.getElem?_take] at q1
    rw [if_pos (by omega)] at q1
    refine ⟨g, 0, u, rfl, ?_, q2.ssv⟩
    simp only [World.cell?, hg]; simpa using q1
theorem own_grownK {w w' : World} {B n : Nat} {v u : Value} {cs : List Value} {V : List ByteArray} (hv : w.ownsRow B 22 1 v n cs) (hu : OwnS w B u V) (hg : w.grownBy w' v.ownBlock) : OwnS w' B u V := by
  refine ⟨hu.1, ?_⟩
  rcases hu.2 with q | ⟨g, cap, cur, hv2, hB, hgg, r⟩
  · exact .inl q
  · refine .inr ⟨g, cap, cur, hv2, hB, ?_, r⟩
    rw [hg.block g (heap_lt hgg) (fun e => ?_)]
    · exact hgg
    · rcases hv.2 with ⟨rfl, _⟩ | ⟨g2, cap2, cur2, rfl, _, hg2, _⟩
      · simp [Value.ownBlock] at e
      · simp [Value.ownBlock] at e
        subst e
        rw [hgg] at hg2
        simp at hg2
theorem CellsK.grown {w w' : World} {B n : Nat} {v : Value} {xs cs : List Value} {L : List KY} (h : CellsK w B cs L) (hv : w.ownsRow B 22 1 v n xs) (hg : w.grownBy w' v.ownBlock) : CellsK w' B cs L :=
  ⟨h.1, h.2.1, fun i hi => by obtain ⟨u, h2, h3⟩ := h.2.2 i hi; exact ⟨u, h2, own_grownK hv h3 hg⟩⟩
theorem CellsK.more {w : World} {B : Nat} {cs : List Value} {L : List KY} {u : Value} {V : List ByteArray} (h : CellsK w B cs L) (hu : OwnS w B u V) : CellsK w B (cs ++ [u]) (L ++ [V]) := by
  have hone : u.oneCell' = true := by obtain ⟨a, c, e, _⟩ := hu.ss; rw [e]; rfl
  refine ⟨by rw [List.length_append, List.length_append, h.1]; rfl, fun x hx => ?_, fun i hi => ?_⟩
  · rcases List.mem_append.1 hx with q | q
    · exact h.2.1 x q
    · rw [List.mem_singleton.1 q]; exact hone
  · by_cases e : i < L.length
    · obtain ⟨y, h2, h3⟩ := h.2.2 i e
      have hl := h.1
      rw [List.getElem_append_left e, List.getElem?_append_left (by omega)]
      exact ⟨y, h2, h3⟩
    · have hie : i = L.length := by rw [List.length_append] at hi; simp at hi; omega
      subst hie
      have hl := h.1
      rw [List.getElem_append_right (Nat.le_refl _), List.getElem?_append_right (by omega)]
      rw [show L.length - cs.length = 0 from by omega]
      simp only [Nat.sub_self]
      exact ⟨u, rfl, hu⟩
/-- two slices that do not lie in one block -/
def ApartK (v z : Value) : Prop := ∀ k, v.ownBlock = some k → z.ownBlock ≠ some k
theorem OwnK.lt {w : World} {B : Nat} {v : Value} {L : List KY} (h : OwnK w B v L) (k : Nat) (hk : v.ownBlock = some k) : k < w.heap.size := by
  obtain ⟨cs, h1, _⟩ := h
  exact (World.ownsRow.lt h1 k hk).2
theorem OwnK.grown {w w' : World} {B n : Nat} {v z : Value} {xs : List Value} {K : List KY} (h : OwnK w B z K) (hv : w.ownsRow B 22 1 v n xs) (hA : ApartK v z) (hg : w.grownBy w' v.ownBlock) : OwnK w' B z K := by
  obtain ⟨cs, h1, h2⟩ := h
  refine ⟨cs, ⟨h1.1, ?_⟩, h2.grown hv hg⟩
  rcases h1.2 with q | ⟨g, cap, cur, hv2, hB, hgg, r⟩
  · exact .inl q
  · refine .inr ⟨g, cap, cur, hv2, hB, ?_, r⟩
    rw [hg.block g (heap_lt hgg) (fun e => ?_)]
    · exact hgg
    · exact hA g e.symm (by rw [hv2]; rfl)
/-- append of one key that lies in a block of its own -/
theorem wpList_append_key (w : World) {ops : Array Oper} {rest : List Oper} {o : Oper} {a : Act} {Q : Exit → Act → World → Prop} (hgd : o.guard = none) (s x : Operand)
    (ho : o.op = .call { callee := .builtin .append, args := #[s, x], argTypes := #[36, 36] })
    (B : Nat) (v : Value) (L : List KY) (hs : a.eval s = v) (hown : OwnK w B v L)
    (g : Nat) (c : Nat) (hx : a.eval x = .slice (some ⟨g, 0, none⟩) 1 c) (u : Value) (V : KY) (h0 : w.cell? ⟨g, 0, none⟩ = some u) (hu : OwnS w B u V) (hl : L.length ≤ 65536) (hB : B ≤ w.heap.size)
    (h : ∀ v' w', OwnK w' B v' (L ++ [V]) → Below B w w' → OwnS w' B u V → (∀ z K, OwnK w B z K → ApartK v z → OwnK w' B z K ∧ ApartK v' z) → wpList Tryz.prog ops Q rest (a.put o.dst v') w') : wpList Tryz.prog ops Q (o :: rest) a w := by
  obtain ⟨i0, hi0, hz0, hz1, hz2⟩ := info_parts info_strs
  obtain ⟨cs, hown, hC⟩ := hown
  have hone : u.oneCell' = true := by obtain ⟨b, c, e, _⟩ := hu.ss; rw [e]; rfl
  refine wpList_append_lies (P := Tryz.prog) w hgd s x 36 ho B 22 i0 _ 1 24 Tryz.underlying36 hi0 hz0 hz1 hz2 rfl (by decide) v L.length cs hs hown ⟨g, 0, none⟩ 1 c [u] hx rfl ?_ ?_ (by omega) (by unfold maxLen; omega) (by omega) hB _ rfl ?_
  · intro j y hj
    match j, hj with
    | 0, hj => simp at hj; subst hj; simpa [Addr.add] using h0
  · intro y hy; simp at hy; subst hy; exact hone
  · intro g' cap' w' q1 q2 q3 _
    have hu' := own_grownK hown hu q2
    refine h _ w' ⟨cs ++ [u], by rw [List.length_append]; exact q1, (hC.grown hown q2).more hu'⟩ ((Below.refl _ _).grown q2 hB (fun k hk => own_block hown k hk)) hu' (fun z K hz hA => ⟨hz.grown hown hA q2, fun k hk e => ?_⟩)
    simp [Value.ownBlock] at hk
    subst hk
    rcases q3 with q3 | q3
    · exact hA _ q3 e
    · have := hz.lt _ e
      omega
end
section
open Go.RowKit
/-- fields small enough -/
def FitL (L : List F) : Prop := Sm L ∧ ∀ nm, ∀ x ∈ getL nm L, x.size ≤ 9000
theorem kindN_in (n : ByteArray) : 0 ≤ kindN n ∧ kindN n ≤ 4 := by
  unfold kindN
  split
  · omega
  · split
    · omega
    · split
      · omega
      · split <;> omega
theorem kindN_i64 (n : ByteArray) : InI64 (kindN n) := by
  have := kindN_in n
  unfold InI64
  omega
theorem prefs17_len (k : Int) (L : List F) : (prefsV k L).length ≤ 65536 := by have := prefs13_len k L; omega
theorem prefs17_small {k : Int} {L : List F} (h : ∀ nm, ∀ x ∈ getL nm L, x.size ≤ 9000) : ∀ i (hi : i < (prefsV k L).length), (prefsV k L)[i].1.size ≤ 20000 := by
  intro i hi
  have hp := List.getElem_mem hi
  obtain ⟨p, hpe⟩ : ∃ p, (prefsV k L)[i] = p := ⟨_, rfl⟩
  rw [hpe] at hp ⊢
  unfold prefsV at hp
  split at hp
  · unfold prefsL at hp
    obtain ⟨m, hm, hmp⟩ := List.mem_filterMap.1 hp
    obtain ⟨x, hx, hle⟩ := all_mem hm
    have h1 := h _ x hx
    have h2 := (again hmp).2.2
    omega
  · cases hp
theorem FitL.vals {L : List F} (h : FitL L) (nm : ByteArray) : ∀ x ∈ getL nm L, x.size ≤ 20000 := fun x hx => by have := h.2 nm x hx; omega
theorem rPrefs17_is {k : Int} {a : Option Addr} {cap n : Nat} {L : List F} {X : List QP} {o : Bool} {w : World} (hk : InI64 k) (FL : Box (FitL L)) (hF : Fs w a L) (h : Box (prefsV k L = X ∧ prefsO k L = o)) (hn : Box (L.length = n) := by exact box rfl) :
    Calls Tryz.prog 22 #[.int .i64 k, .slice a n cap] w fun e w' => ∃ p c, e = .returned (.tuple #[.slice p X.length c, .bool o]) ∧ Qs w' p X ∧ Below w.heap.size w w' :=
  rPrefs_is hk (box FL.out.1) (box (FL.out.vals _)) hF h hn
theorem rAll17_is {a : Option Addr} {cap n : Nat} {L : List F} {nm : ByteArray} {M : List ByteArray} {w : World} (FL : Box (FitL L)) (hm : nm.size ≤ 65536) (hF : Fs w a L) (h : Box (allB nm L = M)) (hn : Box (L.length = n) := by exact box rfl) :
    Calls Tryz.prog 32 #[.slice a n cap, .string nm] w fun e w' => ∃ v, e = .returned v ∧ OwnS w' w.heap.size v M ∧ Below w.heap.size w w' := by
  have := rAll_any a cap L nm w (box FL.out.1) (vals_of (box (FL.out.vals nm))) (box hm) (box hF)
  rw [h.out, hn.out] at this; exact this
theorem rJoin17_is {a : Option Addr} {cap : Nat} {L : List ByteArray} {x : ByteArray} {w : World} (hl : L.length ≤ 65536) (hz : Box (∀ x ∈ L, x.size ≤ 65536)) (hF : Ss w a L) (h : Box (joinB L = x)) :
    Calls Tryz.prog 31 #[.slice a L.length cap] w fun e w' => e = .returned (.string x) ∧ w = w' :=
  (rJoin7_any a cap L w hl hz (box hF)).mono fun e w' ⟨h1, h2⟩ => ⟨by rw [h1, h.out], h2⟩
theorem allB_len (nm : ByteArray) (L : List F) : (allB nm L).length ≤ 64 := by unfold allB allL; rw [List.length_map, List.length_take]; omega
theorem allB_small {nm : ByteArray} {L : List F} (hv : ∀ x ∈ getL nm L, x.size ≤ 20000) : ∀ x ∈ allB nm L, x.size ≤ 65536 := by
  intro y hy
  unfold allB at hy
  obtain ⟨m, hm, rfl⟩ := List.mem_map.1 hy
  obtain ⟨x, hx, hle⟩ := all_mem hm
  have := hv x hx
  rw [bs_size]; omega
theorem rRank17_is {k : Int} {a b : Option Addr} {cap cb n : Nat} {L : List QP} {present : Bool} {V R : List ByteArray} {w : World} {qf : ByteArray → Int} (hk : InI64 k) (hl : L.length ≤ 65536) (hz : Box (∀ i (hi : i < L.length), L[i].1.size ≤ 20000)) (hvl : V.length ≤ 65536) (hvz : Box (∀ i (hi : i < V.length), V[i].size ≤ 20000)) (hF : Qs w a L) (hS : Ss w b V) (HQF : Box (∀ v : ByteArray, qualR k L present v.data.toList = qf v)) (hR : Box (rankQ qf V = R)) (hn : Box (V.length = n)) :
    Calls Tryz.prog 30 #[.int .i64 k, .slice a L.length cap, .bool present, .slice b n cb] w fun e w' => OwnPost w R e w' := by
  have := rRank_any k a b cap cb L present V w qf hk hl hz hvl hvz (box hF) (box hS) HQF
  rw [hR.out, hn.out] at this; exact this
theorem rVAx17_is {n : ByteArray} {b : Option Addr} {c m : Nat} {V : List ByteArray} {q : Bool} {w : World} (hn : n.size ≤ 65000) (hl : V.length ≤ 65536) (hz : Box (∀ i (hi : i < V.length), V[i].size ≤ 20000)) (hF : Ss w b V) (h : Box (validA (n, V) = q)) (hm : Box (V.length = m)) :
    Calls Tryz.prog 29 #[.agg #[.string n, .slice b m c]] w fun e w' => e = .returned (.bool q) ∧ Below w.heap.size w w' := by
  have := rValidAxis_any n b c V w hn hl (box (fun i hi => by have := hz.out i hi; omega)) (box hF)
  rw [h.out, hm.out] at this; exact this
def FiRel (V : List ByteArray) (h : ByteArray) (W : World) (v i : Value) (wr : World) : Prop :=
  ∃ j : Nat, i = .int .i64 j ∧ j ≤ V.length ∧ OwnS wr W.heap.size v ((V.take j).filter fun v => decide (v = h)) ∧ Box (Below W.heap.size W wr)
theorem fil_more {V : List ByteArray} {h : ByteArray} {j : Nat} (hj : j < V.length) : (V.take (j + 1)).filter (fun v => decide (v = h)) = (V.take j).filter (fun v => decide (v = h)) ++ (if V[j] = h then [h] else []) := by
  rw [List.take_succ_eq_append_getElem hj, List.filter_append, List.filter_cons, List.filter_nil]
  by_cases e : V[j] = h
  · rw [if_pos (decide_eq_true e), if_pos e, e]
  · rw [if_neg (c := decide (V[j] = h) = true) (by simp [e]), if_neg e]
theorem ss_one17 (x : ByteArray) (w : World) : OwnS (w.alloc (.cells #[.string x] 9)) w.heap.size (.slice (some ⟨w.heap.size, 0, none⟩) 1 1) [x] := by
  refine ⟨rfl, .inr ⟨w.heap.size, 1, #[.string x], rfl, Nat.le_refl _, heap_alloc_new w _, Nat.le_refl _, by unfold maxLen; omega, rfl, rfl⟩⟩
set_option maxHeartbeats 4000000 in
theorem rRanked_any (n : ByteArray) (b : Option Addr) (c : Nat) (V : List ByteArray) (a : Option Addr) (cap : Nat) (L : List F) (st : Bool) (w : World) (hn : n.size ≤ 20000) (hl : V.length ≤ 65536) (hz : Box (∀ i (hi : i < V.length), V[i].size ≤ 20000)) (FL : Box (FitL L)) (hV : Box (Ss w b V)) (hF : Box (Fs w a L)) :
    Calls Tryz.prog 13 #[.agg #[.string n, .slice b V.length c], .slice a L.length cap, .bool st] w fun e w' => OwnPost w (rankS (n, V) L st) e w' := by
  obtain ⟨R, hR⟩ : ∃ R, rankS (n, V) L st = R := ⟨_, rfl⟩
  rw [hR]
  obtain ⟨nv, hnv⟩ : ∃ nv, V.length = nv := ⟨_, rfl⟩
  have HNV := box hnv
  rw [hnv]
  have hnv6 : nv ≤ 65536 := by omega
  have n65 : n.size ≤ 65000 := by omega
  have n65b : n.size ≤ 65536 := by omega
  have n4 : n.size ≤ 4294967296 := by omega
  have C0 := box (C2.new (.string n) (.slice b nv c) w 24)
  have B0 := box (below_new w (.cells #[.string n, .slice b nv c] 24))
  obtain ⟨w0, hw0⟩ : ∃ w0, w.alloc (.cells #[.string n, .slice b nv c] 24) = w0 := ⟨_, rfl⟩
  have HW0 := box hw0
  rw [hw0] at C0 B0
  have hs0 := B0.out.size
  have V0 := box (hV.out.below B0.out)
  have F0 := box (hF.out.below B0.out)
  have hv6 : V.length ≤ 65536 := hl
  cases hva : validA (n, V) with
  | false =>
    have HVA := box hva
    have HR : Box (R = []) := box (by rw [← hR, rankS_bad hva])
    have c00 := C0.out.1.1
    have c01 := C0.out.1.2
    clear hva hR hnv hl hw0
    go_enter Tryz.func13, Tryz.ntmps13
    go_wp2_with fail
    rw [HW0.out]
    refine (rVAx17_is n65 hv6 hz V0.out HVA HNV).mono ?_; rintro e w1 ⟨rfl, hb1⟩
    have B1 := box (B0.out.trans (hb1.mono hs0))
    clear hb1
    go_wp2
    go_ret
    exact ⟨_, rfl, by rw [HR.out]; exact OwnS.nil _ _, B1.out⟩
  | true =>
    have HVA := box hva
    obtain ⟨A, hA⟩ : ∃ A, accS (n, V) L = A := ⟨_, rfl⟩
    have hv1 := (validA_len hva).1
    have HRD : Box (A = [] → st = false → R = [atS V 0]) := box (fun h1 h2 => by subst h2; rw [← hR]; exact rankS_dflt hva (hA.trans h1))
    have HRA : Box (A ≠ [] ∨ st = true → R = A) := box (fun h => by rw [← hR, ← hA]; exact rankS_acc hva (by rw [hA]; exact h))
    obtain ⟨k, hk⟩ : ∃ k, kindN n = k := ⟨_, rfl⟩
    have HK := box hk
    have hki : InI64 k := by rw [← hk]; exact kindN_i64 n
    have hv0 : 0 < nv := by rw [← hnv]; exact hv1
    have HAL : Box (A.length ≤ nv) := box (by rw [← hA, ← hnv]; exact acc_len _ _)
    by_cases hk0 : k = 0
    · obtain ⟨M, hM⟩ : ∃ M, allB n L = M := ⟨_, rfl⟩
      have HM := box hM
      have hml : M.length ≤ 65536 := by rw [← hM]; have := allB_len n L; omega
      have HMz : Box (∀ x ∈ M, x.size ≤ 65536) := box (by rw [← hM]; exact allB_small (FL.out.vals n))
      obtain ⟨h, hh⟩ : ∃ h, joinB M = h := ⟨_, rfl⟩
      have HJ := box hh
      have HAF : Box (V.filter (fun v => decide (v = h)) = A) := box (by rw [← hA, ← hh, ← hM]; unfold accS; rw [if_pos (by show kindN n = 0; rw [hk, hk0])])
      subst hk0
      have c00 := C0.out.1.1
      have c01 := C0.out.1.2
      clear hva hR hA hk hM hh hnv hl hw0
      go_enter Tryz.func13, Tryz.ntmps13
      go_wp2_with fail
      rw [HW0.out]
      refine (rVAx17_is n65 hv6 hz V0.out HVA HNV).mono ?_; rintro e w1 ⟨rfl, hb1⟩
      have B1 := box hb1
      have C1 := box (C0.out.below B1.out C0.out.lt)
      have V1 := box (V0.out.below hb1)
      have F1 := box (F0.out.below hb1)
      have d00 := C1.out.1.1
      have d01 := C1.out.1.2
      clear hb1 c00 c01
      go_wp2_with fail
      refine (rKind_is n4 HK).mono ?_; rintro e w2 ⟨rfl, hb2⟩
      have B2 := box (B1.out.trans (hb2.mono B1.out.size))
      have C2 := box (C0.out.below B2.out C0.out.lt)
      have V2 := box (V1.out.below hb2)
      have F2 := box (F1.out.below hb2)
      have e00 := C2.out.1.1
      have e01 := C2.out.1.2
      clear hb2 d00 d01
      go_wp2_with fail
      refine (rAll17_is FL n65b F2.out HM).mono ?_; rintro e w3 ⟨v3, rfl, hO3, hb3⟩
      obtain ⟨a3, c3, rfl, hS3, _⟩ := hO3.ss
      have B3 := box (B2.out.trans (hb3.mono B2.out.size))
      have C3 := box (C0.out.below B3.out C0.out.lt)
      have V3 := box (V2.out.below hb3)
      have f00 := C3.out.1.1
      have f01 := C3.out.1.2
      have S3 := box hS3
      clear hb3 e00 e01 hO3 hS3
      go_wp2_with fail
      refine (rJoin17_is hml HMz S3.out HJ).mono ?_; rintro e w4 ⟨rfl, rfl⟩
      go_wp2
      go_loopw [7, 12] (fun v i wr => FiRel V h w0 v i wr) (fun _ i _ => nv - (intOf i).toNat)
      case atStart => exact ⟨0, rfl, Nat.zero_le _, OwnS.nil _ _, B3⟩
      case round =>
        obtain ⟨j, rfl, hj, hO, BL⟩ := hrel
        have CL := box (C0.out.below BL.out C0.out.lt)
        have O0 := box hO
        obtain ⟨oa, oc, rfl, _, hoc⟩ := hO.ss
        obtain ⟨r, hr⟩ : ∃ r, (V.take j).filter (fun v => decide (v = h)) = r := ⟨_, rfl⟩
        rw [hr] at O0 hoc ⊢
        have hrl : r.length ≤ 65536 := by
          rw [← hr]
          have := List.length_filter_le (fun v => decide (v = h)) (V.take j)
          rw [List.length_take] at this; omega
        have g00 := CL.out.1.1
        have g01 := CL.out.1.2
        have hbs := BL.out.size
        clear hO f00 f01
        by_cases hjl : j < nv
        · have hji : (j : Int) < (nv : Int) := by omega
          have hj0 : (0 : Int) ≤ (j : Int) := by omega
          have hjv : j < V.length := by have := HNV.out; omega
          obtain ⟨x, hx⟩ : ∃ x, V[j] = x := ⟨_, rfl⟩
          obtain ⟨g, off, rfl, c0⟩ := (V0.out.below BL.out) j hjv
          rw [hx] at c0
          have hne := ne_toList x h
          rcases hq : (x.toList == h.toList) with _ | _
          · have HN2 : Box ((V.take (j + 1)).filter (fun v => decide (v = h)) = r) := box (by
              rw [hq] at hne
              rw [fil_more hjv, hr, hx, if_neg (fun e => by rw [e] at hq; simp at hq), List.append_nil])
            clear hne hx hr
            go_wp2
            go_roundw
            case rel => exact ⟨j + 1, by go_num, by omega, by rw [HN2.out]; exact O0.out, BL⟩
            case measure => simp [intOf]; omega
          · have HN2 : Box ((V.take (j + 1)).filter (fun v => decide (v = h)) = r ++ [h]) := box (by
              rw [fil_more hjv, hr, hx, if_pos (str_eq hq)])
            clear hne hx hr
            go_wp2_with (at_builtin; refine wpList_append_str _ rfl (.tmp 52) (.tmp 54) rfl w0.heap.size _ r rfl ?a1 _ _ rfl h ?b1 ?c1 ?d1 ?_)
            case a1 => exact own_below O0.out (below_new _ _)
            case b1 => exact (World.cell?_alloc_at (w := wr) #[.string h] 9 wr.heap.size 0 rfl).trans rfl
            case c1 => exact hrl
            case d1 => first | omega | (simp; omega)
            intro v5 w5 hO5 hb5
            have O5 := box hO5
            have B5 := box ((BL.out.alloc hbs _).trans hb5)
            clear hO5 hb5
            go_wp2
            go_roundw
            case rel => exact ⟨j + 1, by go_num, by omega, by rw [HN2.out]; exact O5.out, B5⟩
            case measure => simp [intOf]; omega
        · have hji : ¬ (j : Int) < (nv : Int) := by omega
          have HRE : Box (r = A) := box (by rw [← hr, show j = V.length from by have := HNV.out; omega, List.take_length]; exact HAF.out)
          clear hr
          have HRE2 := HRE.out
          subst HRE2
          have CT := CL
          have BT := BL
          have OT := O0
          have t00 := CT.out.1.1
          have t01 := CT.out.1.2
          have hbt := BT.out.size
          have BR := box (B0.out.trans (BT.out.mono hs0))
          clear CT
          by_cases hA0 : r.length = 0
          · have HA0 : Box (r = []) := box (List.length_eq_zero_iff.1 hA0)
            rw [hA0]
            cases st with
            | false =>
              have HRX : Box (R = [atS V 0]) := box (HRD.out HA0.out rfl)
              obtain ⟨g1, off1, rfl, c1⟩ := (V0.out.below BT.out) 0 (by have := HNV.out; omega)
              obtain ⟨x0, hx0⟩ : ∃ x0, V[0]'(by have := HNV.out; omega) = x0 := ⟨_, rfl⟩
              have HX0 : Box (atS V 0 = x0) := box (by rw [atS_is (by have := HNV.out; omega)]; exact hx0)
              rw [hx0, Nat.add_zero] at c1
              have hv0i : (0 : Int) < (nv : Int) := by omega
              clear hx0 hA0
              go_wp2
              go_ret
              exact ⟨_, rfl, by rw [HRX.out, HX0.out]; exact Go.Joins.ownsRow_le (ss_one17 _ _) (Nat.le_trans hs0 hbt), BR.out.alloc BR.out.size _⟩
            | true =>
              have HRX : Box (R = r) := box (HRA.out (.inr rfl))
              have hR0 : r.length = 0 := hA0
              go_wp2
              go_ret
              exact ⟨_, rfl, by rw [HRX.out, ← hA0]; exact Go.Joins.ownsRow_le OT.out hs0, BR.out⟩
          · have HRX : Box (R = r) := box (HRA.out (.inl (fun h => hA0 (by rw [h]; rfl))))
            have hai : ((r.length : Int) == 0) = false := by rw [beq_eq_false_iff_ne]; omega
            go_wp2
            go_ret
            exact ⟨_, rfl, by rw [HRX.out]; exact Go.Joins.ownsRow_le OT.out hs0, BR.out⟩
    · have hke : (k == 0) = false := by rw [beq_eq_false_iff_ne]; exact hk0
      obtain ⟨X, hX⟩ : ∃ X, prefsV k L = X := ⟨_, rfl⟩
      obtain ⟨o, ho⟩ : ∃ o, prefsO k L = o := ⟨_, rfl⟩
      have HP : Box (prefsV k L = X ∧ prefsO k L = o) := box ⟨hX, ho⟩
      have hxl : X.length ≤ 65536 := by rw [← hX]; exact prefs17_len _ _
      have HXz : Box (∀ i (hi : i < X.length), X[i].1.size ≤ 20000) := box (by rw [← hX]; exact prefs17_small FL.out.2)
      have HQF : Box (∀ v : ByteArray, qualR k X o v.data.toList = qlS (n, V) L v) := box (fun v => by unfold qlS; rw [hk, hX, ho])
      have HRK : Box (rankQ (qlS (n, V) L) V = A) := box (by rw [← hA]; unfold accS; rw [if_neg (by show ¬ kindN n = 0; rw [hk]; exact hk0)])
      have c00 := C0.out.1.1
      have c01 := C0.out.1.2
      clear hva hR hA hk hX ho hnv hl hw0
      go_enter Tryz.func13, Tryz.ntmps13
      go_wp2_with fail
      rw [HW0.out]
      refine (rVAx17_is n65 hv6 hz V0.out HVA HNV).mono ?_; rintro e w1 ⟨rfl, hb1⟩
      have B1 := box hb1
      have C1 := box (C0.out.below B1.out C0.out.lt)
      have V1 := box (V0.out.below hb1)
      have F1 := box (F0.out.below hb1)
      have d00 := C1.out.1.1
      have d01 := C1.out.1.2
      clear hb1 c00 c01
      go_wp2_with fail
      refine (rKind_is n4 HK).mono ?_; rintro e w2 ⟨rfl, hb2⟩
      have B2 := box (B1.out.trans (hb2.mono B1.out.size))
      have C2 := box (C0.out.below B2.out C0.out.lt)
      have V2 := box (V1.out.below hb2)
      have F2 := box (F1.out.below hb2)
      have e00 := C2.out.1.1
      have e01 := C2.out.1.2
      clear hb2 d00 d01
      go_wp2_with fail
      refine (rPrefs17_is hki FL F2.out HP).mono ?_; rintro e w3 ⟨p3, c3, rfl, hQ3, hb3⟩
      have B3 := box (B2.out.trans (hb3.mono B2.out.size))
      have C3 := box (C0.out.below B3.out C0.out.lt)
      have V3 := box (V2.out.below hb3)
      have f00 := C3.out.1.1
      have f01 := C3.out.1.2
      have Q3 := box hQ3
      clear hb3 e00 e01 hQ3
      go_wp2_with fail
      refine (rRank17_is hki hxl HXz hv6 hz Q3.out V3.out HQF HRK HNV).mono ?_; rintro e w4 ⟨v4, rfl, hO4, hb4⟩
      have BT := box (B3.out.trans (hb4.mono B3.out.size))
      have CT := box (C0.out.below BT.out C0.out.lt)
      have OT := box (show OwnS w4 w0.heap.size v4 A from Go.Joins.ownsRow_le hO4 B3.out.size)
      obtain ⟨oa, oc, rfl, _, hoc⟩ := hO4.ss
      clear hb4 hO4 f00 f01
      have t00 := CT.out.1.1
      have t01 := CT.out.1.2
      have hbt := BT.out.size
      have BR := box (B0.out.trans (BT.out.mono hs0))
      clear CT
      by_cases hA0 : A.length = 0
      · have HA0 : Box (A = []) := box (List.length_eq_zero_iff.1 hA0)
        rw [hA0]
        cases st with
        | false =>
          have HRX : Box (R = [atS V 0]) := box (HRD.out HA0.out rfl)
          obtain ⟨g1, off1, rfl, c1⟩ := (V0.out.below BT.out) 0 (by have := HNV.out; omega)
          obtain ⟨x0, hx0⟩ : ∃ x0, V[0]'(by have := HNV.out; omega) = x0 := ⟨_, rfl⟩
          have HX0 : Box (atS V 0 = x0) := box (by rw [atS_is (by have := HNV.out; omega)]; exact hx0)
          rw [hx0, Nat.add_zero] at c1
          have hv0i : (0 : Int) < (nv : Int) := by omega
          clear hx0 hA0
          go_wp2
          go_ret
          exact ⟨_, rfl, by rw [HRX.out, HX0.out]; exact Go.Joins.ownsRow_le (ss_one17 _ _) (Nat.le_trans hs0 hbt), BR.out.alloc BR.out.size _⟩
        | true =>
          have HRX : Box (R = A) := box (HRA.out (.inr rfl))
          have hR0 : A.length = 0 := hA0
          go_wp2
          go_ret
          exact ⟨_, rfl, by rw [HRX.out, ← hA0]; exact Go.Joins.ownsRow_le OT.out hs0, BR.out⟩
      · have HRX : Box (R = A) := box (HRA.out (.inl (fun h => hA0 (by rw [h]; rfl))))
        have hai : ((A.length : Int) == 0) = false := by rw [beq_eq_false_iff_ne]; omega
        go_wp2
        go_ret
        exact ⟨_, rfl, by rw [HRX.out]; exact Go.Joins.ownsRow_le OT.out hs0, BR.out⟩
end
section
open Go.RowKit
def intV (n : Nat) : Value := .int .i64 (n : Int)
/-- ints at an address -/
def Is (w : World) (a : Option Addr) (L : List Nat) : Prop := ∀ i (h : i < L.length), ∃ g off, a = some ⟨g, off, none⟩ ∧ w.cell? ⟨g, off + i, none⟩ = some (intV L[i])
theorem Is.below {w w' : World} {a : Option Addr} {L : List Nat} (h : Is w a L) (hb : Below w.heap.size w w') : Is w' a L := fun i hi => by
  obtain ⟨g, off, e, c0⟩ := h i hi
  exact ⟨g, off, e, (hb.cell (cell_lt c0)).trans c0⟩
theorem info_int : (Tryz.prog.info? 3).map (fun i => (i.zero, i.size, i.bytes)) = some (some (.int .i64 0), 1, 8) := by kernel_rfl
def OwnI (w : World) (B : Nat) (v : Value) (L : List Nat) : Prop := w.ownsRow B 3 1 v L.length (L.map intV)
theorem OwnI.nil (w : World) (B : Nat) : OwnI w B (.slice none 0 0) [] := World.ownsRow_nil _ _ _ _
theorem OwnI.is {w : World} {B : Nat} {v : Value} {L : List Nat} (h : OwnI w B v L) : ∃ a cap, v = .slice a L.length cap ∧ Is w a L ∧ L.length ≤ cap := by
  rcases h.2 with ⟨rfl, hn⟩ | ⟨g, cap, cur, rfl, hB, hg, hc, hm, hs, ht⟩
  · exact ⟨none, 0, by rw [hn], fun i hi => by omega, by omega⟩
  · refine ⟨_, cap, rfl, fun i hi => ⟨g, 0, rfl, ?_⟩, hc⟩
    have q0 : (L.map intV)[i]? = some (intV L[i]) := by simp [hi]
    rw [← ht, List.getElem?_take, if_pos (by omega)] at q0
    simp only [World.cell?, hg]
    simpa using q0
/-- a row of bools at a block's start -/
def Bo (w : World) (g : Nat) (U : List Bool) : Prop := ∀ i (h : i < U.length), w.cell? ⟨g, i, none⟩ = some (.bool U[i]) ∧ w.frozen? ⟨g, i, none⟩ = false
theorem Bo.below {w w' : World} {g B : Nat} {U : List Bool} (h : Bo w g U) (hb : Below B w w') (hg : g < B) : Bo w' g U := fun i hi =>
  ⟨(hb.cell hg).trans (h i hi).1, (hb.frozen hg).trans (h i hi).2⟩
theorem Bo.set {w : World} {g k : Nat} {U : List Bool} (h : Bo w g U) (hk : k < U.length) (b : Bool) : Bo (w.setCell ⟨g, k, none⟩ (.bool b)) g (U.set k b) := fun i hi => by
  have hi2 : i < U.length := by simpa using hi
  refine ⟨?_, by rw [World.frozen?_setCell]; exact (h i hi2).2⟩
  by_cases e : i = k
  · subst e
    rw [World.cell?_setCell_same (h := (h i hi2).1)]
    simp
  · rw [World.cell?_setCell_other _ _ _ _ (by intro q; cases q; exact e rfl), (h i hi2).1, List.getElem_set_ne (Ne.symm e)]
theorem Bo.new (w : World) (n : Nat) (t : TypeId) : Bo (w.alloc (.cells (madeCells #[.bool false] n) t)) w.heap.size (List.replicate n false) := fun i hi => by
  have hn : i < n := by simpa using hi
  refine ⟨?_, World.frozen?_alloc_at _ _ _ _ rfl⟩
  rw [World.cell?_alloc_at (hn := rfl), ← Array.getElem?_toList, toList_madeCells_one]
  simp [hn, List.getElem?_replicate]
end
section
open Go.RowKit
theorem OwnK.at {w : World} {B : Nat} {v : Value} {L : List KY} (h : OwnK w B v L) (i : Nat) (hi : i < L.length) : ∃ g c u, v = .slice (some ⟨g, 0, none⟩) L.length c ∧ w.cell? ⟨g, i, none⟩ = some u ∧ OwnS w B u L[i] := by
  obtain ⟨cs, h, hC⟩ := h
  rcases h.2 with ⟨rfl, hn⟩ | ⟨g, cap, cur, rfl, hB, hg, hc, hm, hs, ht⟩
  · omega
  · obtain ⟨u, q1, q2⟩ := hC.2.2 i hi
    have hl := hC.1
    rw [← ht, List.getElem?_take, if_pos (by omega)] at q1
    refine ⟨g, cap, u, rfl, ?_, q2⟩
    simp only [World.cell?, hg]; simpa using q1
theorem OwnK.len {w : World} {B : Nat} {v : Value} {L : List KY} (h : OwnK w B v L) : L.length ≤ maxLen := by
  obtain ⟨cs, h, hC⟩ := h
  rcases h.2 with ⟨rfl, hn⟩ | ⟨g, cap, cur, rfl, hB, hg, hc, hm, hs, ht⟩
  · omega
  · omega
/-- an empty key is nil -/
def NilK (w : World) (v : Value) (L : List KY) : Prop := ∀ g n c i (h : i < L.length), v = .slice (some ⟨g, 0, none⟩) n c → L[i] = [] → w.cell? ⟨g, i, none⟩ = some (.slice none 0 0)
theorem NilK.below {w w' : World} {v : Value} {L : List KY} (h : NilK w v L) (hb : Below w.heap.size w w') : NilK w' v L := fun g n c i hi hv h0 => by
  have := h g n c i hi hv h0
  exact (hb.cell (cell_lt this)).trans this
theorem NilK.full {w : World} {v : Value} {L : List KY} (h : ∀ k ∈ L, k ≠ []) : NilK w v L := fun g n c i hi _ h0 => absurd h0 (h _ (List.getElem_mem hi))
theorem slice_nil {w : World} {B : Nat} {u : Value} {M : KY} (h : OwnS w B u M) : u = .slice none 0 0 ∧ M.length = 0 ∨ ∃ g c, u = .slice (some ⟨g, 0, none⟩) M.length c ∧ Ss w (some ⟨g, 0, none⟩) M := by
  obtain ⟨a, cap, e, hs, _⟩ := h.ss
  rcases h.2 with q | ⟨g, cap2, cur, hv, _⟩
  · exact .inl q
  · rw [hv] at e
    injection e with e1 e2 e3
    subst e1
    exact .inr ⟨g, cap2, hv, hs⟩
section
variable {ops : Array Oper} {o : Oper} {a : Act} {K : Act → World → Prop} {Q : Exit → Act → World → Prop} {E : Prop}
/-- a new slice with a key's strings -/
theorem step_append_self (w : World) (hgd : o.guard = none) (s x : Operand)
    (ho : o.op = .call { callee := .builtin .append, args := #[s, x], argTypes := #[22, 22] })
    (hs : a.eval s = .slice none 0 0) (u : Value) (M : KY) (B : Nat) (hx : a.eval x = u) (hu : OwnS w B u M) (hnil : M = [] → u = .slice none 0 0) (hl : M.length ≤ 65536)
    (h : ∀ v' w', OwnS w' w.heap.size v' M → Below w.heap.size w w' → K (a.put o.dst v') w') :
    if Region.wanted o (yielded ops a.tmps) = true then Oper.wp Tryz.prog o a w K Q else E := by
  obtain ⟨i0, hi0, hz0, hz1, hz2⟩ := info_parts info_str
  have h0 : OwnS w w.heap.size (.slice none 0 0) [] := OwnS.nil _ _
  by_cases hM : M = []
  · have hw : Region.wanted o (yielded ops a.tmps) = true := by simp [Region.wanted, hgd]
    rw [if_pos hw]
    rw [hnil hM] at hx
    have hrun := run_append_owned_none (P := Tryz.prog) (w := w) w.heap.size 22 o.type 9 i0 1 Tryz.underlying22 hi0 (.slice none 0 0) 0 [] h0
    have hK := h (.slice none 0 0) w (by rw [hM]; exact h0) (Below.refl _ _)
    unfold Oper.wp
    simp [execOp, ho, resolve, invoke, builtin, hs, hx, hrun, Result.andThen]
    exact hK
  · have hp : 0 < M.length := List.length_pos_iff.2 hM
    rcases slice_nil hu with ⟨_, h1⟩ | ⟨g, c, rfl, hss⟩
    · omega
    · refine step_append_lies (P := Tryz.prog) w hgd s x 22 ho w.heap.size 9 i0 _ 1 16 Tryz.underlying22 hi0 hz0 hz1 hz2 rfl (by decide) (.slice none 0 0) 0 [] hs h0 ⟨g, 0, none⟩ M.length c (M.map Value.string) hx (by simp) ?_ ?_ hp (by unfold maxLen; omega) (by omega) (Nat.le_refl _) _ rfl ?_
      · intro j y hj
        have hjl : j < M.length := by
          rcases Nat.lt_or_ge j M.length with q | q
          · exact q
          · rw [List.getElem?_eq_none (by simpa using q)] at hj; cases hj
        obtain ⟨g2, off, e, c0⟩ := hss j hjl
        cases e
        simp [hjl] at hj
        subst hj
        rw [Addr.add_lit]; exact c0
      · intro y hy
        obtain ⟨z, _, rfl⟩ := List.mem_map.1 hy
        rfl
      · intro g' cap' w' q1 q2 _ _
        exact h _ w' (by simpa [OwnS] using q1) ((Below.refl _ _).grown q2 (Nat.le_refl _) (fun k hk => own_block h0 k hk))
/-- append of one key that lies in a block of its own -/
theorem step_append_key (w : World) (hgd : o.guard = none) (s x : Operand)
    (ho : o.op = .call { callee := .builtin .append, args := #[s, x], argTypes := #[36, 36] })
    (B : Nat) (v : Value) (L : List KY) (hs : a.eval s = v) (hown : OwnK w B v L)
    (g : Nat) (c : Nat) (hx : a.eval x = .slice (some ⟨g, 0, none⟩) 1 c) (u : Value) (V : KY) (h0 : w.cell? ⟨g, 0, none⟩ = some u) (hu : OwnS w B u V) (hl : L.length ≤ 65536) (hB : B ≤ w.heap.size)
    (h : ∀ v' w', OwnK w' B v' (L ++ [V]) → Below B w w' → K (a.put o.dst v') w') :
    if Region.wanted o (yielded ops a.tmps) = true then Oper.wp Tryz.prog o a w K Q else E := by
  obtain ⟨i0, hi0, hz0, hz1, hz2⟩ := info_parts info_strs
  obtain ⟨cs, hown, hC⟩ := hown
  have hone : u.oneCell' = true := by obtain ⟨b, c, e, _⟩ := hu.ss; rw [e]; rfl
  refine step_append_lies (P := Tryz.prog) w hgd s x 36 ho B 22 i0 _ 1 24 Tryz.underlying36 hi0 hz0 hz1 hz2 rfl (by decide) v L.length cs hs hown ⟨g, 0, none⟩ 1 c [u] hx rfl ?_ ?_ (by omega) (by unfold maxLen; omega) (by omega) hB _ rfl ?_
  · intro j y hj
    match j, hj with
    | 0, hj => simp at hj; subst hj; simpa [Addr.add] using h0
  · intro y hy; simp at hy; subst hy; exact hone
  · intro g' cap' w' q1 q2 _ _
    exact h _ w' ⟨cs ++ [u], by rw [List.length_append]; exact q1, (hC.grown hown q2).more (own_grownK hown hu q2)⟩ ((Below.refl _ _).grown q2 hB (fun k hk => own_block hown k hk))
end
def Io (w : World) (g : Nat) (D : List Nat) : Prop := ∀ i (h : i < D.length), w.cell? ⟨g, i, none⟩ = some (intV D[i]) ∧ w.frozen? ⟨g, i, none⟩ = false
theorem Io.below {w w' : World} {g B : Nat} {D : List Nat} (h : Io w g D) (hb : Below B w w') (hg : g < B) : Io w' g D := fun i hi =>
  ⟨(hb.cell hg).trans (h i hi).1, (hb.frozen hg).trans (h i hi).2⟩
theorem Io.set {w : World} {g k : Nat} {D : List Nat} (h : Io w g D) (hk : k < D.length) (d : Nat) : Io (w.setCell ⟨g, k, none⟩ (intV d)) g (D.set k d) := fun i hi => by
  have hi2 : i < D.length := by simpa using hi
  refine ⟨?_, by rw [World.frozen?_setCell]; exact (h i hi2).2⟩
  by_cases e : i = k
  · subst e
    rw [World.cell?_setCell_same (h := (h i hi2).1)]
    simp
  · rw [World.cell?_setCell_other _ _ _ _ (by intro q; cases q; exact e rfl), (h i hi2).1, List.getElem_set_ne (Ne.symm e)]
theorem Io.new (w : World) (n : Nat) (t : TypeId) : Io (w.alloc (.cells (madeCells #[.int .i64 0] n) t)) w.heap.size (List.replicate n 0) := fun i hi => by
  have hn : i < n := by simpa using hi
  refine ⟨?_, World.frozen?_alloc_at _ _ _ _ rfl⟩
  rw [World.cell?_alloc_at (hn := rfl), ← Array.getElem?_toList, toList_madeCells_one]
  simp [hn, List.getElem?_replicate, intV]
end
section
open Go.RowKit
/-- axes small enough -/
def FitX (X : List AX) : Prop := ∀ i (h : i < X.length), X[i].1.size ≤ 20000 ∧ X[i].2.length ≤ 65000 ∧ ∀ j (hj : j < X[i].2.length), X[i].2[j].size ≤ 20000
theorem FitX.small {X : List AX} (h : FitX X) : smallA X := fun i hi => by
  obtain ⟨h1, h2, h3⟩ := h i hi
  exact ⟨by omega, by omega, fun j hj => by have := h3 j hj; omega⟩
theorem rValid17_is {a : Option Addr} {cap n : Nat} {X : List AX} {q : Bool} {w : World} (hl : X.length ≤ 65536) (hz : Box (FitX X)) (hF : Axs w a X) (h : Box (validX X = q)) (hn : Box (X.length = n)) :
    Calls Tryz.prog 20 #[.slice a n cap] w fun e w' => e = .returned (.bool q) ∧ Below w.heap.size w w' := by
  have := rValid_any a cap X w hl (box hz.out.small) (box hF)
  rw [h.out, hn.out] at this; exact this
theorem rRanked17_is {n : ByteArray} {b : Option Addr} {c m : Nat} {V R : List ByteArray} {a : Option Addr} {cap nl : Nat} {L : List F} {st : Bool} {w : World} (hn : n.size ≤ 20000) (hl : V.length ≤ 65536) (hz : Box (∀ i (hi : i < V.length), V[i].size ≤ 20000)) (FL : Box (FitL L)) (hV : Ss w b V) (hF : Fs w a L) (h : Box (rankS (n, V) L st = R)) (hm : Box (V.length = m)) (hnl : Box (L.length = nl)) :
    Calls Tryz.prog 13 #[.agg #[.string n, .slice b m c], .slice a nl cap, .bool st] w fun e w' => OwnPost w R e w' := by
  have := rRanked_any n b c V a cap L st w hn hl hz FL (box hV) (box hF)
  rw [h.out, hm.out, hnl.out] at this; exact this
def OwnKPost (w : World) (K : List KY) (e : Ending) (w' : World) : Prop := ∃ v, e = .returned v ∧ OwnK w' w.heap.size v K ∧ Below w.heap.size w w'
def KoRel17 (R : List (List ByteArray)) (W : World) (v i : Value) (wr : World) : Prop :=
  ∃ (j : Nat), i = .int .i64 j ∧ j ≤ R.length ∧ OwnK wr W.heap.size v (prodK (R.take j)) ∧ NilK wr v (prodK (R.take j)) ∧ Box (Below W.heap.size W wr)
def KnRel (K : List KY) (r : List ByteArray) (W : World) (v i : Value) (wr : World) : Prop :=
  ∃ (j : Nat), i = .int .i64 j ∧ j ≤ K.length ∧ OwnK wr W.heap.size v (stepK (K.take j) r) ∧ Box (Below W.heap.size W wr)
def KjRel (N0 : List KY) (M : KY) (r : List ByteArray) (W : World) (v i : Value) (wr : World) : Prop :=
  ∃ (j : Nat), i = .int .i64 j ∧ j ≤ r.length ∧ OwnK wr W.heap.size v (N0 ++ (r.take j).map fun v => M ++ [v]) ∧ Box (Below W.heap.size W wr)
theorem kj_more {N0 : List KY} {M : KY} {r : List ByteArray} {j : Nat} (h : j < r.length) : N0 ++ ((r.take (j + 1)).map fun v => M ++ [v]) = (N0 ++ (r.take j).map fun v => M ++ [v]) ++ [M ++ [r[j]]] := by
  rw [List.take_succ_eq_append_getElem h, List.map_append, ← List.append_assoc]; rfl
theorem prodK_take (R : List (List ByteArray)) (j : Nat) (h : j < R.length) : prodK (R.take (j + 1)) = stepK (prodK (R.take j)) R[j] := by
  rw [List.take_succ_eq_append_getElem h, prodK_snoc]
theorem take_len {R : List (List ByteArray)} {j : Nat} (hR : ∀ r ∈ R, r.length ≤ 16) (h4 : R.length ≤ 4) : (prodK (R.take j)).length ≤ 65536 := by
  rw [prodK_len]
  have h1 := numK_le (R.take j) (fun r hr => hR r (List.mem_of_mem_take hr))
  have h2 := pow16 (n := (R.take j).length) (by rw [List.length_take]; omega)
  omega
theorem take_key {R : List (List ByteArray)} {j : Nat} (h4 : R.length ≤ 4) {k : KY} (hk : k ∈ prodK (R.take j)) : k.length ≤ 65536 := by
  have h1 := (prodK_mem _ _ hk).1
  rw [List.length_take] at h1
  omega
theorem ownk_one (w : World) : OwnK (w.alloc (.cells #[.slice none 0 0] 22)) w.heap.size (.slice (some ⟨w.heap.size, 0, none⟩) 1 1) [[]] :=
  ⟨[.slice none 0 0], ⟨rfl, .inr ⟨w.heap.size, 1, #[.slice none 0 0], rfl, Nat.le_refl _, heap_alloc_new w _, Nat.le_refl _, by unfold maxLen; omega, rfl, rfl⟩⟩, rfl, by simp; rfl, fun i hi => by
    match i, hi with
    | 0, _ => exact ⟨_, rfl, OwnS.nil _ _⟩⟩
theorem nilk_one (w : World) : NilK (w.alloc (.cells #[.slice none 0 0] 22)) (.slice (some ⟨w.heap.size, 0, none⟩) 1 1) [[]] := fun g n c i hi hv _ => by
  injection hv with e1 e2 e3
  injection e1 with e1
  injection e1 with e1 _ _
  subst e1
  match i, hi with
  | 0, _ => exact (World.cell?_alloc_at (w := w) #[.slice none 0 0] 22 w.heap.size 0 rfl).trans rfl
/-- the first of them -/
theorem OwnK.cut {w : World} {B g n c m : Nat} {K : List KY} (h : OwnK w B (.slice (some ⟨g, 0, none⟩) n c) K) (hm : m ≤ K.length) : OwnK w B (.slice (some ⟨g, 0, none⟩) m c) (K.take m) := by
  obtain ⟨cs, ⟨h1, h2⟩, h3, h4, h5⟩ := h
  have hl : (K.take m).length = m := by rw [List.length_take]; omega
  rcases h2 with ⟨h2, _⟩ | ⟨g', cap, cur, hv, hB, hg, hc, hmx, hs, ht⟩
  · cases h2
  · injection hv with e1 e2 e3
    injection e1 with e1
    injection e1 with e1 _ _
    subst e1; subst e3
    refine ⟨cs.take m, ⟨by rw [hl, List.length_take, h3]; omega, .inr ⟨g, c, cur, by rw [hl], hB, hg, by rw [hl]; omega, hmx, hs, ?_⟩⟩, by rw [List.length_take, List.length_take, h3], fun u hu => h4 u (List.mem_of_mem_take hu), fun i hi => ?_⟩
    · rw [hl, ← ht, List.take_take]
      congr 1
      omega
    · have hi2 : i < m := by rw [hl] at hi; exact hi
      obtain ⟨u, q1, q2⟩ := h5 i (by omega)
      exact ⟨u, by rw [List.getElem?_take, if_pos hi2]; exact q1, by rw [List.getElem_take]; exact q2⟩
set_option maxHeartbeats 16000000 in
theorem rKeys_any (p : Option Addr) (cp : Nat) (X : List AX) (a : Option Addr) (cap : Nat) (L : List F) (st : Bool) (w : World) (hx : X.length ≤ 65536) (ZX : Box (FitX X)) (FL : Box (FitL L)) (hl6 : L.length ≤ 65536) (hX : Box (Axs w p X)) (hF : Box (Fs w a L)) :
    Calls Tryz.prog 19 #[.slice p X.length cp, .slice a L.length cap, .bool st] w fun e w' => OwnKPost w (keysS X L st) e w' := by
  obtain ⟨KS, hKS⟩ : ∃ KS, keysS X L st = KS := ⟨_, rfl⟩
  rw [hKS]
  obtain ⟨nx, hnx⟩ : ∃ nx, X.length = nx := ⟨_, rfl⟩
  have HNX0 := box hnx
  rw [hnx]
  obtain ⟨nl, hnl⟩ : ∃ nl, L.length = nl := ⟨_, rfl⟩
  have HNL := box hnl
  rw [hnl]
  cases hv : validX X with
  | false =>
    have HV := box hv
    have HR : Box (KS = []) := box (by rw [← hKS]; unfold keysS; rw [if_pos hv])
    clear hv hKS hnx hnl hl6
    go_enter Tryz.func19, Tryz.ntmps19
    go_wp2_with fail
    refine (rValid17_is hx ZX hX.out HV HNX0).mono ?_; rintro e w1 ⟨rfl, hb1⟩
    have B1 := box hb1
    clear hb1
    go_wp2
    go_ret
    exact ⟨_, rfl, by rw [HR.out]; exact OwnK.nil _ _, B1.out⟩
  | true =>
    have HV := box hv
    have hx4 : X.length ≤ 4 := (validX_len hv).2
    obtain ⟨R, hR⟩ : ∃ R, rowsS X L st = R := ⟨_, rfl⟩
    have HKS : Box (KS = (prodK R).take 64) := box (by rw [← hKS, ← hR]; unfold keysS; rw [if_neg (by rw [hv]; simp)])
    have HRL : Box (R.length = nx) := box (by rw [← hR, ← hnx]; unfold rowsS; rw [List.length_map])
    have HR16 : Box (∀ r ∈ R, r.length ≤ 16) := box (by
      rw [← hR]; intro r hr; unfold rowsS at hr
      obtain ⟨x, _, rfl⟩ := List.mem_map.1 hr
      exact rankS_len _ _ _)
    have HR4 : Box (R.length ≤ 4) := box (by rw [HRL.out]; omega)
    have HRA : Box (∀ i (h : i < X.length) (h2 : i < R.length), R[i] = rankS X[i] L st) := box (by
      subst hR; intro i h h2; exact List.getElem_map _)
    have hnx4 : nx ≤ 4 := by omega
    clear hv hKS hR hnx hnl hl6
    go_enter Tryz.func19, Tryz.ntmps19
    go_wp2_with fail
    refine (rValid17_is hx ZX hX.out HV HNX0).mono ?_; rintro e w1 ⟨rfl, hb1⟩
    have B1 := box hb1
    have hs1 := hb1.size
    clear hb1
    go_wp2
    go_loopw [7, 8] (fun v i wr => KoRel17 R w v i wr) (fun _ i _ => nx - (intOf i).toNat)
    case atStart => exact ⟨0, rfl, Nat.zero_le _, (ownk_one w1).le hs1, nilk_one w1, box (B1.out.alloc hs1 _)⟩
    case round =>
      obtain ⟨w3, rfl⟩ : ∃ w3, w3 = wr := ⟨_, rfl⟩
      obtain ⟨i, rfl, hi, hO, hN, B3⟩ := hrel
      obtain ⟨K, hK⟩ : ∃ K, prodK (R.take i) = K := ⟨_, rfl⟩
      have hKl : K.length ≤ 65536 := by rw [← hK]; exact take_len HR16.out HR4.out
      have HK6 : Box (∀ k ∈ K, k.length ≤ 65536) := box (by rw [← hK]; exact fun k hk => take_key HR4.out hk)
      have HKE : Box (prodK (R.take i) = K) := box hK
      rw [hK] at hO hN
      have O3 := box hO
      have N3 := box hN
      obtain ⟨ka, kc, rfl, hKs, hkc⟩ := hO.kss
      have hs3 := B3.out.size
      clear hO hN hKs hK
      by_cases hlt : i < nx
      · have hii : (i : Int) < (nx : Int) := by omega
        have hi0 : (0 : Int) ≤ (i : Int) := by omega
        have hiX : i < X.length := by have := HNX0.out; omega
        have hiR : i < R.length := by rw [HRL.out]; exact hlt
        obtain ⟨g, off, v, rfl, c0, c1, b, c, rfl, hss, _⟩ := (hX.out.below B3.out) i hiX
        obtain ⟨z1, z2, z3⟩ := ZX.out i hiX
        obtain ⟨n, hn⟩ : ∃ n, X[i].1 = n := ⟨_, rfl⟩
        obtain ⟨V, hV⟩ : ∃ V, X[i].2 = V := ⟨_, rfl⟩
        have hxi : X[i] = (n, V) := by rw [← hn, ← hV]
        rw [hn] at c0 z1
        rw [hV] at c1 hss z2
        have Z3 : Box (∀ j (hj : j < V.length), V[j].size ≤ 20000) := box (by subst hV; exact z3)
        obtain ⟨m, hm⟩ : ∃ m, V.length = m := ⟨_, rfl⟩
        have HM := box hm
        rw [hm] at c1
        have hv6 : V.length ≤ 65536 := by omega
        obtain ⟨r, hr⟩ : ∃ r, rankS (n, V) L st = r := ⟨_, rfl⟩
        have HR := box hr
        have HRI : Box (R[i] = r) := box (by rw [HRA.out i hiX hiR, hxi]; exact hr)
        have HST : Box (prodK (R.take (i + 1)) = stepK K r) := box (by rw [prodK_take R i hiR, HKE.out, HRI.out])
        have hr16 : r.length ≤ 16 := by rw [← hr]; exact rankS_len _ _ _
        have HSL : Box ((stepK K r).length ≤ 65536) := box (by rw [← HST.out]; exact take_len HR16.out HR4.out)
        have SS := box hss
        have F3 := box (hF.out.below B3.out)
        clear hn hV hss z2 z3 hxi hm hr
        go_wp2_with fail
        refine (rRanked17_is z1 hv6 Z3 FL SS.out F3.out HR HM HNL).mono ?_; rintro e w2 ⟨vr, rfl, hO2, hb2⟩
        obtain ⟨ra, rc, rfl, hSr, hrc⟩ := hO2.ss
        have SR := box hSr
        have O2 := box (O3.out.next hb2)
        have N2 := box (N3.out.below hb2)
        have B2 := box (B3.out.trans (hb2.mono hs3))
        have hs2 := B2.out.size
        clear hO2 hSr hb2 c0 c1 O3 N3
        go_wp2
        go_loopw [10, 11] (fun v i wr => KnRel K r w2 v i wr) (fun _ i _ => K.length - (intOf i).toNat)
        case atStart => exact ⟨0, rfl, Nat.zero_le _, OwnK.nil _ _, box (Below.refl _ _)⟩
        case round =>
          obtain ⟨w4, rfl⟩ : ∃ w4, w4 = wr := ⟨_, rfl⟩
          obtain ⟨k, rfl, hk, hO4, B4⟩ := hrel
          have O4 := box hO4
          have hs4 := B4.out.size
          obtain ⟨na, nc, rfl, _, hnc⟩ := hO4.kss
          obtain ⟨N0, hN0⟩ : ∃ N0, stepK (K.take k) r = N0 := ⟨_, rfl⟩
          rw [hN0] at O4 hnc ⊢
          clear hO4
          by_cases hkl : k < K.length
          · have hki : (k : Int) < (K.length : Int) := by omega
            have hk0 : (0 : Int) ≤ (k : Int) := by omega
            obtain ⟨M, hM⟩ : ∃ M, K[k] = M := ⟨_, rfl⟩
            have hM6 : M.length ≤ 65536 := by rw [← hM]; exact HK6.out _ (List.getElem_mem hkl)
            obtain ⟨gk, ck, u, hka, c1w, hU⟩ := O2.out.at k hkl
            injection hka with e1 e2 e3
            subst e1; subst e3
            rw [hM] at hU
            have HU2 := box hU
            have HNIL2 : Box (M = [] → u = .slice none 0 0) := box (fun h0 => by
              have h1 := N2.out gk _ _ k hkl rfl (by rw [hM]; exact h0)
              rw [c1w] at h1
              exact Option.some.inj h1)
            have HSN : Box (stepK (K.take (k + 1)) r = N0 ++ r.map fun v => M ++ [v]) := box (by rw [stepK_next hkl, hN0, hM])
            have HSN2 : Box ((stepK (K.take (k + 1)) r).length ≤ 65536) := box (by
              have h1 := HSL.out
              rw [stepK_len] at h1 ⊢
              have h2 : (K.take (k + 1)).length * r.length ≤ K.length * r.length := Nat.mul_le_mul_right _ (by rw [List.length_take]; omega)
              omega)
            clear hM hU hN0
            go_wp2
            go_loopw [10, 12] (fun v i wr => KjRel N0 M r w2 v i wr) (fun _ i _ => r.length - (intOf i).toNat)
            case atStart => exact ⟨0, rfl, Nat.zero_le _, by rw [List.take_zero, List.map_nil, List.append_nil]; exact O4.out, B4⟩
            case round =>
              obtain ⟨ws, rfl⟩ : ∃ ws, ws = wr := ⟨_, rfl⟩
              obtain ⟨j, rfl, hj, hO5, BL⟩ := hrel
              have hs2s := BL.out.size
              obtain ⟨N, hNe⟩ : ∃ N, (N0 ++ (r.take j).map fun v => M ++ [v]) = N := ⟨_, rfl⟩
              rw [hNe] at hO5
              obtain ⟨qa, qc, rfl, _, hqc⟩ := hO5.kss
              obtain ⟨vn, hvn⟩ : ∃ vn, Value.slice qa N.length qc = vn := ⟨_, rfl⟩
              rw [hvn] at hO5 ⊢
              have HNX := box hO5
              by_cases hjr : j < r.length
              · have hji : (j : Int) < (r.length : Int) := by omega
                have hj0 : (0 : Int) ≤ (j : Int) := by omega
                obtain ⟨x, hx0⟩ : ∃ x, r[j] = x := ⟨_, rfl⟩
                obtain ⟨gr, offr, rfl, c2w⟩ := SR.out j hjr
                rw [hx0] at c2w
                obtain ⟨Y, hY⟩ : ∃ Y, M ++ [x] = Y := ⟨_, rfl⟩
                have HY := box hY
                have HNN : Box (N ++ [Y] = N0 ++ (r.take (j + 1)).map fun v => M ++ [v]) := box (by rw [kj_more hjr, hNe, hx0, hY])
                have hN6 : N.length ≤ 65536 := by
                  have h1 := HSN2.out
                  rw [HSN.out, List.length_append, List.length_map] at h1
                  rw [← hNe, List.length_append, List.length_map, List.length_take]
                  omega
                have c1 := (BL.out.cell (cell_lt c1w)).trans c1w
                have c2 := (BL.out.cell (cell_lt c2w)).trans c2w
                have HU : Box (OwnS ws w.heap.size u M) := box (own_below HU2.out BL.out)
                have HNIL := HNIL2
                have BS0 := box ((Below.refl ws.heap.size ws).drew)
                clear hO5 hvn hNe hx0 hY
                go_wp2
                refine wp_region_held_drew (S := fun w' : World => (w'.cell? ⟨gk, k, none⟩ = some u ∧ w'.cell? ⟨gr, offr + j, none⟩ = some (.string x)) ∧ Box (Below w2.heap.size w2 w')) (by kernel_rfl) ⟨⟨c1, c2⟩, box BL.out.drew⟩ (fun hHeld => ?_)
                refine wpAnyH_take (i := 0) (oi := { dst := some 42, op := Op.move (Operand.tmp 10), type := 36, pos := "variants.go:315", after := #[], guard := none }) (v := ?v0z) rfl (by kernel_rfl) (by kernel_rfl) (by kernel_rfl) (fun _ _ _ h => h) (Or.inl ⟨by rfl, ?y0z⟩) (by assumption) ?r0z
                case y0z => (intro w hSw; (try dsimp only at hSw); go_simp; first | done | with_reducible rfl)
                try simp only [Act.put, List.setIfInBounds_toArray, List.set_cons_zero, List.set_cons_succ]
                refine wpAnyH_take (i := 1) (oi := { dst := some 43, op := Op.move (Operand.tmp 7), type := 36, pos := "variants.go:315", after := #[], guard := none }) (v := ?v1z) rfl (by kernel_rfl) (by kernel_rfl) (by kernel_rfl) (fun _ _ _ h => h) (Or.inl ⟨by rfl, ?y1z⟩) (by assumption) ?r1z
                case y1z => (intro w hSw; (try dsimp only at hSw); go_simp; first | done | with_reducible rfl)
                try simp only [Act.put, List.setIfInBounds_toArray, List.set_cons_zero, List.set_cons_succ]
                refine wpAnyH_take (i := 2) (oi := { dst := some 44, op := Op.move (Operand.tmp 11), type := 3, pos := "variants.go:315", after := #[], guard := none }) (v := ?v2z) rfl (by kernel_rfl) (by kernel_rfl) (by kernel_rfl) (fun _ _ _ h => h) (Or.inl ⟨by rfl, ?y2z⟩) (by assumption) ?r2z
                case y2z => (intro w hSw; (try dsimp only at hSw); go_simp; first | done | with_reducible rfl)
                try simp only [Act.put, List.setIfInBounds_toArray, List.set_cons_zero, List.set_cons_succ]
                refine wpAnyH_take (i := 3) (oi := { dst := some 45, op := Op.indexAddr 36 (Operand.tmp 43) (Operand.tmp 44), type := 0, pos := "variants.go:315", after := #[{ on := 1, ground := Ground.data }, { on := 2, ground := Ground.data }], guard := none }) (v := ?v3z) rfl (by kernel_rfl) (by kernel_rfl) (by kernel_rfl) (fun _ _ _ h => h) (Or.inl ⟨by rfl, ?y3z⟩) (by assumption) ?r3z
                case y3z => (intro w hSw; (try dsimp only at hSw); go_simp; first | done | with_reducible rfl)
                try simp only [Act.put, List.setIfInBounds_toArray, List.set_cons_zero, List.set_cons_succ]
                refine wpAnyH_take (i := 4) (oi := { dst := some 46, op := Op.load 22 (Operand.tmp 45), type := 22, pos := "variants.go:315", after := #[{ on := 3, ground := Ground.data }], guard := none }) (v := ?v4z) rfl (by kernel_rfl) (by kernel_rfl) (by kernel_rfl) (fun _ _ _ h => h) (Or.inl ⟨by rfl, ?y4z⟩) (by assumption) ?r4z
                case y4z => (intro w hSw; (try dsimp only at hSw); go_simp; first | done | with_reducible rfl)
                try simp only [Act.put, List.setIfInBounds_toArray, List.set_cons_zero, List.set_cons_succ]
                refine wpAnyH_take (i := 6) (oi := { dst := some 48, op := Op.move (Operand.tmp 9), type := 22, pos := "variants.go:315", after := #[], guard := none }) (v := ?v6z) rfl (by kernel_rfl) (by kernel_rfl) (by kernel_rfl) (fun _ _ _ h => h) (Or.inl ⟨by rfl, ?y6z⟩) (by assumption) ?r6z
                case y6z => (intro w hSw; (try dsimp only at hSw); go_simp; first | done | with_reducible rfl)
                try simp only [Act.put, List.setIfInBounds_toArray, List.set_cons_zero, List.set_cons_succ]
                refine wpAnyH_take (i := 7) (oi := { dst := some 49, op := Op.move (Operand.tmp 12), type := 3, pos := "variants.go:315", after := #[], guard := none }) (v := ?v7z) rfl (by kernel_rfl) (by kernel_rfl) (by kernel_rfl) (fun _ _ _ h => h) (Or.inl ⟨by rfl, ?y7z⟩) (by assumption) ?r7z
                case y7z => (intro w hSw; (try dsimp only at hSw); go_simp; first | done | with_reducible rfl)
                try simp only [Act.put, List.setIfInBounds_toArray, List.set_cons_zero, List.set_cons_succ]
                refine wpAnyH_take (i := 8) (oi := { dst := some 50, op := Op.indexAddr 22 (Operand.tmp 48) (Operand.tmp 49), type := 0, pos := "variants.go:315", after := #[{ on := 6, ground := Ground.data }, { on := 7, ground := Ground.data }], guard := none }) (v := ?v8z) rfl (by kernel_rfl) (by kernel_rfl) (by kernel_rfl) (fun _ _ _ h => h) (Or.inl ⟨by rfl, ?y8z⟩) (by assumption) ?r8z
                case y8z => (intro w hSw; (try dsimp only at hSw); go_simp; first | done | with_reducible rfl)
                try simp only [Act.put, List.setIfInBounds_toArray, List.set_cons_zero, List.set_cons_succ]
                refine wpAnyH_take (i := 9) (oi := { dst := some 51, op := Op.load 9 (Operand.tmp 50), type := 9, pos := "variants.go:315", after := #[{ on := 8, ground := Ground.data }], guard := none }) (v := ?v9z) rfl (by kernel_rfl) (by kernel_rfl) (by kernel_rfl) (fun _ _ _ h => h) (Or.inl ⟨by rfl, ?y9z⟩) (by assumption) ?r9z
                case y9z => (intro w hSw; (try dsimp only at hSw); go_simp; first | done | with_reducible rfl)
                try simp only [Act.put, List.setIfInBounds_toArray, List.set_cons_zero, List.set_cons_succ]
                refine wpAnyH_ready (rs := [5, 10]) (by kernel_rfl) (by simp) ?_
                refine AllReadyH.cons (o := { dst := some 47, op := Op.call { callee := Callee.builtin Builtin.append, args := #[Operand.const (Value.slice none 0 0), Operand.tmp 46], argTypes := #[22, 22] }, type := 22, pos := "variants.go:315", after := #[{ on := 4, ground := Ground.data }], guard := none }) rfl (fun K hK => ?_) (AllReadyH.cons (o := { dst := some 52, op := Op.buildSlice 22 1 #[(0, Operand.tmp 51)], type := 22, pos := "variants.go:315", after := #[{ on := 9, ground := Ground.data }], guard := none }) rfl (fun K hK => ?_) AllReadyH.nil)
                · refine step_append_self _ rfl (.const (.slice none 0 0)) (.tmp 46) rfl rfl u M w.heap.size rfl (own_below HU.out BS0.out) HNIL.out hM6 ?_
                  intro v6 w6 hO6 hb6
                  have hl5 := BS0.out.size
                  have BS1 := box (BS0.out.trans (hb6.mono BS0.out.size))
                  refine hK.out _ _ ⟨⟨(BS1.out.cell (cell_lt c1)).trans c1, (BS1.out.cell (cell_lt c2)).trans c2⟩, box (BL.out.trans (BS1.out.mono hs2s))⟩ (fun hHeld => ?_)
                  clear hK K
                  try simp only [Act.put, List.setIfInBounds_toArray, List.set_cons_zero, List.set_cons_succ]
                  refine wpAnyH_ready (rs := [10]) (by kernel_rfl) (by simp) ?_
                  refine AllReadyH.cons (o := { dst := some 52, op := Op.buildSlice 22 1 #[(0, Operand.tmp 51)], type := 22, pos := "variants.go:315", after := #[{ on := 9, ground := Ground.data }], guard := none }) rfl (fun K hK => ?_) AllReadyH.nil
                  go_simp
                  have BS2 := box (BS1.out.alloc BS1.out.size (.cells #[.string x] 9))
                  go_wp2_with fail
                  refine hK.out _ _ ⟨⟨(BS2.out.cell (cell_lt c1)).trans c1, (BS2.out.cell (cell_lt c2)).trans c2⟩, box (BL.out.trans (BS2.out.mono hs2s))⟩ (fun hHeld => ?_)
                  clear hK K
                  try simp only [Act.put, List.setIfInBounds_toArray, List.set_cons_zero, List.set_cons_succ]
                  refine wpAnyH_ready (rs := [11]) (by kernel_rfl) (by simp) ?_
                  refine AllReadyH.cons (o := { dst := some 53, op := Op.call { callee := Callee.builtin Builtin.append, args := #[Operand.tmp 47, Operand.tmp 52], argTypes := #[22, 22] }, type := 22, pos := "variants.go:315", after := #[{ on := 5, ground := Ground.data }, { on := 10, ground := Ground.data }, { on := 5, ground := Ground.chain }], guard := none }) rfl (fun K hK => ?_) AllReadyH.nil
                  refine step_append_str _ rfl (.tmp 47) (.tmp 52) rfl ws.drew.heap.size v6 M rfl ?a11A _ _ rfl x ?b11A hM6 ?d11A ?_
                  case a11A => exact own_below hO6 (below_new _ _)
                  case b11A => exact (World.cell?_alloc_at (w := w6) #[.string x] 9 w6.heap.size 0 rfl).trans rfl
                  case d11A => exact Nat.le_trans hb6.size (below_new _ _).size
                  intro v7 w7 hO7 hb7
                  rw [HY.out] at hO7
                  obtain ⟨b7, e7, rfl, _, _⟩ := hO7.ss
                  have BS3 := box (BS2.out.trans (hb7.mono hl5))
                  refine hK.out _ _ ⟨⟨(BS3.out.cell (cell_lt c1)).trans c1, (BS3.out.cell (cell_lt c2)).trans c2⟩, box (BL.out.trans (BS3.out.mono hs2s))⟩ (fun hHeld => ?_)
                  clear hK K
                  try simp only [Act.put, List.setIfInBounds_toArray, List.set_cons_zero, List.set_cons_succ]
                  refine wpAnyH_ready (rs := [12]) (by kernel_rfl) (by simp) ?_
                  refine AllReadyH.cons (o := { dst := some 54, op := Op.buildSlice 36 1 #[(0, Operand.tmp 53)], type := 36, pos := "variants.go:315", after := #[{ on := 11, ground := Ground.data }], guard := none }) rfl (fun K hK => ?_) AllReadyH.nil
                  go_simp
                  have BS4 := box (BS3.out.alloc BS3.out.size (.cells #[.slice b7 Y.length e7] 22))
                  go_wp2_with fail
                  refine hK.out _ _ ⟨⟨(BS4.out.cell (cell_lt c1)).trans c1, (BS4.out.cell (cell_lt c2)).trans c2⟩, box (BL.out.trans (BS4.out.mono hs2s))⟩ (fun hHeld => ?_)
                  clear hK K
                  try simp only [Act.put, List.setIfInBounds_toArray, List.set_cons_zero, List.set_cons_succ]
                  refine wpAnyH_ready (rs := [13]) (by kernel_rfl) (by simp) ?_
                  refine AllReadyH.cons (o := { dst := some 55, op := Op.call { callee := Callee.builtin Builtin.append, args := #[Operand.tmp 42, Operand.tmp 54], argTypes := #[36, 36] }, type := 36, pos := "variants.go:315", after := #[{ on := 0, ground := Ground.data }, { on := 12, ground := Ground.data }, { on := 11, ground := Ground.chain }], guard := none }) rfl (fun K hK => ?_) AllReadyH.nil
                  refine step_append_key _ rfl (.tmp 42) (.tmp 54) rfl w2.heap.size vn N rfl ?a13A _ _ rfl (.slice b7 Y.length e7) Y ?b13A ?u13A hN6 ?d13A ?_
                  case a13A => exact HNX.out.next BS4.out
                  case b13A => exact (World.cell?_alloc_at (w := w7) #[.slice b7 Y.length e7] 22 w7.heap.size 0 rfl).trans rfl
                  case u13A => exact Go.Joins.ownsRow_le (own_below hO7 (below_new _ _)) (Nat.le_trans hs2s hl5)
                  case d13A => exact Nat.le_trans hs2s BS4.out.size
                  intro v8 w8 hO8 hb8
                  have BE := box ((BL.out.trans (BS4.out.mono hs2s)).trans hb8)
                  refine hK.out _ _ ⟨⟨(BE.out.cell (cell_lt c1w)).trans c1w, (BE.out.cell (cell_lt c2w)).trans c2w⟩, BE⟩ (fun hHeld => ?_)
                  clear hK K
                  try simp only [Act.put, List.setIfInBounds_toArray, List.set_cons_zero, List.set_cons_succ]
                  refine wpAnyH_take (i := 14) (oi := { dst := some 10, op := Op.assign (Operand.tmp 55), type := 36, pos := "variants.go:315", after := #[{ on := 13, ground := Ground.data }, { on := 13, ground := Ground.chain }, { on := 0, ground := Ground.phase }, { on := 1, ground := Ground.phase }, { on := 2, ground := Ground.phase }, { on := 3, ground := Ground.phase }, { on := 4, ground := Ground.phase }, { on := 5, ground := Ground.phase }, { on := 6, ground := Ground.phase }, { on := 7, ground := Ground.phase }, { on := 8, ground := Ground.phase }, { on := 9, ground := Ground.phase }, { on := 10, ground := Ground.phase }, { on := 11, ground := Ground.phase }, { on := 12, ground := Ground.phase }, { on := 13, ground := Ground.phase }], guard := none }) (v := ?v14zA) rfl (by kernel_rfl) (by kernel_rfl) (by kernel_rfl) (fun _ _ _ h => h) (Or.inl ⟨by rfl, ?y14zA⟩) (by assumption) ?r14zA
                  case y14zA => (intro w hSw; (try dsimp only at hSw); go_simp; first | done | with_reducible rfl)
                  try simp only [Act.put, List.setIfInBounds_toArray, List.set_cons_zero, List.set_cons_succ]
                  refine wpAnyH_done (by kernel_rfl) ?_ _
                  rw [HNN.out] at hO8
                  have O8 := box hO8
                  clear hO8 hb8 hb7 hb6 hO7 hO6 BS0 BS1 BS2 BS3 BS4 hHeld
                  go_wp2
                  go_roundw
                  case rel => exact ⟨j + 1, by go_num, by omega, O8.out, BE⟩
                  case measure => simp [intOf]; omega
                · go_simp
                  have BS1 := box (BS0.out.alloc BS0.out.size (.cells #[.string x] 9))
                  go_wp2_with fail
                  refine hK.out _ _ ⟨⟨(BS1.out.cell (cell_lt c1)).trans c1, (BS1.out.cell (cell_lt c2)).trans c2⟩, box (BL.out.trans (BS1.out.mono hs2s))⟩ (fun hHeld => ?_)
                  clear hK K
                  try simp only [Act.put, List.setIfInBounds_toArray, List.set_cons_zero, List.set_cons_succ]
                  have c52 := (World.cell?_alloc_at (w := ws.drew) #[.string x] 9 ws.drew.heap.size 0 rfl).trans rfl
                  refine wpAnyH_ready (rs := [5]) (by kernel_rfl) (by simp) ?_
                  refine AllReadyH.cons (o := { dst := some 47, op := Op.call { callee := Callee.builtin Builtin.append, args := #[Operand.const (Value.slice none 0 0), Operand.tmp 46], argTypes := #[22, 22] }, type := 22, pos := "variants.go:315", after := #[{ on := 4, ground := Ground.data }], guard := none }) rfl (fun K hK => ?_) AllReadyH.nil
                  refine step_append_self _ rfl (.const (.slice none 0 0)) (.tmp 46) rfl rfl u M w.heap.size rfl (own_below HU.out BS1.out) HNIL.out hM6 ?_
                  intro v6 w6 hO6 hb6
                  have hl5 := BS1.out.size
                  have BS2 := box (BS1.out.trans (hb6.mono BS1.out.size))
                  refine hK.out _ _ ⟨⟨(BS2.out.cell (cell_lt c1)).trans c1, (BS2.out.cell (cell_lt c2)).trans c2⟩, box (BL.out.trans (BS2.out.mono hs2s))⟩ (fun hHeld => ?_)
                  clear hK K
                  try simp only [Act.put, List.setIfInBounds_toArray, List.set_cons_zero, List.set_cons_succ]
                  refine wpAnyH_ready (rs := [11]) (by kernel_rfl) (by simp) ?_
                  refine AllReadyH.cons (o := { dst := some 53, op := Op.call { callee := Callee.builtin Builtin.append, args := #[Operand.tmp 47, Operand.tmp 52], argTypes := #[22, 22] }, type := 22, pos := "variants.go:315", after := #[{ on := 5, ground := Ground.data }, { on := 10, ground := Ground.data }, { on := 5, ground := Ground.chain }], guard := none }) rfl (fun K hK => ?_) AllReadyH.nil
                  refine step_append_str _ rfl (.tmp 47) (.tmp 52) rfl (ws.drew.alloc (.cells #[.string x] 9)).heap.size v6 M rfl ?a11B _ _ rfl x ?b11B hM6 ?d11B ?_
                  case a11B => exact hO6
                  case b11B => exact (hb6.cell (cell_lt c52)).trans c52
                  case d11B => exact hb6.size
                  intro v7 w7 hO7 hb7
                  rw [HY.out] at hO7
                  obtain ⟨b7, e7, rfl, _, _⟩ := hO7.ss
                  have BS3 := box (BS2.out.trans (hb7.mono hl5))
                  refine hK.out _ _ ⟨⟨(BS3.out.cell (cell_lt c1)).trans c1, (BS3.out.cell (cell_lt c2)).trans c2⟩, box (BL.out.trans (BS3.out.mono hs2s))⟩ (fun hHeld => ?_)
                  clear hK K
                  try simp only [Act.put, List.setIfInBounds_toArray, List.set_cons_zero, List.set_cons_succ]
                  refine wpAnyH_ready (rs := [12]) (by kernel_rfl) (by simp) ?_
                  refine AllReadyH.cons (o := { dst := some 54, op := Op.buildSlice 36 1 #[(0, Operand.tmp 53)], type := 36, pos := "variants.go:315", after := #[{ on := 11, ground := Ground.data }], guard := none }) rfl (fun K hK => ?_) AllReadyH.nil
                  go_simp
                  have BS4 := box (BS3.out.alloc BS3.out.size (.cells #[.slice b7 Y.length e7] 22))
                  go_wp2_with fail
                  refine hK.out _ _ ⟨⟨(BS4.out.cell (cell_lt c1)).trans c1, (BS4.out.cell (cell_lt c2)).trans c2⟩, box (BL.out.trans (BS4.out.mono hs2s))⟩ (fun hHeld => ?_)
                  clear hK K
                  try simp only [Act.put, List.setIfInBounds_toArray, List.set_cons_zero, List.set_cons_succ]
                  refine wpAnyH_ready (rs := [13]) (by kernel_rfl) (by simp) ?_
                  refine AllReadyH.cons (o := { dst := some 55, op := Op.call { callee := Callee.builtin Builtin.append, args := #[Operand.tmp 42, Operand.tmp 54], argTypes := #[36, 36] }, type := 36, pos := "variants.go:315", after := #[{ on := 0, ground := Ground.data }, { on := 12, ground := Ground.data }, { on := 11, ground := Ground.chain }], guard := none }) rfl (fun K hK => ?_) AllReadyH.nil
                  refine step_append_key _ rfl (.tmp 42) (.tmp 54) rfl w2.heap.size vn N rfl ?a13B _ _ rfl (.slice b7 Y.length e7) Y ?b13B ?u13B hN6 ?d13B ?_
                  case a13B => exact HNX.out.next BS4.out
                  case b13B => exact (World.cell?_alloc_at (w := w7) #[.slice b7 Y.length e7] 22 w7.heap.size 0 rfl).trans rfl
                  case u13B => exact Go.Joins.ownsRow_le (own_below hO7 (below_new _ _)) (Nat.le_trans hs2s hl5)
                  case d13B => exact Nat.le_trans hs2s BS4.out.size
                  intro v8 w8 hO8 hb8
                  have BE := box ((BL.out.trans (BS4.out.mono hs2s)).trans hb8)
                  refine hK.out _ _ ⟨⟨(BE.out.cell (cell_lt c1w)).trans c1w, (BE.out.cell (cell_lt c2w)).trans c2w⟩, BE⟩ (fun hHeld => ?_)
                  clear hK K
                  try simp only [Act.put, List.setIfInBounds_toArray, List.set_cons_zero, List.set_cons_succ]
                  refine wpAnyH_take (i := 14) (oi := { dst := some 10, op := Op.assign (Operand.tmp 55), type := 36, pos := "variants.go:315", after := #[{ on := 13, ground := Ground.data }, { on := 13, ground := Ground.chain }, { on := 0, ground := Ground.phase }, { on := 1, ground := Ground.phase }, { on := 2, ground := Ground.phase }, { on := 3, ground := Ground.phase }, { on := 4, ground := Ground.phase }, { on := 5, ground := Ground.phase }, { on := 6, ground := Ground.phase }, { on := 7, ground := Ground.phase }, { on := 8, ground := Ground.phase }, { on := 9, ground := Ground.phase }, { on := 10, ground := Ground.phase }, { on := 11, ground := Ground.phase }, { on := 12, ground := Ground.phase }, { on := 13, ground := Ground.phase }], guard := none }) (v := ?v14zB) rfl (by kernel_rfl) (by kernel_rfl) (by kernel_rfl) (fun _ _ _ h => h) (Or.inl ⟨by rfl, ?y14zB⟩) (by assumption) ?r14zB
                  case y14zB => (intro w hSw; (try dsimp only at hSw); go_simp; first | done | with_reducible rfl)
                  try simp only [Act.put, List.setIfInBounds_toArray, List.set_cons_zero, List.set_cons_succ]
                  refine wpAnyH_done (by kernel_rfl) ?_ _
                  rw [HNN.out] at hO8
                  have O8 := box hO8
                  clear hO8 hb8 hb7 hb6 hO7 hO6 BS0 BS1 BS2 BS3 BS4 hHeld c52
                  go_wp2
                  go_roundw
                  case rel => exact ⟨j + 1, by go_num, by omega, O8.out, BE⟩
                  case measure => simp [intOf]; omega
              · have hji : ¬ (j : Int) < (r.length : Int) := by omega
                have HJE : Box (N = stepK (K.take (k + 1)) r) := box (by rw [HSN.out, ← hNe, show j = r.length from by omega, List.take_length])
                clear hNe
                go_wp2
                go_roundw
                case rel => exact ⟨k + 1, by go_num, by omega, by rw [← HJE.out]; exact HNX.out, BL⟩
                case measure => simp [intOf]; omega
          · have hki : ¬ (k : Int) < (K.length : Int) := by omega
            have HE : Box (N0 = prodK (R.take (i + 1))) := box (by rw [HST.out, ← hN0, show k = K.length from by omega, List.take_length])
            have HNN : Box (∀ k ∈ N0, k ≠ []) := box (by
              rw [HE.out]; intro k2 hk2 h0
              have h1 := (prodK_mem _ _ hk2).1
              rw [h0, List.length_take] at h1
              simp at h1
              omega)
            have B5 := box (B2.out.trans (B4.out.mono hs2))
            have O5 := box (O4.out.le hs2)
            clear hN0
            go_wp2
            go_roundw
            case rel => exact ⟨i + 1, by go_num, by omega, by rw [← HE.out]; exact O5.out, by rw [← HE.out]; exact NilK.full HNN.out, B5⟩
            case measure => simp [intOf]; omega
      · have hii : ¬ (i : Int) < (nx : Int) := by omega
        have HKE2 : Box (prodK R = K) := box (by rw [← HKE.out, List.take_of_length_le (by rw [HRL.out]; omega)])
        by_cases h64 : 64 < K.length
        · have h64i : (64 : Int) < (K.length : Int) := by omega
          obtain ⟨gk, ck, u, hka, _, _⟩ := O3.out.at 0 (by omega)
          injection hka with e1 e2 e3
          subst e1; subst e3
          have O64 := box (O3.out.cut (m := 64) (by omega))
          go_wp2
          go_ret
          exact ⟨_, rfl, by rw [HKS.out, HKE2.out]; exact O64.out, B3.out⟩
        · have h64i : ¬ (64 : Int) < (K.length : Int) := by omega
          have HT : Box (K.take 64 = K) := box (List.take_of_length_le (by omega))
          go_wp2
          go_ret
          exact ⟨_, rfl, by rw [HKS.out, HKE2.out, HT.out]; exact O3.out, B3.out⟩
end
section
abbrev LV := Int × List ByteArray
def insV (p : Int) (x : ByteArray) : List LV → List LV
  | [] => [(p, [x])]
  | t :: r => if t.1 < p then (p, [x]) :: t :: r else if t.1 = p then (t.1, t.2 ++ [x]) :: r else t :: insV p x r
def DescV : List LV → Prop
  | [] => True
  | t :: r => (∀ s ∈ r, s.1 < t.1) ∧ DescV r
def flatV (l : List LV) : List ByteArray := l.flatMap (·.2)
def GoodV (q : ByteArray → Int) (l : List LV) : Prop := ∀ t ∈ l, t.2 ≠ [] ∧ ∀ y ∈ t.2, q y = t.1
def stepV (q : ByteArray → Int) (acc : List LV) (v : ByteArray) : List LV := if 0 < q v then insV (q v) v acc else acc
def rankV (q : ByteArray → Int) (V : List ByteArray) : List LV := V.foldl (stepV q) []
theorem insV_mem {p : Int} {x : ByteArray} {s : LV} : ∀ {l : List LV}, s ∈ insV p x l → s.1 = p ∨ s ∈ l
  | [], h => by simp [insV] at h; exact .inl (by rw [h])
  | t :: r, h => by
    unfold insV at h
    split at h
    · rcases List.mem_cons.1 h with h | h
      · exact .inl (by rw [h])
      · exact .inr h
    · split at h
      · rename_i he
        rcases List.mem_cons.1 h with h | h
        · exact .inl (by rw [h]; exact he)
        · exact .inr (by simp [h])
      · rcases List.mem_cons.1 h with h | h
        · exact .inr (by simp [h])
        · rcases insV_mem h with h | h
          · exact .inl h
          · exact .inr (by simp [h])
theorem insV_desc {p : Int} {x : ByteArray} : ∀ {l : List LV}, DescV l → DescV (insV p x l)
  | [], _ => ⟨fun s hs => (by cases hs), trivial⟩
  | t :: r, h => by
    unfold insV
    split
    · rename_i hlt
      refine ⟨fun s hs => ?_, h⟩
      rcases List.mem_cons.1 hs with rfl | hs
      · exact hlt
      · exact Int.lt_trans (h.1 s hs) hlt
    · split
      · exact ⟨h.1, h.2⟩
      · rename_i h1 h2
        refine ⟨fun s hs => ?_, insV_desc h.2⟩
        rcases insV_mem hs with e | hs
        · omega
        · exact h.1 s hs
theorem insV_good {q : ByteArray → Int} {p : Int} {x : ByteArray} (hx : q x = p) : ∀ {l : List LV}, GoodV q l → GoodV q (insV p x l)
  | [], _ => fun t ht => by
    simp [insV] at ht; subst ht
    exact ⟨by simp, fun y hy => by simp at hy; rw [hy]; exact hx⟩
  | t :: r, h => by
    unfold insV
    split
    · intro s hs
      rcases List.mem_cons.1 hs with rfl | hs
      · exact ⟨by simp, fun y hy => by simp at hy; rw [hy]; exact hx⟩
      · exact h s hs
    · split
      · rename_i he
        intro s hs
        rcases List.mem_cons.1 hs with rfl | hs
        · refine ⟨by simp, fun y hy => ?_⟩
          rcases List.mem_append.1 hy with hy | hy
          · exact (h t (by simp)).2 y hy
          · simp at hy; rw [hy, hx]; exact he.symm
        · exact h s (by simp [hs])
      · intro s hs
        rcases List.mem_cons.1 hs with rfl | hs
        · exact h s (by simp)
        · exact insV_good hx (fun t ht => h t (by simp [ht])) s hs
section
variable {q : ByteArray → Int}
theorem insR_front {x : ByteArray} : ∀ {A B : List ByteArray}, (∀ y ∈ A, q x ≤ q y) → insR q x (A ++ B) = A ++ insR q x B
  | [], B, _ => rfl
  | y :: A, B, h => by
    show insR q x (y :: (A ++ B)) = y :: (A ++ insR q x B)
    have := h y (by simp)
    rw [insR, if_neg (by omega), insR_front (fun z hz => h z (by simp [hz]))]
theorem insR_first {x : ByteArray} : ∀ {B : List ByteArray}, (∀ y ∈ B, q y < q x) → insR q x B = x :: B
  | [], _ => rfl
  | y :: B, h => by rw [insR, if_pos (h y (by simp))]
theorem flat_ins {p : Int} {x : ByteArray} (hx : q x = p) : ∀ {l : List LV}, DescV l → GoodV q l → flatV (insV p x l) = insR q x (flatV l)
  | [], _, _ => rfl
  | t :: r, h, hg => by
    have hall : ∀ s ∈ r, ∀ y ∈ s.2, q y = s.1 ∧ s.1 < t.1 := fun s hs y hy => ⟨(hg s (by simp [hs])).2 y hy, h.1 s hs⟩
    have ht : ∀ y ∈ t.2, q y = t.1 := (hg t (by simp)).2
    have hfl : ∀ y ∈ flatV r, q y < t.1 := fun y hy => by
      obtain ⟨s, hs, hy⟩ := List.mem_flatMap.1 hy
      have := hall s hs y hy; omega
    unfold insV
    split
    · rename_i hlt
      show x :: flatV (t :: r) = _
      rw [insR_first]
      intro y hy
      rcases List.mem_append.1 (show y ∈ t.2 ++ flatV r from hy) with hy | hy
      · have := ht y hy; omega
      · have := hfl y hy; omega
    · split
      · rename_i he
        show (t.2 ++ [x]) ++ flatV r = insR q x (t.2 ++ flatV r)
        rw [insR_front (fun y hy => by have := ht y hy; omega), insR_first (fun y hy => by have := hfl y hy; omega)]
        simp
      · rename_i h1 h2
        show t.2 ++ flatV (insV p x r) = insR q x (t.2 ++ flatV r)
        rw [insR_front (fun y hy => by have := ht y hy; omega), flat_ins hx h.2 (fun s hs => hg s (by simp [hs]))]
theorem rankV_next {V : List ByteArray} {j : Nat} (h : j < V.length) : rankV q (V.take (j + 1)) = stepV q (rankV q (V.take j)) V[j] := by
  unfold rankV
  rw [List.take_succ_eq_append_getElem h, List.foldl_append]; rfl
theorem rankV_all : ∀ (n : Nat) (V : List ByteArray), V.length = n → DescV (rankV q V) ∧ GoodV q (rankV q V) ∧ flatV (rankV q V) = rankQ q V
  | 0, V, h => by
    have : V = [] := List.length_eq_zero_iff.1 h
    subst this
    exact ⟨trivial, fun t ht => (by cases ht), rfl⟩
  | n + 1, V, h => by
    obtain ⟨W, x, rfl⟩ : ∃ W x, V = W ++ [x] := by
      have hne : V ≠ [] := by intro e; subst e; simp at h
      exact ⟨V.dropLast, V.getLast hne, (List.dropLast_concat_getLast hne).symm⟩
    obtain ⟨i1, i2, i3⟩ := rankV_all n W (by simpa using h)
    have e : rankV q (W ++ [x]) = stepV q (rankV q W) x := by unfold rankV; rw [List.foldl_append]; rfl
    rw [e, rank_snoc]
    unfold stepV stepR
    by_cases hx : 0 < q x
    · rw [if_pos hx, if_pos hx]
      exact ⟨insV_desc i1, insV_good rfl i2, by rw [flat_ins rfl i1 i2, i3]⟩
    · rw [if_neg hx, if_neg hx]
      exact ⟨i1, i2, i3⟩
end
/-- the levels ahead are greater -/
theorem insV_behind {p : Int} {x : ByteArray} : ∀ {A B : List LV}, (∀ t ∈ A, p < t.1) → insV p x (A ++ B) = A ++ insV p x B
  | [], B, _ => rfl
  | t :: A, B, h => by
    show insV p x (t :: (A ++ B)) = t :: (A ++ insV p x B)
    have := h t (by simp)
    rw [insV, if_neg (by omega), if_neg (by omega), insV_behind (fun z hz => h z (by simp [hz]))]
theorem insV_new {p : Int} {x : ByteArray} : ∀ {B : List LV}, (∀ t ∈ B, t.1 < p) → insV p x B = (p, [x]) :: B
  | [], _ => rfl
  | t :: B, h => by rw [insV, if_pos (h t (by simp))]
theorem insV_old {p : Int} {x : ByteArray} {vs : List ByteArray} {B : List LV} : insV p x ((p, vs) :: B) = (p, vs ++ [x]) :: B := by
  rw [insV, if_neg (by omega), if_pos rfl]
theorem descV_at : ∀ {l : List LV}, DescV l → ∀ i j (hi : i < l.length) (hj : j < l.length), i < j → l[j].1 < l[i].1
  | t :: r, h, 0, j + 1, _, hj, _ => h.1 _ (List.getElem_mem _)
  | t :: r, h, i + 1, j + 1, hi, hj, hij => by
    have := descV_at h.2 i j (by simpa using hi) (by simpa using hj) (by omega)
    exact this
theorem flatV_len {V : List ByteArray} {q : ByteArray → Int} : (flatV (rankV q V)).length ≤ V.length := by
  rw [(rankV_all V.length V rfl).2.2, rank_len]
  exact List.countP_le_length
theorem rankV_len {V : List ByteArray} {q : ByteArray → Int} : (rankV q V).length ≤ V.length := by
  refine Nat.le_trans ?_ (flatV_len (q := q))
  have hg := (rankV_all (q := q) V.length V rfl).2.1
  generalize rankV q V = l at hg
  induction l with
  | nil => simp
  | cons t r ih =>
    have h1 := ih (fun s hs => hg s (by simp [hs]))
    have h2 : 0 < t.2.length := List.length_pos_iff.2 (hg t (by simp)).1
    have e : flatV (t :: r) = t.2 ++ flatV r := rfl
    rw [e, List.length_append, List.length_cons]; omega
end
section
open Go.RowKit
/-- a level in memory: its quality, the slice of its values, the values -/
abbrev TL := Int × Value × List ByteArray
def plT (T : List TL) : List LV := T.map fun t => (t.1, t.2.2)
def cellsT (T : List TL) : List Value := T.flatMap fun t => [.int .i64 t.1, t.2.1]
theorem cellsT_len (T : List TL) : (cellsT T).length = T.length * 2 := by
  induction T with
  | nil => rfl
  | cons p T ih => simp only [cellsT, List.flatMap_cons, List.length_append, List.length_cons, List.length_nil] at *; omega
theorem cellsT_app (T U : List TL) : cellsT (T ++ U) = cellsT T ++ cellsT U := by simp [cellsT]
theorem cellsT_cons (t : TL) (T : List TL) : cellsT (t :: T) = .int .i64 t.1 :: t.2.1 :: cellsT T := rfl
theorem cellsT_at (T : List TL) (i : Nat) (h : i < T.length) : (cellsT T)[i * 2]? = some (.int .i64 T[i].1) ∧ (cellsT T)[i * 2 + 1]? = some T[i].2.1 := by
  have e : T = T.take i ++ T[i] :: T.drop (i + 1) := by rw [← List.drop_eq_getElem_cons h, List.take_append_drop]
  have hl : (cellsT (T.take i)).length = i * 2 := by rw [cellsT_len, List.length_take, Nat.min_eq_left (Nat.le_of_lt h)]
  have e2 : cellsT T = cellsT (T.take i) ++ (.int .i64 T[i].1 :: T[i].2.1 :: cellsT (T.drop (i + 1))) := by
    conv => lhs; rw [e, cellsT_app]
    rfl
  rw [e2]
  constructor
  · rw [List.getElem?_append_right (by omega), hl]; simp
  · rw [List.getElem?_append_right (by omega), hl]; simp
theorem info_lev : (Tryz.prog.info? 99).map (fun i => (i.zero, i.size, i.bytes)) = some (some (.agg #[.int .i64 0, .slice none 0 0]), 2, 32) := by kernel_rfl
def OwnTL (w : World) (B : Nat) (v : Value) (T : List TL) : Prop := w.ownsRow B 99 2 v T.length (cellsT T)
def Apart (s t : TL) : Prop := ∀ k, s.2.1.ownBlock = some k → t.2.1.ownBlock ≠ some k
/-- the levels, all of them from block B on -/
structure Lev (w : World) (B : Nat) (v : Value) (T : List TL) : Prop where
  row : OwnTL w B v T
  vals : ∀ t ∈ T, OwnS w B t.2.1 t.2.2
  apart : T.Pairwise Apart
theorem Apart.symm {s t : TL} (h : Apart s t) : Apart t s := fun k h1 h2 => h k h2 h1
section
variable {w w' : World} {B : Nat} {v : Value} {T : List TL}
theorem Lev.nil (w : World) (B : Nat) : Lev w B (.slice none 0 0) [] := ⟨World.ownsRow_nil _ _ _ _, fun t ht => (by cases ht), List.Pairwise.nil⟩
theorem Lev.below (h : Lev w B v T) (hb : Below w.heap.size w w') : Lev w' B v T := ⟨own_below h.row hb, fun t ht => own_below (h.vals t ht) hb, h.apart⟩
/-- levels at an address -/
def Ts (w : World) (a : Option Addr) (T : List TL) : Prop :=
  ∀ i (h : i < T.length), ∃ g off, a = some ⟨g, off, none⟩ ∧ w.cell? ⟨g, off + i * 2, none⟩ = some (.int .i64 T[i].1) ∧ w.cell? ⟨g, off + i * 2 + 1, none⟩ = some T[i].2.1
theorem Ts.below {a : Option Addr} (h : Ts w a T) (hb : Below w.heap.size w w') : Ts w' a T := fun i hi => by
  obtain ⟨g, off, e, c0, c1⟩ := h i hi
  exact ⟨g, off, e, (hb.cell (cell_lt c0)).trans c0, (hb.cell (cell_lt c1)).trans c1⟩
theorem OwnTL.ts (h : OwnTL w B v T) : ∃ a cap, v = .slice a T.length cap ∧ Ts w a T ∧ T.length ≤ cap := by
  rcases h.2 with ⟨rfl, hn⟩ | ⟨g, cap, cur, rfl, hB, hg, hc, hm, hs, ht⟩
  · exact ⟨none, 0, by rw [hn], fun i hi => by omega, by omega⟩
  · refine ⟨_, cap, rfl, fun i hi => ⟨g, 0, rfl, ?_, ?_⟩, hc⟩
    all_goals
      obtain ⟨q0, q1⟩ := cellsT_at T i hi
      rw [← ht] at q0 q1
      rw [List.getElem?_take] at q0 q1
      rw [if_pos (by omega)] at q0 q1
      simp only [World.cell?, hg]
    · simpa using q0
    · simpa [Nat.add_assoc] using q1
/-- a slice of strings is written out -/
theorem Lev.slice (h : Lev w B v T) {t : TL} (ht : t ∈ T) : ∃ a cap, t.2.1 = .slice a t.2.2.length cap ∧ Ss w a t.2.2 ∧ t.2.2.length ≤ cap := (h.vals t ht).ss
/-- the row lies in another block than the strings -/
theorem lev_ne {L : List ByteArray} {s : Value} (h : OwnTL w B v T) (h2 : OwnS w B s L) {k : Nat} (hk : v.ownBlock = some k) : s.ownBlock ≠ some k := by
  intro hs
  rcases h.2 with ⟨rfl, _⟩ | ⟨g, cap, cur, rfl, hB, hg, _⟩
  · simp [Value.ownBlock] at hk
  · rcases h2.2 with ⟨rfl, _⟩ | ⟨g2, cap2, cur2, rfl, hB2, hg2, _⟩
    · simp [Value.ownBlock] at hs
    · simp [Value.ownBlock] at hk hs
      subst hk; subst hs
      rw [hg] at hg2
      have := (Option.some.inj hg2)
      injection this with _ e _
      exact absurd e (by decide)
end
/-- append of a slice of strings -/
theorem wpList_append_strs (w : World) {ops : Array Oper} {rest : List Oper} {o : Oper} {a : Act} {Q : Exit → Act → World → Prop} (hgd : o.guard = none) (s x : Operand)
    (ho : o.op = .call { callee := .builtin .append, args := #[s, x], argTypes := #[22, 22] })
    (B : Nat) (v : Value) (L : List ByteArray) (hs : a.eval s = v) (hown : OwnS w B v L)
    (M : List ByteArray) (p : Addr) (n c : Nat) (hx : a.eval x = .slice (some p) n c) (hn : M.length = n) (hM : Ss w (some p) M) (h0 : 0 < n) (hl : L.length ≤ 65536) (hl2 : n ≤ 65536) (hB : B ≤ w.heap.size)
    (h : ∀ v' w', OwnS w' B v' (L ++ M) → Below B w w' → wpList Tryz.prog ops Q rest (a.put o.dst v') w') : wpList Tryz.prog ops Q (o :: rest) a w := by
  obtain ⟨i0, hi0, hz0, hz1, hz2⟩ := info_parts info_str
  refine wpList_append_own (P := Tryz.prog) w hgd s x 22 ho B 9 i0 _ 1 16 Tryz.underlying22 hi0 hz0 hz1 hz2 rfl (by decide) v L.length (L.map Value.string) hs hown p n c (M.map Value.string) hx (by simp [hn]) ?_ ?_ (by unfold maxLen; omega) (by omega) hB ?_
  · intro j u hj
    have hjl : j < M.length := by
      rcases Nat.lt_or_ge j M.length with h | h
      · exact h
      · rw [List.getElem?_eq_none (by simpa using h)] at hj; cases hj
    obtain ⟨g, off, e, c0⟩ := hM j hjl
    cases e
    simp [hjl] at hj
    subst hj
    rw [Addr.add_lit]; exact c0
  · intro u hu
    obtain ⟨y, _, rfl⟩ := List.mem_map.1 hu
    rfl
  · intro v' w' q1 q2 _
    refine h v' w' (by simpa [OwnS, hn] using q1) ((Below.refl _ _).grown q2 hB (fun k hk => own_block hown k hk))
/-- copy into a row, elements of any number of cells -/
theorem run_copy_rowN {P : Program} (w : World) (dT sT ty elem : TypeId) (size n : Nat) (g o dLen dCap : Nat) (a : Addr) (sLen sCap : Nat) (cur : Array Value) (t : TypeId) (cs : List Value)
    (hu : P.underlying dT = some (.slice elem)) (hs : (P.info? elem).map (·.size) = some size)
    (hg : w.heap[g]? = some (.cells cur t (0, 0))) (hn : n = Nat.min sLen dLen) (hl : cs.length = n * size)
    (hsrc : ∀ j v, cs[j]? = some v → w.cell? (a.add j) = some v) (hfit : o + cs.length ≤ cur.size) (h1 : ∀ v ∈ cs, v.oneCell' = true) :
    (Builtin.copy_ #[dT, sT] ty #[.slice (some ⟨g, o, none⟩) dLen dCap, .slice (some a) sLen sCap]).run P w =
      .ok (goInt n) (w.setRow g (cur.toList.take o ++ cs ++ cur.toList.drop (o + cs.length)).toArray) := by
  have hst := run_storeCells_at P g o t cs 0 cur w hg (by simpa using hfit) h1
  have hf := run_firstCells_some (P := P) w size n a sLen sCap cs hl hsrc
  cases hq : P.info? elem with
  | none => simp [hq] at hs
  | some i =>
    have hi : i.size = size := by simpa [hq] using hs
    simp [Builtin.copy_, run_underlying hu, Builtin.lenOf, sizeOf, typeInfo, hq, hi, ← hn, hf, hst]
section
variable {P : Program}
theorem wp_copy_run14 (w : World) {o : Oper} {a : Act} {K : Act → World → Prop} {Q : Exit → Act → World → Prop} (d s : Operand) (t t' : TypeId)
    (ho : o.op = .call { callee := .builtin .copy, args := #[d, s], argTypes := #[t, t'] }) (v u : Value) (hd : a.eval d = v) (hs : a.eval s = u) {v' : Value} {w' : World}
    (hr : (Builtin.copy_ #[t, t'] o.type #[v, u]).run P w = .ok v' w') (h : K (a.put o.dst v') w') : o.wp P a w K Q := by
  unfold Oper.wp execOp
  simp only [ho, resolve, invoke, builtin, Sem.run_bind, Sem.run_pure, Result.andThen_ok, List.map_toArray, List.map_cons, List.map_nil, hd, hs, hr]
  exact h
theorem step_copy_run14 {ops : Array Oper} {o : Oper} {a : Act} {w : World} {K : Act → World → Prop} {Q : Exit → Act → World → Prop} {E : Prop}
    (hg : o.guard = none) (d x : Operand) (dT sT : TypeId) (hop : o.op = Op.call { callee := Callee.builtin Builtin.copy, args := #[d, x], argTypes := #[dT, sT] })
    (v u : Value) (hd : a.eval d = v) (hx : a.eval x = u) {v' : Value} {w' : World} (hr : (Builtin.copy_ #[dT, sT] o.type #[v, u]).run P w = .ok v' w') (hK : K (a.put o.dst v') w') :
    if Region.wanted o (yielded ops a.tmps) = true then Oper.wp P o a w K Q else E := by
  have hw : Region.wanted o (yielded ops a.tmps) = true := by simp [Region.wanted, hg]
  rw [if_pos hw]
  exact wp_copy_run14 w d x dT sT hop v u hd hx hr hK
end
end
end Go.Proofs.YtjjlgnackjjbfaaGreatDoor.Asc
