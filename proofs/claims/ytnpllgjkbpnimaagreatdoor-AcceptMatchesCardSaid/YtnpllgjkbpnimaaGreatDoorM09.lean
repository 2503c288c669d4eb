/- Merged texts: AccSpec PrfMem AccRef MedRef4 LstRem LstClo LanRef LanRef2. -/
import Derived.Test.YtnpllgjkbpnimaaGreatDoorM01
import Derived.Test.YtnpllgjkbpnimaaGreatDoorM02
import Derived.Test.YtnpllgjkbpnimaaGreatDoorM03
import Derived.Test.YtnpllgjkbpnimaaGreatDoorM06
import Derived.Test.YtnpllgjkbpnimaaGreatDoorM07
import Derived.Test.YtnpllgjkbpnimaaGreatDoorM08
import Derived.Deep.RegionHeld3
import Derived.Laws.EntriesVeiled
import Derived.Lib.SliceRun
set_option linter.unusedVariables false
set_option linter.unusedSimpArgs false
set_option maxRecDepth 100000
namespace Go.Proofs.YtnpllgjkbpnimaaGreatDoor.Asc
section
def nmAcc : ByteArray := ⟨#[65, 99, 99, 101, 112, 116]⟩
def nmLan : ByteArray := ⟨#[65, 99, 99, 101, 112, 116, 45, 76, 97, 110, 103, 117, 97, 103, 101]⟩
def nmCha : ByteArray := ⟨#[65, 99, 99, 101, 112, 116, 45, 67, 104, 97, 114, 115, 101, 116]⟩
def nmCod : ByteArray := ⟨#[65, 99, 99, 101, 112, 116, 45, 69, 110, 99, 111, 100, 105, 110, 103]⟩
def nameK (k : Int) : ByteArray := if k = 1 then nmAcc else if k = 2 then nmLan else if k = 3 then nmCha else if k = 4 then nmCod else ⟨#[]⟩
/-- the place of the first parameter q -/
def isQ (p : F) : Bool := decide (p.1 = (⟨#[113]⟩ : ByteArray))
def atQ (L : List F) : Nat := (L.takeWhile fun p => !isQ p).length
/-- the quality that the parameters say -/
def qualP (L : List F) : Option Int := if h : atQ L < L.length then qvL (L[atQ L]'h).2.data.toList else some 1000
def memP (k : Int) (s : List UInt8) : Option (ByteArray × Int) := match parL s with
  | none => none
  | some (v, L) => match qualP L with
    | none => none
    | some q =>
      if k = 1 then match rangeL v with
        | none => none
        | some (a, b, _) => some (fmtPB (a ++ (⟨#[47]⟩ : ByteArray) ++ b) (L.take (atQ L)), q)
      else if ((if k = 2 then rangeT v else tokL v) && decide (atQ L = 0)) = true then some (bs (canL k v), q) else none
/-- specificity -/
def matchP (k : Int) (r v : List UInt8) : Int :=
  if k = 1 then (match rangeL r, mediaL v with
    | some a, some b => matchI a b
    | _, _ => -1)
  else if k = 2 then matchT r v
  else if k = 3 ∨ k = 4 then (if (tokL r && tokL v && decide (v ≠ [42])) = true then matchC k r v else -1)
  else -1
/-- a preference as a member -/
def onePref (p : ByteArray × Int) : List UInt8 := p.1.data.toList ++ (if p.2 = 1000 then [] else 59 :: 113 :: 61 :: fmtQ p.2)
theorem atQ_le (L : List F) : atQ L ≤ L.length := by
  unfold atQ
  have := congrArg List.length (List.takeWhile_append_dropWhile (p := fun p => !isQ p) (l := L))
  rw [List.length_append] at this; omega
theorem atQ_is : ∀ {L : List F} {k : Nat}, (∀ j (hj : j < L.length), j < k → isQ L[j] = false) → (k = L.length ∨ ∃ hk : k < L.length, isQ L[k] = true) → atQ L = k
  | [], k, _, h => by
    rcases h with h | ⟨hk, _⟩
    · simp at h; subst h; rfl
    · simp at hk
  | p :: L, 0, _, h => by
    rcases h with h | ⟨_, h⟩
    · simp at h
    · have h' : isQ p = true := h
      unfold atQ
      rw [List.takeWhile_cons, if_neg (by rw [h']; simp)]; rfl
  | p :: L, k + 1, hn, h => by
    have h0 : isQ p = false := hn 0 (by simp) (by omega)
    have ih : atQ L = k := atQ_is (L := L) (k := k) (fun j hj hjk => hn (j + 1) (by simpa using hj) (by omega)) (by
      rcases h with h | ⟨hk, h⟩
      · left; simpa using h
      · right; exact ⟨by simpa using hk, h⟩)
    unfold atQ at ih ⊢
    rw [List.takeWhile_cons, if_pos (by rw [h0]; rfl), List.length_cons, ih]
theorem mem_none {k : Int} {s : List UInt8} (h : parL s = none) : memP k s = none := by unfold memP; rw [h]
theorem mem_noq {k : Int} {s v : List UInt8} {L : List F} (h : parL s = some (v, L)) (hq : qualP L = none) : memP k s = none := by unfold memP; rw [h]; simp only; rw [hq]
theorem mem_acc {s v : List UInt8} {L : List F} {q : Int} (h : parL s = some (v, L)) (hq : qualP L = some q) : memP 1 s = (rangeL v).map fun m => (fmtPB (m.1 ++ (⟨#[47]⟩ : ByteArray) ++ m.2.1) (L.take (atQ L)), q) := by
  unfold memP; rw [h]; simp only; rw [hq]; simp only
  rw [if_pos trivial]
  cases rangeL v with
  | none => rfl
  | some m => obtain ⟨a, b, K⟩ := m; rfl
theorem mem_oth {k : Int} {s v : List UInt8} {L : List F} {q : Int} (hk : k ≠ 1) (h : parL s = some (v, L)) (hq : qualP L = some q) : memP k s = if ((if k = 2 then rangeT v else tokL v) && decide (atQ L = 0)) = true then some (bs (canL k v), q) else none := by
  unfold memP; rw [h]; simp only; rw [hq]; simp only
  rw [if_neg hk]
end
section
open Go.RowKit Go.ChangeShapes Go.WideShapes Go.Deep
abbrev QP := ByteArray × Int
/-- preferences at an address -/
def Qs (w : World) (a : Option Addr) (L : List QP) : Prop :=
  ∀ i (h : i < L.length), ∃ g off, a = some ⟨g, off, none⟩ ∧ w.cell? ⟨g, off + i * 2, none⟩ = some (.string L[i].1) ∧ w.cell? ⟨g, off + i * 2 + 1, none⟩ = some (.int .i64 L[i].2)
theorem Qs.below {w w' : World} {a : Option Addr} {L : List QP} (h : Qs w a L) (hb : Below w.heap.size w w') : Qs w' a L := fun i hi => by
  obtain ⟨g, off, e, c0, c1⟩ := h i hi
  exact ⟨g, off, e, (hb.cell (cell_lt c0)).trans c0, (hb.cell (cell_lt c1)).trans c1⟩
theorem info_prf : (Tryz.prog.info? 29).map (fun i => (i.zero, i.size, i.bytes)) = some (some (.agg #[.string ⟨#[]⟩, .int .i64 0]), 2, 24) := by kernel_rfl
def cellsQ (L : List QP) : List Value := L.flatMap fun p => [.string p.1, .int .i64 p.2]
theorem cellsQ_len (L : List QP) : (cellsQ L).length = L.length * 2 := by
  induction L with
  | nil => rfl
  | cons p L ih => simp only [cellsQ, List.flatMap_cons, List.length_append, List.length_cons, List.length_nil] at *; omega
theorem cellsQ_app (L M : List QP) : cellsQ (L ++ M) = cellsQ L ++ cellsQ M := by simp [cellsQ]
theorem cellsQ_at (L : List QP) (i : Nat) (h : i < L.length) : (cellsQ L)[i * 2]? = some (.string L[i].1) ∧ (cellsQ L)[i * 2 + 1]? = some (.int .i64 L[i].2) := by
  have e : L = L.take i ++ L[i] :: L.drop (i + 1) := by rw [← List.drop_eq_getElem_cons h, List.take_append_drop]
  have hl : (cellsQ (L.take i)).length = i * 2 := by rw [cellsQ_len, List.length_take, Nat.min_eq_left (Nat.le_of_lt h)]
  have e2 : cellsQ L = cellsQ (L.take i) ++ (.string L[i].1 :: .int .i64 L[i].2 :: cellsQ (L.drop (i + 1))) := by
    conv => lhs; rw [e, cellsQ_app]
    rfl
  rw [e2]
  constructor
  · rw [List.getElem?_append_right (by omega), hl]; simp
  · rw [List.getElem?_append_right (by omega), hl]; simp
def OwnQ (w : World) (B : Nat) (v : Value) (L : List QP) : Prop := w.ownsRow B 29 2 v L.length (cellsQ L)
section
variable {w w' : World} {B : Nat} {v : Value}
theorem OwnQ.nil (w : World) (B : Nat) : OwnQ w B (.slice none 0 0) [] := World.ownsRow_nil _ _ _ _
/-- what a slice of preferences that a call owns looks like -/
theorem OwnQ.qs {L : List QP} (h : OwnQ w B v L) : ∃ a cap, v = .slice a L.length cap ∧ Qs w a L ∧ L.length ≤ cap := by
  rcases h.2 with ⟨rfl, hn⟩ | ⟨g, cap, cur, rfl, hB, hg, hc, hm, hs, ht⟩
  · exact ⟨none, 0, by rw [hn], fun i hi => by omega, by omega⟩
  · refine ⟨_, cap, rfl, fun i hi => ⟨g, 0, rfl, ?_, ?_⟩, hc⟩
    all_goals
      obtain ⟨q0, q1⟩ := cellsQ_at L i hi
      rw [← ht] at q0 q1
      rw [List.getElem?_take] at q0 q1
      rw [if_pos (by omega)] at q0 q1
      simp only [World.cell?, hg]
    · simpa using q0
    · simpa [Nat.add_assoc] using q1
end
/-- append of one preference that lies in a block of its own -/
theorem wpList_append_prf (w : World) {ops : Array Oper} {rest : List Oper} {o : Oper} {a : Act} {Q : Exit → Act → World → Prop} (hgd : o.guard = none) (s x : Operand)
    (ho : o.op = .call { callee := .builtin .append, args := #[s, x], argTypes := #[22, 22] })
    (B : Nat) (v : Value) (L : List QP) (hs : a.eval s = v) (hown : OwnQ w B v L)
    (g : Nat) (c : Nat) (hx : a.eval x = .slice (some ⟨g, 0, none⟩) 1 c) (n : ByteArray) (u : Int) (h0 : w.cell? ⟨g, 0, none⟩ = some (.string n)) (h1 : w.cell? ⟨g, 1, none⟩ = some (.int .i64 u)) (hl : L.length ≤ 65536) (hB : B ≤ w.heap.size)
    (h : ∀ v' w', OwnQ w' B v' (L ++ [(n, u)]) → Below B w w' → wpList Tryz.prog ops Q rest (a.put o.dst v') w') : wpList Tryz.prog ops Q (o :: rest) a w := by
  obtain ⟨i0, hi0, hz0, hz1, hz2⟩ := info_parts info_prf
  refine wpList_append_own (P := Tryz.prog) w hgd s x 22 ho B 29 i0 _ 2 24 Tryz.underlying22 hi0 hz0 hz1 hz2 rfl (by decide) v L.length (cellsQ L) hs hown ⟨g, 0, none⟩ 1 c [.string n, .int .i64 u] hx rfl ?_ ?_ (by unfold maxLen; omega) (by omega) hB ?_
  · intro j u hj
    match j, hj with
    | 0, hj => simp at hj; subst hj; simpa [Addr.add] using h0
    | 1, hj => simp at hj; subst hj; simpa [Addr.add] using h1
  · intro u hu; simp at hu; rcases hu with rfl | rfl <;> rfl
  · intro v' w' q1 q2 _
    refine h v' w' (by simpa [OwnQ, cellsQ_app, cellsQ] using q1) ((Below.refl _ _).grown q2 hB (fun k hk => own_block hown k hk))
def intOfV : Value → Int | .int _ q => q | _ => 0
theorem open_prefs {H : Type} {enc : TypeId × Value → H} {W : World} {base : Nat} {sp : Nat → Bool} {held : Bool} {r : Reach} {b0 : Nat} {v : Value} {d : DataW H} {p : List MemPlace}
    (hval : Value.okWide Tryz.prog W r b0 22 v) (h : DataW.Trod enc Tryz.prog W base sp held 22 v d p) :
    ∃ (a : Option Addr) (cap : Nat) (L : List QP), v = .slice a L.length cap ∧ L.length ≤ maxLen ∧ (Qs W a L ∧ ∀ i (h : i < L.length), InI64 L[i].2) ∧ L.length ≤ cap := by
  obtain ⟨a0, len, cap, rfl⟩ := okWide_slice Tryz.underlying22 hval
  obtain ⟨fuel, hf⟩ := h
  rcases open_slice_pairs Tryz.underlying22 Tryz.underlying29 (by kernel_rfl) rfl rfl (by kernel_rfl) (by kernel_rfl) hf with ⟨hcs, hx⟩ | ⟨a, len', cap', m, n, V0, V1, D0, D1, P0, P1, hcs, _, hl, hm, hmm, hx, hi⟩
  · simp [Value.cells] at hcs
    obtain ⟨rfl, rfl, rfl⟩ := hcs
    exact ⟨none, 0, [], rfl, Nat.zero_le _, ⟨fun i hi => absurd hi (by simp), fun i hi => absurd hi (by simp)⟩, Nat.le_refl _⟩
  · simp [Value.cells] at hcs
    obtain ⟨rfl, rfl, rfl⟩ := hcs
    have hlm : len ≤ m := by rw [hmm]; split <;> omega
    have key : ∀ i, i < len → ∃ (s : ByteArray) (q : Int), V0 i = .string s ∧ V1 i = .int .i64 q ∧ InI64 q := fun i hil => by
      obtain ⟨k0, k1, t0, t1⟩ := hi i (by omega)
      obtain ⟨s0, e0, _, _⟩ := DataW.trod_string Tryz.underlying9 t0
      obtain ⟨q1, e1, _, hw⟩ := DataW.trod_int Tryz.underlying3 t1
      simp at e0 e1
      refine ⟨s0, q1, e0, e1, ?_⟩
      unfold InI64
      simp [Lit.wf, IntKind.min, IntKind.max, IntKind.bits, IntKind.signed] at hw
      omega
    refine ⟨some a, cap, (List.range len).map fun i => (strOf (V0 i), intOfV (V1 i)), by simp, by simp; omega, ⟨fun i hi2 => ?_, fun i hi2 => ?_⟩, by simp; omega⟩
    · have hil : i < len := by simpa using hi2
      obtain ⟨g, off, spot⟩ := a
      obtain ⟨z0, _, _, _⟩ := hi 0 (by omega)
      have hspot : spot = none := by simpa [Addr.add] using World.cell?_spot z0
      subst hspot
      obtain ⟨k0, k1, _, _⟩ := hi i (by omega)
      obtain ⟨s, q, e0, e1, _⟩ := key i hil
      rw [add_plain] at k0 k1
      refine ⟨g, off, rfl, ?_, ?_⟩
      · rw [k0, e0]; simp [strOf, e0]
      · rw [← Nat.add_assoc] at k1
        rw [k1, e1]; simp [intOfV, e1]
    · have hil : i < len := by simpa using hi2
      obtain ⟨s, q, e0, e1, hq⟩ := key i hil
      simp [intOfV, e1]; exact hq
end
section
open Go.RowKit
/-- two values lie at the block's start, and may be written -/
def C2 (g : Nat) (c0 c1 : Value) (w : World) : Prop :=
  (w.cell? ⟨g, 0, none⟩ = some c0 ∧ w.cell? ⟨g, 1, none⟩ = some c1) ∧ (w.frozen? ⟨g, 0, none⟩ = false ∧ w.frozen? ⟨g, 1, none⟩ = false)
section
variable {g B : Nat} {c0 c1 : Value} {w w' : World}
theorem C2.new (c0 c1 : Value) (w : World) (t : TypeId) : C2 w.heap.size c0 c1 (w.alloc (.cells #[c0, c1] t)) := by
  refine ⟨⟨?_, ?_⟩, ⟨?_, ?_⟩⟩
  all_goals first
    | (rw [World.cell?_alloc_mark]; rfl)
    | exact World.frozen?_alloc_at _ _ _ _ rfl
theorem C2.below (f : C2 g c0 c1 w) (hb : Below B w w') (hg : g < B) : C2 g c0 c1 w' := by
  obtain ⟨⟨h0, h1⟩, ⟨f0, f1⟩⟩ := f
  exact ⟨⟨(hb.cell hg).trans h0, (hb.cell hg).trans h1⟩, ⟨(hb.frozen hg).trans f0, (hb.frozen hg).trans f1⟩⟩
theorem C2.lt (f : C2 g c0 c1 w) : g < w.heap.size := cell_lt (p := ⟨g, 0, none⟩) f.1.1
theorem C2.next (f : C2 g c0 c1 w) (hb : Below w.heap.size w w') : C2 g c0 c1 w' := f.below hb f.lt
end
theorem below2 {w w1 : World} {g : Nat} (h : Below w.heap.size w w1) (hg : w.heap.size ≤ g) (v0 v1 : Value) : Below w.heap.size w ((w1.setCell ⟨g, 0, none⟩ v0).setCell ⟨g, 1, none⟩ v1) :=
  (h.setCell (p := ⟨g, 0, none⟩) hg v0).setCell (p := ⟨g, 1, none⟩) hg v1
theorem name_no {k : Int} (h1 : ¬ k = 1) (h2 : ¬ k = 2) (h3 : ¬ k = 3) (h4 : ¬ k = 4) : nameK k = ⟨#[]⟩ := by unfold nameK; rw [if_neg h1, if_neg h2, if_neg h3, if_neg h4]
theorem name_size (k : Int) : (nameK k).size ≤ 15 := by
  unfold nameK
  split
  · decide
  · split
    · decide
    · split
      · decide
      · split
        · decide
        · decide
end
section
open Go.RowKit
theorem rMatch_any (a b c d : ByteArray) (p q : Option Addr) (cp cq : Nat) (K L : List F) (w : World) (hk : K.length ≤ 65536) (hl : L.length ≤ 65536)
    (hzK : Box (∀ i (hi : i < K.length), K[i].1.size ≤ 65536 ∧ K[i].2.size ≤ 65536)) (hzL : Box (∀ i (hi : i < L.length), L[i].1.size ≤ 65536 ∧ L[i].2.size ≤ 65536)) (hK : Box (Fs w p K)) (hL : Box (Fs w q L)) :
    Calls Tryz.prog 15 #[.agg #[.string a, .string b, .slice p K.length cp], .agg #[.string c, .string d, .slice q L.length cq]] w fun e w' => e = .returned (.int .i64 (matchI (a, b, K) (c, d, L))) ∧ Below w.heap.size w w' := by
  by_cases h : (b.toList == [42]) = false ∧ (a.toList == c.toList) = true ∧ (b.toList == d.toList) = true
  · exact rMatch_late a b c d p q cp cq K L w hk hl hzK hzL hK hL _ rfl h.1 h.2.1 h.2.2
  · refine rMatch_early a b c d p q cp cq K L w 0 _ _ _ _ rfl rfl rfl rfl ?_
    rcases h2 : (b.toList == [42]) with _ | _
    · rcases h3 : (a.toList == c.toList) with _ | _
      · exact .inr (.inl rfl)
      · rcases h4 : (b.toList == d.toList) with _ | _
        · exact .inr (.inr (.inr rfl))
        · exact absurd ⟨h2, h3, h4⟩ h
    · exact .inr (.inr (.inl rfl))
end
section
open Go.RowKit
/-- what the function value of Remove has captured: a variable that holds the function value of named -/
def Cap (g2 g1 : Nat) (nm : ByteArray) (w : World) : Prop := w.cell? ⟨g2, 0, none⟩ = some (nmV g1) ∧ Nm g1 nm w
theorem Cap.below {w w' : World} {g2 g1 : Nat} {nm : ByteArray} (h : Cap g2 g1 nm w) (hb : Below w.heap.size w w') : Cap g2 g1 nm w' := ⟨(hb.cell (cell_lt h.1)).trans h.1, h.2.below hb⟩
end
section
open Go.RowKit
theorem OwnF.empty (w : World) : OwnF (w.alloc (.cells #[] 45)) w.heap.size (.slice (some ⟨w.heap.size, 0, none⟩) 0 0) [] :=
  ⟨rfl, .inr ⟨_, _, _, rfl, Nat.le_refl _, heap_alloc_new w _, Nat.zero_le _, by unfold maxLen; omega, rfl, rfl⟩⟩
end
section
open Go.RowKit
/-- append of one string, at a step of a region that draws its order -/
theorem step_append_str (w : World) {ops : Array Oper} {o : Oper} {a : Act} {K : Act → World → Prop} {Q : Exit → Act → World → Prop} {E : Prop} (hgd : o.guard = none) (s x : Operand)
    (ho : o.op = .call { callee := .builtin .append, args := #[s, x], argTypes := #[38, 38] })
    (B : Nat) (v : Value) (L : List ByteArray) (hs : a.eval s = v) (hown : OwnS w B v L)
    (g : Nat) (c : Nat) (hx : a.eval x = .slice (some ⟨g, 0, none⟩) 1 c) (u : ByteArray) (h0 : w.cell? ⟨g, 0, none⟩ = some (.string u)) (hl : L.length ≤ 65536) (hB : B ≤ w.heap.size)
    (h : ∀ v' w', OwnS w' B v' (L ++ [u]) → Below B w w' → K (a.put o.dst v') w') :
    if Region.wanted o (yielded ops a.tmps) = true then Oper.wp Tryz.prog o a w K Q else E := by
  obtain ⟨i0, hi0, hz0, hz1, hz2⟩ := info_parts info_str
  refine step_append_lies (P := Tryz.prog) w hgd s x 38 ho B 9 i0 _ 1 16 Tryz.underlying38 hi0 hz0 hz1 hz2 rfl (by decide) v L.length (L.map Value.string) hs hown ⟨g, 0, none⟩ 1 c [.string u] hx rfl ?_ ?_ (by omega) (by unfold maxLen; omega) (by omega) hB _ rfl ?_
  · intro j u hj
    match j, hj with
    | 0, hj => simp at hj; subst hj; simpa [Addr.add] using h0
  · intro u hu; simp at hu; subst hu; rfl
  · intro g' cap' w' q1 q2 _ _
    refine h _ w' (by simpa [OwnS] using q1) ((Below.refl _ _).grown q2 hB (fun k hk => own_block hown k hk))
theorem OwnS.drewN {w : World} {B n : Nat} {v : Value} {L : List ByteArray} (h : OwnS w B v L) : OwnS (w.drewN n) B v L := own_below h (below_drewN _ _)
theorem size_more11 (w : World) (o : Obj) : w.heap.size ≤ (w.alloc o).heap.size := ((Below.refl w.heap.size w).alloc (Nat.le_refl _) o).size
theorem cell_new1 (w : World) (u : Value) (t : TypeId) : (w.alloc (.cells #[u] t)).cell? ⟨w.heap.size, 0, none⟩ = some u := by rw [World.cell?_alloc_mark]; rfl
def subB (l : List UInt8) : List ByteArray := (subL l).map bs
/-- what has been cut off, and what is left -/
def SbRel (l : List UInt8) (B : Nat) (w : World) (s out : Value) (wr : World) : Prop :=
  ∃ (t : ByteArray) (acc : List ByteArray), s = .string t ∧ OwnS wr B out acc ∧ acc ++ subB t.data.toList = subB l ∧ t.size ≤ l.length ∧ acc.length + t.size ≤ l.length ∧ Below w.heap.size w wr
def strLen : Value → Nat
  | .string s => s.size
  | _ => 0
theorem sub_left {t : ByteArray} (h : Lib.indexByte t.data.toList 45 = -1) : subB t.data.toList = [t] := by
  have hn : (45 : UInt8) ∉ t.data.toList := by
    have := (cut_no h).2.2
    simpa [cutB] using this
  unfold subB; rw [sub_no hn]; rfl
theorem sub_step {t : ByteArray} {o : Nat} (h : Lib.indexByte t.data.toList 45 = (o : Int)) : subB t.data.toList = t.extract 0 o :: subB (t.extract (o + 1) t.size).data.toList := by
  obtain ⟨h1, h2, h3, h4⟩ := cut_at h
  have hz : t.data.toList.length = t.size := by simp
  have hn : (45 : UInt8) ∉ t.data.toList.take o := by
    rw [← h2]; unfold cut1
    intro hm
    have := List.all_eq_true.1 (List.all_takeWhile (p := (· != (45 : UInt8))) (l := t.data.toList)) 45 hm
    simp at this
  have e : t.data.toList = t.data.toList.take o ++ 45 :: t.data.toList.drop (o + 1) := by
    have h5 := cut_join h4
    rwa [h2, h3] at h5
  have e2 : (t.extract (o + 1) t.size).data.toList = t.data.toList.drop (o + 1) := by rw [ext_bs, bs_toList, List.take_of_length_le (by omega)]
  rw [e2]
  unfold subB
  conv => lhs; rw [e]
  rw [sub_at hn, ext_bs, List.drop_zero]; rfl
theorem rIndex45_is {s : ByteArray} {n : Int} {w : World} (hs : s.size ≤ maxLen) (h : Box (idxF s.data.toList 45 0 = n)) :
    Calls Tryz.prog 34 #[.string s, .int .u8 45, .int .i64 0] w fun e w' => e = .returned (.int .i64 n) ∧ w = w' :=
  (rIndex_any s 45 45 0 w hs (Nat.zero_le _) rfl).mono fun e w' ⟨h1, h2⟩ => ⟨by rw [h1, h.out], h2⟩
set_option maxHeartbeats 1000000 in
theorem rSubs_any (s : ByteArray) (w : World) (hs : s.size ≤ 65000) :
    Calls Tryz.prog 39 #[.string s] w fun e w' => ∃ v, e = .returned v ∧ OwnS w' w.heap.size v (subB s.data.toList) ∧ Below w.heap.size w w' := by
  have hz : s.data.toList.length = s.size := by simp
  obtain ⟨l, hl⟩ : ∃ l, s.data.toList = l := ⟨_, rfl⟩
  have hll : l.length ≤ 65000 := by rw [← hl]; omega
  have HL := box hl
  rw [hl] at hz ⊢
  clear hl
  go_enter Tryz.func39, Tryz.ntmps39
  go_wp2
  go_loopw [0, 3, 4] (fun s out _ wr => SbRel l w.heap.size w s out wr) (fun s _ _ _ => strLen s)
  case atStart => exact ⟨s, [], rfl, OwnS.nil _ _, by rw [HL.out]; rfl, by omega, by simp; omega, Below.refl _ _⟩
  case round =>
    obtain ⟨t, acc, rfl, hO, hq, hts, hac, hb⟩ := hrel
    obtain ⟨av, cv, rfl, _, _⟩ := hO.ss
    have O := box hO
    have BL := box hb
    have HQ := box hq
    have hbs := hb.size
    have htm : t.size ≤ maxLen := by unfold maxLen; omega
    have hz2 : t.data.toList.length = t.size := by simp
    clear hO hb hq
    by_cases hi : idxF t.data.toList 45 0 < 0
    · have h1 := idxF_none hi
      rw [List.drop_zero] at h1
      have HS : Box (acc ++ [t] = subB l) := box (by rw [← HQ.out, sub_left h1])
      obtain ⟨n, hn⟩ : ∃ n, idxF t.data.toList 45 0 = n := ⟨_, rfl⟩
      have HN := box hn
      rw [hn] at hi
      clear h1 hn
      go_wp2_with fail
      refine (rIndex45_is htm HN).mono ?_; rintro e w1 ⟨rfl, rfl⟩
      go_wp2_with (at_builtin; refine wpList_append_str _ rfl (.tmp 9) (.tmp 11) rfl w.heap.size _ acc rfl (own_below O.out (below_new _ _)) _ _ rfl t (cell_new1 _ _ _) (by omega) (by simp; omega) ?_)
      intro v2 w2 hO2 hb2
      rw [HS.out] at hO2
      have O2 := box hO2
      have B2 := box ((BL.out.alloc hbs _).trans hb2)
      clear hO2 hb2
      go_wp2
      go_ret
      exact ⟨_, rfl, O2.out, B2.out⟩
    · obtain ⟨o, h1, h2, h3⟩ := idxF_some hi
      rw [List.drop_zero] at h1
      rw [Nat.zero_add] at h2 h3
      have ho : o < t.size := by omega
      have HS : Box (acc ++ [t.extract 0 o] ++ subB (t.extract (o + 1) t.size).data.toList = subB l) := box (by rw [← HQ.out, sub_step h1, List.append_assoc]; rfl)
      have hez : (t.extract (o + 1) t.size).size = t.size - (o + 1) := by rw [ByteArray.size_extract]; omega
      have HN := box h2
      have hoi : (o : Int) ≤ (t.size : Int) := by omega
      have ho0 : (0 : Int) ≤ (o : Int) := by omega
      have ho2 : (o : Int) + 1 ≤ (t.size : Int) := by omega
      have ho1 : (0 : Int) ≤ (o : Int) + 1 := by omega
      have hwr : IntKind.i64.wrap ((o : Int) + 1) = (o : Int) + 1 := by simp [IntKind.wrap, IntKind.bits, IntKind.signed]; omega
      clear h1 h2 hi h3
      go_wp2_with fail
      refine (rIndex45_is htm HN).mono ?_; rintro e w1 ⟨rfl, rfl⟩
      go_wp2
      go_region_held3 (fun w' => True) (first | trivial) (first | (refine step_append_str _ rfl (.tmp 13) (.tmp 17) (by rfl) w.heap.size _ acc (by rfl) ?_ _ _ (by rfl) (t.extract 0 o) ?_ ?_ ?_ ?_; (exact own_below (OwnS.drewN O.out) (below_new _ _)); (exact cell_new1 _ _ _); omega; (exact Nat.le_trans hbs (size_more11 _ _)); intro v4 w4 hO4 hb4; have O4 := box hO4; have B4 := box (((BL.out.trans ((below_drewN _ _).mono BL.out.size)).alloc hbs _).trans hb4); clear hO4 hb4))
      all_goals
        go_wp2
        go_roundw
        case rel => exact ⟨_, _, rfl, O4.out, HS.out, by omega, by simp; omega, B4.out⟩
        case measure => simp [strLen]; omega
end
section
open Go.RowKit
def chOk (first : Bool) (c : UInt8) : Bool := lettI c.toNat || (!first && digitI c.toNat)
theorem subs_all {L : List (List UInt8)} (h : ∀ j (hj : j < L.length), subOk (decide (j = 0)) L[j] = true) : subsOk L = true := by
  match L, h with
  | [], _ => rfl
  | x :: xs, h =>
    show (subOk true x && xs.all (subOk false)) = true
    have h0 : subOk true x = true := h 0 (by simp)
    rw [h0, Bool.true_and, List.all_eq_true]
    intro y hy
    obtain ⟨i, hi, rfl⟩ := List.getElem_of_mem hy
    exact h (i + 1) (by simpa using hi)
theorem subs_bad {L : List (List UInt8)} {k : Nat} (hk : k < L.length) (h : subOk (decide (k = 0)) L[k] = false) : subsOk L = false := by
  match L, k, hk, h with
  | x :: xs, 0, _, h =>
    have h0 : subOk true x = false := h
    show (subOk true x && xs.all (subOk false)) = false
    rw [h0]; rfl
  | x :: xs, k + 1, hk, h =>
    have hk' : k < xs.length := by simpa using hk
    have h0 : subOk false xs[k] = false := h
    show (subOk true x && xs.all (subOk false)) = false
    have : xs.all (subOk false) = false := by
      rw [List.all_eq_false]
      exact ⟨xs[k], List.getElem_mem _, by rw [h0]; simp⟩
    rw [this, Bool.and_false]
theorem sub_chars {f : Bool} {x : List UInt8} (h1 : 1 ≤ x.length) (h8 : x.length ≤ 8) : subOk f x = x.all (chOk f) := by
  unfold subOk
  rw [decide_eq_true ⟨h1, h8⟩, Bool.true_and]; rfl
theorem sub_size {f : Bool} {x : List UInt8} (h : x.length < 1 ∨ 8 < x.length) : subOk f x = false := by
  unfold subOk
  rw [decide_eq_false (by omega), Bool.false_and]
theorem allC_more {f : UInt8 → Bool} {x : ByteArray} {m : Nat} (h : (x.data.toList.take m).all f = true) (hm : m < x.size) (hc : f x[m] = true) : (x.data.toList.take (m + 1)).all f = true := by
  rw [take_snoc x m hm, List.all_append, h]; simp [hc]
theorem allC_not {f : UInt8 → Bool} {x : ByteArray} {m : Nat} (hm : m < x.size) (hc : f x[m] = false) : x.data.toList.all f = false := by
  rw [List.all_eq_false]
  have hm2 : m < x.data.toList.length := by simpa using hm
  exact ⟨x.data.toList[m], List.getElem_mem hm2, by show ¬ f x[m] = true; rw [hc]; simp⟩
/-- the cases of a byte -/
inductive ChCase (k : Nat) (c : Int) (r : Bool) : Prop
  | low (h1 : 97 ≤ c) (h2 : c ≤ 122) (h : r = true) : ChCase k c r
  | up (h0 : c < 97) (h1 : 65 ≤ c) (h2 : c ≤ 90) (h : r = true) : ChCase k c r
  | dig (h0 : c < 65) (hk : (0 : Int) < k) (hd : digitI c = true) (h : r = true) : ChCase k c r
  | no0 (h0 : c < 65) (hk : ¬ (0 : Int) < k) (h : r = false) : ChCase k c r
  | no1 (h0 : c < 65) (hk : (0 : Int) < k) (hd : digitI c = false) (h : r = false) : ChCase k c r
  | mid0 (h0 : 90 < c) (h1 : c < 97) (hk : ¬ (0 : Int) < k) (h : r = false) : ChCase k c r
  | mid1 (h0 : 90 < c) (h1 : c < 97) (hk : (0 : Int) < k) (hd : digitI c = false) (h : r = false) : ChCase k c r
  | hi0 (h0 : 122 < c) (hk : ¬ (0 : Int) < k) (h : r = false) : ChCase k c r
  | hi1 (h0 : 122 < c) (hk : (0 : Int) < k) (hd : digitI c = false) (h : r = false) : ChCase k c r
theorem ch_case (k : Nat) (c : UInt8) : ChCase k c.toNat (chOk (decide (k = 0)) c) := by
  have hdig : ∀ n : Int, digitI n = decide (48 ≤ n ∧ n ≤ 57) := fun n => rfl
  have hlet : ∀ n : Int, lettI n = (decide (97 ≤ n ∧ n ≤ 122) || decide (65 ≤ n ∧ n ≤ 90)) := fun n => rfl
  by_cases h1 : 97 ≤ (c.toNat : Int) ∧ (c.toNat : Int) ≤ 122
  · exact .low h1.1 h1.2 (by unfold chOk; rw [hlet, decide_eq_true h1]; rfl)
  · by_cases h2 : 65 ≤ (c.toNat : Int) ∧ (c.toNat : Int) ≤ 90
    · exact .up (by omega) h2.1 h2.2 (by unfold chOk; rw [hlet, decide_eq_true h2]; simp)
    · have hl : lettI (c.toNat : Int) = false := by rw [hlet, decide_eq_false h1, decide_eq_false h2]; rfl
      have hr : chOk (decide (k = 0)) c = (!decide (k = 0) && digitI c.toNat) := by unfold chOk; rw [hl, Bool.false_or]
      rw [hr]
      by_cases hk : k = 0
      · have e : (!decide (k = 0) && digitI (c.toNat : Int)) = false := by rw [decide_eq_true hk]; rfl
        rw [e]
        by_cases a : (c.toNat : Int) < 65
        · exact .no0 a (by omega) rfl
        · by_cases b : (c.toNat : Int) < 97
          · exact .mid0 (by omega) b (by omega) rfl
          · exact .hi0 (by omega) (by omega) rfl
      · have e : (!decide (k = 0) && digitI (c.toNat : Int)) = digitI c.toNat := by rw [decide_eq_false hk]; rfl
        rw [e]
        have hd1 : 65 ≤ (c.toNat : Int) → digitI (c.toNat : Int) = false := fun h => by rw [hdig]; exact decide_eq_false (by omega)
        by_cases a : (c.toNat : Int) < 65
        · cases hd : digitI (c.toNat : Int) with
          | true => exact .dig a (by omega) hd rfl
          | false => exact .no1 a (by omega) hd rfl
        · rw [hd1 (by omega)]
          by_cases b : (c.toNat : Int) < 97
          · exact .mid1 (by omega) b (by omega) (hd1 (by omega)) rfl
          · exact .hi1 (by omega) (by omega) (hd1 (by omega)) rfl
def TagO (T : List ByteArray) (i : Value) : Prop := ∃ k : Nat, i = .int .i64 k ∧ k ≤ T.length ∧ ∀ j (hj : j < T.length), j < k → subOk (decide (j = 0)) T[j].data.toList = true
def TagI (x : ByteArray) (f : Bool) (m : Value) : Prop := ∃ k : Nat, m = .int .i64 k ∧ k ≤ x.size ∧ (x.data.toList.take k).all (chOk f) = true
theorem tag_all {l : List UInt8} {T : List ByteArray} (hT : subB l = T) (h : ∀ j (hj : j < T.length), subOk (decide (j = 0)) T[j].data.toList = true) : tagL l = true := by
  unfold tagL
  refine subs_all fun j hj => ?_
  have := h j (by rw [← hT]; unfold subB; simpa using hj)
  simp only [← hT, subB, List.getElem_map, bs_toList] at this
  exact this
theorem tag_bad {l : List UInt8} {T : List ByteArray} (hT : subB l = T) {k : Nat} (hk : k < T.length) (h : subOk (decide (k = 0)) T[k].data.toList = false) : tagL l = false := by
  unfold tagL
  subst hT
  have hk2 : k < (subL l).length := by unfold subB at hk; simpa using hk
  refine subs_bad hk2 ?_
  simp only [subB, List.getElem_map, bs_toList] at h
  exact h
set_option maxHeartbeats 1000000 in
theorem rTag_any (s : ByteArray) (w : World) (hs : s.size ≤ 65000) :
    Calls Tryz.prog 38 #[.string s] w fun e w' => e = .returned (.bool (tagL s.data.toList)) ∧ Below w.heap.size w w' := by
  obtain ⟨T, hT⟩ : ∃ T, subB s.data.toList = T := ⟨_, rfl⟩
  have HT := box hT
  have hlen : T.length ≤ 65001 := by rw [← hT]; unfold subB; have := sub_count s.data.toList; have hz : s.data.toList.length = s.size := by simp
                                     rw [List.length_map]; omega
  have hsm : Box (∀ k (h : k < T.length), T[k].size ≤ 65000) := box (fun k hk => by
    subst hT
    have hk2 : k < (subL s.data.toList).length := by unfold subB at hk; simpa using hk
    have := (sub_mem s.data.toList _ (List.getElem_mem hk2)).2
    have hz : s.data.toList.length = s.size := by simp
    simp only [subB, List.getElem_map, bs_size]; omega)
  clear hT
  go_enter Tryz.func38, Tryz.ntmps38
  go_wp2_with fail
  refine (rSubs_any s _ hs).mono ?_; rintro e w1 ⟨v, rfl, hO1, hb1⟩
  rw [HT.out] at hO1
  obtain ⟨a1, cap1, rfl, hS1, hc1⟩ := hO1.ss
  have S1 := box hS1
  have B1 := box hb1
  clear hO1 hS1 hb1
  go_wp2
  go_loop [4, 5, 6] (fun i _ _ => TagO T i) (fun i _ _ => T.length - (intOf i).toNat)
  case atStart => exact ⟨0, rfl, Nat.zero_le _, fun j hj h => absurd h (by omega)⟩
  case round =>
    obtain ⟨k, rfl, hk, hall⟩ := hrel
    have HA := box hall
    clear hall
    by_cases hlt : k < T.length
    · obtain ⟨x, hx⟩ : ∃ x, T[k] = x := ⟨_, rfl⟩
      have HX := box hx
      have hxz : x.size ≤ 65000 := by rw [← hx]; exact hsm.out k hlt
      have hti : (k : Int) < (T.length : Int) := by omega
      obtain ⟨g, off, rfl, hcell⟩ := S1.out k hlt
      rw [hx] at hcell
      have hz : x.data.toList.length = x.size := by simp
      by_cases h1 : x.size < 1
      · have h1i : (x.size : Int) < 1 := by omega
        have HR : Box (tagL s.data.toList = false) := box (tag_bad HT.out hlt (by rw [hx]; exact sub_size (.inl (by omega))))
        clear hx hz
        go_wp2
        go_ret
        exact ⟨by rw [HR.out]; rfl, B1.out⟩
      · by_cases h8 : 8 < x.size
        · have h1i : ¬ (x.size : Int) < 1 := by omega
          have h8i : (8 : Int) < (x.size : Int) := by omega
          have HR : Box (tagL s.data.toList = false) := box (tag_bad HT.out hlt (by rw [hx]; exact sub_size (.inr (by omega))))
          clear hx hz
          go_wp2
          go_ret
          exact ⟨by rw [HR.out]; rfl, B1.out⟩
        · have h1i : ¬ (x.size : Int) < 1 := by omega
          have h8i : ¬ (8 : Int) < (x.size : Int) := by omega
          have HC : Box (subOk (decide (k = 0)) x.data.toList = x.data.toList.all (chOk (decide (k = 0)))) := box (sub_chars (by omega) (by omega))
          clear hx hz
          go_wp2
          go_loop [5, 6] (fun m _ => TagI x (decide (k = 0)) m) (fun m _ => x.size - (intOf m).toNat)
          case atStart => exact ⟨0, rfl, Nat.zero_le _, rfl⟩
          case round =>
            obtain ⟨m, rfl, hm, hc⟩ := hrel
            have HM := box hc
            clear hc
            by_cases hml : m < x.size
            · have hmi : (m : Int) < (x.size : Int) := by omega
              obtain ⟨c, hcq⟩ : ∃ c, x[m] = c := ⟨_, rfl⟩
              have hcc := ch_case k x[m]
              have HCQ := box hcq
              rw [hcq] at hcc
              have hbd := c_bd c
              have HY : Box (∀ r, chOk (decide (k = 0)) c = r → (r = true → (x.data.toList.take (m + 1)).all (chOk (decide (k = 0))) = true) ∧ (r = false → tagL s.data.toList = false)) := box (by
                intro r hr
                rw [← hcq] at hr
                refine ⟨fun ht => allC_more HM.out hml (by rw [hr, ht]), fun hf => tag_bad HT.out hlt ?_⟩
                rw [HX.out, HC.out]; exact allC_not hml (by rw [hr, hf]))
              rcases hcc with ⟨c1, c2, hr⟩ | ⟨c0, c1, c2, hr⟩ | ⟨c0, c1, hd, hr⟩ | ⟨c0, c1, hr⟩ | ⟨c0, c1, hd, hr⟩ | ⟨c0, c1, c2, hr⟩ | ⟨c0, c1, c2, hd, hr⟩ | ⟨c0, c1, hr⟩ | ⟨c0, c1, hd, hr⟩
              · have HR := box ((HY.out _ hr).1 rfl)
                clear hr
                go_wp2_with (go_at_call 65; refine (rDigit_c _ _).mono ?_; rintro e w' ⟨rfl, rfl⟩)
                go_round
                case rel => exact ⟨m + 1, by go_num, hml, HR.out⟩
                case measure => simp [intOf]; omega
              · have HR := box ((HY.out _ hr).1 rfl)
                clear hr
                go_wp2_with (go_at_call 65; refine (rDigit_c _ _).mono ?_; rintro e w' ⟨rfl, rfl⟩)
                go_round
                case rel => exact ⟨m + 1, by go_num, hml, HR.out⟩
                case measure => simp [intOf]; omega
              · have HR := box ((HY.out _ hr).1 rfl)
                clear hr
                go_wp2_with (go_at_call 65; refine (rDigit_c _ _).mono ?_; rintro e w' ⟨rfl, rfl⟩)
                go_round
                case rel => exact ⟨m + 1, by go_num, hml, HR.out⟩
                case measure => simp [intOf]; omega
              · have HR := box ((HY.out _ hr).2 rfl)
                clear hr
                go_wp2_with (go_at_call 65; refine (rDigit_c _ _).mono ?_; rintro e w' ⟨rfl, rfl⟩)
                go_ret
                exact ⟨by rw [HR.out]; rfl, B1.out⟩
              · have HR := box ((HY.out _ hr).2 rfl)
                clear hr
                go_wp2_with (go_at_call 65; refine (rDigit_c _ _).mono ?_; rintro e w' ⟨rfl, rfl⟩)
                go_ret
                exact ⟨by rw [HR.out]; rfl, B1.out⟩
              · have HR := box ((HY.out _ hr).2 rfl)
                clear hr
                have k1 : (65 : Int) ≤ (c.toNat : Int) := by omega
                have k2 : ¬ (c.toNat : Int) ≤ 90 := by omega
                go_wp2_with (go_at_call 65; refine (rDigit_c _ _).mono ?_; rintro e w' ⟨rfl, rfl⟩)
                go_ret
                exact ⟨by rw [HR.out]; rfl, B1.out⟩
              · have HR := box ((HY.out _ hr).2 rfl)
                clear hr
                have k1 : (65 : Int) ≤ (c.toNat : Int) := by omega
                have k2 : ¬ (c.toNat : Int) ≤ 90 := by omega
                go_wp2_with (go_at_call 65; refine (rDigit_c _ _).mono ?_; rintro e w' ⟨rfl, rfl⟩)
                go_ret
                exact ⟨by rw [HR.out]; rfl, B1.out⟩
              · have HR := box ((HY.out _ hr).2 rfl)
                clear hr
                have k1 : (65 : Int) ≤ (c.toNat : Int) := by omega
                have k2 : ¬ (c.toNat : Int) ≤ 90 := by omega
                have k3 : (97 : Int) ≤ (c.toNat : Int) := by omega
                have k4 : ¬ (c.toNat : Int) ≤ 122 := by omega
                go_wp2_with (go_at_call 65; refine (rDigit_c _ _).mono ?_; rintro e w' ⟨rfl, rfl⟩)
                go_ret
                exact ⟨by rw [HR.out]; rfl, B1.out⟩
              · have HR := box ((HY.out _ hr).2 rfl)
                clear hr
                have k1 : (65 : Int) ≤ (c.toNat : Int) := by omega
                have k2 : ¬ (c.toNat : Int) ≤ 90 := by omega
                have k3 : (97 : Int) ≤ (c.toNat : Int) := by omega
                have k4 : ¬ (c.toNat : Int) ≤ 122 := by omega
                go_wp2_with (go_at_call 65; refine (rDigit_c _ _).mono ?_; rintro e w' ⟨rfl, rfl⟩)
                go_ret
                exact ⟨by rw [HR.out]; rfl, B1.out⟩
            · have HR : Box (subOk (decide (k = 0)) x.data.toList = true) := box (by
                have h := HM.out
                rw [List.take_of_length_le (by simp; omega)] at h
                rw [HC.out, h])
              go_wp2
              go_round
              case rel => exact ⟨k + 1, by go_num, hlt, fun j hj hjk => by
                by_cases e : j = k
                · subst e; rw [HX.out]; exact HR.out
                · exact HA.out j hj (by omega)⟩
              case measure => simp [intOf]; omega
    · have HR : Box (tagL s.data.toList = true) := box (tag_all HT.out fun j hj => HA.out j hj (by omega))
      go_wp2
      go_ret
      exact ⟨by rw [HR.out]; rfl, B1.out⟩
theorem rTag_is {s : ByteArray} {b : Bool} {w : World} (hs : s.size ≤ 65000) (h : Box (tagL s.data.toList = b)) :
    Calls Tryz.prog 38 #[.string s] w fun e w' => e = .returned (.bool b) ∧ Below w.heap.size w w' :=
  (rTag_any s w hs).mono fun e w' ⟨h1, h2⟩ => ⟨by rw [h1, h.out], h2⟩
theorem star_list {s : ByteArray} : (s.toList == [42]) = decide (s.data.toList = [42]) := by
  rw [toList_data]
  by_cases h : s.data.toList = [42]
  · rw [decide_eq_true h, h]; rfl
  · rw [decide_eq_false h, beq_eq_false_iff_ne]; exact h
theorem rRangeT_any (s : ByteArray) (w : World) (hs : s.size ≤ 65000) :
    Calls Tryz.prog 37 #[.string s] w fun e w' => e = .returned (.bool (rangeT s.data.toList)) ∧ Below w.heap.size w w' := by
  have hst := star_list (s := s)
  cases h : decide (s.data.toList = [42]) with
  | true =>
    rw [h] at hst
    have HR : Box (rangeT s.data.toList = true) := box (by unfold rangeT; rw [h]; rfl)
    clear h
    go_enter Tryz.func37, Tryz.ntmps37
    go_wp2
    go_ret
    exact ⟨by rw [HR.out]; rfl, Below.refl _ _⟩
  | false =>
    rw [h] at hst
    have HR : Box (rangeT s.data.toList = tagL s.data.toList) := box (by unfold rangeT; rw [h, Bool.false_or])
    obtain ⟨b, hb⟩ : ∃ b, tagL s.data.toList = b := ⟨_, rfl⟩
    have HB := box hb
    clear h hb
    go_enter Tryz.func37, Tryz.ntmps37
    go_wp2_with fail
    refine (rTag_is hs HB).mono ?_; rintro e w1 ⟨rfl, hb1⟩
    have B1 := box hb1
    clear hb1
    go_wp2
    go_ret
    exact ⟨by rw [HR.out, HB.out]; rfl, B1.out⟩
end
end Go.Proofs.YtnpllgjkbpnimaaGreatDoor.Asc
