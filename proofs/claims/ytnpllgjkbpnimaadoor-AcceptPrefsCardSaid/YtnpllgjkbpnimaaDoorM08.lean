/- Merged texts: MedRef2 AccSpec PrfMem AccRef LstRem LstClo LanRef. -/
import Derived.Test.YtnpllgjkbpnimaaDoorM02
import Derived.Test.YtnpllgjkbpnimaaDoorM03
import Derived.Test.YtnpllgjkbpnimaaDoorM04
import Derived.Test.YtnpllgjkbpnimaaDoorM05
import Derived.Test.YtnpllgjkbpnimaaDoorM07
import Derived.Deep.RegionHeld3
import Derived.Laws.EntriesVeiled
import Derived.Lib.SliceRun
set_option linter.unusedVariables false
set_option linter.unusedSimpArgs false
set_option maxRecDepth 100000
namespace Go.Proofs.YtnpllgjkbpnimaaDoor.Asc
section
open Go.RowKit
theorem rRange_is {s : ByteArray} {a b : ByteArray} {L : List F} {q : Bool} {w : World} (hs : s.size ≤ 65000) (h : Box (ofM (rangeL s.data.toList) = (a, b, L) ∧ (rangeL s.data.toList).isSome = q)) :
    Calls Tryd.prog 42 #[.string s] w fun e w' => ∃ p cap, e = .returned (.tuple #[.agg #[.string a, .string b, .slice p L.length cap], .bool q]) ∧ OwnP w' w.heap.size (.slice p L.length cap) L ∧ Below w.heap.size w w' :=
  (rRange_any s w hs).mono fun e w' ⟨v, h1, h2, h3⟩ => by
    rw [h.out.1] at h1 h2
    rw [h.out.2] at h1
    obtain ⟨p, cap, rfl, _, _⟩ := h2.fs
    exact ⟨p, cap, h1, h2, h3⟩
def fmtMB (m : M) : ByteArray := fmtPB (m.1 ++ (⟨#[47]⟩ : ByteArray) ++ m.2.1) m.2.2
theorem rFmtType_any (a b : ByteArray) (p : Option Addr) (cap : Nat) (L : List F) (w : World) (ha : a.size ≤ 30000) (hb : b.size ≤ 30000) (hl : L.length ≤ 65536) (hz : Box (∀ i (hi : i < L.length), L[i].1.size ≤ 65536 ∧ L[i].2.size ≤ 65536)) (hF : Box (Fs w p L)) :
    Calls Tryd.prog 43 #[.agg #[.string a, .string b, .slice p L.length cap]] w fun e w' => e = .returned (.string (fmtMB (a, b, L))) ∧ Below w.heap.size w w' := by
  have s1 : (a ++ (⟨#[47]⟩ : ByteArray)).size = a.size + 1 := by rw [ByteArray.size_append]; rfl
  have r1 : ∀ w, (Op.stringOp .add a ⟨#[47]⟩).run Tryd.prog w = .ok (.string (a ++ ⟨#[47]⟩)) w := fun w => run_string_add_sum w _ _ (by show a.size + 1 ≤ 9223372036854775807; omega)
  have r2 : ∀ w, (Op.stringOp .add (a ++ (⟨#[47]⟩ : ByteArray)) b).run Tryd.prog w = .ok (.string (a ++ ⟨#[47]⟩ ++ b)) w := fun w => run_string_add_sum w _ _ (by rw [s1]; show a.size + 1 + b.size ≤ 9223372036854775807; omega)
  have hv : (a ++ (⟨#[47]⟩ : ByteArray) ++ b).size ≤ 65536 := by rw [ByteArray.size_append, s1]; omega
  clear s1
  go_enter Tryd.func43, Tryd.ntmps43
  go_wp2_with fail
  refine (rFmt_any (a ++ (⟨#[47]⟩ : ByteArray) ++ b) p cap L _ hv hl hz (box (hF.out.below (below_new w _)))).mono ?_; rintro e w1 ⟨rfl, hb1⟩
  have B1 := box ((below_new w _).trans (hb1.mono (below_new w _).size))
  clear hb1
  go_wp2
  go_ret
  exact ⟨rfl, B1.out⟩
end
section
def nmAcc : ByteArray := ⟨#[65, 99, 99, 101, 112, 116]⟩
def nmLan : ByteArray := ⟨#[65, 99, 99, 101, 112, 116, 45, 76, 97, 110, 103, 117, 97, 103, 101]⟩
def nmCha : ByteArray := ⟨#[65, 99, 99, 101, 112, 116, 45, 67, 104, 97, 114, 115, 101, 116]⟩
def nmCod : ByteArray := ⟨#[65, 99, 99, 101, 112, 116, 45, 69, 110, 99, 111, 100, 105, 110, 103]⟩
def nameK (k : Int) : ByteArray := if k = 1 then nmAcc else if k = 2 then nmLan else if k = 3 then nmCha else if k = 4 then nmCod else ⟨#[]⟩
def kindN (n : ByteArray) : Int :=
  if foldL n.data.toList nmAcc.data.toList = true then 1
  else if foldL n.data.toList nmLan.data.toList = true then 2
  else if foldL n.data.toList nmCha.data.toList = true then 3
  else if foldL n.data.toList nmCod.data.toList = true then 4 else 0
/-- the place of the first parameter q -/
def isQ (p : F) : Bool := decide (p.1 = (⟨#[113]⟩ : ByteArray))
def atQ (L : List F) : Nat := (L.takeWhile fun p => !isQ p).length
/-- the quality that the parameters say -/
def qualP (L : List F) : Option Int := if h : atQ L < L.length then qvL (L[atQ L]'h).2.data.toList else some 1000
def memP (k : Int) (s : List UInt8) : Option (ByteArray × Int) := match parL s with
  | none => none
  | some (v, L) => match qualP L with
    | none => none
    | some q =>
      if k = 1 then match rangeL v with
        | none => none
        | some (a, b, _) => some (fmtPB (a ++ (⟨#[47]⟩ : ByteArray) ++ b) (L.take (atQ L)), q)
      else if ((if k = 2 then rangeT v else tokL v) && decide (atQ L = 0)) = true then some (bs (canL k v), q) else none
/-- a preference as a member -/
def onePref (p : ByteArray × Int) : List UInt8 := p.1.data.toList ++ (if p.2 = 1000 then [] else 59 :: 113 :: 61 :: fmtQ p.2)
theorem atQ_le (L : List F) : atQ L ≤ L.length := by
  unfold atQ
  have := congrArg List.length (List.takeWhile_append_dropWhile (p := fun p => !isQ p) (l := L))
  rw [List.length_append] at this; omega
theorem atQ_is : ∀ {L : List F} {k : Nat}, (∀ j (hj : j < L.length), j < k → isQ L[j] = false) → (k = L.length ∨ ∃ hk : k < L.length, isQ L[k] = true) → atQ L = k
  | [], k, _, h => by
    rcases h with h | ⟨hk, _⟩
    · simp at h; subst h; rfl
    · simp at hk
  | p :: L, 0, _, h => by
    rcases h with h | ⟨_, h⟩
    · simp at h
    · have h' : isQ p = true := h
      unfold atQ
      rw [List.takeWhile_cons, if_neg (by rw [h']; simp)]; rfl
  | p :: L, k + 1, hn, h => by
    have h0 : isQ p = false := hn 0 (by simp) (by omega)
    have ih : atQ L = k := atQ_is (L := L) (k := k) (fun j hj hjk => hn (j + 1) (by simpa using hj) (by omega)) (by
      rcases h with h | ⟨hk, h⟩
      · left; simpa using h
      · right; exact ⟨by simpa using hk, h⟩)
    unfold atQ at ih ⊢
    rw [List.takeWhile_cons, if_pos (by rw [h0]; rfl), List.length_cons, ih]
theorem mem_none {k : Int} {s : List UInt8} (h : parL s = none) : memP k s = none := by unfold memP; rw [h]
theorem mem_noq {k : Int} {s v : List UInt8} {L : List F} (h : parL s = some (v, L)) (hq : qualP L = none) : memP k s = none := by unfold memP; rw [h]; simp only; rw [hq]
theorem mem_acc {s v : List UInt8} {L : List F} {q : Int} (h : parL s = some (v, L)) (hq : qualP L = some q) : memP 1 s = (rangeL v).map fun m => (fmtPB (m.1 ++ (⟨#[47]⟩ : ByteArray) ++ m.2.1) (L.take (atQ L)), q) := by
  unfold memP; rw [h]; simp only; rw [hq]; simp only
  rw [if_pos trivial]
  cases rangeL v with
  | none => rfl
  | some m => obtain ⟨a, b, K⟩ := m; rfl
theorem mem_oth {k : Int} {s v : List UInt8} {L : List F} {q : Int} (hk : k ≠ 1) (h : parL s = some (v, L)) (hq : qualP L = some q) : memP k s = if ((if k = 2 then rangeT v else tokL v) && decide (atQ L = 0)) = true then some (bs (canL k v), q) else none := by
  unfold memP; rw [h]; simp only; rw [hq]; simp only
  rw [if_neg hk]
end
section
open Go.RowKit Go.ChangeShapes Go.WideShapes Go.Deep
abbrev QP := ByteArray × Int
/-- preferences at an address -/
def Qs (w : World) (a : Option Addr) (L : List QP) : Prop :=
  ∀ i (h : i < L.length), ∃ g off, a = some ⟨g, off, none⟩ ∧ w.cell? ⟨g, off + i * 2, none⟩ = some (.string L[i].1) ∧ w.cell? ⟨g, off + i * 2 + 1, none⟩ = some (.int .i64 L[i].2)
theorem Qs.below {w w' : World} {a : Option Addr} {L : List QP} (h : Qs w a L) (hb : Below w.heap.size w w') : Qs w' a L := fun i hi => by
  obtain ⟨g, off, e, c0, c1⟩ := h i hi
  exact ⟨g, off, e, (hb.cell (cell_lt c0)).trans c0, (hb.cell (cell_lt c1)).trans c1⟩
theorem info_prf : (Tryd.prog.info? 44).map (fun i => (i.zero, i.size, i.bytes)) = some (some (.agg #[.string ⟨#[]⟩, .int .i64 0]), 2, 24) := by kernel_rfl
def cellsQ (L : List QP) : List Value := L.flatMap fun p => [.string p.1, .int .i64 p.2]
theorem cellsQ_len (L : List QP) : (cellsQ L).length = L.length * 2 := by
  induction L with
  | nil => rfl
  | cons p L ih => simp only [cellsQ, List.flatMap_cons, List.length_append, List.length_cons, List.length_nil] at *; omega
theorem cellsQ_app (L M : List QP) : cellsQ (L ++ M) = cellsQ L ++ cellsQ M := by simp [cellsQ]
theorem cellsQ_at (L : List QP) (i : Nat) (h : i < L.length) : (cellsQ L)[i * 2]? = some (.string L[i].1) ∧ (cellsQ L)[i * 2 + 1]? = some (.int .i64 L[i].2) := by
  have e : L = L.take i ++ L[i] :: L.drop (i + 1) := by rw [← List.drop_eq_getElem_cons h, List.take_append_drop]
  have hl : (cellsQ (L.take i)).length = i * 2 := by rw [cellsQ_len, List.length_take, Nat.min_eq_left (Nat.le_of_lt h)]
  have e2 : cellsQ L = cellsQ (L.take i) ++ (.string L[i].1 :: .int .i64 L[i].2 :: cellsQ (L.drop (i + 1))) := by
    conv => lhs; rw [e, cellsQ_app]
    rfl
  rw [e2]
  constructor
  · rw [List.getElem?_append_right (by omega), hl]; simp
  · rw [List.getElem?_append_right (by omega), hl]; simp
def OwnQ (w : World) (B : Nat) (v : Value) (L : List QP) : Prop := w.ownsRow B 44 2 v L.length (cellsQ L)
section
variable {w w' : World} {B : Nat} {v : Value}
theorem OwnQ.nil (w : World) (B : Nat) : OwnQ w B (.slice none 0 0) [] := World.ownsRow_nil _ _ _ _
/-- what a slice of preferences that a call owns looks like -/
theorem OwnQ.qs {L : List QP} (h : OwnQ w B v L) : ∃ a cap, v = .slice a L.length cap ∧ Qs w a L ∧ L.length ≤ cap := by
  rcases h.2 with ⟨rfl, hn⟩ | ⟨g, cap, cur, rfl, hB, hg, hc, hm, hs, ht⟩
  · exact ⟨none, 0, by rw [hn], fun i hi => by omega, by omega⟩
  · refine ⟨_, cap, rfl, fun i hi => ⟨g, 0, rfl, ?_, ?_⟩, hc⟩
    all_goals
      obtain ⟨q0, q1⟩ := cellsQ_at L i hi
      rw [← ht] at q0 q1
      rw [List.getElem?_take] at q0 q1
      rw [if_pos (by omega)] at q0 q1
      simp only [World.cell?, hg]
    · simpa using q0
    · simpa [Nat.add_assoc] using q1
end
/-- append of one preference that lies in a block of its own -/
theorem wpList_append_prf (w : World) {ops : Array Oper} {rest : List Oper} {o : Oper} {a : Act} {Q : Exit → Act → World → Prop} (hgd : o.guard = none) (s x : Operand)
    (ho : o.op = .call { callee := .builtin .append, args := #[s, x], argTypes := #[28, 28] })
    (B : Nat) (v : Value) (L : List QP) (hs : a.eval s = v) (hown : OwnQ w B v L)
    (g : Nat) (c : Nat) (hx : a.eval x = .slice (some ⟨g, 0, none⟩) 1 c) (n : ByteArray) (u : Int) (h0 : w.cell? ⟨g, 0, none⟩ = some (.string n)) (h1 : w.cell? ⟨g, 1, none⟩ = some (.int .i64 u)) (hl : L.length ≤ 65536) (hB : B ≤ w.heap.size)
    (h : ∀ v' w', OwnQ w' B v' (L ++ [(n, u)]) → Below B w w' → wpList Tryd.prog ops Q rest (a.put o.dst v') w') : wpList Tryd.prog ops Q (o :: rest) a w := by
  obtain ⟨i0, hi0, hz0, hz1, hz2⟩ := info_parts info_prf
  refine wpList_append_own (P := Tryd.prog) w hgd s x 28 ho B 44 i0 _ 2 24 Tryd.underlying28 hi0 hz0 hz1 hz2 rfl (by decide) v L.length (cellsQ L) hs hown ⟨g, 0, none⟩ 1 c [.string n, .int .i64 u] hx rfl ?_ ?_ (by unfold maxLen; omega) (by omega) hB ?_
  · intro j u hj
    match j, hj with
    | 0, hj => simp at hj; subst hj; simpa [Addr.add] using h0
    | 1, hj => simp at hj; subst hj; simpa [Addr.add] using h1
  · intro u hu; simp at hu; rcases hu with rfl | rfl <;> rfl
  · intro v' w' q1 q2 _
    refine h v' w' (by simpa [OwnQ, cellsQ_app, cellsQ] using q1) ((Below.refl _ _).grown q2 hB (fun k hk => own_block hown k hk))
end
section
open Go.RowKit
/-- two values lie at the block's start, and may be written -/
def C2 (g : Nat) (c0 c1 : Value) (w : World) : Prop :=
  (w.cell? ⟨g, 0, none⟩ = some c0 ∧ w.cell? ⟨g, 1, none⟩ = some c1) ∧ (w.frozen? ⟨g, 0, none⟩ = false ∧ w.frozen? ⟨g, 1, none⟩ = false)
section
variable {g B : Nat} {c0 c1 : Value} {w w' : World}
theorem C2.new (c0 c1 : Value) (w : World) (t : TypeId) : C2 w.heap.size c0 c1 (w.alloc (.cells #[c0, c1] t)) := by
  refine ⟨⟨?_, ?_⟩, ⟨?_, ?_⟩⟩
  all_goals first
    | (rw [World.cell?_alloc_mark]; rfl)
    | exact World.frozen?_alloc_at _ _ _ _ rfl
theorem C2.below (f : C2 g c0 c1 w) (hb : Below B w w') (hg : g < B) : C2 g c0 c1 w' := by
  obtain ⟨⟨h0, h1⟩, ⟨f0, f1⟩⟩ := f
  exact ⟨⟨(hb.cell hg).trans h0, (hb.cell hg).trans h1⟩, ⟨(hb.frozen hg).trans f0, (hb.frozen hg).trans f1⟩⟩
theorem C2.lt (f : C2 g c0 c1 w) : g < w.heap.size := cell_lt (p := ⟨g, 0, none⟩) f.1.1
theorem C2.next (f : C2 g c0 c1 w) (hb : Below w.heap.size w w') : C2 g c0 c1 w' := f.below hb f.lt
end
theorem below2 {w w1 : World} {g : Nat} (h : Below w.heap.size w w1) (hg : w.heap.size ≤ g) (v0 v1 : Value) : Below w.heap.size w ((w1.setCell ⟨g, 0, none⟩ v0).setCell ⟨g, 1, none⟩ v1) :=
  (h.setCell (p := ⟨g, 0, none⟩) hg v0).setCell (p := ⟨g, 1, none⟩) hg v1
theorem name_no {k : Int} (h1 : ¬ k = 1) (h2 : ¬ k = 2) (h3 : ¬ k = 3) (h4 : ¬ k = 4) : nameK k = ⟨#[]⟩ := by unfold nameK; rw [if_neg h1, if_neg h2, if_neg h3, if_neg h4]
theorem rName_any (k : Int) (w : World) (hk : InI64 k) :
    Calls Tryd.prog 10 #[.int .i64 k] w fun e w' => e = .returned (.string (nameK k)) ∧ w = w' := by
  by_cases h1 : k = 1
  · subst h1
    go_enter Tryd.func10, Tryd.ntmps10
    go_wp2
    go_ret
    exact ⟨rfl, rfl⟩
  · by_cases h2 : k = 2
    · subst h2
      go_enter Tryd.func10, Tryd.ntmps10
      go_wp2
      go_ret
      exact ⟨rfl, rfl⟩
    · by_cases h3 : k = 3
      · subst h3
        go_enter Tryd.func10, Tryd.ntmps10
        go_wp2
        go_ret
        exact ⟨rfl, rfl⟩
      · by_cases h4 : k = 4
        · subst h4
          go_enter Tryd.func10, Tryd.ntmps10
          go_wp2
          go_ret
          exact ⟨rfl, rfl⟩
        · have HV := box (name_no h1 h2 h3 h4)
          have e1 : (k == 1) = false := by rw [beq_eq_false_iff_ne]; exact h1
          have e2 : (k == 2) = false := by rw [beq_eq_false_iff_ne]; exact h2
          have e3 : (k == 3) = false := by rw [beq_eq_false_iff_ne]; exact h3
          have e4 : (k == 4) = false := by rw [beq_eq_false_iff_ne]; exact h4
          clear h1 h2 h3 h4
          go_enter Tryd.func10, Tryd.ntmps10
          go_wp2
          go_ret
          exact ⟨by rw [HV.out]; rfl, rfl⟩
theorem rName_is {k : Int} {x : ByteArray} {w : World} (hk : InI64 k) (h : Box (nameK k = x)) :
    Calls Tryd.prog 10 #[.int .i64 k] w fun e w' => e = .returned (.string x) ∧ w = w' :=
  (rName_any k w hk).mono fun e w' ⟨h1, h2⟩ => ⟨by rw [h1, h.out], h2⟩
theorem rFold13_is {a b : ByteArray} {q : Bool} {w : World} (ha : a.size ≤ 4294967296) (hb : b.size ≤ 4294967296) (h : Box (foldL a.data.toList b.data.toList = q)) :
    Calls Tryd.prog 21 #[.string a, .string b] w fun e w' => e = .returned (.bool q) ∧ Below w.heap.size w w' :=
  (rFold_any a b w ha hb).mono fun e w' ⟨h1, h2⟩ => ⟨by rw [h1, h.out], h2⟩
/-- the names ahead of j are others -/
def KdRel (n : ByteArray) (W : World) (i : Value) (wr : World) : Prop := ∃ j : Nat, i = .int .i64 j ∧ 1 ≤ j ∧ j ≤ 5 ∧ (∀ i : Nat, 1 ≤ i → i < j → foldL n.data.toList (nameK i).data.toList = false) ∧ Below W.heap.size W wr
theorem kind_at {n : ByteArray} {j : Nat} (h1 : 1 ≤ j) (h5 : j ≤ 4) (hn : ∀ i : Nat, 1 ≤ i → i < j → foldL n.data.toList (nameK i).data.toList = false) (h : foldL n.data.toList (nameK j).data.toList = true) : kindN n = (j : Int) := by
  have k1 := hn 1; have k2 := hn 2; have k3 := hn 3
  unfold kindN
  obtain rfl | rfl | rfl | rfl : j = 1 ∨ j = 2 ∨ j = 3 ∨ j = 4 := by omega
  · have h' : foldL n.data.toList nmAcc.data.toList = true := h
    rw [if_pos h']; rfl
  · have k1' : foldL n.data.toList nmAcc.data.toList = false := k1 (by omega) (by omega)
    have h' : foldL n.data.toList nmLan.data.toList = true := h
    rw [if_neg (by rw [k1']; simp), if_pos h']; rfl
  · have k1' : foldL n.data.toList nmAcc.data.toList = false := k1 (by omega) (by omega)
    have k2' : foldL n.data.toList nmLan.data.toList = false := k2 (by omega) (by omega)
    have h' : foldL n.data.toList nmCha.data.toList = true := h
    rw [if_neg (by rw [k1']; simp), if_neg (by rw [k2']; simp), if_pos h']; rfl
  · have k1' : foldL n.data.toList nmAcc.data.toList = false := k1 (by omega) (by omega)
    have k2' : foldL n.data.toList nmLan.data.toList = false := k2 (by omega) (by omega)
    have k3' : foldL n.data.toList nmCha.data.toList = false := k3 (by omega) (by omega)
    have h' : foldL n.data.toList nmCod.data.toList = true := h
    rw [if_neg (by rw [k1']; simp), if_neg (by rw [k2']; simp), if_neg (by rw [k3']; simp), if_pos h']; rfl
theorem kind_no {n : ByteArray} (hn : ∀ i : Nat, 1 ≤ i → i < 5 → foldL n.data.toList (nameK i).data.toList = false) : kindN n = 0 := by
  have k1 : foldL n.data.toList nmAcc.data.toList = false := hn 1 (by omega) (by omega)
  have k2 : foldL n.data.toList nmLan.data.toList = false := hn 2 (by omega) (by omega)
  have k3 : foldL n.data.toList nmCha.data.toList = false := hn 3 (by omega) (by omega)
  have k4 : foldL n.data.toList nmCod.data.toList = false := hn 4 (by omega) (by omega)
  unfold kindN
  rw [if_neg (by rw [k1]; simp), if_neg (by rw [k2]; simp), if_neg (by rw [k3]; simp), if_neg (by rw [k4]; simp)]
theorem name_size (k : Int) : (nameK k).size ≤ 15 := by
  unfold nameK
  split
  · decide
  · split
    · decide
    · split
      · decide
      · split
        · decide
        · decide
theorem rKind_any (n : ByteArray) (w : World) (hn : n.size ≤ 4294967296) :
    Calls Tryd.prog 8 #[.string n] w fun e w' => e = .returned (.int .i64 (kindN n)) ∧ Below w.heap.size w w' := by
  go_enter Tryd.func8, Tryd.ntmps8
  go_wp2
  go_loopw [3] (fun i wr => KdRel n w i wr) (fun i _ => 5 - (intOf i).toNat)
  case atStart => exact ⟨1, rfl, Nat.le_refl _, by omega, fun i h1 h2 => by omega, Below.refl _ _⟩
  case round =>
    obtain ⟨j, rfl, h1, h5, hno, hbel⟩ := hrel
    have HNO := box hno
    have BL := box hbel
    clear hno hbel
    by_cases h4 : j ≤ 4
    · have h4i : (j : Int) ≤ 4 := by omega
      have hji : InI64 (j : Int) := ⟨by omega, by omega⟩
      obtain ⟨x, hx⟩ : ∃ x, nameK j = x := ⟨_, rfl⟩
      have HX := box hx
      have hxz : x.size ≤ 4294967296 := by have := name_size j; rw [hx] at this; omega
      clear hx
      cases hf : foldL n.data.toList x.data.toList with
      | true =>
        have HF := box hf
        have HV : Box (kindN n = (j : Int)) := box (kind_at h1 h4 HNO.out (by rw [HX.out]; exact hf))
        clear hf
        go_wp2_with fail
        refine (rName_is hji HX).mono ?_; rintro e w1 ⟨rfl, rfl⟩
        go_wp2_with fail
        refine (rFold13_is hn hxz HF).mono ?_; rintro e w2 ⟨rfl, hb2⟩
        have B2 := box (BL.out.trans (hb2.mono BL.out.size))
        clear hb2
        go_wp2
        go_ret
        exact ⟨by rw [HV.out]; rfl, B2.out⟩
      | false =>
        have HF := box hf
        have HN2 : Box (∀ i : Nat, 1 ≤ i → i < j + 1 → foldL n.data.toList (nameK i).data.toList = false) := box (fun i hi1 hi2 => by
          by_cases e : i = j
          · subst e; rw [HX.out]; exact HF.out
          · exact HNO.out i hi1 (by omega))
        clear hf
        go_wp2_with fail
        refine (rName_is hji HX).mono ?_; rintro e w1 ⟨rfl, rfl⟩
        go_wp2_with fail
        refine (rFold13_is hn hxz HF).mono ?_; rintro e w2 ⟨rfl, hb2⟩
        have B2 := box (BL.out.trans (hb2.mono BL.out.size))
        clear hb2
        go_wp2
        go_roundw
        case rel => exact ⟨j + 1, by go_num, by omega, by omega, HN2.out, B2.out⟩
        case measure => simp [intOf]; omega
    · have h4i : ¬ (j : Int) ≤ 4 := by omega
      have HV : Box (kindN n = 0) := box (kind_no fun i hi1 hi2 => HNO.out i hi1 (by omega))
      go_wp2
      go_ret
      exact ⟨by rw [HV.out]; rfl, BL.out⟩
end
section
open Go.RowKit
/-- what the function value of Remove has captured: a variable that holds the function value of named -/
def Cap (g2 g1 : Nat) (nm : ByteArray) (w : World) : Prop := w.cell? ⟨g2, 0, none⟩ = some (nmV g1) ∧ Nm g1 nm w
theorem Cap.below {w w' : World} {g2 g1 : Nat} {nm : ByteArray} (h : Cap g2 g1 nm w) (hb : Below w.heap.size w w') : Cap g2 g1 nm w' := ⟨(hb.cell (cell_lt h.1)).trans h.1, h.2.below hb⟩
end
section
open Go.RowKit
theorem OwnF.empty (w : World) : OwnF (w.alloc (.cells #[] 36)) w.heap.size (.slice (some ⟨w.heap.size, 0, none⟩) 0 0) [] :=
  ⟨rfl, .inr ⟨_, _, _, rfl, Nat.le_refl _, heap_alloc_new w _, Nat.zero_le _, by unfold maxLen; omega, rfl, rfl⟩⟩
end
section
open Go.RowKit
/-- append of one string, at a step of a region that draws its order -/
theorem step_append_str (w : World) {ops : Array Oper} {o : Oper} {a : Act} {K : Act → World → Prop} {Q : Exit → Act → World → Prop} {E : Prop} (hgd : o.guard = none) (s x : Operand)
    (ho : o.op = .call { callee := .builtin .append, args := #[s, x], argTypes := #[37, 37] })
    (B : Nat) (v : Value) (L : List ByteArray) (hs : a.eval s = v) (hown : OwnS w B v L)
    (g : Nat) (c : Nat) (hx : a.eval x = .slice (some ⟨g, 0, none⟩) 1 c) (u : ByteArray) (h0 : w.cell? ⟨g, 0, none⟩ = some (.string u)) (hl : L.length ≤ 65536) (hB : B ≤ w.heap.size)
    (h : ∀ v' w', OwnS w' B v' (L ++ [u]) → Below B w w' → K (a.put o.dst v') w') :
    if Region.wanted o (yielded ops a.tmps) = true then Oper.wp Tryd.prog o a w K Q else E := by
  obtain ⟨i0, hi0, hz0, hz1, hz2⟩ := info_parts info_str
  refine step_append_lies (P := Tryd.prog) w hgd s x 37 ho B 9 i0 _ 1 16 Tryd.underlying37 hi0 hz0 hz1 hz2 rfl (by decide) v L.length (L.map Value.string) hs hown ⟨g, 0, none⟩ 1 c [.string u] hx rfl ?_ ?_ (by omega) (by unfold maxLen; omega) (by omega) hB _ rfl ?_
  · intro j u hj
    match j, hj with
    | 0, hj => simp at hj; subst hj; simpa [Addr.add] using h0
  · intro u hu; simp at hu; subst hu; rfl
  · intro g' cap' w' q1 q2 _ _
    refine h _ w' (by simpa [OwnS] using q1) ((Below.refl _ _).grown q2 hB (fun k hk => own_block hown k hk))
theorem OwnS.drewN {w : World} {B n : Nat} {v : Value} {L : List ByteArray} (h : OwnS w B v L) : OwnS (w.drewN n) B v L := own_below h (below_drewN _ _)
theorem size_more11 (w : World) (o : Obj) : w.heap.size ≤ (w.alloc o).heap.size := ((Below.refl w.heap.size w).alloc (Nat.le_refl _) o).size
theorem cell_new1 (w : World) (u : Value) (t : TypeId) : (w.alloc (.cells #[u] t)).cell? ⟨w.heap.size, 0, none⟩ = some u := by rw [World.cell?_alloc_mark]; rfl
def subB (l : List UInt8) : List ByteArray := (subL l).map bs
/-- what has been cut off, and what is left -/
def SbRel (l : List UInt8) (B : Nat) (w : World) (s out : Value) (wr : World) : Prop :=
  ∃ (t : ByteArray) (acc : List ByteArray), s = .string t ∧ OwnS wr B out acc ∧ acc ++ subB t.data.toList = subB l ∧ t.size ≤ l.length ∧ acc.length + t.size ≤ l.length ∧ Below w.heap.size w wr
def strLen : Value → Nat
  | .string s => s.size
  | _ => 0
theorem sub_left {t : ByteArray} (h : Lib.indexByte t.data.toList 45 = -1) : subB t.data.toList = [t] := by
  have hn : (45 : UInt8) ∉ t.data.toList := by
    have := (cut_no h).2.2
    simpa [cutB] using this
  unfold subB; rw [sub_no hn]; rfl
theorem sub_step {t : ByteArray} {o : Nat} (h : Lib.indexByte t.data.toList 45 = (o : Int)) : subB t.data.toList = t.extract 0 o :: subB (t.extract (o + 1) t.size).data.toList := by
  obtain ⟨h1, h2, h3, h4⟩ := cut_at h
  have hz : t.data.toList.length = t.size := by simp
  have hn : (45 : UInt8) ∉ t.data.toList.take o := by
    rw [← h2]; unfold cut1
    intro hm
    have := List.all_eq_true.1 (List.all_takeWhile (p := (· != (45 : UInt8))) (l := t.data.toList)) 45 hm
    simp at this
  have e : t.data.toList = t.data.toList.take o ++ 45 :: t.data.toList.drop (o + 1) := by
    have h5 := cut_join h4
    rwa [h2, h3] at h5
  have e2 : (t.extract (o + 1) t.size).data.toList = t.data.toList.drop (o + 1) := by rw [ext_bs, bs_toList, List.take_of_length_le (by omega)]
  rw [e2]
  unfold subB
  conv => lhs; rw [e]
  rw [sub_at hn, ext_bs, List.drop_zero]; rfl
theorem rIndex45_is {s : ByteArray} {n : Int} {w : World} (hs : s.size ≤ maxLen) (h : Box (idxF s.data.toList 45 0 = n)) :
    Calls Tryd.prog 63 #[.string s, .int .u8 45, .int .i64 0] w fun e w' => e = .returned (.int .i64 n) ∧ w = w' :=
  (rIndex_any s 45 45 0 w hs (Nat.zero_le _) rfl).mono fun e w' ⟨h1, h2⟩ => ⟨by rw [h1, h.out], h2⟩
set_option maxHeartbeats 1000000 in
theorem rSubs_any (s : ByteArray) (w : World) (hs : s.size ≤ 65000) :
    Calls Tryd.prog 87 #[.string s] w fun e w' => ∃ v, e = .returned v ∧ OwnS w' w.heap.size v (subB s.data.toList) ∧ Below w.heap.size w w' := by
  have hz : s.data.toList.length = s.size := by simp
  obtain ⟨l, hl⟩ : ∃ l, s.data.toList = l := ⟨_, rfl⟩
  have hll : l.length ≤ 65000 := by rw [← hl]; omega
  have HL := box hl
  rw [hl] at hz ⊢
  clear hl
  go_enter Tryd.func87, Tryd.ntmps87
  go_wp2
  go_loopw [0, 3, 4] (fun s out _ wr => SbRel l w.heap.size w s out wr) (fun s _ _ _ => strLen s)
  case atStart => exact ⟨s, [], rfl, OwnS.nil _ _, by rw [HL.out]; rfl, by omega, by simp; omega, Below.refl _ _⟩
  case round =>
    obtain ⟨t, acc, rfl, hO, hq, hts, hac, hb⟩ := hrel
    obtain ⟨av, cv, rfl, _, _⟩ := hO.ss
    have O := box hO
    have BL := box hb
    have HQ := box hq
    have hbs := hb.size
    have htm : t.size ≤ maxLen := by unfold maxLen; omega
    have hz2 : t.data.toList.length = t.size := by simp
    clear hO hb hq
    by_cases hi : idxF t.data.toList 45 0 < 0
    · have h1 := idxF_none hi
      rw [List.drop_zero] at h1
      have HS : Box (acc ++ [t] = subB l) := box (by rw [← HQ.out, sub_left h1])
      obtain ⟨n, hn⟩ : ∃ n, idxF t.data.toList 45 0 = n := ⟨_, rfl⟩
      have HN := box hn
      rw [hn] at hi
      clear h1 hn
      go_wp2_with fail
      refine (rIndex45_is htm HN).mono ?_; rintro e w1 ⟨rfl, rfl⟩
      go_wp2_with (at_builtin; refine wpList_append_str _ rfl (.tmp 9) (.tmp 11) rfl w.heap.size _ acc rfl (own_below O.out (below_new _ _)) _ _ rfl t (cell_new1 _ _ _) (by omega) (by simp; omega) ?_)
      intro v2 w2 hO2 hb2
      rw [HS.out] at hO2
      have O2 := box hO2
      have B2 := box ((BL.out.alloc hbs _).trans hb2)
      clear hO2 hb2
      go_wp2
      go_ret
      exact ⟨_, rfl, O2.out, B2.out⟩
    · obtain ⟨o, h1, h2, h3⟩ := idxF_some hi
      rw [List.drop_zero] at h1
      rw [Nat.zero_add] at h2 h3
      have ho : o < t.size := by omega
      have HS : Box (acc ++ [t.extract 0 o] ++ subB (t.extract (o + 1) t.size).data.toList = subB l) := box (by rw [← HQ.out, sub_step h1, List.append_assoc]; rfl)
      have hez : (t.extract (o + 1) t.size).size = t.size - (o + 1) := by rw [ByteArray.size_extract]; omega
      have HN := box h2
      have hoi : (o : Int) ≤ (t.size : Int) := by omega
      have ho0 : (0 : Int) ≤ (o : Int) := by omega
      have ho2 : (o : Int) + 1 ≤ (t.size : Int) := by omega
      have ho1 : (0 : Int) ≤ (o : Int) + 1 := by omega
      have hwr : IntKind.i64.wrap ((o : Int) + 1) = (o : Int) + 1 := by simp [IntKind.wrap, IntKind.bits, IntKind.signed]; omega
      clear h1 h2 hi h3
      go_wp2_with fail
      refine (rIndex45_is htm HN).mono ?_; rintro e w1 ⟨rfl, rfl⟩
      go_wp2
      go_region_held3 (fun w' => True) (first | trivial) (first | (refine step_append_str _ rfl (.tmp 13) (.tmp 17) (by rfl) w.heap.size _ acc (by rfl) ?_ _ _ (by rfl) (t.extract 0 o) ?_ ?_ ?_ ?_; (exact own_below (OwnS.drewN O.out) (below_new _ _)); (exact cell_new1 _ _ _); omega; (exact Nat.le_trans hbs (size_more11 _ _)); intro v4 w4 hO4 hb4; have O4 := box hO4; have B4 := box (((BL.out.trans ((below_drewN _ _).mono BL.out.size)).alloc hbs _).trans hb4); clear hO4 hb4))
      all_goals
        go_wp2
        go_roundw
        case rel => exact ⟨_, _, rfl, O4.out, HS.out, by omega, by simp; omega, B4.out⟩
        case measure => simp [strLen]; omega
end
end Go.Proofs.YtnpllgjkbpnimaaDoor.Asc
