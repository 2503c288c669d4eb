/- Merged texts: AccSpec PrfMem AccRef LstRem LstClo LanRef LisRef3. -/
import Derived.Test.YtlhcccakiidbdaaZa01
import Derived.Test.YtlhcccakiidbdaaZa02
import Derived.Test.YtlhcccakiidbdaaZa03
import Derived.Test.YtlhcccakiidbdaaZa04
import Derived.Test.YtlhcccakiidbdaaZa05
import Derived.Deep.RegionHeld3
import Derived.Laws.AppendOwnNone
import Derived.Laws.EntriesVeiled
import Derived.Lib.Hide
import Derived.Lib.SliceRun
import Derived.LoopTactic
import Derived.OwnWalk
set_option linter.unusedVariables false
set_option linter.unusedSimpArgs false
set_option maxRecDepth 100000
namespace Go.Proofs.Ytlhcccakiidbdaa.Asc
section
def nmAcc : ByteArray := ⟨#[65, 99, 99, 101, 112, 116]⟩
def nmLan : ByteArray := ⟨#[65, 99, 99, 101, 112, 116, 45, 76, 97, 110, 103, 117, 97, 103, 101]⟩
def nmCha : ByteArray := ⟨#[65, 99, 99, 101, 112, 116, 45, 67, 104, 97, 114, 115, 101, 116]⟩
def nmCod : ByteArray := ⟨#[65, 99, 99, 101, 112, 116, 45, 69, 110, 99, 111, 100, 105, 110, 103]⟩
def nameK (k : Int) : ByteArray := if k = 1 then nmAcc else if k = 2 then nmLan else if k = 3 then nmCha else if k = 4 then nmCod else ⟨#[]⟩
def kindN (n : ByteArray) : Int :=
  if foldL n.data.toList nmAcc.data.toList = true then 1
  else if foldL n.data.toList nmLan.data.toList = true then 2
  else if foldL n.data.toList nmCha.data.toList = true then 3
  else if foldL n.data.toList nmCod.data.toList = true then 4 else 0
end
section
open Go.RowKit Go.ChangeShapes Go.WideShapes Go.Deep
abbrev QP := ByteArray × Int
/-- preferences at an address -/
def Qs (w : World) (a : Option Addr) (L : List QP) : Prop :=
  ∀ i (h : i < L.length), ∃ g off, a = some ⟨g, off, none⟩ ∧ w.cell? ⟨g, off + i * 2, none⟩ = some (.string L[i].1) ∧ w.cell? ⟨g, off + i * 2 + 1, none⟩ = some (.int .i64 L[i].2)
theorem Qs.below {w w' : World} {a : Option Addr} {L : List QP} (h : Qs w a L) (hb : Below w.heap.size w w') : Qs w' a L := fun i hi => by
  obtain ⟨g, off, e, c0, c1⟩ := h i hi
  exact ⟨g, off, e, (hb.cell (cell_lt c0)).trans c0, (hb.cell (cell_lt c1)).trans c1⟩
section
variable {w w' : World} {B : Nat} {v : Value}
end
end
section
open Go.RowKit
/-- two values lie at the block's start, and may be written -/
def C2 (g : Nat) (c0 c1 : Value) (w : World) : Prop :=
  (w.cell? ⟨g, 0, none⟩ = some c0 ∧ w.cell? ⟨g, 1, none⟩ = some c1) ∧ (w.frozen? ⟨g, 0, none⟩ = false ∧ w.frozen? ⟨g, 1, none⟩ = false)
section
variable {g B : Nat} {c0 c1 : Value} {w w' : World}
theorem C2.new (c0 c1 : Value) (w : World) (t : TypeId) : C2 w.heap.size c0 c1 (w.alloc (.cells #[c0, c1] t)) := by
  refine ⟨⟨?_, ?_⟩, ⟨?_, ?_⟩⟩
  all_goals first
    | (rw [World.cell?_alloc_mark]; rfl)
    | exact World.frozen?_alloc_at _ _ _ _ rfl
theorem C2.below (f : C2 g c0 c1 w) (hb : Below B w w') (hg : g < B) : C2 g c0 c1 w' := by
  obtain ⟨⟨h0, h1⟩, ⟨f0, f1⟩⟩ := f
  exact ⟨⟨(hb.cell hg).trans h0, (hb.cell hg).trans h1⟩, ⟨(hb.frozen hg).trans f0, (hb.frozen hg).trans f1⟩⟩
theorem C2.lt (f : C2 g c0 c1 w) : g < w.heap.size := cell_lt (p := ⟨g, 0, none⟩) f.1.1
end
theorem name_no {k : Int} (h1 : ¬ k = 1) (h2 : ¬ k = 2) (h3 : ¬ k = 3) (h4 : ¬ k = 4) : nameK k = ⟨#[]⟩ := by unfold nameK; rw [if_neg h1, if_neg h2, if_neg h3, if_neg h4]
theorem rName_any (k : Int) (w : World) (hk : InI64 k) :
    Calls Try.prog 49 #[.int .i64 k] w fun e w' => e = .returned (.string (nameK k)) ∧ w = w' := by
  by_cases h1 : k = 1
  · subst h1
    go_enter Try.func49, Try.ntmps49
    go_wp2
    go_ret
    exact ⟨rfl, rfl⟩
  · by_cases h2 : k = 2
    · subst h2
      go_enter Try.func49, Try.ntmps49
      go_wp2
      go_ret
      exact ⟨rfl, rfl⟩
    · by_cases h3 : k = 3
      · subst h3
        go_enter Try.func49, Try.ntmps49
        go_wp2
        go_ret
        exact ⟨rfl, rfl⟩
      · by_cases h4 : k = 4
        · subst h4
          go_enter Try.func49, Try.ntmps49
          go_wp2
          go_ret
          exact ⟨rfl, rfl⟩
        · have HV := box (name_no h1 h2 h3 h4)
          have e1 : (k == 1) = false := by rw [beq_eq_false_iff_ne]; exact h1
          have e2 : (k == 2) = false := by rw [beq_eq_false_iff_ne]; exact h2
          have e3 : (k == 3) = false := by rw [beq_eq_false_iff_ne]; exact h3
          have e4 : (k == 4) = false := by rw [beq_eq_false_iff_ne]; exact h4
          clear h1 h2 h3 h4
          go_enter Try.func49, Try.ntmps49
          go_wp2
          go_ret
          exact ⟨by rw [HV.out]; rfl, rfl⟩
theorem rName_is {k : Int} {x : ByteArray} {w : World} (hk : InI64 k) (h : Box (nameK k = x)) :
    Calls Try.prog 49 #[.int .i64 k] w fun e w' => e = .returned (.string x) ∧ w = w' :=
  (rName_any k w hk).mono fun e w' ⟨h1, h2⟩ => ⟨by rw [h1, h.out], h2⟩
theorem rFold13_is {a b : ByteArray} {q : Bool} {w : World} (ha : a.size ≤ 4294967296) (hb : b.size ≤ 4294967296) (h : Box (foldL a.data.toList b.data.toList = q)) :
    Calls Try.prog 23 #[.string a, .string b] w fun e w' => e = .returned (.bool q) ∧ Below w.heap.size w w' :=
  (rFold_any a b w ha hb).mono fun e w' ⟨h1, h2⟩ => ⟨by rw [h1, h.out], h2⟩
/-- the names ahead of j are others -/
def KdRel (n : ByteArray) (W : World) (i : Value) (wr : World) : Prop := ∃ j : Nat, i = .int .i64 j ∧ 1 ≤ j ∧ j ≤ 5 ∧ (∀ i : Nat, 1 ≤ i → i < j → foldL n.data.toList (nameK i).data.toList = false) ∧ Below W.heap.size W wr
theorem kind_at {n : ByteArray} {j : Nat} (h1 : 1 ≤ j) (h5 : j ≤ 4) (hn : ∀ i : Nat, 1 ≤ i → i < j → foldL n.data.toList (nameK i).data.toList = false) (h : foldL n.data.toList (nameK j).data.toList = true) : kindN n = (j : Int) := by
  have k1 := hn 1; have k2 := hn 2; have k3 := hn 3
  unfold kindN
  obtain rfl | rfl | rfl | rfl : j = 1 ∨ j = 2 ∨ j = 3 ∨ j = 4 := by omega
  · have h' : foldL n.data.toList nmAcc.data.toList = true := h
    rw [if_pos h']; rfl
  · have k1' : foldL n.data.toList nmAcc.data.toList = false := k1 (by omega) (by omega)
    have h' : foldL n.data.toList nmLan.data.toList = true := h
    rw [if_neg (by rw [k1']; simp), if_pos h']; rfl
  · have k1' : foldL n.data.toList nmAcc.data.toList = false := k1 (by omega) (by omega)
    have k2' : foldL n.data.toList nmLan.data.toList = false := k2 (by omega) (by omega)
    have h' : foldL n.data.toList nmCha.data.toList = true := h
    rw [if_neg (by rw [k1']; simp), if_neg (by rw [k2']; simp), if_pos h']; rfl
  · have k1' : foldL n.data.toList nmAcc.data.toList = false := k1 (by omega) (by omega)
    have k2' : foldL n.data.toList nmLan.data.toList = false := k2 (by omega) (by omega)
    have k3' : foldL n.data.toList nmCha.data.toList = false := k3 (by omega) (by omega)
    have h' : foldL n.data.toList nmCod.data.toList = true := h
    rw [if_neg (by rw [k1']; simp), if_neg (by rw [k2']; simp), if_neg (by rw [k3']; simp), if_pos h']; rfl
theorem kind_no {n : ByteArray} (hn : ∀ i : Nat, 1 ≤ i → i < 5 → foldL n.data.toList (nameK i).data.toList = false) : kindN n = 0 := by
  have k1 : foldL n.data.toList nmAcc.data.toList = false := hn 1 (by omega) (by omega)
  have k2 : foldL n.data.toList nmLan.data.toList = false := hn 2 (by omega) (by omega)
  have k3 : foldL n.data.toList nmCha.data.toList = false := hn 3 (by omega) (by omega)
  have k4 : foldL n.data.toList nmCod.data.toList = false := hn 4 (by omega) (by omega)
  unfold kindN
  rw [if_neg (by rw [k1]; simp), if_neg (by rw [k2]; simp), if_neg (by rw [k3]; simp), if_neg (by rw [k4]; simp)]
theorem name_size (k : Int) : (nameK k).size ≤ 15 := by
  unfold nameK
  split
  · decide
  · split
    · decide
    · split
      · decide
      · split
        · decide
        · decide
theorem rKind_any (n : ByteArray) (w : World) (hn : n.size ≤ 4294967296) :
    Calls Try.prog 34 #[.string n] w fun e w' => e = .returned (.int .i64 (kindN n)) ∧ Below w.heap.size w w' := by
  go_enter Try.func34, Try.ntmps34
  go_wp2
  go_loopw [3] (fun i wr => KdRel n w i wr) (fun i _ => 5 - (intOf i).toNat)
  case atStart => exact ⟨1, rfl, Nat.le_refl _, by omega, fun i h1 h2 => by omega, Below.refl _ _⟩
  case round =>
    obtain ⟨j, rfl, h1, h5, hno, hbel⟩ := hrel
    have HNO := box hno
    have BL := box hbel
    clear hno hbel
    by_cases h4 : j ≤ 4
    · have h4i : (j : Int) ≤ 4 := by omega
      have hji : InI64 (j : Int) := ⟨by omega, by omega⟩
      obtain ⟨x, hx⟩ : ∃ x, nameK j = x := ⟨_, rfl⟩
      have HX := box hx
      have hxz : x.size ≤ 4294967296 := by have := name_size j; rw [hx] at this; omega
      clear hx
      cases hf : foldL n.data.toList x.data.toList with
      | true =>
        have HF := box hf
        have HV : Box (kindN n = (j : Int)) := box (kind_at h1 h4 HNO.out (by rw [HX.out]; exact hf))
        clear hf
        go_wp2_with fail
        refine (rName_is hji HX).mono ?_; rintro e w1 ⟨rfl, rfl⟩
        go_wp2_with fail
        refine (rFold13_is hn hxz HF).mono ?_; rintro e w2 ⟨rfl, hb2⟩
        have B2 := box (BL.out.trans (hb2.mono BL.out.size))
        clear hb2
        go_wp2
        go_ret
        exact ⟨by rw [HV.out]; rfl, B2.out⟩
      | false =>
        have HF := box hf
        have HN2 : Box (∀ i : Nat, 1 ≤ i → i < j + 1 → foldL n.data.toList (nameK i).data.toList = false) := box (fun i hi1 hi2 => by
          by_cases e : i = j
          · subst e; rw [HX.out]; exact HF.out
          · exact HNO.out i hi1 (by omega))
        clear hf
        go_wp2_with fail
        refine (rName_is hji HX).mono ?_; rintro e w1 ⟨rfl, rfl⟩
        go_wp2_with fail
        refine (rFold13_is hn hxz HF).mono ?_; rintro e w2 ⟨rfl, hb2⟩
        have B2 := box (BL.out.trans (hb2.mono BL.out.size))
        clear hb2
        go_wp2
        go_roundw
        case rel => exact ⟨j + 1, by go_num, by omega, by omega, HN2.out, B2.out⟩
        case measure => simp [intOf]; omega
    · have h4i : ¬ (j : Int) ≤ 4 := by omega
      have HV : Box (kindN n = 0) := box (kind_no fun i hi1 hi2 => HNO.out i hi1 (by omega))
      go_wp2
      go_ret
      exact ⟨by rw [HV.out]; rfl, BL.out⟩
end
section
open Go.RowKit
/-- what the function value of Remove has captured: a variable that holds the function value of named -/
def Cap (g2 g1 : Nat) (nm : ByteArray) (w : World) : Prop := w.cell? ⟨g2, 0, none⟩ = some (nmV g1) ∧ Nm g1 nm w
theorem Cap.below {w w' : World} {g2 g1 : Nat} {nm : ByteArray} (h : Cap g2 g1 nm w) (hb : Below w.heap.size w w') : Cap g2 g1 nm w' := ⟨(hb.cell (cell_lt h.1)).trans h.1, h.2.below hb⟩
theorem rem_more {nm : ByteArray} {L : List F} {k : Nat} (h : k < L.length) : remL nm (L.take (k + 1)) = remL nm (L.take k) ++ (if nmd nm L[k] then [] else [L[k]]) := by
  unfold remL; rw [filter_more h]; cases nmd nm L[k] <;> rfl
theorem rem_le {nm : ByteArray} {L : List F} {k : Nat} : (remL nm (L.take k)).length ≤ L.length := by
  unfold remL; exact filter_le
set_option maxHeartbeats 800000 in
theorem rRemove_any (a : Option Addr) (cap : Nat) (L : List F) (nm : ByteArray) (w : World) (hl : L.length ≤ 65536) (S : Box (Sm L)) (M : Box (nm.size ≤ 65536)) (hF : Box (Fs w a L)) :
    Calls Try.prog 19 #[.slice a L.length cap, .string nm] w fun e w' => ∃ v, e = .returned v ∧ OwnF w' w.heap.size v (remL nm L) ∧ Below w.heap.size w w' := by
  go_enter Try.func19, Try.ntmps19
  go_wp2
  go_loopw [5, 6] (fun v i wr => ∃ k : Nat, k ≤ L.length ∧ i = .int .i64 k ∧ OwnF wr w.heap.size v (remL nm (L.take k)) ∧ Below w.heap.size w wr) (fun _ i _ => L.length - (intOf i).toNat)
  case atStart => exact ⟨0, Nat.zero_le _, rfl, OwnF.nil _ _, Below.refl _ _⟩
  case round =>
    obtain ⟨k, hk, rfl, hO, hbel⟩ := hrel
    by_cases hlt : k < L.length
    · obtain ⟨q, off, rfl, c0, c1⟩ := (hF.out.below hbel) k hlt
      have B1 := box ((S.out.2 k hlt).1)
      have O := box hO
      have BL := box hbel
      clear hO hbel
      go_wp2_with fail
      refine (rFold_any L[k].1 nm _ (small_4g B1.out) (small_4g M.out)).mono ?_; rintro e w1 ⟨rfl, hb1⟩
      have c2 := hb1.cell (p := ⟨q, off + k * 2 + 1, none⟩) (cell_lt c1)
      have c3 := hb1.cell (p := ⟨q, off + k * 2, none⟩) (cell_lt c0)
      have O1 := box (own_below O.out hb1)
      have BL1 := box (BL.out.trans (hb1.mono BL.out.size))
      have hbs := BL1.out.size
      rw [c1] at c2
      rw [c0] at c3
      clear hb1 c0 c1
      rcases hp : nmd nm L[k] with _ | _
      · rw [show foldL L[k].1.data.toList nm.data.toList = false from hp]
        have HP := box hp
        clear hp
        go_wp2_with (at_builtin; refine wpList_append_fld _ rfl (.tmp 21) (.tmp 26) rfl w.heap.size _ (remL nm (L.take k)) rfl ?a1 _ _ rfl L[k].1 L[k].2 ?b1 ?b2 ?c1 ?d1 ?_)
        case a1 => exact own_below O1.out (below_new _ _)
        case b1 => go_simp
        case b2 => go_simp
        case c1 => exact Nat.le_trans rem_le hl
        case d1 => simp; omega
        intro v' w3 hO2 hb2
        have O2 := box hO2
        clear hO2
        go_wp2
        go_roundw
        case rel => exact ⟨k + 1, by omega, by go_num, by rw [rem_more hlt, HP.out]; exact O2.out, (BL1.out.alloc BL1.out.size _).trans hb2⟩
        case measure => simp [intOf]; omega
      · rw [show foldL L[k].1.data.toList nm.data.toList = true from hp]
        have HP := box hp
        clear hp
        go_wp2
        go_roundw
        case rel => exact ⟨k + 1, by omega, by go_num, by rw [rem_more hlt, HP.out, if_pos rfl, List.append_nil]; exact O1.out, BL1.out⟩
        case measure => simp [intOf]; omega
    · have e : k = L.length := by omega
      subst e
      rw [List.take_length] at hO
      go_wp2
      go_ret
      exact ⟨_, rfl, hO, hbel⟩
end
section
open Go.RowKit
theorem OwnF.empty (w : World) : OwnF (w.alloc (.cells #[] 40)) w.heap.size (.slice (some ⟨w.heap.size, 0, none⟩) 0 0) [] :=
  ⟨rfl, .inr ⟨_, _, _, rfl, Nat.le_refl _, heap_alloc_new w _, Nat.zero_le _, by unfold maxLen; omega, rfl, rfl⟩⟩
end
section
open Go.RowKit
theorem OwnS.drewN {w : World} {B n : Nat} {v : Value} {L : List ByteArray} (h : OwnS w B v L) : OwnS (w.drewN n) B v L := own_below h (below_drewN _ _)
end
section
open Go.RowKit
def allB (nm : ByteArray) (L : List F) : List ByteArray := (allL nm L).map bs
/-- the first k members more, as long as there is room -/
theorem room_more {A M : List (List UInt8)} {k : Nat} (h : k < M.length) (hl : ((A ++ M.take k).take 64).length < 64) : (A ++ M.take (k + 1)).take 64 = (A ++ M.take k).take 64 ++ [M[k]] := by
  have h1 : (A ++ M.take k).length < 64 := by rw [List.length_take] at hl; omega
  have e : M.take (k + 1) = M.take k ++ [M[k]] := by rw [List.take_add_one, List.getElem?_eq_getElem h]; rfl
  rw [e, ← List.append_assoc, List.take_of_length_le (l := A ++ M.take k) (by omega), List.take_of_length_le (by rw [List.length_append]; simp only [List.length_cons, List.length_nil]; omega)]
theorem room_full {A M : List (List UInt8)} {k : Nat} (hl : ((A ++ M.take k).take 64).length = 64) : (A ++ M).take 64 = (A ++ M.take k).take 64 := by
  have h1 : 64 ≤ (A ++ M.take k).length := by rw [List.length_take] at hl; omega
  have e : A ++ M = (A ++ M.take k) ++ M.drop k := by rw [List.append_assoc, List.take_append_drop]
  rw [e, List.take_append_of_le_length h1]
def AllRel (vs : List ByteArray) (B : Nat) (w : World) (v i : Value) (wr : World) : Prop :=
  ∃ k : Nat, i = .int .i64 k ∧ k ≤ vs.length ∧ OwnS wr B v (((allF (vs.take k)).take 64).map bs) ∧ Below w.heap.size w wr
/-- a list of strings of the call's own, whose block does not lie from lo on below hi; what lies there stays -/
def OwnX (w : World) (B lo hi : Nat) (v : Value) (L : List ByteArray) : Prop := OwnS w B v L ∧ ∀ k, v.ownBlock = some k → k < lo ∨ hi ≤ k
def Mid (lo hi : Nat) (w w' : World) : Prop := ∀ k, lo ≤ k → k < hi → w'.heap[k]? = w.heap[k]?
theorem wpList_append_strX (w : World) {ops : Array Oper} {rest : List Oper} {o : Oper} {a : Act} {Q : Exit → Act → World → Prop} (hgd : o.guard = none) (s x : Operand)
    (ho : o.op = .call { callee := .builtin .append, args := #[s, x], argTypes := #[24, 24] })
    (B lo hi : Nat) (v : Value) (L : List ByteArray) (hs : a.eval s = v) (hown : OwnX w B lo hi v L)
    (g : Nat) (c : Nat) (hx : a.eval x = .slice (some ⟨g, 0, none⟩) 1 c) (u : ByteArray) (h0 : w.cell? ⟨g, 0, none⟩ = some (.string u)) (hl : L.length ≤ 65536) (hB : B ≤ w.heap.size) (hhi : hi ≤ w.heap.size)
    (h : ∀ v' w', OwnX w' B lo hi v' (L ++ [u]) → Below B w w' → Mid lo hi w w' → wpList Try.prog ops Q rest (a.put o.dst v') w') : wpList Try.prog ops Q (o :: rest) a w := by
  obtain ⟨i0, hi0, hz0, hz1, hz2⟩ := info_parts info_str
  refine wpList_append_lies (P := Try.prog) w hgd s x 24 ho B 9 i0 _ 1 16 Try.underlying24 hi0 hz0 hz1 hz2 rfl (by decide) v L.length (L.map Value.string) hs hown.1 ⟨g, 0, none⟩ 1 c [.string u] hx rfl ?_ ?_ (by omega) (by unfold maxLen; omega) (by omega) hB _ rfl ?_
  · intro j u hj
    match j, hj with
    | 0, hj => simp at hj; subst hj; simpa [Addr.add] using h0
  · intro u hu; simp at hu; subst hu; rfl
  · intro g' cap w' q1 q2 q3 _
    refine h _ w' ⟨by simpa [OwnS] using q1, fun k hk => ?_⟩ ((Below.refl _ _).grown q2 hB (fun k hk => own_block hown.1 k hk)) (fun k h1 h2 => q2.block k (by omega) (fun e => ?_))
    · simp [Value.ownBlock] at hk
      subst hk
      rcases q3 with q3 | q3
      · exact hown.2 _ q3
      · right; omega
    · rcases hown.2 k e.symm with q | q <;> omega
def InRel (A M : List (List UInt8)) (B lo hi : Nat) (w : World) (v i : Value) (wr : World) : Prop :=
  ∃ k : Nat, i = .int .i64 k ∧ k ≤ M.length ∧ OwnX wr B lo hi v (((A ++ M.take k).take 64).map bs) ∧ Below B w wr ∧ Mid lo hi w wr
set_option maxHeartbeats 4000000 in
theorem rAll_any (a : Option Addr) (cap : Nat) (L : List F) (nm : ByteArray) (w : World) (S : Box (Sm L)) (hv : Box (∀ x ∈ getL nm L, x.size ≤ 65000)) (M : Box (nm.size ≤ 65536)) (hF : Box (Fs w a L)) :
    Calls Try.prog 22 #[.slice a L.length cap, .string nm] w fun e w' => ∃ v, e = .returned v ∧ OwnS w' w.heap.size v (allB nm L) ∧ Below w.heap.size w w' := by
  obtain ⟨vs, hvs⟩ : ∃ vs, getL nm L = vs := ⟨_, rfl⟩
  have HVS := box hvs
  have HAL : Box (allB nm L = ((allF vs).take 64).map bs) := box (by unfold allB allL; rw [hvs])
  have hvl : vs.length ≤ 65536 := by
    have := get_le (nm := nm) (L := L) (k := L.length)
    rw [List.take_length, hvs] at this
    have := S.out.1; omega
  rw [hvs] at hv
  clear hvs
  have hl := S.out.1
  go_enter Try.func22, Try.ntmps22
  go_wp2_with fail
  refine (rGet_any a cap L nm _ hl S M hF).mono ?_; rintro e w1 ⟨v1, rfl, hO1, hb1⟩
  rw [HVS.out] at hO1
  obtain ⟨a1, cap1, rfl, hS1, hc1⟩ := hO1.ss
  have S1 := box hS1
  have B1 := box hb1
  have hB1 := hb1.size
  clear hO1 hS1 hb1
  go_wp2
  go_loopw [5, 7] (fun v i wr => AllRel vs w1.heap.size w1 v i wr) (fun _ i _ => vs.length - (intOf i).toNat)
  case atStart => exact ⟨0, rfl, Nat.zero_le _, OwnS.nil _ _, Below.refl _ _⟩
  case round =>
    obtain ⟨wo, rfl⟩ : ∃ wo, wo = wr := ⟨_, rfl⟩
    obtain ⟨k, rfl, hk, hO, hbel⟩ := hrel
    have O0 := box hO
    have BL := box hbel
    have hBw := hbel.size
    clear hO hbel
    by_cases hlt : k < vs.length
    · obtain ⟨q, off, rfl, c0⟩ := (S1.out.below BL.out) k hlt
      have hxz := hv.out vs[k] (List.getElem_mem hlt)
      have HN := box (allF_more hlt)
      obtain ⟨A, hA⟩ : ∃ A, (allF (vs.take k)).take 64 = A := ⟨_, rfl⟩
      have hA64 : A.length ≤ 64 := by rw [← hA, List.length_take]; omega
      have HA64 : Box (A = (A ++ ([] : List (List UInt8))).take 64) := box (by rw [List.append_nil, List.take_of_length_le hA64])
      rw [hA] at HN O0
      clear hA hA64
      go_wp2_with fail
      refine (rSplit_any vs[k] _ hxz).mono ?_; rintro e w2 ⟨v2, rfl, hO2, hb2⟩
      obtain ⟨MM, hMM⟩ : ∃ MM, splitL vs[k].data.toList = MM := ⟨_, rfl⟩
      have hM64 : MM.length ≤ 64 := by rw [← hMM]; exact split_len _
      unfold splitB at hO2
      rw [hMM] at hO2 HN
      obtain ⟨a2, cap2, rfl, hS2, hc2⟩ := hO2.ss
      rw [List.length_map] at hc2 ⊢
      have S2 := box hS2
      have hblk : ∀ q2 off2, a2 = some ⟨q2, off2, none⟩ → wo.heap.size ≤ q2 := fun q2 off2 e => own_block hO2 q2 (by rw [e]; rfl)
      have HBK := box hblk
      have OX : Box (OwnX w2 w1.heap.size wo.heap.size w2.heap.size _ (A.map bs)) := box ⟨own_below O0.out hb2, fun k hk => .inl (World.ownsRow.lt O0.out k hk).2⟩
      have B2 := box (BL.out.trans (hb2.mono BL.out.size))
      have hB2 := Nat.le_trans hBw hb2.size
      clear hO2 hS2 hb2 hMM c0 hblk
      go_wp2
      go_loopw [5, 9] (fun v i wi => InRel A MM w1.heap.size wo.heap.size w2.heap.size w2 v i wi) (fun _ i _ => MM.length - (intOf i).toNat)
      case atStart => exact ⟨0, rfl, Nat.zero_le _, by rw [List.take_zero, ← HA64.out]; exact OX.out, Below.refl _ _, fun _ _ _ => rfl⟩
      case round =>
        obtain ⟨j, rfl, hj, hO, hbel, hmid⟩ := hrel
        obtain ⟨O, hOl⟩ : ∃ O, (A ++ MM.take j).take 64 = O := ⟨_, rfl⟩
        rw [hOl] at hO
        have HOL := box hOl
        have ho64 : O.length ≤ 64 := by rw [← hOl, List.length_take]; omega
        obtain ⟨av, cv, rfl, _, _⟩ := hO.1.ss
        rw [List.length_map] at hO ⊢
        have O1 := box hO
        have B3 := box hbel
        have hmw := box hmid
        have hsz3 := hbel.size
        clear hO hbel hmid hOl
        by_cases hjl : j < MM.length
        · by_cases hm : O.length = 64
          · have hmi : ¬ (O.length : Int) < 64 := by omega
            have HF : Box ((A ++ MM).take 64 = O) := box (by rw [room_full (k := j) (by rw [HOL.out]; exact hm), HOL.out])
            clear hm
            go_wp2
            go_roundw
            case rel => exact ⟨k + 1, by go_num, by omega, by rw [HN.out, HF.out]; exact O1.out.1, B2.out.trans B3.out⟩
            case measure => simp [intOf]; omega
          · have hmi : (O.length : Int) < 64 := by omega
            obtain ⟨q2, off2, rfl, c1⟩ := S2.out j (by rw [List.length_map]; exact hjl)
            have hq1 := HBK.out q2 off2 rfl
            have hq2 : q2 < w2.heap.size := cell_lt c1
            have c2 : wr.cell? ⟨q2, off2 + j, none⟩ = some (.string (bs MM[j])) := by
              rw [World.cell?_of_block (w := w2) (hmw.out q2 hq1 hq2), c1, List.getElem_map]
            have HN2 : Box (((A ++ MM.take (j + 1)).take 64).map bs = O.map bs ++ [bs MM[j]]) := box (by
              rw [room_more hjl (by rw [HOL.out]; omega), HOL.out, List.map_append, List.map_cons, List.map_nil])
            have hm6 : Box ((O.map bs).length ≤ 65536) := box (by rw [List.length_map]; omega)
            have hB3 := B3.out.size
            have HBW : Box (w1.heap.size ≤ wr.heap.size) := box (Nat.le_trans hB2 hsz3)
            clear c1 hm
            go_wp2_with (at_builtin; refine wpList_append_strX _ rfl (.tmp 35) (.tmp 40) rfl w1.heap.size wo.heap.size w2.heap.size _ (O.map bs) rfl ?a1 _ _ rfl (bs MM[j]) ?b1 ?c1 ?d1 ?e1 ?_)
            case a1 => exact ⟨own_below O1.out.1 (below_new _ _), O1.out.2⟩
            case b1 => go_simp
            case c1 => exact hm6.out
            case d1 => have := HBW.out; simp; omega
            case e1 => simp; omega
            intro v4 w4 hO4 hb4 hm4
            have O4 := box hO4
            have B4 := box ((B3.out.alloc HBW.out _).trans hb4)
            have M4 : Box (Mid wo.heap.size w2.heap.size w2 w4) := box (fun k h1 h2 => by
              rw [hm4 k h1 h2, ← hmw.out k h1 h2]
              exact (below_new wr _).block k (by omega))
            clear hO4 hb4 hm4 c2
            go_wp2
            go_roundw
            case rel => exact ⟨j + 1, by go_num, by omega, by rw [HN2.out]; exact O4.out, B4.out, M4.out⟩
            case measure => simp [intOf]; omega
        · have HF : Box ((A ++ MM).take 64 = O) := box (by rw [← HOL.out, List.take_of_length_le (l := MM) (by omega)])
          go_wp2
          go_roundw
          case rel => exact ⟨k + 1, by go_num, by omega, by rw [HN.out, HF.out]; exact O1.out.1, B2.out.trans B3.out⟩
          case measure => simp [intOf]; omega
    · have HF : Box ((allF (vs.take k)).take 64 = (allF vs).take 64) := box (by rw [List.take_of_length_le (l := vs) (by omega)])
      rw [HF.out] at O0
      go_wp2
      go_ret
      exact ⟨_, rfl, by rw [HAL.out]; exact Go.Joins.ownsRow_le O0.out hB1, B1.out.trans (BL.out.mono hB1)⟩
end
end Go.Proofs.Ytlhcccakiidbdaa.Asc
