/- Merged texts: AscMem StrMem LstMem AscOwn AscLow AscFold LstIdx. -/
import Derived.Test.YtgagaebgiioeoaaZs01
import Derived.Test.YtgagaebgiioeoaaZs02
import Derived.BigQuiet
import Derived.Deep.AppendLies
import Derived.Deep.QuietTactic
import Derived.Laws.AppendOwnNone
import Derived.Laws.OwnMore
import Derived.Lib.Hide
import Derived.LoopTactic
import Derived.OwnWalk
set_option linter.unusedVariables false
set_option linter.unusedSimpArgs false
set_option maxRecDepth 100000
namespace Go.Proofs.Ytgagaebgiioeoaa.Asc
section
open Go.RowKit
def bv (c : UInt8) : Value := .int .u8 (c.toNat : Int)
/-- Block g holds the bytes l from its head on, and none of these cells is frozen. -/
def Bys (w : World) (g : Nat) (l : List UInt8) : Prop := g < w.heap.size ∧ ∀ j, j < l.length → w.cell? ⟨g, j, none⟩ = some (bv (l.getD j 0)) ∧ w.frozen? ⟨g, j, none⟩ = false
theorem getD_get (l : List UInt8) (j : Nat) (hj : j < l.length) : l.getD j 0 = l[j] := by simp [List.getD_eq_getElem?_getD, hj]
theorem bv_oneCell (l : List UInt8) : ∀ u ∈ l.map bv, u.oneCell' = true := by
  intro u hu; obtain ⟨c, _, rfl⟩ := List.mem_map.mp hu; rfl
theorem Bys.lt {w : World} {g : Nat} {l : List UInt8} (h : Bys w g l) : g < w.heap.size := h.1
theorem Bys.cell {w : World} {g : Nat} {l : List UInt8} (h : Bys w g l) {j : Nat} (hj : j < l.length) : w.cell? ⟨g, j, none⟩ = some (bv (l.getD j 0)) := (h.2 j hj).1
theorem Bys.frozen {w : World} {g : Nat} {l : List UInt8} (h : Bys w g l) {j : Nat} (hj : j < l.length) : w.frozen? ⟨g, j, none⟩ = false := (h.2 j hj).2
theorem Bys.set {w : World} {g : Nat} {l : List UInt8} (h : Bys w g l) {k : Nat} (hk : k < l.length) (c : UInt8) : Bys (w.setCell ⟨g, k, none⟩ (bv c)) g (l.set k c) := by
  refine ⟨by simpa using h.1, fun j hj => ?_⟩
  rw [List.length_set] at hj
  refine ⟨?_, by rw [World.frozen?_setCell]; exact (h.2 j hj).2⟩
  by_cases e : k = j
  · subst e
    rw [World.cell?_setCell_same (h := (h.2 k hk).1)]
    simp [hk]
  · rw [World.cell?_setCell_other (h := fun h2 => e (by injection h2)), (h.2 j hj).1]
    simp [List.getD_eq_getElem?_getD, List.getElem?_set_ne e]
theorem Bys.new (w : World) (C : Array Value) (t : TypeId) (l : List UInt8) (lo hi : Nat) (hfr : l.length ≤ lo) (hC : ∀ j, j < l.length → C[j]? = some (bv (l.getD j 0))) : Bys (w.alloc (.cells C t (lo, hi))) w.heap.size l :=
  ⟨by simp, fun j hj => ⟨by rw [World.cell?_alloc_mark]; exact hC j hj, by rw [World.frozen?_alloc_mark]; simp; omega⟩⟩
theorem Bys.drew {w : World} {g : Nat} {l : List UInt8} (h : Bys w g l) : Bys w.drew g l := h
/-- 'string(b)' of such a block -/
theorem Bys.str {P : Program} {w : World} {g : Nat} {l : List UInt8} (h : Bys w g l) (src dst e : TypeId) (n cap : Nat) (hn : n = l.length) (hs : P.underlying src = some (.slice e)) (he : P.underlying e = some (.int .u8)) (hd : P.underlying dst = some .string) :
    (convert src dst (.slice (some ⟨g, 0, none⟩) n cap)).run P w = .ok (.string ⟨l.toArray⟩) w := by
  subst hn
  refine run_convert_bytes_back w src dst e ⟨g, 0, none⟩ cap l hs he hd fun j hj => ?_
  have := h.cell hj
  rw [getD_get l j hj] at this
  have ea : (⟨g, 0, none⟩ : Addr).add j = ⟨g, j, none⟩ := by unfold Addr.add; split <;> simp_all
  rw [ea]; exact this
theorem bv_low (c : UInt8) : bv (lowB c) = .int .u8 (lowI c.toNat) := by
  have h := c.toNat_lt
  have e : (lowB c).toNat = (lowI c.toNat).toNat := by
    unfold lowB; rw [UInt8.toNat_ofNat']; apply Nat.mod_eq_of_lt; unfold lowI; split <;> omega
  unfold bv; rw [e]
  congr 1
  unfold lowI; split <;> omega
theorem lowB_same {c : UInt8} (h : lowI c.toNat = c.toNat) : lowB c = c := by
  unfold lowB; rw [h]; simp
/-- a list of n bytes whose first k have been made the lowered ones of l -/
def half (r l : List UInt8) (k : Nat) : List UInt8 := lowL (l.take k) ++ r.drop k
theorem lowL_length (l : List UInt8) : (lowL l).length = l.length := by simp [lowL]
theorem half_length (r l : List UInt8) (k : Nat) (hr : r.length = l.length) : (half r l k).length = l.length := by
  simp only [half, List.length_append, lowL_length, List.length_take, List.length_drop]; omega
theorem half_zero (r l : List UInt8) : half r l 0 = r := by simp [half, lowL]
theorem half_get (r l : List UInt8) (k : Nat) (hr : r.length = l.length) (hk : k < l.length) : (half r l k).getD k 0 = r.getD k 0 := by
  have e : (lowL (l.take k)).length = k := by rw [lowL_length, List.length_take]; omega
  simp only [half, List.getD_eq_getElem?_getD]
  rw [List.getElem?_append_right (by omega), e, Nat.sub_self, List.getElem?_drop]; rfl
theorem half_step (r l : List UInt8) (k : Nat) (hr : r.length = l.length) (hk : k < l.length) (c : UInt8) (hc : l[k] = c) : (half r l k).set k (lowB c) = half r l (k + 1) := by
  subst hc
  have e : (lowL (l.take k)).length = k := by rw [lowL_length, List.length_take]; omega
  simp only [half]
  rw [List.set_append_right _ _ (by omega), e, Nat.sub_self, List.drop_eq_getElem_cons (i := k) (by omega), List.set_cons_zero, List.take_succ_eq_append_getElem hk]
  simp only [lowL, lowB, List.map_append, List.map_cons, List.map_nil, List.append_assoc, List.cons_append, List.nil_append]
theorem half_end (r l : List UInt8) (k : Nat) (hr : r.length = l.length) (hk : l.length ≤ k) : half r l k = lowL l := by
  simp only [half]; rw [List.take_of_length_le hk, List.drop_of_length_le (by omega), List.append_nil]
end
section
open Go.RowKit
def Ss (w : World) (a : Option Addr) (L : List ByteArray) : Prop :=
  ∀ i (h : i < L.length), ∃ g off, a = some ⟨g, off, none⟩ ∧ w.cell? ⟨g, off + i, none⟩ = some (.string L[i])
theorem cell_lt {w : World} {p : Addr} {v : Value} (h : w.cell? p = some v) : p.block < w.heap.size := by
  rcases Nat.lt_or_ge p.block w.heap.size with q | q
  · exact q
  · simp [World.cell?, Array.getElem?_eq_none q] at h
theorem Ss.below {w w' : World} {a : Option Addr} {L : List ByteArray} (h : Ss w a L) (hb : Below w.heap.size w w') : Ss w' a L := fun i hi => by
  obtain ⟨g, off, e, c0⟩ := h i hi
  exact ⟨g, off, e, (hb.cell (cell_lt c0)).trans c0⟩
theorem info_str : (Try.prog.info? 9).map (fun i => (i.zero, i.size, i.bytes)) = some (some (.string ⟨#[]⟩), 1, 16) := by kernel_rfl
def OwnS (w : World) (B : Nat) (v : Value) (L : List ByteArray) : Prop := w.ownsRow B 9 1 v L.length (L.map Value.string)
section
variable {w w' : World} {B : Nat} {v : Value}
theorem OwnS.nil (w : World) (B : Nat) : OwnS w B (.slice none 0 0) [] := World.ownsRow_nil _ _ _ _
theorem own_block {e : TypeId} {size n : Nat} {xs : List Value} (h : w.ownsRow B e size v n xs) : ∀ k, v.ownBlock = some k → B ≤ k := by
  intro k hk
  rcases h.2 with ⟨rfl, _⟩ | ⟨g, cap, cur, rfl, hb, _⟩
  · simp [Value.ownBlock] at hk
  · simp [Value.ownBlock] at hk; omega
theorem own_below {e : TypeId} {size n : Nat} {xs : List Value} (h : w.ownsRow B e size v n xs) (hb : Below w.heap.size w w') : w'.ownsRow B e size v n xs := by
  refine ⟨h.1, ?_⟩
  rcases h.2 with q | ⟨g, cap, cur, hv, hB, hg, r⟩
  · exact .inl q
  · refine .inr ⟨g, cap, cur, hv, hB, ?_, r⟩
    have : g < w.heap.size := by
      rcases Nat.lt_or_ge g w.heap.size with q | q
      · exact q
      · rw [Array.getElem?_eq_none q] at hg; cases hg
    rw [hb.block g this]; exact hg
theorem OwnS.ss {L : List ByteArray} (h : OwnS w B v L) : ∃ a cap, v = .slice a L.length cap ∧ Ss w a L ∧ L.length ≤ cap := by
  rcases h.2 with ⟨rfl, hn⟩ | ⟨g, cap, cur, rfl, hB, hg, hc, hm, hs, ht⟩
  · exact ⟨none, 0, by rw [hn], fun i hi => by omega, by omega⟩
  · refine ⟨_, cap, rfl, fun i hi => ⟨g, 0, rfl, ?_⟩, hc⟩
    have q0 : (L.map Value.string)[i]? = some (.string L[i]) := by simp [hi]
    rw [← ht, List.getElem?_take, if_pos (by omega)] at q0
    simp only [World.cell?, hg]
    simpa using q0
end
/-- append of one string that lies in a block of its own -/
theorem wpList_append_str (w : World) {ops : Array Oper} {rest : List Oper} {o : Oper} {a : Act} {Q : Exit → Act → World → Prop} (hgd : o.guard = none) (s x : Operand)
    (ho : o.op = .call { callee := .builtin .append, args := #[s, x], argTypes := #[29, 29] })
    (B : Nat) (v : Value) (L : List ByteArray) (hs : a.eval s = v) (hown : OwnS w B v L)
    (g : Nat) (c : Nat) (hx : a.eval x = .slice (some ⟨g, 0, none⟩) 1 c) (u : ByteArray) (h0 : w.cell? ⟨g, 0, none⟩ = some (.string u)) (hl : L.length ≤ 65536) (hB : B ≤ w.heap.size)
    (h : ∀ v' w', OwnS w' B v' (L ++ [u]) → Below B w w' → wpList Try.prog ops Q rest (a.put o.dst v') w') : wpList Try.prog ops Q (o :: rest) a w := by
  obtain ⟨i0, hi0, hz0, hz1, hz2⟩ := info_parts info_str
  refine wpList_append_own (P := Try.prog) w hgd s x 29 ho B 9 i0 _ 1 16 Try.underlying29 hi0 hz0 hz1 hz2 rfl (by decide) v L.length (L.map Value.string) hs hown ⟨g, 0, none⟩ 1 c [.string u] hx rfl ?_ ?_ (by unfold maxLen; omega) (by omega) hB ?_
  · intro j u hj
    match j, hj with
    | 0, hj => simp at hj; subst hj; simpa [Addr.add] using h0
  · intro u hu; simp at hu; subst hu; rfl
  · intro v' w' q1 q2 _
    refine h v' w' (by simpa [OwnS] using q1) ((Below.refl _ _).grown q2 hB (fun k hk => own_block hown k hk))
end
section
open Go.RowKit
/-- at the address lie the fields L, one behind the other -/
def Fs (w : World) (a : Option Addr) (L : List F) : Prop :=
  ∀ i (h : i < L.length), ∃ g off, a = some ⟨g, off, none⟩ ∧ w.cell? ⟨g, off + i * 2, none⟩ = some (.string L[i].1) ∧ w.cell? ⟨g, off + i * 2 + 1, none⟩ = some (.string L[i].2)
theorem Fs.below {w w' : World} {a : Option Addr} {L : List F} (h : Fs w a L) (hb : Below w.heap.size w w') : Fs w' a L := fun i hi => by
  obtain ⟨g, off, e, c0, c1⟩ := h i hi
  exact ⟨g, off, e, (hb.cell (cell_lt c0)).trans c0, (hb.cell (cell_lt c1)).trans c1⟩
theorem keepFields_any (a : Option Addr) (cap : Nat) (L : List F) (w : World) (hl : L.length ≤ maxLen) (hF : Box (Fs w a L)) :
    Calls Try.prog 6 #[.slice a L.length cap] w fun e w' => e = .returned (.bool (keepF L)) ∧ w = w' := by
  unfold maxLen at hl
  go_enter Try.func6, Try.ntmps6
  go_wp2
  go_loop [3] (fun i => ∃ k : Nat, k ≤ L.length ∧ k ≤ 71 ∧ i = .int .i64 k ∧ (L.take k).all okF = true) (fun i => 71 - (intOf i).toNat)
  case atStart => exact ⟨0, Nat.zero_le _, Nat.zero_le _, rfl, rfl⟩
  case round =>
    obtain ⟨k, hk, hk71, rfl, hall⟩ := hrel
    have HA := box hall
    clear hall
    by_cases hlt : k < L.length
    · by_cases h71 : k < 71
      · obtain ⟨g, off, rfl, c0, c1⟩ := hF.out k hlt
        go_wp2
        · have e1 : ¬ (L[k].1.size ≤ 300 ∧ L[k].2.size ≤ 300) := by omega
          go_ret
          exact ⟨ret_bool (keep_bad hlt e1).symm, rfl⟩
        · have e1 : L[k].1.size ≤ 300 := by omega
          have e2 : L[k].2.size ≤ 300 := by omega
          go_round
          case rel => exact ⟨k + 1, by omega, by omega, by go_num, keep_more hlt HA.out e1 e2⟩
          case measure => simp [intOf]; omega
        · have e1 : ¬ (L[k].1.size ≤ 300 ∧ L[k].2.size ≤ 300) := by omega
          go_ret
          exact ⟨ret_bool (keep_bad hlt e1).symm, rfl⟩
      · go_wp2
        go_ret
        exact ⟨ret_bool (by rw [keep_long (by omega)]; simp; omega), rfl⟩
    · have e : k = L.length := by omega
      have E := box e
      clear e
      by_cases h70 : L.length ≤ 70
      · go_wp2
        go_ret
        refine ⟨ret_bool ?_, rfl⟩
        have ha := HA.out
        rw [E.out] at ha
        rw [keep_end ha h70]
        simp; omega
      · go_wp2
        go_ret
        exact ⟨ret_bool (by rw [keep_long h70]; simp; omega), rfl⟩
end
section
open Go.RowKit
theorem info_u8 : (Try.prog.info? 5).map (fun i => (i.zero, i.size, i.bytes)) = some (some (.int .u8 0), 1, 1) := by kernel_rfl
theorem data_at (s : ByteArray) (k : Nat) (h : k < s.size) : s.data.toList.getD k 0 = s[k] := by
  rw [getD_get _ _ (by simpa using h)]; rfl
theorem size_list (s : ByteArray) : s.data.toList.length = s.size := by simp
def Own (w : World) (B : Nat) (v : Value) (l : List UInt8) : Prop := w.ownsRow B 5 1 v l.length (l.map bv)
section
variable {w w' : World} {B : Nat} {v : Value} {l : List UInt8}
theorem Own.nil (w : World) (B : Nat) : Own w B (.slice none 0 0) [] := World.ownsRow_nil _ _ _ _
theorem Own.alloc (h : Own w B v l) (o : Obj) : Own (w.alloc o) B v l := World.ownsRow.alloc h o
theorem Own.drew (h : Own w B v l) : Own w.drew B v l := h
theorem Own.block (h : Own w B v l) : ∀ k, v.ownBlock = some k → B ≤ k := by
  intro k hk
  rcases h.2 with ⟨rfl, _⟩ | ⟨g, cap, cur, rfl, hb, _⟩
  · simp [Value.ownBlock] at hk
  · simp [Value.ownBlock] at hk; omega
/-- 'string(v)' -/
theorem Own.str (h : Own w B v l) : (convert 45 9 v).run Try.prog w = .ok (.string ⟨l.toArray⟩) w := by
  rcases h.2 with ⟨rfl, hn⟩ | ⟨g, cap, cur, rfl, hb, hh, hnc, hcm, hcs, htake⟩
  · have : l = [] := by simpa using hn
    subst this
    rw [run_convert_bytes_string w 45 9 5 none 0 0 Try.underlying45 Try.underlying5 Try.underlying9]
    rfl
  · refine run_convert_bytes_back w 45 9 5 ⟨g, 0, none⟩ cap l Try.underlying45 Try.underlying5 Try.underlying9 fun j hj => ?_
    have ea : (⟨g, 0, none⟩ : Addr).add j = ⟨g, j, none⟩ := by unfold Addr.add; split <;> simp_all
    rw [ea, World.ownsRow.cellAt h j (by omega)]
    simp [hj, bv]
end
end
section
open Go.RowKit
theorem Lower_any (s : ByteArray) (w : World) (hs : s.size ≤ 4294967296) :
    Calls Try.prog 20 #[.string s] w fun e w' => e = .returned (.string ⟨(lowL s.data.toList).toArray⟩) ∧ Below w.heap.size w w' := by
  obtain ⟨i0, hi0, hz0, hz1, hz2⟩ := info_parts info_u8
  have hmk := fun (w : World) => run_make (P := Try.prog) w 45 5 i0 _ Try.underlying45 hi0 hz0 .i64 .i64 s.size s.size (by omega) (by omega) (by rw [hz2]; omega) (by omega)
  simp only [Int.toNat_natCast, hz1, Nat.mul_one] at hmk
  go_enter Try.func20, Try.ntmps20
  go_wp2
  have hr : (List.replicate s.size (0 : UInt8)).length = s.data.toList.length := by simp
  have hB0 : Bys (w.alloc (.cells (madeCells #[.int .u8 0] s.size) 5)) w.heap.size (half (List.replicate s.size (0 : UInt8)) s.data.toList 0) := by
    rw [half_zero]
    refine ⟨by simp, fun j hj => ?_⟩
    rw [List.length_replicate] at hj
    refine ⟨?_, by go_simp⟩
    rw [World.cell?_alloc_at (hn := rfl), ← Array.getElem?_toList, toList_madeCells_one]
    simp [hj, bv, List.getD_eq_getElem?_getD, List.getElem?_replicate]
  go_loopw [4, 10] (fun u i wr => ∃ k : Nat, k ≤ s.size ∧ i = .int .i64 k ∧ Bys wr w.heap.size (half (List.replicate s.size (0 : UInt8)) s.data.toList k) ∧ Below w.heap.size w wr) (fun _ i _ => s.size - (intOf i).toNat)
  case atStart => exact ⟨0, Nat.zero_le _, rfl, hB0, ((Below.refl _ _).alloc (Nat.le_refl _) _)⟩
  case round =>
    obtain ⟨k, hk, rfl, hB, hbel⟩ := hrel
    clear hB0 hmk
    have hz := size_list s
    by_cases hlt : k < s.size
    · have hlt' : k < s.data.toList.length := by omega
      have hlh := half_length _ _ k hr
      obtain ⟨cv, hc⟩ : ∃ cv, wr.cell? ⟨w.heap.size, k, none⟩ = some cv := ⟨_, hB.cell (by omega)⟩
      have hf : wr.frozen? ⟨w.heap.size, k, none⟩ = false := hB.frozen (by omega)
      have hb := byte_bd s k hlt
      have hset := hB.set (k := k) (by omega) (lowB s[k])
      rw [half_step _ _ k hr hlt' s[k] rfl, bv_low] at hset
      have hbs := hbel.setCell (p := ⟨w.heap.size, k, none⟩) (Nat.le_refl _) (.int .u8 (lowI s[k].toNat))
      have HS := Lib.hid hset
      have HB := Lib.hid hbs
      clear hset hbs hz hr hlh
      go_wp2_with (go_at_call 32; refine (lowerByte_any _ _ hb.1 hb.2).mono ?_; rintro e w' ⟨rfl, rfl⟩)
      go_roundw
      case rel => exact ⟨k + 1, by omega, by go_num, HS.out, HB.out⟩
      case measure => simp [intOf]; omega
    · have hst := hB.str (P := Try.prog) 45 9 5 s.size s.size (by rw [half_length _ _ k hr, hz]) Try.underlying45 Try.underlying5 Try.underlying9
      rw [half_end _ _ k hr (by omega)] at hst
      clear hz hr
      go_wp2
      go_ret
      exact ⟨rfl, hbel⟩
theorem rLower_any (s : ByteArray) (w : World) (hs : s.size ≤ 4294967296) :
    Calls Try.prog 27 #[.string s] w fun e w' => e = .returned (.string ⟨(lowL s.data.toList).toArray⟩) ∧ Below w.heap.size w w' := by
  have hcv := fun (w : World) => run_bytes_of_string (P := Try.prog) w 9 45 5 s Try.underlying9 Try.underlying45 Try.underlying5
  go_enter Try.func27, Try.ntmps27
  go_wp2
  have hB0 : Bys (w.alloc (.cells (bytesRow s (grownCap w s.size 0 5)) 5 ((bytesRow s (grownCap w s.size 0 5)).size, (bytesRow s (grownCap w s.size 0 5)).size + 1))).drew w.heap.size (half s.data.toList s.data.toList 0) := by
    rw [half_zero]
    refine (Bys.new w _ _ _ _ _ ?_ ?_).drew
    · simp [bytesRow]
    · intro j hj
      rw [bytesRow_at s _ j (by simpa using hj), getD_get _ _ hj]; rfl
  go_loopw [4] (fun i wr => ∃ k : Nat, k ≤ s.size ∧ i = .int .i64 k ∧ Bys wr w.heap.size (half s.data.toList s.data.toList k) ∧ Below w.heap.size w wr) (fun i _ => s.size - (intOf i).toNat)
  case atStart => exact ⟨0, Nat.zero_le _, rfl, hB0, ((Below.refl _ _).alloc (Nat.le_refl _) _).drew⟩
  case round =>
    obtain ⟨k, hk, rfl, hB, hbel⟩ := hrel
    clear hB0 hcv
    have hz := size_list s
    by_cases hlt : k < s.size
    · have hlt' : k < s.data.toList.length := by omega
      have hlh := half_length s.data.toList s.data.toList k rfl
      have hc : wr.cell? ⟨w.heap.size, k, none⟩ = some (.int .u8 (s[k].toNat : Int)) := by
        have := hB.cell (j := k) (by omega)
        rw [half_get _ _ k rfl hlt', data_at s k hlt] at this; exact this
      have hf : wr.frozen? ⟨w.heap.size, k, none⟩ = false := hB.frozen (by omega)
      have hb := byte_bd s k hlt
      have hset := hB.set (k := k) (by omega) (lowB s[k])
      rw [half_step _ _ k rfl hlt' s[k] rfl, bv_low] at hset
      have hsame : lowI s[k].toNat = s[k].toNat → Bys wr w.heap.size (half s.data.toList s.data.toList (k + 1)) := fun h => by
        have e := half_step s.data.toList s.data.toList k rfl hlt' s[k] rfl
        rw [← e]
        rw [lowB_same h]
        have h3 : (half s.data.toList s.data.toList k).set k s[k] = half s.data.toList s.data.toList k := by
          apply List.ext_getElem?; intro j
          by_cases ej : k = j
          · subst ej
            have h4 := half_get s.data.toList s.data.toList k rfl hlt'
            rw [data_at s k hlt, getD_get _ _ (by omega)] at h4
            rw [List.getElem?_set_self (by omega), List.getElem?_eq_getElem (by omega), h4]
          · rw [List.getElem?_set_ne ej]
        rw [h3]; exact hB
      have hbs := hbel.setCell (p := ⟨w.heap.size, k, none⟩) (Nat.le_refl _) (.int .u8 (lowI s[k].toNat))
      have HS := Lib.hid hset
      have HB := Lib.hid hbs
      have HM := Lib.hid hsame
      clear hset hbs hz hlh hsame
      go_wp2
      · go_roundw
        case rel =>
          have el : lowI s[k].toNat = s[k].toNat + 32 := by unfold lowI; rw [if_pos ⟨‹_›, ‹_›⟩]
          have h1 := HS.out; have h2 := HB.out
          rw [el] at h1 h2
          exact ⟨k + 1, by omega, by go_num, h1, h2⟩
        case measure => simp [intOf]; omega
      all_goals
        go_roundw
        case rel => exact ⟨k + 1, by omega, by go_num, HM.out (by unfold lowI; rw [if_neg (by omega)]), hbel⟩
        case measure => simp [intOf]; omega
    · have hst := fun cap => hB.str (P := Try.prog) 45 9 5 s.size cap (by rw [half_length _ _ k rfl, hz]) Try.underlying45 Try.underlying5 Try.underlying9
      rw [half_end _ _ k rfl (by omega)] at hst
      clear hz
      go_wp2
      go_ret
      exact ⟨rfl, hbel⟩
end
section
open Go.RowKit
theorem Fold_any (a b : ByteArray) (w : World) (ha : a.size ≤ maxLen) (hb : b.size ≤ maxLen) :
    Calls Try.prog 48 #[.string a, .string b] w fun e w' => e = .returned (.bool (foldL a.data.toList b.data.toList)) ∧ Below w.heap.size w w' := by
  unfold maxLen at ha hb
  by_cases hab : a.size = b.size
  · have hne : ((a.size : Int) != (b.size : Int)) = false := by simp [hab]
    have HAB := Lib.hid hab
    clear hab
    go_enter Try.func48, Try.ntmps48
    go_wp2
    go_loopw [5, 13] (fun _ i wr => ∃ k : Nat, k ≤ a.size ∧ i = .int .i64 k ∧ lowL (a.data.toList.take k) = lowL (b.data.toList.take k) ∧ Below w.heap.size w wr) (fun _ i _ => a.size - (intOf i).toNat)
    case atStart => exact ⟨0, Nat.zero_le _, rfl, rfl, Below.refl _ _⟩
    case round =>
      obtain ⟨k, hk, rfl, hall, hbel⟩ := hrel
      have HH := Lib.hid hall
      clear hall
      by_cases hlt : k < a.size
      · have hltb : k < b.size := by have := HAB.out; omega
        have ba := byte_bd a k hlt
        have bb := byte_bd b k hltb
        by_cases hc : lowI a[k].toNat = lowI b[k].toNat
        · have HC := Lib.hid (fold_more HH.out hlt hltb hc)
          have hcn : (lowI a[k].toNat != lowI b[k].toNat) = false := by simp [hc]
          clear hc
          go_wp2
          go_quiet ((go_at_call 32; exact Calls.quiet_of_same ((lowerByte_any _ _ (by omega) (by omega)).mono fun e w' ⟨h1, h2⟩ => ⟨h1, h2.symm⟩)))
          go_wp2
          go_roundw
          case rel => exact ⟨k + 1, by omega, by go_num, HC.out, hbel.trans ⟨rfl, rfl, rfl, Nat.le_refl _, fun _ _ => rfl⟩⟩
          case measure => simp [intOf]; omega
        · have HC := Lib.hid (fold_not hlt hltb hc)
          have hcn : (lowI a[k].toNat != lowI b[k].toNat) = true := by simp [hc]
          clear hc
          go_wp2
          go_quiet ((go_at_call 32; exact Calls.quiet_of_same ((lowerByte_any _ _ (by omega) (by omega)).mono fun e w' ⟨h1, h2⟩ => ⟨h1, h2.symm⟩)))
          go_wp2
          go_ret
          exact ⟨ret_bool HC.out.symm, hbel.trans ⟨rfl, rfl, rfl, Nat.le_refl _, fun _ _ => rfl⟩⟩
      · go_wp2
        go_ret
        exact ⟨ret_bool (fold_end HH.out (by omega) (by have := HAB.out; omega)).symm, hbel⟩
  · have hne : ((a.size : Int) != (b.size : Int)) = true := by simp; omega
    have HAB := Lib.hid hab
    clear hab
    go_enter Try.func48, Try.ntmps48
    go_wp2
    go_ret
    exact ⟨ret_bool (fold_len HAB.out).symm, Below.refl _ _⟩
theorem rFold_any (a b : ByteArray) (w : World) (ha : a.size ≤ 4294967296) (hb : b.size ≤ 4294967296) :
    Calls Try.prog 15 #[.string a, .string b] w fun e w' => e = .returned (.bool (foldL a.data.toList b.data.toList)) ∧ Below w.heap.size w w' := by
  by_cases hab : a.size = b.size
  · have hne : ((a.size : Int) == (b.size : Int)) = true := by simp [hab]
    have HAB := Lib.hid hab
    clear hab
    go_enter Try.func15, Try.ntmps15
    go_wp2_with fail
    refine (rLower_any _ _ ha).mono ?_; rintro e w1 ⟨rfl, hb1⟩
    go_wp2_with fail
    refine (rLower_any _ _ hb).mono ?_; rintro e w2 ⟨rfl, hb2⟩
    go_wp2
    go_ret
    exact ⟨ret_bool (by unfold foldL; rw [Bool.eq_iff_iff]; simp), hb1.trans (hb2.mono hb1.size)⟩
  · have hne : ((a.size : Int) == (b.size : Int)) = false := by simp; omega
    have HAB := Lib.hid hab
    clear hab
    go_enter Try.func15, Try.ntmps15
    go_wp2
    go_ret
    exact ⟨ret_bool (fold_len HAB.out).symm, Below.refl _ _⟩
end
section
open Go.RowKit
/-- the name lies in the block that the function value has captured -/
def Nm (g : Nat) (nm : ByteArray) (w : World) : Prop := w.cell? ⟨g, 0, none⟩ = some (.string nm)
theorem Nm.below {w w' : World} {g : Nat} {nm : ByteArray} (h : Nm g nm w) (hb : Below w.heap.size w w') : Nm g nm w' := (hb.cell (cell_lt h)).trans h
def nmV (g : Nat) : Value := .func (.func 47) #[] #[.pointer (some ⟨g, 0, none⟩)]
theorem named_any (nm : ByteArray) (w : World) :
    Calls Try.prog 42 #[.string nm] w fun e w' => e = .returned (nmV w.heap.size) ∧ w' = w.alloc (.cells #[.string nm] 9) := by
  have hmf : ∀ (fn : Fn) (first cap : Array Value) (w : World), (Instr.makeFunc fn first cap).run Try.prog w = .ok (.func fn first cap) w := fun _ _ _ _ => rfl
  go_enter Try.func42, Try.ntmps42
  go_wp2
  go_ret
  exact ⟨rfl, rfl⟩
theorem clo_any (g : Nat) (nm n v : ByteArray) (w : World) (N : Box (n.size ≤ 65536)) (M : Box (nm.size ≤ 65536)) (h : Box (Nm g nm w)) :
    Calls Try.prog 47 #[.agg #[.string n, .string v], .pointer (some ⟨g, 0, none⟩)] w fun e w' => e = .returned (.bool (nmd nm (n, v))) ∧ Below w.heap.size w w' := by
  have c0 : w.cell? ⟨g, 0, none⟩ = some (.string nm) := h.out
  have hlt := cell_lt c0
  simp only at hlt
  go_enter Try.func47, Try.ntmps47
  go_wp2_with fail
  refine (Fold_any _ _ _ (small_max N).out (small_max M).out).mono ?_; rintro e w1 ⟨rfl, hb1⟩
  go_wp2
  go_ret
  exact ⟨rfl, (below_new w _).trans (hb1.mono (below_new w _).size)⟩
/-- all names are small -/
def Sm (L : List F) : Prop := L.length ≤ 65536 ∧ ∀ i (h : i < L.length), L[i].1.size ≤ 65536 ∧ L[i].2.size ≤ 65536
theorem Nm.new (nm : ByteArray) (w : World) (t : TypeId) : Nm w.heap.size nm (w.alloc (.cells #[.string nm] t)) := by
  unfold Nm; rw [World.cell?_alloc_at _ _ _ _ rfl]; rfl
theorem get_none {nm : ByteArray} {L : List F} (h : L.any (nmd nm) = false) : getL nm L = [] := by
  unfold getL
  rw [List.filter_eq_nil_iff.mpr (fun p hp => by rw [none_not h p hp]; simp)]; rfl
theorem get_at {nm : ByteArray} {L : List F} {k : Nat} (h : k < L.length) (ha : (L.take k).any (nmd nm) = false) (h1 : nmd nm L[k] = true) : getL nm L = L[k].2 :: getL nm (L.drop (k + 1)) := by
  unfold getL
  conv => lhs; rw [split_at h]
  rw [List.filter_append, List.filter_eq_nil_iff.mpr (fun p hp => by rw [none_not ha p hp]; simp), List.nil_append, List.filter_cons, h1]
  rfl
end
end Go.Proofs.Ytgagaebgiioeoaa.Asc
