/- The contracts of strings.HasPrefix, bytes.LastIndexByte and package target's withoutLastSegment; the append of a string to a slice of bytes. -/
import Derived.Test.YtilodlmjamaiiaaTarTri
import Derived.Test.YtilodlmjamaiiaaTarRSeg
import Derived.Lib.AppendStr
set_option linter.unusedVariables false
set_option linter.unusedSimpArgs false
namespace Go.Proofs.Ytilodlmjamaiiaa.Asc
open Go.RowKit

def preB (l p : List UInt8) : Bool := p.isPrefixOf l
theorem pre_take (l p : List UInt8) : preB l p = (l.take p.length == p) := by
  unfold preB
  rw [Bool.eq_iff_iff, List.isPrefixOf_iff_prefix, List.prefix_iff_eq_take, beq_iff_eq]
  exact eq_comm
theorem sHasPrefix_any (s p : ByteArray) (w : World) (hs : s.size ≤ 65536) (hp : p.size ≤ 65536) :
    Calls Try.prog 52 #[.string s, .string p] w fun e w' => e = .returned (.bool (preB s.data.toList p.data.toList)) ∧ w = w' := by
  have hz : s.data.toList.length = s.size := by simp
  have hz2 : p.data.toList.length = p.size := by simp
  by_cases h : p.size ≤ s.size
  · have HE : Box (preB s.data.toList p.data.toList = ((s.extract 0 p.size).toList == p.toList)) := box (by
      rw [pre_take, toList_data, toList_data, ext_bs, List.drop_zero, hz2]; rfl)
    have hi : (p.size : Int) ≤ (s.size : Int) := by omega
    clear hz hz2
    obtain ⟨b, hb⟩ : ∃ b, ((s.extract 0 p.size).toList == p.toList) = b := ⟨_, rfl⟩
    rw [hb] at HE
    go_enter Try.func52, Try.ntmps52
    go_wp2
    go_ret
    exact ⟨ret_bool HE.out.symm, rfl⟩
  · have HE : Box (preB s.data.toList p.data.toList = false) := box (by
      rw [pre_take, beq_eq_false_iff_ne]
      intro e
      have := congrArg List.length e
      rw [List.length_take] at this
      omega)
    have hi : (s.size : Int) < (p.size : Int) := by omega
    clear hz hz2
    go_enter Try.func52, Try.ntmps52
    go_wp2
    go_ret
    exact ⟨ret_bool HE.out.symm, rfl⟩
theorem HasPrefix_any (s p : ByteArray) (w : World) (hs : s.size ≤ 65536) (hp : p.size ≤ 65536) :
    Calls Try.prog 37 #[.string s, .string p] w fun e w' => e = .returned (.bool (preB s.data.toList p.data.toList)) ∧ w = w' := by
  go_enter Try.func37, Try.ntmps37
  go_wp2_with fail
  refine (sHasPrefix_any s p _ hs hp).mono ?_; rintro e w1 ⟨rfl, rfl⟩
  go_wp2
  go_ret
  exact ⟨rfl, rfl⟩
theorem HasPrefix_is {s p : ByteArray} {b : Bool} {w : World} (hs : s.size ≤ 65536) (hp : p.size ≤ 65536) (h : Box (preB s.data.toList p.data.toList = b)) :
    Calls Try.prog 37 #[.string s, .string p] w fun e w' => e = .returned (.bool b) ∧ w = w' :=
  (HasPrefix_any s p w hs hp).mono fun e w' ⟨h1, h2⟩ => ⟨by rw [h1, h.out], h2⟩

/-- where the byte stands last among the first k, or -1 -/
def lastF (d : UInt8) (l : List UInt8) : Nat → Int
  | 0 => -1
  | k + 1 => if l.getD k 0 = d then (k : Int) else lastF d l k
theorem last_none {d : UInt8} {l : List UInt8} : ∀ {k : Nat}, k ≤ l.length → d ∉ l.take k → lastF d l k = -1
  | 0, _, _ => rfl
  | k + 1, hk, h => by
    rw [List.take_succ_eq_append_getElem (by omega)] at h
    have e : l.getD k 0 = l[k] := getD_get _ _ (by omega)
    rw [lastF, e, if_neg (fun e => h (by rw [← e]; exact List.mem_append_right _ (List.mem_singleton.mpr rfl))), last_none (by omega) (fun q => h (List.mem_append_left _ q))]
theorem last_app {d : UInt8} {a b : List UInt8} (h : d ∉ b) : ∀ (j : Nat), j ≤ b.length → lastF d (a ++ d :: b) (a.length + 1 + j) = a.length
  | 0, _ => by
    show lastF d (a ++ d :: b) (a.length + 1) = a.length
    rw [lastF, if_pos (by simp [List.getD_eq_getElem?_getD])]
  | j + 1, hj => by
    show lastF d (a ++ d :: b) (a.length + 1 + j + 1) = a.length
    rw [lastF, if_neg ?_]
    · exact last_app h j (by omega)
    · intro e
      have hlt : a.length + 1 + j < (a ++ d :: b).length := by simp; omega
      rw [getD_get _ _ hlt, List.getElem_append_right (by omega)] at e
      have e2 : b[j]'(by omega) = d := by
        rw [← e]
        have : a.length + 1 + j - a.length = j + 1 := by omega
        simp [this]
      exact h (by rw [← e2]; exact List.getElem_mem _)
theorem last_lt (d : UInt8) (l : List UInt8) : ∀ k, -1 ≤ lastF d l k ∧ lastF d l k < (k : Int) ∨ lastF d l k = -1
  | 0 => .inr rfl
  | k + 1 => by
    rw [lastF]; split
    · left; omega
    · have := last_lt d l k; omega
theorem Own.form {w : World} {B : Nat} {v : Value} {l : List UInt8} (h : Own w B v l) (hn : l ≠ []) : ∃ g cap, v = .slice (some ⟨g, 0, none⟩) l.length cap ∧ l.length ≤ cap ∧ cap ≤ maxLen ∧ (∀ j, j < l.length → w.cell? ⟨g, j, none⟩ = some (bv (l.getD j 0))) ∧ ∀ m, m ≤ l.length → Own w B (.slice (some ⟨g, 0, none⟩) m cap) (l.take m) := by
  have hcells := h
  rcases h.2 with ⟨_, h0⟩ | ⟨g, cap, cur, hv, hB, hg, hc, hm, hs, ht⟩
  · exact absurd (List.eq_nil_of_length_eq_zero h0) hn
  · refine ⟨g, cap, hv, hc, hm, fun j hj => ?_, fun m hml => ?_⟩
    · subst hv
      rw [World.ownsRow.cellAt hcells j (by omega)]
      simp [hj, List.getD_eq_getElem?_getD]
    · refine ⟨by simp, .inr ⟨g, cap, cur, ?_, hB, hg, ?_, hm, hs, ?_⟩⟩
      · rw [List.length_take, Nat.min_eq_left hml]
      · rw [List.length_take, Nat.min_eq_left hml]; omega
      · rw [List.length_take, Nat.min_eq_left hml, List.map_take, ← ht, List.take_take]
        congr 1; omega
theorem bLast_any (v : Value) (l : List UInt8) (d : UInt8) (w : World) (B : Nat) (O : Box (Own w B v l)) (hl : l.length ≤ 70000) :
    Calls Try.prog 65 #[v, .int .u8 d.toNat] w fun e w' => e = .returned (.int .i64 (lastF d l l.length)) ∧ w = w' := by
  by_cases hn : l = []
  · subst hn
    have hv : v = .slice none 0 0 ∨ ∃ g cap, v = .slice (some ⟨g, 0, none⟩) 0 cap := by
      rcases O.out.2 with ⟨h, _⟩ | ⟨g, cap, cur, h, _⟩
      · exact .inl h
      · exact .inr ⟨g, cap, h⟩
    rcases hv with rfl | ⟨g, cap, rfl⟩
    all_goals
      clear O
      go_enter Try.func65, Try.ntmps65
      go_wp2
      go_loop [5] (fun i => i = .int .i64 (-1)) (fun _ => 0)
      case atStart => rfl
      case round =>
        subst hrel
        go_wp2
        go_ret
        exact ⟨rfl, rfl⟩
  · obtain ⟨g, cap, rfl, hc, hcm, hcell, _⟩ := O.out.form hn
    have HC := box hcell
    clear hcell O
    have hpos : 0 < l.length := List.length_pos_iff.mpr hn
    go_enter Try.func65, Try.ntmps65
    go_wp2
    go_loop [5] (fun i => ∃ k : Nat, k ≤ l.length ∧ i = .int .i64 ((k : Int) - 1) ∧ lastF d l l.length = lastF d l k) (fun i => (intOf i + 1).toNat)
    case atStart => exact ⟨l.length, Nat.le_refl _, rfl, rfl⟩
    case round =>
      obtain ⟨k, hk, rfl, hr⟩ := hrel
      have HR := box hr
      clear hr
      rcases k with _ | k
      · have h0 : (((0 : Nat) : Int) - 1) = -1 := by omega
        rw [h0]
        clear h0
        go_wp2
        go_ret
        exact ⟨ret_int (by rw [HR.out]; rfl), rfl⟩
      · have h0 : (((k + 1 : Nat) : Int) - 1) = (k : Int) := by omega
        rw [h0]
        clear h0
        have hk2 : k < l.length := by omega
        have hki : (k : Int) < (l.length : Int) := by omega
        have hcell := HC.out k hk2
        unfold bv at hcell
        obtain ⟨c, hcc⟩ : ∃ c, l.getD k 0 = c := ⟨_, rfl⟩
        rw [hcc] at hcell
        have CC := box hcc
        clear hcc
        rcases hq : ((c.toNat : Int) == (d.toNat : Int)) with _ | _
        · have hne : Box (lastF d l (k + 1) = lastF d l k) := box (by
            rw [lastF, CC.out, if_neg]
            intro e; rw [e] at hq; simp at hq)
          go_wp2
          go_round
          case rel => exact ⟨k, by omega, rfl, by rw [HR.out, hne.out]⟩
          case measure => simp [intOf]
        · have heq : Box (lastF d l (k + 1) = (k : Int)) := box (by
            rw [lastF, CC.out, if_pos]
            have : c.toNat = d.toNat := by have := eqb_t hq; omega
            exact UInt8.toNat_inj.mp this)
          go_wp2
          go_ret
          exact ⟨ret_int (by rw [HR.out, heq.out]), rfl⟩
theorem Last_any (v : Value) (l : List UInt8) (d : UInt8) (w : World) (B : Nat) (O : Box (Own w B v l)) (hl : l.length ≤ 70000) :
    Calls Try.prog 53 #[v, .int .u8 d.toNat] w fun e w' => e = .returned (.int .i64 (lastF d l l.length)) ∧ w = w' := by
  go_enter Try.func53, Try.ntmps53
  go_wp2_with fail
  refine (bLast_any v l d _ B O hl).mono ?_; rintro e w1 ⟨rfl, rfl⟩
  go_wp2
  go_ret
  exact ⟨rfl, rfl⟩
/-- a call returns a slice that holds the bytes l, and the world is as it was -/
def OwnSame (B : Nat) (l : List UInt8) (w : World) (e : Ending) (w' : World) : Prop := w = w' ∧ ∃ v, e = .returned v ∧ Own w B v l
theorem tWithout_any (v : Value) (l : List UInt8) (w : World) (B : Nat) (O : Box (Own w B v l)) (hl : l.length ≤ 70000) :
    Calls Try.prog 38 #[v] w (OwnSame B (l.take (lastF 47 l l.length).toNat) w) := by
  by_cases hn : l = []
  · subst hn
    have hv : v = .slice none 0 0 ∨ ∃ g cap, v = .slice (some ⟨g, 0, none⟩) 0 cap := by
      rcases O.out.2 with ⟨h, _⟩ | ⟨g, cap, cur, h, _⟩
      · exact .inl h
      · exact .inr ⟨g, cap, h⟩
    rcases hv with rfl | ⟨g, cap, rfl⟩
    all_goals
      go_enter Try.func38, Try.ntmps38
      go_wp2_with fail
      refine (Last_any _ _ 47 _ B O hl).mono ?_; rintro e w1 ⟨rfl, rfl⟩
      rw [show lastF 47 ([] : List UInt8) ([] : List UInt8).length = -1 from rfl]
      go_wp2
      go_ret
      exact ⟨rfl, _, rfl, O.out⟩
  · obtain ⟨g, cap, rfl, hc, hcm, _, hown⟩ := O.out.form hn
    have OW := box hown
    have hpos : 0 < l.length := List.length_pos_iff.mpr hn
    obtain ⟨x, hx⟩ : ∃ x, lastF 47 l l.length = x := ⟨_, rfl⟩
    have hb := last_lt 47 l l.length
    have HX := box hx
    rw [hx] at hb
    clear hx hown
    by_cases h0 : x < 0
    · obtain rfl : x = -1 := by omega
      clear hb h0
      go_enter Try.func38, Try.ntmps38
      go_wp2_with fail
      refine (Last_any _ _ 47 _ B O hl).mono ?_; rintro e w1 ⟨rfl, rfl⟩; rw [HX.out]
      go_wp2
      go_ret
      exact ⟨rfl, _, rfl, by rw [HX.out]; exact OW.out 0 (by omega)⟩
    · obtain ⟨n, rfl⟩ : ∃ n : Nat, x = n := ⟨x.toNat, by omega⟩
      have hn2 : n < l.length := by omega
      have hni : (n : Int) ≤ (cap : Int) := by omega
      clear hb h0
      go_enter Try.func38, Try.ntmps38
      go_wp2_with fail
      refine (Last_any _ _ 47 _ B O hl).mono ?_; rintro e w1 ⟨rfl, rfl⟩; rw [HX.out]
      go_wp2
      all_goals
        go_ret
        refine ⟨rfl, _, rfl, ?_⟩
        rw [HX.out]
        first
          | exact OW.out n (by omega)
          | (obtain rfl : n = 0 := by omega
             exact OW.out 0 (by omega))

theorem str_cells (s : ByteArray) : Lib.strCells s = s.data.toList.map bv := rfl
/-- append of a string's bytes -/
theorem wpList_append_sb (w : World) {ops : Array Oper} {rest : List Oper} {o : Oper} {a : Act} {Q : Exit → Act → World → Prop} (hgd : o.guard = none) (sl x : Operand)
    (ho : o.op = .call { callee := .builtin .append, args := #[sl, x], argTypes := #[47, 9] })
    (B : Nat) (v : Value) (l : List UInt8) (hs : a.eval sl = v) (hown : Own w B v l) (s : ByteArray) (hx : a.eval x = .string s) (hl : l.length + s.size < 8589934592) (hB : B ≤ w.heap.size)
    (h : ∀ v' w', Own w' B v' (l ++ s.data.toList) → Below B w w' → wpList Try.prog ops Q rest (a.put o.dst v') w') : wpList Try.prog ops Q (o :: rest) a w := by
  obtain ⟨i0, hi0, hz0, hz1, hz2⟩ := info_parts info_u8
  refine Lib.wpList_append_own_string (P := Try.prog) w hgd sl x 47 9 ho B 5 i0 Try.underlying47 Try.underlying9 hi0 hz0 hz1 hz2 v l.length (l.map bv) hs hown s hx (by unfold maxLen; omega) (by omega) hB ?_
  intro v' w' h1 h2 _
  refine h v' w' ?_ ((Below.refl _ _).grown h2 hB (fun k hk => Own.block hown k hk))
  rw [str_cells] at h1
  have e : (l ++ s.data.toList).length = l.length + s.size := by rw [List.length_append]; simp
  unfold Own
  rw [e, List.map_append]; exact h1

end Go.Proofs.Ytilodlmjamaiiaa.Asc
