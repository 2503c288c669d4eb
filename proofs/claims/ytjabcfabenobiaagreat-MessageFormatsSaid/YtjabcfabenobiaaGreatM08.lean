/- Merged texts: AscFold LstIdx LstOwn LstFil LstGet MsgRef MsgRef2. -/
import Derived.Test.YtjabcfabenobiaaGreatM03
import Derived.Test.YtjabcfabenobiaaGreatM04
import Derived.Test.YtjabcfabenobiaaGreatM07
import Derived.BigQuiet
import Derived.Deep.AppendLies
import Derived.Deep.QuietTactic
import Derived.IntWalk
import Derived.Laws.AppendOwnNone
import Derived.Lib.SmallJoins
set_option linter.unusedVariables false
set_option linter.unusedSimpArgs false
set_option maxRecDepth 100000
namespace Go.Proofs.YtjabcfabenobiaaGreat.Asc
section
open Go.RowKit
theorem Fold_any (a b : ByteArray) (w : World) (ha : a.size ≤ maxLen) (hb : b.size ≤ maxLen) :
    Calls Tryz.prog 110 #[.string a, .string b] w fun e w' => e = .returned (.bool (foldL a.data.toList b.data.toList)) ∧ Below w.heap.size w w' := by
  unfold maxLen at ha hb
  by_cases hab : a.size = b.size
  · have hne : ((a.size : Int) != (b.size : Int)) = false := by simp [hab]
    have HAB := Lib.hid hab
    clear hab
    go_enter Tryz.func110, Tryz.ntmps110
    go_wp2
    go_loopw [5, 13] (fun _ i wr => ∃ k : Nat, k ≤ a.size ∧ i = .int .i64 k ∧ lowL (a.data.toList.take k) = lowL (b.data.toList.take k) ∧ Below w.heap.size w wr) (fun _ i _ => a.size - (intOf i).toNat)
    case atStart => exact ⟨0, Nat.zero_le _, rfl, rfl, Below.refl _ _⟩
    case round =>
      obtain ⟨k, hk, rfl, hall, hbel⟩ := hrel
      have HH := Lib.hid hall
      clear hall
      by_cases hlt : k < a.size
      · have hltb : k < b.size := by have := HAB.out; omega
        have ba := byte_bd a k hlt
        have bb := byte_bd b k hltb
        by_cases hc : lowI a[k].toNat = lowI b[k].toNat
        · have HC := Lib.hid (fold_more HH.out hlt hltb hc)
          have hcn : (lowI a[k].toNat != lowI b[k].toNat) = false := by simp [hc]
          clear hc
          go_wp2
          go_quiet ((go_at_call 127; exact Calls.quiet_of_same ((lowerByte_any _ _ (by omega) (by omega)).mono fun e w' ⟨h1, h2⟩ => ⟨h1, h2.symm⟩)))
          go_wp2
          go_roundw
          case rel => exact ⟨k + 1, by omega, by go_num, HC.out, hbel.trans ⟨rfl, rfl, rfl, Nat.le_refl _, fun _ _ => rfl⟩⟩
          case measure => simp [intOf]; omega
        · have HC := Lib.hid (fold_not hlt hltb hc)
          have hcn : (lowI a[k].toNat != lowI b[k].toNat) = true := by simp [hc]
          clear hc
          go_wp2
          go_quiet ((go_at_call 127; exact Calls.quiet_of_same ((lowerByte_any _ _ (by omega) (by omega)).mono fun e w' ⟨h1, h2⟩ => ⟨h1, h2.symm⟩)))
          go_wp2
          go_ret
          exact ⟨ret_bool HC.out.symm, hbel.trans ⟨rfl, rfl, rfl, Nat.le_refl _, fun _ _ => rfl⟩⟩
      · go_wp2
        go_ret
        exact ⟨ret_bool (fold_end HH.out (by omega) (by have := HAB.out; omega)).symm, hbel⟩
  · have hne : ((a.size : Int) != (b.size : Int)) = true := by simp; omega
    have HAB := Lib.hid hab
    clear hab
    go_enter Tryz.func110, Tryz.ntmps110
    go_wp2
    go_ret
    exact ⟨ret_bool (fold_len HAB.out).symm, Below.refl _ _⟩
theorem rFold_any (a b : ByteArray) (w : World) (ha : a.size ≤ 4294967296) (hb : b.size ≤ 4294967296) :
    Calls Tryz.prog 44 #[.string a, .string b] w fun e w' => e = .returned (.bool (foldL a.data.toList b.data.toList)) ∧ Below w.heap.size w w' := by
  by_cases hab : a.size = b.size
  · have hne : ((a.size : Int) == (b.size : Int)) = true := by simp [hab]
    have HAB := Lib.hid hab
    clear hab
    go_enter Tryz.func44, Tryz.ntmps44
    go_wp2_with fail
    refine (rLower_any _ _ ha).mono ?_; rintro e w1 ⟨rfl, hb1⟩
    go_wp2_with fail
    refine (rLower_any _ _ hb).mono ?_; rintro e w2 ⟨rfl, hb2⟩
    go_wp2
    go_ret
    exact ⟨ret_bool (by unfold foldL; rw [Bool.eq_iff_iff]; simp), hb1.trans (hb2.mono hb1.size)⟩
  · have hne : ((a.size : Int) == (b.size : Int)) = false := by simp; omega
    have HAB := Lib.hid hab
    clear hab
    go_enter Tryz.func44, Tryz.ntmps44
    go_wp2
    go_ret
    exact ⟨ret_bool (fold_len HAB.out).symm, Below.refl _ _⟩
end
section
open Go.RowKit
/-- the name lies in the block that the function value has captured -/
def Nm (g : Nat) (nm : ByteArray) (w : World) : Prop := w.cell? ⟨g, 0, none⟩ = some (.string nm)
theorem Nm.below {w w' : World} {g : Nat} {nm : ByteArray} (h : Nm g nm w) (hb : Below w.heap.size w w') : Nm g nm w' := (hb.cell (cell_lt h)).trans h
def nmV (g : Nat) : Value := .func (.func 111) #[] #[.pointer (some ⟨g, 0, none⟩)]
theorem named_any (nm : ByteArray) (w : World) :
    Calls Tryz.prog 94 #[.string nm] w fun e w' => e = .returned (nmV w.heap.size) ∧ w' = w.alloc (.cells #[.string nm] 9) := by
  have hmf : ∀ (fn : Fn) (first cap : Array Value) (w : World), (Instr.makeFunc fn first cap).run Tryz.prog w = .ok (.func fn first cap) w := fun _ _ _ _ => rfl
  go_enter Tryz.func94, Tryz.ntmps94
  go_wp2
  go_ret
  exact ⟨rfl, rfl⟩
theorem clo_any (g : Nat) (nm n v : ByteArray) (w : World) (N : Box (n.size ≤ 65536)) (M : Box (nm.size ≤ 65536)) (h : Box (Nm g nm w)) :
    Calls Tryz.prog 111 #[.agg #[.string n, .string v], .pointer (some ⟨g, 0, none⟩)] w fun e w' => e = .returned (.bool (nmd nm (n, v))) ∧ Below w.heap.size w w' := by
  have c0 : w.cell? ⟨g, 0, none⟩ = some (.string nm) := h.out
  have hlt := cell_lt c0
  simp only at hlt
  go_enter Tryz.func111, Tryz.ntmps111
  go_wp2_with fail
  refine (Fold_any _ _ _ (small_max N).out (small_max M).out).mono ?_; rintro e w1 ⟨rfl, hb1⟩
  go_wp2
  go_ret
  exact ⟨rfl, (below_new w _).trans (hb1.mono (below_new w _).size)⟩
/-- all names are small -/
def Sm (L : List F) : Prop := L.length ≤ 65536 ∧ ∀ i (h : i < L.length), L[i].1.size ≤ 65536 ∧ L[i].2.size ≤ 65536
theorem Nm.new (nm : ByteArray) (w : World) (t : TypeId) : Nm w.heap.size nm (w.alloc (.cells #[.string nm] t)) := by
  unfold Nm; rw [World.cell?_alloc_at _ _ _ _ rfl]; rfl
end
section
open Go.RowKit
theorem info_fld : (Tryz.prog.info? 77).map (fun i => (i.zero, i.size, i.bytes)) = some (some (.agg #[.string ⟨#[]⟩, .string ⟨#[]⟩]), 2, 32) := by kernel_rfl
def cellsF (L : List F) : List Value := L.flatMap fun p => [.string p.1, .string p.2]
theorem cellsF_len (L : List F) : (cellsF L).length = L.length * 2 := by
  induction L with
  | nil => rfl
  | cons p L ih => simp only [cellsF, List.flatMap_cons, List.length_append, List.length_cons, List.length_nil] at *; omega
theorem cellsF_app (L M : List F) : cellsF (L ++ M) = cellsF L ++ cellsF M := by simp [cellsF]
theorem cellsF_at (L : List F) (i : Nat) (h : i < L.length) : (cellsF L)[i * 2]? = some (.string L[i].1) ∧ (cellsF L)[i * 2 + 1]? = some (.string L[i].2) := by
  have e := split_at h
  have hl : (cellsF (L.take i)).length = i * 2 := by rw [cellsF_len, List.length_take, Nat.min_eq_left (Nat.le_of_lt h)]
  have e2 : cellsF L = cellsF (L.take i) ++ (.string L[i].1 :: .string L[i].2 :: cellsF (L.drop (i + 1))) := by
    conv => lhs; rw [e, cellsF_app]
    rfl
  rw [e2]
  constructor
  · rw [List.getElem?_append_right (by omega), hl]; simp
  · rw [List.getElem?_append_right (by omega), hl]; simp
def OwnF (w : World) (B : Nat) (v : Value) (L : List F) : Prop := w.ownsRow B 77 2 v L.length (cellsF L)
section
variable {w w' : World} {B : Nat} {v : Value}
theorem OwnF.nil (w : World) (B : Nat) : OwnF w B (.slice none 0 0) [] := World.ownsRow_nil _ _ _ _
/-- what a slice of fields that a call owns looks like -/
theorem OwnF.fs {L : List F} (h : OwnF w B v L) : ∃ a cap, v = .slice a L.length cap ∧ Fs w a L ∧ L.length ≤ cap := by
  rcases h.2 with ⟨rfl, hn⟩ | ⟨g, cap, cur, rfl, hB, hg, hc, hm, hs, ht⟩
  · exact ⟨none, 0, by rw [hn], fun i hi => by omega, by omega⟩
  · refine ⟨_, cap, rfl, fun i hi => ⟨g, 0, rfl, ?_, ?_⟩, hc⟩
    all_goals
      obtain ⟨q0, q1⟩ := cellsF_at L i hi
      rw [← ht] at q0 q1
      rw [List.getElem?_take] at q0 q1
      rw [if_pos (by omega)] at q0 q1
      simp only [World.cell?, hg]
    · simpa using q0
    · simpa [Nat.add_assoc] using q1
end
/-- append of one field that lies in a block of its own -/
theorem wpList_append_fld (w : World) {ops : Array Oper} {rest : List Oper} {o : Oper} {a : Act} {Q : Exit → Act → World → Prop} (hgd : o.guard = none) (s x : Operand)
    (ho : o.op = .call { callee := .builtin .append, args := #[s, x], argTypes := #[22, 22] })
    (B : Nat) (v : Value) (L : List F) (hs : a.eval s = v) (hown : OwnF w B v L)
    (g : Nat) (c : Nat) (hx : a.eval x = .slice (some ⟨g, 0, none⟩) 1 c) (n u : ByteArray) (h0 : w.cell? ⟨g, 0, none⟩ = some (.string n)) (h1 : w.cell? ⟨g, 1, none⟩ = some (.string u)) (hl : L.length ≤ 65536) (hB : B ≤ w.heap.size)
    (h : ∀ v' w', OwnF w' B v' (L ++ [(n, u)]) → Below B w w' → wpList Tryz.prog ops Q rest (a.put o.dst v') w') : wpList Tryz.prog ops Q (o :: rest) a w := by
  obtain ⟨i0, hi0, hz0, hz1, hz2⟩ := info_parts info_fld
  refine wpList_append_own (P := Tryz.prog) w hgd s x 22 ho B 77 i0 _ 2 32 Tryz.underlying22 hi0 hz0 hz1 hz2 rfl (by decide) v L.length (cellsF L) hs hown ⟨g, 0, none⟩ 1 c [.string n, .string u] hx rfl ?_ ?_ (by unfold maxLen; omega) (by omega) hB ?_
  · intro j u hj
    match j, hj with
    | 0, hj => simp at hj; subst hj; simpa [Addr.add] using h0
    | 1, hj => simp at hj; subst hj; simpa [Addr.add] using h1
  · intro u hu; simp at hu; rcases hu with rfl | rfl <;> rfl
  · intro v' w' q1 q2 _
    refine h v' w' (by simpa [OwnF, cellsF_app, cellsF] using q1) ((Below.refl _ _).grown q2 hB (fun k hk => own_block hown k hk))
/-- the same at a step of a region that draws its order -/
theorem step_append_fld (w : World) {ops : Array Oper} {o : Oper} {a : Act} {K : Act → World → Prop} {Q : Exit → Act → World → Prop} {E : Prop} (hgd : o.guard = none) (s x : Operand)
    (ho : o.op = .call { callee := .builtin .append, args := #[s, x], argTypes := #[22, 22] })
    (B : Nat) (v : Value) (L : List F) (hs : a.eval s = v) (hown : OwnF w B v L)
    (g : Nat) (c : Nat) (hx : a.eval x = .slice (some ⟨g, 0, none⟩) 1 c) (n u : ByteArray) (h0 : w.cell? ⟨g, 0, none⟩ = some (.string n)) (h1 : w.cell? ⟨g, 1, none⟩ = some (.string u)) (hl : L.length ≤ 65536) (hB : B ≤ w.heap.size)
    (h : ∀ v' w', OwnF w' B v' (L ++ [(n, u)]) → Below B w w' → K (a.put o.dst v') w') :
    if Region.wanted o (yielded ops a.tmps) = true then Oper.wp Tryz.prog o a w K Q else E := by
  obtain ⟨i0, hi0, hz0, hz1, hz2⟩ := info_parts info_fld
  refine step_append_lies (P := Tryz.prog) w hgd s x 22 ho B 77 i0 _ 2 32 Tryz.underlying22 hi0 hz0 hz1 hz2 rfl (by decide) v L.length (cellsF L) hs hown ⟨g, 0, none⟩ 1 c [.string n, .string u] hx rfl ?_ ?_ (by omega) (by unfold maxLen; omega) (by omega) hB _ rfl ?_
  · intro j u hj
    match j, hj with
    | 0, hj => simp at hj; subst hj; simpa [Addr.add] using h0
    | 1, hj => simp at hj; subst hj; simpa [Addr.add] using h1
  · intro u hu; simp at hu; rcases hu with rfl | rfl <;> rfl
  · intro g' cap' w' q1 q2 _ _
    refine h _ w' (by simpa [OwnF, cellsF_app, cellsF] using q1) ((Below.refl _ _).grown q2 hB (fun k hk => own_block hown k hk))
end
section
open Go.RowKit
theorem filter_more {p : F → Bool} {L : List F} {k : Nat} (h : k < L.length) : (L.take (k + 1)).filter p = (L.take k).filter p ++ (if p L[k] then [L[k]] else []) := by
  rw [take_next h, List.filter_append]; simp [List.filter_cons]
theorem filter_le {p : F → Bool} {L : List F} {k : Nat} : ((L.take k).filter p).length ≤ L.length := by
  have h1 := List.length_filter_le p (L.take k)
  have h2 : (L.take k).length ≤ L.length := by rw [List.length_take]; omega
  omega
/-- what a function value answers, in every world in which what it has captured still lies -/
def Ans (f : FuncId) (c : Value) (p : F → Bool) (J : World → Prop) : Prop :=
  ∀ (n v : ByteArray) (w : World), J w → n.size ≤ 65536 → Calls Tryz.prog f #[.agg #[.string n, .string v], c] w fun e w' => e = .returned (.bool (p (n, v))) ∧ Below w.heap.size w w'
set_option maxHeartbeats 800000 in
theorem filterN_any (a : Option Addr) (cap : Nat) (L : List F) (c : Option Addr) (p : F → Bool) (J : World → Prop) (w : World) (hl : L.length ≤ 65536) (S : Box (Sm L)) (hF : Box (Fs w a L))
    (hA : Box (Ans 111 (.pointer c) p J)) (hJ : Box (∀ w', Below w.heap.size w w' → J w')) :
    Calls Tryz.prog 93 #[.slice a L.length cap, .func (.func 111) #[] #[.pointer c]] w fun e w' => ∃ v, e = .returned v ∧ OwnF w' w.heap.size v (L.filter p) ∧ Below w.heap.size w w' := by
  go_enter Tryz.func93, Tryz.ntmps93
  go_wp2
  go_loopw [5, 10] (fun v i wr => ∃ k : Nat, k ≤ L.length ∧ i = .int .i64 k ∧ OwnF wr w.heap.size v ((L.take k).filter p) ∧ Below w.heap.size w wr) (fun _ i _ => L.length - (intOf i).toNat)
  case atStart => exact ⟨0, Nat.zero_le _, rfl, OwnF.nil _ _, Below.refl _ _⟩
  case round =>
    obtain ⟨k, hk, rfl, hO, hbel⟩ := hrel
    by_cases hlt : k < L.length
    · obtain ⟨q, off, rfl, c0, c1⟩ := (hF.out.below hbel) k hlt
      have B1 := box ((S.out.2 k hlt).1)
      have O := box hO
      have BL := box hbel
      clear hO hbel
      go_wp2_with fail
      refine (hA.out L[k].1 L[k].2 _ (hJ.out _ (BL.out.alloc BL.out.size _)) B1.out).mono ?_; rintro e w1 ⟨rfl, hb1⟩
      obtain ⟨f0, f1, _, _⟩ := (Fld.new L[k].1 L[k].2 _ 77).below hb1 (by simp)
      have O1 := box (own_below (own_below O.out (below_new _ _)) hb1)
      have BL1 := box ((BL.out.alloc BL.out.size _).trans (hb1.mono (BL.out.alloc BL.out.size _).size))
      have hbs := BL1.out.size
      clear hb1 c0 c1
      rcases hp : p (L[k].1, L[k].2) with _ | _
      · go_wp2
        go_roundw
        case rel => exact ⟨k + 1, by omega, by go_num, by rw [filter_more hlt, if_neg (by rw [show p L[k] = false from hp]; simp), List.append_nil]; exact O1.out, BL1.out⟩
        case measure => simp [intOf]; omega
      · go_wp2_with (at_builtin; refine wpList_append_fld _ rfl (.tmp 17) (.tmp 19) rfl w.heap.size _ ((L.take k).filter p) rfl (own_below O1.out (below_new _ _)) _ _ rfl L[k].1 L[k].2 (by go_simp) (by go_simp) (Nat.le_trans filter_le hl) (by simp; omega) ?_; intro v' w2 hO2 hb2)
        go_roundw
        case rel => exact ⟨k + 1, by omega, by go_num, by rw [filter_more hlt, if_pos (show p L[k] = true from hp)]; exact hO2, (BL1.out.alloc BL1.out.size _).trans hb2⟩
        case measure => simp [intOf]; omega
    · have e : k = L.length := by omega
      subst e
      rw [List.take_length] at hO
      go_wp2
      go_ret
      exact ⟨_, rfl, hO, hbel⟩
set_option maxHeartbeats 800000 in
theorem filterR_any (a : Option Addr) (cap : Nat) (L : List F) (c : Option Addr) (p : F → Bool) (J : World → Prop) (w : World) (hl : L.length ≤ 65536) (S : Box (Sm L)) (hF : Box (Fs w a L))
    (hA : Box (Ans 101 (.pointer c) p J)) (hJ : Box (∀ w', Below w.heap.size w w' → J w')) :
    Calls Tryz.prog 93 #[.slice a L.length cap, .func (.func 101) #[] #[.pointer c]] w fun e w' => ∃ v, e = .returned v ∧ OwnF w' w.heap.size v (L.filter p) ∧ Below w.heap.size w w' := by
  go_enter Tryz.func93, Tryz.ntmps93
  go_wp2
  go_loopw [5, 10] (fun v i wr => ∃ k : Nat, k ≤ L.length ∧ i = .int .i64 k ∧ OwnF wr w.heap.size v ((L.take k).filter p) ∧ Below w.heap.size w wr) (fun _ i _ => L.length - (intOf i).toNat)
  case atStart => exact ⟨0, Nat.zero_le _, rfl, OwnF.nil _ _, Below.refl _ _⟩
  case round =>
    obtain ⟨k, hk, rfl, hO, hbel⟩ := hrel
    by_cases hlt : k < L.length
    · obtain ⟨q, off, rfl, c0, c1⟩ := (hF.out.below hbel) k hlt
      have B1 := box ((S.out.2 k hlt).1)
      have O := box hO
      have BL := box hbel
      clear hO hbel
      go_wp2_with fail
      refine (hA.out L[k].1 L[k].2 _ (hJ.out _ (BL.out.alloc BL.out.size _)) B1.out).mono ?_; rintro e w1 ⟨rfl, hb1⟩
      obtain ⟨f0, f1, _, _⟩ := (Fld.new L[k].1 L[k].2 _ 77).below hb1 (by simp)
      have O1 := box (own_below (own_below O.out (below_new _ _)) hb1)
      have BL1 := box ((BL.out.alloc BL.out.size _).trans (hb1.mono (BL.out.alloc BL.out.size _).size))
      have hbs := BL1.out.size
      clear hb1 c0 c1
      rcases hp : p (L[k].1, L[k].2) with _ | _
      · go_wp2
        go_roundw
        case rel => exact ⟨k + 1, by omega, by go_num, by rw [filter_more hlt, if_neg (by rw [show p L[k] = false from hp]; simp), List.append_nil]; exact O1.out, BL1.out⟩
        case measure => simp [intOf]; omega
      · go_wp2_with (at_builtin; refine wpList_append_fld _ rfl (.tmp 17) (.tmp 19) rfl w.heap.size _ ((L.take k).filter p) rfl (own_below O1.out (below_new _ _)) _ _ rfl L[k].1 L[k].2 (by go_simp) (by go_simp) (Nat.le_trans filter_le hl) (by simp; omega) ?_; intro v' w2 hO2 hb2)
        go_roundw
        case rel => exact ⟨k + 1, by omega, by go_num, by rw [filter_more hlt, if_pos (show p L[k] = true from hp)]; exact hO2, (BL1.out.alloc BL1.out.size _).trans hb2⟩
        case measure => simp [intOf]; omega
    · have e : k = L.length := by omega
      subst e
      rw [List.take_length] at hO
      go_wp2
      go_ret
      exact ⟨_, rfl, hO, hbel⟩
end
section
open Go.RowKit
theorem ans_named (g : Nat) (nm : ByteArray) (M : Box (nm.size ≤ 65536)) : Ans 111 (.pointer (some ⟨g, 0, none⟩)) (nmd nm) (Nm g nm) :=
  fun n v w h hn => clo_any g nm n v w (box hn) M (box h)
theorem sm_filter {L : List F} {p : F → Bool} (h : Sm L) : Sm (L.filter p) := by
  refine ⟨Nat.le_trans (List.length_filter_le _ _) h.1, fun i hi => ?_⟩
  have hm := (List.mem_filter.mp (List.getElem_mem hi)).1
  obtain ⟨j, hj, e⟩ := List.mem_iff_getElem.mp hm
  rw [← e]; exact h.2 j hj
set_option maxHeartbeats 800000 in
theorem Get_any (a : Option Addr) (cap : Nat) (L : List F) (nm : ByteArray) (w : World) (hl : L.length ≤ 65536) (S : Box (Sm L)) (M : Box (nm.size ≤ 65536)) (hF : Box (Fs w a L)) :
    Calls Tryz.prog 74 #[.slice a L.length cap, .string nm] w fun e w' => ∃ v, e = .returned v ∧ OwnS w' w.heap.size v (getL nm L) ∧ Below w.heap.size w w' := by
  go_enter Tryz.func74, Tryz.ntmps74
  go_wp2_with fail
  refine (named_any nm _).mono ?_; rintro e w1 ⟨rfl, rfl⟩
  unfold nmV
  go_wp2_with fail
  refine (filterN_any a cap L _ (nmd nm) (Nm w.heap.size nm) (w.alloc (.cells #[.string nm] 9)) hl S (box (hF.out.below (below_new _ _))) (box (ans_named _ nm M)) (box (fun w' hb => (Nm.new nm w _).below hb))).mono ?_
  rintro e w2 ⟨v, rfl, hO, hb2⟩
  obtain ⟨K, hK⟩ : ∃ K, L.filter (nmd nm) = K := ⟨_, rfl⟩
  have HG : Box (getL nm L = K.map (·.2)) := box (by unfold getL; rw [hK])
  rw [hK] at hO
  obtain ⟨a2, cap2, rfl, hfs, hcl⟩ := hO.fs
  have FS := box hfs
  have b2 := box ((below_new w _).trans (hb2.mono (below_new w _).size))
  have hKl : K.length ≤ 65536 := by rw [← hK]; exact Nat.le_trans (List.length_filter_le _ _) hl
  clear hb2 hO hfs hK hcl
  go_wp2
  go_loopw [5, 13] (fun v i wr => ∃ k : Nat, k ≤ K.length ∧ i = .int .i64 k ∧ OwnS wr w2.heap.size v ((K.take k).map (·.2)) ∧ Below w2.heap.size w2 wr) (fun _ i _ => K.length - (intOf i).toNat)
  case atStart => exact ⟨0, Nat.zero_le _, rfl, OwnS.nil _ _, Below.refl _ _⟩
  case round =>
    obtain ⟨k, hk, rfl, hO, hbel2⟩ := hrel
    by_cases hlt : k < K.length
    · obtain ⟨q, off, rfl, c0, c1⟩ := (FS.out.below hbel2) k hlt
      have O := box hO
      have BL2 := box hbel2
      have hbs := hbel2.size
      clear hO hbel2
      go_wp2_with (at_builtin; refine wpList_append_str _ rfl (.tmp 17) (.tmp 20) rfl w2.heap.size _ ((K.take k).map (·.2)) rfl ?a1 _ _ rfl K[k].2 ?b1 ?c1 ?d1 ?_)
      case a1 => exact own_below (own_below O.out (below_new _ _)) (below_new _ _)
      case b1 => go_simp
      case c1 => rw [List.length_map, List.length_take]; omega
      case d1 => simp; omega
      intro v' w3 hO2 hb2
      have hO3 := box hO2
      clear hO2
      go_wp2
      go_roundw
      case rel => exact ⟨k + 1, by omega, by go_num, by rw [take_next hlt, List.map_append]; simpa using hO3.out, ((BL2.out.alloc BL2.out.size _).alloc (by simp; omega) _).trans hb2⟩
      case measure => simp [intOf]; omega
    · have e : k = K.length := by omega
      subst e
      rw [List.take_length] at hO
      go_wp2
      go_ret
      exact ⟨_, rfl, by rw [HG.out]; exact Go.Joins.ownsRow_le hO b2.out.size, b2.out.trans (hbel2.mono b2.out.size)⟩
theorem get_more {nm : ByteArray} {L : List F} {k : Nat} (h : k < L.length) : getL nm (L.take (k + 1)) = getL nm (L.take k) ++ (if nmd nm L[k] then [L[k].2] else []) := by
  unfold getL; rw [filter_more h, List.map_append]; split <;> rfl
theorem get_le {nm : ByteArray} {L : List F} {k : Nat} : (getL nm (L.take k)).length ≤ L.length := by
  unfold getL; rw [List.length_map]; exact filter_le
theorem small_4g {s : ByteArray} (h : s.size ≤ 65536) : s.size ≤ 4294967296 := by omega
set_option maxHeartbeats 800000 in
theorem rGet_any (a : Option Addr) (cap : Nat) (L : List F) (nm : ByteArray) (w : World) (hl : L.length ≤ 65536) (S : Box (Sm L)) (M : Box (nm.size ≤ 65536)) (hF : Box (Fs w a L)) :
    Calls Tryz.prog 25 #[.slice a L.length cap, .string nm] w fun e w' => ∃ v, e = .returned v ∧ OwnS w' w.heap.size v (getL nm L) ∧ Below w.heap.size w w' := by
  go_enter Tryz.func25, Tryz.ntmps25
  go_wp2
  go_loopw [5, 6] (fun v i wr => ∃ k : Nat, k ≤ L.length ∧ i = .int .i64 k ∧ OwnS wr w.heap.size v (getL nm (L.take k)) ∧ Below w.heap.size w wr) (fun _ i _ => L.length - (intOf i).toNat)
  case atStart => exact ⟨0, Nat.zero_le _, rfl, OwnS.nil _ _, Below.refl _ _⟩
  case round =>
    obtain ⟨k, hk, rfl, hO, hbel⟩ := hrel
    by_cases hlt : k < L.length
    · obtain ⟨q, off, rfl, c0, c1⟩ := (hF.out.below hbel) k hlt
      have B1 := box ((S.out.2 k hlt).1)
      have O := box hO
      have BL := box hbel
      clear hO hbel
      go_wp2_with fail
      refine (rFold_any L[k].1 nm _ (small_4g B1.out) (small_4g M.out)).mono ?_; rintro e w1 ⟨rfl, hb1⟩
      have c2 := hb1.cell (p := ⟨q, off + k * 2 + 1, none⟩) (cell_lt c1)
      have O1 := box (own_below O.out hb1)
      have BL1 := box (BL.out.trans (hb1.mono BL.out.size))
      have hbs := BL1.out.size
      rw [c1] at c2
      clear hb1 c0 c1
      rcases hp : nmd nm L[k] with _ | _
      · rw [show foldL L[k].1.data.toList nm.data.toList = false from hp]
        have HP := box hp
        clear hp
        go_wp2
        go_roundw
        case rel => exact ⟨k + 1, by omega, by go_num, by rw [get_more hlt, HP.out, if_neg (by simp), List.append_nil]; exact O1.out, BL1.out⟩
        case measure => simp [intOf]; omega
      · rw [show foldL L[k].1.data.toList nm.data.toList = true from hp]
        have HP := box hp
        clear hp
        go_wp2_with (at_builtin; refine wpList_append_str _ rfl (.tmp 20) (.tmp 26) rfl w.heap.size _ (getL nm (L.take k)) rfl ?a1 _ _ rfl L[k].2 ?b1 ?c1 ?d1 ?_)
        case a1 => exact own_below O1.out (below_new _ _)
        case b1 => go_simp
        case c1 => exact Nat.le_trans get_le hl
        case d1 => simp; omega
        intro v' w3 hO2 hb2
        have O2 := box hO2
        clear hO2
        go_wp2
        go_roundw
        case rel => exact ⟨k + 1, by omega, by go_num, by rw [get_more hlt, HP.out]; exact O2.out, (BL1.out.alloc BL1.out.size _).trans hb2⟩
        case measure => simp [intOf]; omega
    · have e : k = L.length := by omega
      subst e
      rw [List.take_length] at hO
      go_wp2
      go_ret
      exact ⟨_, rfl, hO, hbel⟩
end
section
open Go.RowKit
theorem get_small {nm : ByteArray} {L : List F} (S : Sm L) : ∀ x ∈ getL nm L, x.size ≤ 65536 := fun x hx => by
  unfold getL at hx
  obtain ⟨p, hp, rfl⟩ := List.mem_map.mp hx
  obtain ⟨i, hi, e⟩ := List.getElem_of_mem (List.mem_filter.mp hp).1
  rw [← e]; exact (S.2 i hi).2
def frV (p : Int × Int) : Value := .tuple #[.int .i64 p.1, .int .i64 p.2]
theorem fr_many {L : List F} {t t' : ByteArray} {R : List ByteArray} (h : getL teN L = t :: t' :: R) : framedL L = (0, 7) := by
  unfold framedL; rw [h]; rw [if_pos (Or.inl (by simp))]
theorem fr_bad {L : List F} {t : ByteArray} (h : getL teN L = [t]) (hf : foldL t.data.toList chunkedL = false) : framedL L = (0, 7) := by
  unfold framedL; rw [h]; rw [if_pos (Or.inr ⟨rfl, by simp [hf]⟩)]
theorem fr_both {L : List F} {t c : ByteArray} {R : List ByteArray} (h : getL teN L = [t]) (hf : foldL t.data.toList chunkedL = true) (hc : getL clN L = c :: R) : framedL L = (0, 8) := by
  unfold framedL; rw [h, hc]; simp [hf]
theorem fr_te {L : List F} {t : ByteArray} (h : getL teN L = [t]) (hf : foldL t.data.toList chunkedL = true) (hc : getL clN L = []) : framedL L = (-1, 0) := by
  unfold framedL; rw [h, hc]; simp [hf]
theorem fr_none {L : List F} (h : getL teN L = []) (hc : getL clN L = []) : framedL L = (-2, 0) := by
  unfold framedL; rw [h, hc]; simp
theorem fr_two {L : List F} {c c' : ByteArray} {R : List ByteArray} (h : getL teN L = []) (hc : getL clN L = c :: c' :: R) : framedL L = (0, 8) := by
  unfold framedL; rw [h, hc]; simp
theorem fr_one0 {L : List F} {c : ByteArray} (h : getL teN L = []) (hc : getL clN L = [c]) (hn : numL c.data.toList = none) : framedL L = (0, 8) := by
  unfold framedL; rw [h, hc]; simp [hn]
theorem fr_one1 {L : List F} {c : ByteArray} {v : Int} (h : getL teN L = []) (hc : getL clN L = [c]) (hn : numL c.data.toList = some v) : framedL L = if c.size ≤ 9 then (v, 0) else (0, 8) := by
  unfold framedL; rw [h, hc]; simp [hn]
theorem rNumber_is {s : ByteArray} {o : Option Int} {w : World} (hs : Box (s.size ≤ 65536)) (h : Box (numL s.data.toList = o)) :
    Calls Tryz.prog 55 #[.string s] w fun e w' => e = .returned (numT o) ∧ w = w' := by
  have := rNumber_any s w (small_max hs).out
  rw [h.out] at this; exact this
theorem rFold_is {s t : ByteArray} {b : Bool} {w : World} (hs : Box (s.size ≤ 65536)) (ht : Box (t.size ≤ 65536)) (h : Box (foldL s.data.toList t.data.toList = b)) :
    Calls Tryz.prog 44 #[.string s, .string t] w fun e w' => e = .returned (.bool b) ∧ Below w.heap.size w w' := by
  have := rFold_any s t w (small_4g hs.out) (small_4g ht.out)
  rw [h.out] at this; exact this
def chunkedB : ByteArray := ⟨#[99, 104, 117, 110, 107, 101, 100]⟩
set_option maxHeartbeats 1000000 in
theorem rframed_any (a : Option Addr) (cap : Nat) (L : List F) (w : World) (hl : L.length ≤ 65536) (S : Box (Sm L)) (hF : Box (Fs w a L)) :
    Calls Tryz.prog 30 #[.slice a L.length cap] w fun e w' => e = .returned (frV (framedL L)) ∧ Below w.heap.size w w' := by
  have TS := get_small (nm := teN) S.out
  have CS := get_small (nm := clN) S.out
  have ht1 := @fr_many L
  go_enter Tryz.func30, Tryz.ntmps30
  go_wp2_with fail
  refine (rGet_any a cap L teN _ hl S (box (by decide)) hF).mono ?_; rintro e w1 ⟨v, rfl, hO, hb⟩
  obtain ⟨a2, cap2, rfl, hS, hc⟩ := hO.ss
  clear hO
  go_wp2_with fail
  refine (rGet_any a cap L clN _ hl S (box (by decide)) (box (hF.out.below hb))).mono ?_; rintro e w2 ⟨v, rfl, hO2, hb2⟩
  obtain ⟨a3, cap3, rfl, hS3, hc3⟩ := hO2.ss
  have hS2 := hS.below hb2
  have BB := box (hb.trans (hb2.mono hb.size))
  clear hO2 hS hb hb2
  clear ht1
  rcases hte : getL teN L with _ | ⟨t, _ | ⟨t', R⟩⟩
  · rcases hcl : getL clN L with _ | ⟨c, _ | ⟨c', R'⟩⟩
    · have HE := box (fr_none hte hcl)
      rw [hte] at hS2 hc; rw [hcl] at hS3 hc3
      clear hte hcl hS2 hS3 TS CS
      go_wp2
      go_ret2
      exact ⟨by rw [HE.out]; rfl, BB.out⟩
    · have k0 := fr_one0 hte hcl
      have k1 := fun v => fr_one1 (v := v) hte hcl
      have hcs : Box (c.size ≤ 65536) := box (CS c (by rw [hcl]; simp))
      rw [hte] at hS2 hc; rw [hcl] at hS3 hc3
      obtain ⟨q, off, rfl, c0⟩ := hS3 0 (by simp)
      simp only [List.getElem_cons_zero, Nat.add_zero] at c0
      clear hte hcl hS2 hS3 TS CS
      rcases hn : numL c.data.toList with _ | n
      · have HN := box hn
        have HE := box (k0 hn)
        clear hn k0 k1
        go_wp2_with fail
        refine (rNumber_is hcs HN).mono ?_; rintro e w3 ⟨rfl, rfl⟩; unfold numT numV
        go_wp2
        go_ret2
        exact ⟨by rw [HE.out]; rfl, BB.out⟩
      · have HN := box hn
        have HE := box (k1 n hn)
        clear hn k0 k1
        by_cases h9 : c.size ≤ 9
        · have h9i : ¬ (9 : Int) < (c.size : Int) := by omega
          have HE2 : Box (framedL L = (n, 0)) := box (by rw [HE.out, if_pos h9])
          go_wp2_with fail
          refine (rNumber_is hcs HN).mono ?_; rintro e w3 ⟨rfl, rfl⟩; unfold numT numV
          go_wp2
          go_ret2
          exact ⟨by rw [HE2.out]; rfl, BB.out⟩
        · have h9i : (9 : Int) < (c.size : Int) := by omega
          have HE2 : Box (framedL L = (0, 8)) := box (by rw [HE.out, if_neg h9])
          go_wp2_with fail
          refine (rNumber_is hcs HN).mono ?_; rintro e w3 ⟨rfl, rfl⟩; unfold numT numV
          go_wp2
          go_ret2
          exact ⟨by rw [HE2.out]; rfl, BB.out⟩
    · have HE := box (fr_two hte hcl)
      rw [hte] at hS2 hc; rw [hcl] at hS3 hc3
      have h1 : (1 : Int) < (((c :: c' :: R').length : Nat) : Int) := by simp only [List.length_cons]; omega
      clear hte hcl hS2 hS3 TS CS
      go_wp2
      go_ret2
      exact ⟨by rw [HE.out]; rfl, BB.out⟩
  · have hts : Box (t.size ≤ 65536) := box (TS t (by rw [hte]; simp))
    have hck : Box (chunkedB.size ≤ 65536) := box (by decide)
    obtain ⟨q, off, rfl, c0⟩ : ∃ q off, a2 = some ⟨q, off, none⟩ ∧ w2.cell? ⟨q, off, none⟩ = some (.string t) := by
      rw [hte] at hS2
      obtain ⟨q, off, rfl, c0⟩ := hS2 0 (by simp)
      exact ⟨q, off, rfl, by simpa using c0⟩
    rcases hf : foldL t.data.toList chunkedL with _ | _
    · have HE := box (fr_bad hte hf)
      have HF : Box (foldL t.data.toList chunkedB.data.toList = false) := box hf
      rw [hte] at hc
      clear hte hS2 hS3 TS CS hf
      go_wp2_with fail
      refine (rFold_is hts hck HF).mono ?_; rintro e w3 ⟨rfl, hb3⟩
      go_wp2
      go_ret2
      exact ⟨by rw [HE.out]; rfl, BB.out.trans (hb3.mono BB.out.size)⟩
    · have HF : Box (foldL t.data.toList chunkedB.data.toList = true) := box hf
      rcases hcl : getL clN L with _ | ⟨c, R'⟩
      · have HE := box (fr_te hte hf hcl)
        rw [hte] at hc; rw [hcl] at hc3
        clear hte hcl hS2 hS3 TS CS hf
        go_wp2_with fail
        refine (rFold_is hts hck HF).mono ?_; rintro e w3 ⟨rfl, hb3⟩
        go_wp2
        go_ret2
        exact ⟨by rw [HE.out]; rfl, BB.out.trans (hb3.mono BB.out.size)⟩
      · have HE := box (fr_both hte hf hcl)
        have h1 : (0 : Int) < (((c :: R').length : Nat) : Int) := by simp only [List.length_cons]; omega
        rw [hte] at hc; rw [hcl] at hc3
        clear hte hcl hS2 hS3 TS CS hf
        go_wp2_with fail
        refine (rFold_is hts hck HF).mono ?_; rintro e w3 ⟨rfl, hb3⟩
        go_wp2
        go_ret2
        exact ⟨by rw [HE.out]; rfl, BB.out.trans (hb3.mono BB.out.size)⟩
  · have HE := box (fr_many hte)
    rw [hte] at hS2 hc
    have h1 : (1 : Int) < (((t :: t' :: R).length : Nat) : Int) := by simp only [List.length_cons]; omega
    clear hte hS2 hS3 TS CS
    go_wp2
    go_ret2
    exact ⟨by rw [HE.out]; rfl, BB.out⟩
end
section
open Go.RowKit
theorem next_len {l t r : List UInt8} (h : nextL l = .inr (t, r)) : r.length ≤ l.length := by
  have e := (next_line h).1
  rw [e]; simp only [List.length_append, List.length_cons]; omega
theorem trail_len : ∀ (f k : Nat) (l r : List UInt8), trailF f k l = .inr r → r.length ≤ l.length
  | 0, k, l, r, h => by simp [trailF] at h
  | f + 1, k, l, r, h => by
    unfold trailF at h
    rcases hn : nextL l with e | ⟨t, r2⟩
    · rw [hn] at h; simp at h
    · rw [hn] at h
      have := next_len hn
      simp only at h
      split at h
      · simp at h; rw [← h]; exact this
      · split at h
        · simp at h
        · split at h
          · simp at h
          · have := trail_len f (k + 1) r2 r h; omega
theorem chunk_len {body l r : List UInt8} (h : chunkL body l = .last r) : r.length ≤ l.length := by
  unfold chunkL at h
  rcases hn : nextL l with e | ⟨t, r2⟩
  · rw [hn] at h; simp at h
  · rw [hn] at h
    have := next_len hn
    simp only at h
    rcases hs : sizeL t with _ | n
    · rw [hs] at h; simp at h
    · rw [hs] at h
      simp only at h
      split at h
      · simp at h
      · split at h
        · simp at h; rw [← h]; exact this
        · split at h
          · simp at h
          · split at h
            · simp at h
            · split at h <;> simp at h
theorem chunk_len2 {body l d r : List UInt8} (h : chunkL body l = .data d r) : r.length ≤ l.length := by
  unfold chunkL at h
  rcases hn : nextL l with e | ⟨t, r2⟩
  · rw [hn] at h; simp at h
  · rw [hn] at h
    have := next_len hn
    simp only at h
    rcases hs : sizeL t with _ | n
    · rw [hs] at h; simp at h
    · rw [hs] at h
      simp only at h
      split at h
      · simp at h
      · split at h
        · simp at h
        · split at h
          · simp at h
          · split at h
            · simp at h
            · split at h
              · simp at h; rw [← h.2, List.length_drop]; omega
              · simp at h
theorem chunks_len : ∀ (f : Nat) (body l b r : List UInt8), chunksF f body l = .inr (b, r) → r.length ≤ l.length
  | 0, body, l, b, r, h => by simp [chunksF] at h
  | f + 1, body, l, b, r, h => by
    unfold chunksF at h
    rcases hc : chunkL body l with e | r2 | ⟨d, r2⟩
    · rw [hc] at h; simp at h
    · rw [hc] at h; simp at h; rw [← h.2]; exact chunk_len hc
    · rw [hc] at h; simp only at h
      have := chunk_len2 hc
      have := chunks_len f _ r2 b r h
      omega
theorem dec_bd {l : List UInt8} : 0 ≤ (decodeL l).2.1 ∧ (decodeL l).2.1 ≤ l.length := by
  unfold decodeL decS
  rcases hc : chunksF (l.length + 1) [] l with e | ⟨b, r⟩
  · simp only [decT]; omega
  · have h1 := chunks_len _ _ _ _ _ hc
    simp only
    rcases ht : trailF 66 0 r with e | r2
    · simp only [decT]; omega
    · have h2 := trail_len _ _ _ _ ht
      simp only [decT]; omega
def bdV (f : Nat) : Int ⊕ (List UInt8 × Int) → Value
  | .inl e => .tuple #[.string ⟨#[]⟩, .int .i64 0, .int .i64 e]
  | .inr (b, c) => .tuple #[.string (bs b), .int .i64 ((f : Int) + c), .int .i64 0]
theorem rDecode_is {s : ByteArray} {o : List UInt8 × Int × Int} {w : World} (hs : s.size ≤ 4000000) (h : Box (decodeL s.data.toList = o)) :
    Calls Tryz.prog 56 #[.string s] w fun e w' => e = .returned (dcV o) ∧ Below w.heap.size w w' :=
  (rDecode_any s w hs).mono fun e w' ⟨h1, h2⟩ => ⟨by rw [h1, h.out], h2⟩
theorem bd_chunk {l : List UInt8} {b : List UInt8} {n e : Int} (h : decodeL l = (b, n, e)) : bodyL (-1) l = if e ≠ 0 then .inl e else .inr (b, n) := by
  unfold bodyL; rw [if_pos rfl, h]
set_option maxHeartbeats 1000000 in
theorem rbody_any (s : ByteArray) (f : Nat) (how : Int) (w : World) (hs : s.size ≤ 4000000) (hf : f ≤ s.size) (hh : how = -1 ∨ (0 ≤ how ∧ how ≤ 2147483647)) :
    Calls Tryz.prog 31 #[.string s, .int .i64 f, .int .i64 how] w fun e w' => e = .returned (bdV f (bodyL how (s.data.toList.drop f))) ∧ Below w.heap.size w w' := by
  have hz : s.data.toList.length = s.size := by simp
  have hlen : (s.data.toList.drop f).length = s.size - f := by rw [List.length_drop, hz]
  by_cases h1 : how = -1
  · subst h1
    have hx : (s.extract f s.size).data.toList = s.data.toList.drop f := by rw [extract_list, ← hz, List.take_length]
    have hxs : (s.extract f s.size).size ≤ 4000000 := by simp; omega
    rcases hd : decodeL (s.data.toList.drop f) with ⟨b, n, e⟩
    have hbd := dec_bd (l := s.data.toList.drop f)
    rw [hd, hlen] at hbd
    have HB := bd_chunk hd
    have HD : Box (decodeL (s.extract f s.size).data.toList = (b, n, e)) := box (by rw [hx]; exact hd)
    by_cases he : e = 0
    · subst he
      have HE : Box (bodyL (-1) (s.data.toList.drop f) = .inr (b, n)) := box (by rw [HB]; simp)
      clear hd HB hx
      obtain ⟨g0, g1⟩ := hbd
      simp only at g0 g1
      go_enter Tryz.func31, Tryz.ntmps31
      go_wp2_with fail
      refine (rDecode_is hxs HD).mono ?_; rintro e w1 ⟨rfl, hb⟩; unfold dcV
      go_wp2
      go_ret3
      exact ⟨by rw [HE.out]; rfl, hb⟩
    · have HE : Box (bodyL (-1) (s.data.toList.drop f) = .inl e) := box (by rw [HB, if_pos he])
      clear hd HB hx
      go_enter Tryz.func31, Tryz.ntmps31
      go_wp2_with fail
      refine (rDecode_is hxs HD).mono ?_; rintro e w1 ⟨rfl, hb⟩; unfold dcV
      go_wp2
      go_ret3
      exact ⟨by rw [HE.out]; rfl, hb⟩
  · have h0 : 0 ≤ how ∧ how ≤ 2147483647 := by omega
    have h1' : (how == -1) = false := by simp [h1]
    by_cases h5 : 100000 < how
    · have HE : Box (bodyL how (s.data.toList.drop f) = .inl 5) := box (by unfold bodyL; rw [if_neg h1, if_pos h5])
      go_enter Tryz.func31, Tryz.ntmps31
      go_wp2
      go_ret3
      exact ⟨by rw [HE.out]; rfl, Below.refl _ _⟩
    · obtain ⟨k, rfl⟩ : ∃ k : Nat, how = k := ⟨how.toNat, by omega⟩
      by_cases h2 : s.size - f < k
      · have HE : Box (bodyL k (s.data.toList.drop f) = .inl 2) := box (by unfold bodyL; rw [if_neg h1, if_neg h5, if_pos (by rw [hlen]; omega)])
        have h2i : (s.size : Int) - (f : Int) < (k : Int) := by omega
        go_enter Tryz.func31, Tryz.ntmps31
        go_wp2
        go_ret3
        exact ⟨by rw [HE.out]; rfl, Below.refl _ _⟩
      · have HE : Box (bodyL k (s.data.toList.drop f) = .inr ((s.data.toList.drop f).take k, (k : Int))) := box (by unfold bodyL; rw [if_neg h1, if_neg h5, if_neg (by rw [hlen]; omega), Int.toNat_natCast])
        have h2i : ¬ (s.size : Int) - (f : Int) < (k : Int) := by omega
        have hx : s.extract f (f + k) = bs ((s.data.toList.drop f).take k) := by
          rw [ext_bs, List.take_drop]
        have HX := box hx
        clear hx
        go_enter Tryz.func31, Tryz.ntmps31
        go_wp2
        go_ret3
        exact ⟨by rw [HE.out]; simp [bdV, HX.out], Below.refl _ _⟩
end
end Go.Proofs.YtjabcfabenobiaaGreat.Asc
