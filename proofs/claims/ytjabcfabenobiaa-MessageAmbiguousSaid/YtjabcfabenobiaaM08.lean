/- Merged texts: LstIdx LstOwn LstFil LstGet MsgRef MsgRef2 StaParse. -/
import Derived.Test.YtjabcfabenobiaaM03
import Derived.Test.YtjabcfabenobiaaM04
import Derived.Test.YtjabcfabenobiaaM05
import Derived.Test.YtjabcfabenobiaaM06
import Derived.Test.YtjabcfabenobiaaM07
import Derived.BigQuiet
import Derived.Deep.AppendLies
import Derived.Deep.QuietTactic
import Derived.IntWalk
import Derived.Laws.AppendOwnNone
import Derived.Lib.SmallJoins
import Derived.OwnWalk
set_option linter.unusedVariables false
set_option linter.unusedSimpArgs false
set_option maxRecDepth 100000
namespace Go.Proofs.Ytjabcfabenobiaa.Asc
section
open Go.RowKit
/-- the name lies in the block that the function value has captured -/
def Nm (g : Nat) (nm : ByteArray) (w : World) : Prop := w.cell? ⟨g, 0, none⟩ = some (.string nm)
theorem Nm.below {w w' : World} {g : Nat} {nm : ByteArray} (h : Nm g nm w) (hb : Below w.heap.size w w') : Nm g nm w' := (hb.cell (cell_lt h)).trans h
def nmV (g : Nat) : Value := .func (.func 71) #[] #[.pointer (some ⟨g, 0, none⟩)]
theorem named_any (nm : ByteArray) (w : World) :
    Calls Try.prog 58 #[.string nm] w fun e w' => e = .returned (nmV w.heap.size) ∧ w' = w.alloc (.cells #[.string nm] 9) := by
  have hmf : ∀ (fn : Fn) (first cap : Array Value) (w : World), (Instr.makeFunc fn first cap).run Try.prog w = .ok (.func fn first cap) w := fun _ _ _ _ => rfl
  go_enter Try.func58, Try.ntmps58
  go_wp2
  go_ret
  exact ⟨rfl, rfl⟩
theorem clo_any (g : Nat) (nm n v : ByteArray) (w : World) (N : Box (n.size ≤ 65536)) (M : Box (nm.size ≤ 65536)) (h : Box (Nm g nm w)) :
    Calls Try.prog 71 #[.agg #[.string n, .string v], .pointer (some ⟨g, 0, none⟩)] w fun e w' => e = .returned (.bool (nmd nm (n, v))) ∧ Below w.heap.size w w' := by
  have c0 : w.cell? ⟨g, 0, none⟩ = some (.string nm) := h.out
  have hlt := cell_lt c0
  simp only at hlt
  go_enter Try.func71, Try.ntmps71
  go_wp2_with fail
  refine (Fold_any _ _ _ (small_max N).out (small_max M).out).mono ?_; rintro e w1 ⟨rfl, hb1⟩
  go_wp2
  go_ret
  exact ⟨rfl, (below_new w _).trans (hb1.mono (below_new w _).size)⟩
/-- all names are small -/
def Sm (L : List F) : Prop := L.length ≤ 65536 ∧ ∀ i (h : i < L.length), L[i].1.size ≤ 65536 ∧ L[i].2.size ≤ 65536
theorem Nm.new (nm : ByteArray) (w : World) (t : TypeId) : Nm w.heap.size nm (w.alloc (.cells #[.string nm] t)) := by
  unfold Nm; rw [World.cell?_alloc_at _ _ _ _ rfl]; rfl
end
section
open Go.RowKit
theorem info_fld : (Try.prog.info? 39).map (fun i => (i.zero, i.size, i.bytes)) = some (some (.agg #[.string ⟨#[]⟩, .string ⟨#[]⟩]), 2, 32) := by kernel_rfl
def cellsF (L : List F) : List Value := L.flatMap fun p => [.string p.1, .string p.2]
theorem cellsF_len (L : List F) : (cellsF L).length = L.length * 2 := by
  induction L with
  | nil => rfl
  | cons p L ih => simp only [cellsF, List.flatMap_cons, List.length_append, List.length_cons, List.length_nil] at *; omega
theorem cellsF_app (L M : List F) : cellsF (L ++ M) = cellsF L ++ cellsF M := by simp [cellsF]
theorem cellsF_at (L : List F) (i : Nat) (h : i < L.length) : (cellsF L)[i * 2]? = some (.string L[i].1) ∧ (cellsF L)[i * 2 + 1]? = some (.string L[i].2) := by
  have e := split_at h
  have hl : (cellsF (L.take i)).length = i * 2 := by rw [cellsF_len, List.length_take, Nat.min_eq_left (Nat.le_of_lt h)]
  have e2 : cellsF L = cellsF (L.take i) ++ (.string L[i].1 :: .string L[i].2 :: cellsF (L.drop (i + 1))) := by
    conv => lhs; rw [e, cellsF_app]
    rfl
  rw [e2]
  constructor
  · rw [List.getElem?_append_right (by omega), hl]; simp
  · rw [List.getElem?_append_right (by omega), hl]; simp
def OwnF (w : World) (B : Nat) (v : Value) (L : List F) : Prop := w.ownsRow B 39 2 v L.length (cellsF L)
section
variable {w w' : World} {B : Nat} {v : Value}
theorem OwnF.nil (w : World) (B : Nat) : OwnF w B (.slice none 0 0) [] := World.ownsRow_nil _ _ _ _
/-- what a slice of fields that a call owns looks like -/
theorem OwnF.fs {L : List F} (h : OwnF w B v L) : ∃ a cap, v = .slice a L.length cap ∧ Fs w a L ∧ L.length ≤ cap := by
  rcases h.2 with ⟨rfl, hn⟩ | ⟨g, cap, cur, rfl, hB, hg, hc, hm, hs, ht⟩
  · exact ⟨none, 0, by rw [hn], fun i hi => by omega, by omega⟩
  · refine ⟨_, cap, rfl, fun i hi => ⟨g, 0, rfl, ?_, ?_⟩, hc⟩
    all_goals
      obtain ⟨q0, q1⟩ := cellsF_at L i hi
      rw [← ht] at q0 q1
      rw [List.getElem?_take] at q0 q1
      rw [if_pos (by omega)] at q0 q1
      simp only [World.cell?, hg]
    · simpa using q0
    · simpa [Nat.add_assoc] using q1
end
/-- append of one field that lies in a block of its own -/
theorem wpList_append_fld (w : World) {ops : Array Oper} {rest : List Oper} {o : Oper} {a : Act} {Q : Exit → Act → World → Prop} (hgd : o.guard = none) (s x : Operand)
    (ho : o.op = .call { callee := .builtin .append, args := #[s, x], argTypes := #[22, 22] })
    (B : Nat) (v : Value) (L : List F) (hs : a.eval s = v) (hown : OwnF w B v L)
    (g : Nat) (c : Nat) (hx : a.eval x = .slice (some ⟨g, 0, none⟩) 1 c) (n u : ByteArray) (h0 : w.cell? ⟨g, 0, none⟩ = some (.string n)) (h1 : w.cell? ⟨g, 1, none⟩ = some (.string u)) (hl : L.length ≤ 65536) (hB : B ≤ w.heap.size)
    (h : ∀ v' w', OwnF w' B v' (L ++ [(n, u)]) → Below B w w' → wpList Try.prog ops Q rest (a.put o.dst v') w') : wpList Try.prog ops Q (o :: rest) a w := by
  obtain ⟨i0, hi0, hz0, hz1, hz2⟩ := info_parts info_fld
  refine wpList_append_own (P := Try.prog) w hgd s x 22 ho B 39 i0 _ 2 32 Try.underlying22 hi0 hz0 hz1 hz2 rfl (by decide) v L.length (cellsF L) hs hown ⟨g, 0, none⟩ 1 c [.string n, .string u] hx rfl ?_ ?_ (by unfold maxLen; omega) (by omega) hB ?_
  · intro j u hj
    match j, hj with
    | 0, hj => simp at hj; subst hj; simpa [Addr.add] using h0
    | 1, hj => simp at hj; subst hj; simpa [Addr.add] using h1
  · intro u hu; simp at hu; rcases hu with rfl | rfl <;> rfl
  · intro v' w' q1 q2 _
    refine h v' w' (by simpa [OwnF, cellsF_app, cellsF] using q1) ((Below.refl _ _).grown q2 hB (fun k hk => own_block hown k hk))
/-- the same at a step of a region that draws its order -/
theorem step_append_fld (w : World) {ops : Array Oper} {o : Oper} {a : Act} {K : Act → World → Prop} {Q : Exit → Act → World → Prop} {E : Prop} (hgd : o.guard = none) (s x : Operand)
    (ho : o.op = .call { callee := .builtin .append, args := #[s, x], argTypes := #[22, 22] })
    (B : Nat) (v : Value) (L : List F) (hs : a.eval s = v) (hown : OwnF w B v L)
    (g : Nat) (c : Nat) (hx : a.eval x = .slice (some ⟨g, 0, none⟩) 1 c) (n u : ByteArray) (h0 : w.cell? ⟨g, 0, none⟩ = some (.string n)) (h1 : w.cell? ⟨g, 1, none⟩ = some (.string u)) (hl : L.length ≤ 65536) (hB : B ≤ w.heap.size)
    (h : ∀ v' w', OwnF w' B v' (L ++ [(n, u)]) → Below B w w' → K (a.put o.dst v') w') :
    if Region.wanted o (yielded ops a.tmps) = true then Oper.wp Try.prog o a w K Q else E := by
  obtain ⟨i0, hi0, hz0, hz1, hz2⟩ := info_parts info_fld
  refine step_append_lies (P := Try.prog) w hgd s x 22 ho B 39 i0 _ 2 32 Try.underlying22 hi0 hz0 hz1 hz2 rfl (by decide) v L.length (cellsF L) hs hown ⟨g, 0, none⟩ 1 c [.string n, .string u] hx rfl ?_ ?_ (by omega) (by unfold maxLen; omega) (by omega) hB _ rfl ?_
  · intro j u hj
    match j, hj with
    | 0, hj => simp at hj; subst hj; simpa [Addr.add] using h0
    | 1, hj => simp at hj; subst hj; simpa [Addr.add] using h1
  · intro u hu; simp at hu; rcases hu with rfl | rfl <;> rfl
  · intro g' cap' w' q1 q2 _ _
    refine h _ w' (by simpa [OwnF, cellsF_app, cellsF] using q1) ((Below.refl _ _).grown q2 hB (fun k hk => own_block hown k hk))
end
section
open Go.RowKit
theorem filter_more {p : F → Bool} {L : List F} {k : Nat} (h : k < L.length) : (L.take (k + 1)).filter p = (L.take k).filter p ++ (if p L[k] then [L[k]] else []) := by
  rw [take_next h, List.filter_append]; simp [List.filter_cons]
theorem filter_le {p : F → Bool} {L : List F} {k : Nat} : ((L.take k).filter p).length ≤ L.length := by
  have h1 := List.length_filter_le p (L.take k)
  have h2 : (L.take k).length ≤ L.length := by rw [List.length_take]; omega
  omega
/-- what a function value answers, in every world in which what it has captured still lies -/
def Ans (f : FuncId) (c : Value) (p : F → Bool) (J : World → Prop) : Prop :=
  ∀ (n v : ByteArray) (w : World), J w → n.size ≤ 65536 → Calls Try.prog f #[.agg #[.string n, .string v], c] w fun e w' => e = .returned (.bool (p (n, v))) ∧ Below w.heap.size w w'
set_option maxHeartbeats 800000 in
theorem filterN_any (a : Option Addr) (cap : Nat) (L : List F) (c : Option Addr) (p : F → Bool) (J : World → Prop) (w : World) (hl : L.length ≤ 65536) (S : Box (Sm L)) (hF : Box (Fs w a L))
    (hA : Box (Ans 71 (.pointer c) p J)) (hJ : Box (∀ w', Below w.heap.size w w' → J w')) :
    Calls Try.prog 57 #[.slice a L.length cap, .func (.func 71) #[] #[.pointer c]] w fun e w' => ∃ v, e = .returned v ∧ OwnF w' w.heap.size v (L.filter p) ∧ Below w.heap.size w w' := by
  go_enter Try.func57, Try.ntmps57
  go_wp2
  go_loopw [5, 10] (fun v i wr => ∃ k : Nat, k ≤ L.length ∧ i = .int .i64 k ∧ OwnF wr w.heap.size v ((L.take k).filter p) ∧ Below w.heap.size w wr) (fun _ i _ => L.length - (intOf i).toNat)
  case atStart => exact ⟨0, Nat.zero_le _, rfl, OwnF.nil _ _, Below.refl _ _⟩
  case round =>
    obtain ⟨k, hk, rfl, hO, hbel⟩ := hrel
    by_cases hlt : k < L.length
    · obtain ⟨q, off, rfl, c0, c1⟩ := (hF.out.below hbel) k hlt
      have B1 := box ((S.out.2 k hlt).1)
      have O := box hO
      have BL := box hbel
      clear hO hbel
      go_wp2_with fail
      refine (hA.out L[k].1 L[k].2 _ (hJ.out _ (BL.out.alloc BL.out.size _)) B1.out).mono ?_; rintro e w1 ⟨rfl, hb1⟩
      obtain ⟨f0, f1, _, _⟩ := (Fld.new L[k].1 L[k].2 _ 39).below hb1 (by simp)
      have O1 := box (own_below (own_below O.out (below_new _ _)) hb1)
      have BL1 := box ((BL.out.alloc BL.out.size _).trans (hb1.mono (BL.out.alloc BL.out.size _).size))
      have hbs := BL1.out.size
      clear hb1 c0 c1
      rcases hp : p (L[k].1, L[k].2) with _ | _
      · go_wp2
        go_roundw
        case rel => exact ⟨k + 1, by omega, by go_num, by rw [filter_more hlt, if_neg (by rw [show p L[k] = false from hp]; simp), List.append_nil]; exact O1.out, BL1.out⟩
        case measure => simp [intOf]; omega
      · go_wp2_with (at_builtin; refine wpList_append_fld _ rfl (.tmp 17) (.tmp 19) rfl w.heap.size _ ((L.take k).filter p) rfl (own_below O1.out (below_new _ _)) _ _ rfl L[k].1 L[k].2 (by go_simp) (by go_simp) (Nat.le_trans filter_le hl) (by simp; omega) ?_; intro v' w2 hO2 hb2)
        go_roundw
        case rel => exact ⟨k + 1, by omega, by go_num, by rw [filter_more hlt, if_pos (show p L[k] = true from hp)]; exact hO2, (BL1.out.alloc BL1.out.size _).trans hb2⟩
        case measure => simp [intOf]; omega
    · have e : k = L.length := by omega
      subst e
      rw [List.take_length] at hO
      go_wp2
      go_ret
      exact ⟨_, rfl, hO, hbel⟩
set_option maxHeartbeats 800000 in
theorem filterR_any (a : Option Addr) (cap : Nat) (L : List F) (c : Option Addr) (p : F → Bool) (J : World → Prop) (w : World) (hl : L.length ≤ 65536) (S : Box (Sm L)) (hF : Box (Fs w a L))
    (hA : Box (Ans 83 (.pointer c) p J)) (hJ : Box (∀ w', Below w.heap.size w w' → J w')) :
    Calls Try.prog 57 #[.slice a L.length cap, .func (.func 83) #[] #[.pointer c]] w fun e w' => ∃ v, e = .returned v ∧ OwnF w' w.heap.size v (L.filter p) ∧ Below w.heap.size w w' := by
  go_enter Try.func57, Try.ntmps57
  go_wp2
  go_loopw [5, 10] (fun v i wr => ∃ k : Nat, k ≤ L.length ∧ i = .int .i64 k ∧ OwnF wr w.heap.size v ((L.take k).filter p) ∧ Below w.heap.size w wr) (fun _ i _ => L.length - (intOf i).toNat)
  case atStart => exact ⟨0, Nat.zero_le _, rfl, OwnF.nil _ _, Below.refl _ _⟩
  case round =>
    obtain ⟨k, hk, rfl, hO, hbel⟩ := hrel
    by_cases hlt : k < L.length
    · obtain ⟨q, off, rfl, c0, c1⟩ := (hF.out.below hbel) k hlt
      have B1 := box ((S.out.2 k hlt).1)
      have O := box hO
      have BL := box hbel
      clear hO hbel
      go_wp2_with fail
      refine (hA.out L[k].1 L[k].2 _ (hJ.out _ (BL.out.alloc BL.out.size _)) B1.out).mono ?_; rintro e w1 ⟨rfl, hb1⟩
      obtain ⟨f0, f1, _, _⟩ := (Fld.new L[k].1 L[k].2 _ 39).below hb1 (by simp)
      have O1 := box (own_below (own_below O.out (below_new _ _)) hb1)
      have BL1 := box ((BL.out.alloc BL.out.size _).trans (hb1.mono (BL.out.alloc BL.out.size _).size))
      have hbs := BL1.out.size
      clear hb1 c0 c1
      rcases hp : p (L[k].1, L[k].2) with _ | _
      · go_wp2
        go_roundw
        case rel => exact ⟨k + 1, by omega, by go_num, by rw [filter_more hlt, if_neg (by rw [show p L[k] = false from hp]; simp), List.append_nil]; exact O1.out, BL1.out⟩
        case measure => simp [intOf]; omega
      · go_wp2_with (at_builtin; refine wpList_append_fld _ rfl (.tmp 17) (.tmp 19) rfl w.heap.size _ ((L.take k).filter p) rfl (own_below O1.out (below_new _ _)) _ _ rfl L[k].1 L[k].2 (by go_simp) (by go_simp) (Nat.le_trans filter_le hl) (by simp; omega) ?_; intro v' w2 hO2 hb2)
        go_roundw
        case rel => exact ⟨k + 1, by omega, by go_num, by rw [filter_more hlt, if_pos (show p L[k] = true from hp)]; exact hO2, (BL1.out.alloc BL1.out.size _).trans hb2⟩
        case measure => simp [intOf]; omega
    · have e : k = L.length := by omega
      subst e
      rw [List.take_length] at hO
      go_wp2
      go_ret
      exact ⟨_, rfl, hO, hbel⟩
end
section
open Go.RowKit
theorem ans_named (g : Nat) (nm : ByteArray) (M : Box (nm.size ≤ 65536)) : Ans 71 (.pointer (some ⟨g, 0, none⟩)) (nmd nm) (Nm g nm) :=
  fun n v w h hn => clo_any g nm n v w (box hn) M (box h)
theorem sm_filter {L : List F} {p : F → Bool} (h : Sm L) : Sm (L.filter p) := by
  refine ⟨Nat.le_trans (List.length_filter_le _ _) h.1, fun i hi => ?_⟩
  have hm := (List.mem_filter.mp (List.getElem_mem hi)).1
  obtain ⟨j, hj, e⟩ := List.mem_iff_getElem.mp hm
  rw [← e]; exact h.2 j hj
set_option maxHeartbeats 800000 in
theorem Get_any (a : Option Addr) (cap : Nat) (L : List F) (nm : ByteArray) (w : World) (hl : L.length ≤ 65536) (S : Box (Sm L)) (M : Box (nm.size ≤ 65536)) (hF : Box (Fs w a L)) :
    Calls Try.prog 44 #[.slice a L.length cap, .string nm] w fun e w' => ∃ v, e = .returned v ∧ OwnS w' w.heap.size v (getL nm L) ∧ Below w.heap.size w w' := by
  go_enter Try.func44, Try.ntmps44
  go_wp2_with fail
  refine (named_any nm _).mono ?_; rintro e w1 ⟨rfl, rfl⟩
  unfold nmV
  go_wp2_with fail
  refine (filterN_any a cap L _ (nmd nm) (Nm w.heap.size nm) (w.alloc (.cells #[.string nm] 9)) hl S (box (hF.out.below (below_new _ _))) (box (ans_named _ nm M)) (box (fun w' hb => (Nm.new nm w _).below hb))).mono ?_
  rintro e w2 ⟨v, rfl, hO, hb2⟩
  obtain ⟨K, hK⟩ : ∃ K, L.filter (nmd nm) = K := ⟨_, rfl⟩
  have HG : Box (getL nm L = K.map (·.2)) := box (by unfold getL; rw [hK])
  rw [hK] at hO
  obtain ⟨a2, cap2, rfl, hfs, hcl⟩ := hO.fs
  have FS := box hfs
  have b2 := box ((below_new w _).trans (hb2.mono (below_new w _).size))
  have hKl : K.length ≤ 65536 := by rw [← hK]; exact Nat.le_trans (List.length_filter_le _ _) hl
  clear hb2 hO hfs hK hcl
  go_wp2
  go_loopw [5, 13] (fun v i wr => ∃ k : Nat, k ≤ K.length ∧ i = .int .i64 k ∧ OwnS wr w2.heap.size v ((K.take k).map (·.2)) ∧ Below w2.heap.size w2 wr) (fun _ i _ => K.length - (intOf i).toNat)
  case atStart => exact ⟨0, Nat.zero_le _, rfl, OwnS.nil _ _, Below.refl _ _⟩
  case round =>
    obtain ⟨k, hk, rfl, hO, hbel2⟩ := hrel
    by_cases hlt : k < K.length
    · obtain ⟨q, off, rfl, c0, c1⟩ := (FS.out.below hbel2) k hlt
      have O := box hO
      have BL2 := box hbel2
      have hbs := hbel2.size
      clear hO hbel2
      go_wp2_with (at_builtin; refine wpList_append_str _ rfl (.tmp 17) (.tmp 20) rfl w2.heap.size _ ((K.take k).map (·.2)) rfl ?a1 _ _ rfl K[k].2 ?b1 ?c1 ?d1 ?_)
      case a1 => exact own_below (own_below O.out (below_new _ _)) (below_new _ _)
      case b1 => go_simp
      case c1 => rw [List.length_map, List.length_take]; omega
      case d1 => simp; omega
      intro v' w3 hO2 hb2
      have hO3 := box hO2
      clear hO2
      go_wp2
      go_roundw
      case rel => exact ⟨k + 1, by omega, by go_num, by rw [take_next hlt, List.map_append]; simpa using hO3.out, ((BL2.out.alloc BL2.out.size _).alloc (by simp; omega) _).trans hb2⟩
      case measure => simp [intOf]; omega
    · have e : k = K.length := by omega
      subst e
      rw [List.take_length] at hO
      go_wp2
      go_ret
      exact ⟨_, rfl, by rw [HG.out]; exact Go.Joins.ownsRow_le hO b2.out.size, b2.out.trans (hbel2.mono b2.out.size)⟩
theorem small_4g {s : ByteArray} (h : s.size ≤ 65536) : s.size ≤ 4294967296 := by omega
end
section
open Go.RowKit
theorem get_small {nm : ByteArray} {L : List F} (S : Sm L) : ∀ x ∈ getL nm L, x.size ≤ 65536 := fun x hx => by
  unfold getL at hx
  obtain ⟨p, hp, rfl⟩ := List.mem_map.mp hx
  obtain ⟨i, hi, e⟩ := List.getElem_of_mem (List.mem_filter.mp hp).1
  rw [← e]; exact (S.2 i hi).2
theorem fr_many {L : List F} {t t' : ByteArray} {R : List ByteArray} (h : getL teN L = t :: t' :: R) : framedL L = (0, 7) := by
  unfold framedL; rw [h]; rw [if_pos (Or.inl (by simp))]
theorem fr_bad {L : List F} {t : ByteArray} (h : getL teN L = [t]) (hf : foldL t.data.toList chunkedL = false) : framedL L = (0, 7) := by
  unfold framedL; rw [h]; rw [if_pos (Or.inr ⟨rfl, by simp [hf]⟩)]
theorem fr_both {L : List F} {t c : ByteArray} {R : List ByteArray} (h : getL teN L = [t]) (hf : foldL t.data.toList chunkedL = true) (hc : getL clN L = c :: R) : framedL L = (0, 8) := by
  unfold framedL; rw [h, hc]; simp [hf]
theorem fr_te {L : List F} {t : ByteArray} (h : getL teN L = [t]) (hf : foldL t.data.toList chunkedL = true) (hc : getL clN L = []) : framedL L = (-1, 0) := by
  unfold framedL; rw [h, hc]; simp [hf]
theorem fr_none {L : List F} (h : getL teN L = []) (hc : getL clN L = []) : framedL L = (-2, 0) := by
  unfold framedL; rw [h, hc]; simp
theorem fr_two {L : List F} {c c' : ByteArray} {R : List ByteArray} (h : getL teN L = []) (hc : getL clN L = c :: c' :: R) : framedL L = (0, 8) := by
  unfold framedL; rw [h, hc]; simp
theorem fr_one0 {L : List F} {c : ByteArray} (h : getL teN L = []) (hc : getL clN L = [c]) (hn : numL c.data.toList = none) : framedL L = (0, 8) := by
  unfold framedL; rw [h, hc]; simp [hn]
theorem fr_one1 {L : List F} {c : ByteArray} {v : Int} (h : getL teN L = []) (hc : getL clN L = [c]) (hn : numL c.data.toList = some v) : framedL L = if c.size ≤ 9 then (v, 0) else (0, 8) := by
  unfold framedL; rw [h, hc]; simp [hn]
def chunkedB : ByteArray := ⟨#[99, 104, 117, 110, 107, 101, 100]⟩
end
section
open Go.RowKit
theorem next_len {l t r : List UInt8} (h : nextL l = .inr (t, r)) : r.length ≤ l.length := by
  have e := (next_line h).1
  rw [e]; simp only [List.length_append, List.length_cons]; omega
theorem trail_len : ∀ (f k : Nat) (l r : List UInt8), trailF f k l = .inr r → r.length ≤ l.length
  | 0, k, l, r, h => by simp [trailF] at h
  | f + 1, k, l, r, h => by
    unfold trailF at h
    rcases hn : nextL l with e | ⟨t, r2⟩
    · rw [hn] at h; simp at h
    · rw [hn] at h
      have := next_len hn
      simp only at h
      split at h
      · simp at h; rw [← h]; exact this
      · split at h
        · simp at h
        · split at h
          · simp at h
          · have := trail_len f (k + 1) r2 r h; omega
theorem chunk_len {body l r : List UInt8} (h : chunkL body l = .last r) : r.length ≤ l.length := by
  unfold chunkL at h
  rcases hn : nextL l with e | ⟨t, r2⟩
  · rw [hn] at h; simp at h
  · rw [hn] at h
    have := next_len hn
    simp only at h
    rcases hs : sizeL t with _ | n
    · rw [hs] at h; simp at h
    · rw [hs] at h
      simp only at h
      split at h
      · simp at h
      · split at h
        · simp at h; rw [← h]; exact this
        · split at h
          · simp at h
          · split at h
            · simp at h
            · split at h <;> simp at h
theorem chunk_len2 {body l d r : List UInt8} (h : chunkL body l = .data d r) : r.length ≤ l.length := by
  unfold chunkL at h
  rcases hn : nextL l with e | ⟨t, r2⟩
  · rw [hn] at h; simp at h
  · rw [hn] at h
    have := next_len hn
    simp only at h
    rcases hs : sizeL t with _ | n
    · rw [hs] at h; simp at h
    · rw [hs] at h
      simp only at h
      split at h
      · simp at h
      · split at h
        · simp at h
        · split at h
          · simp at h
          · split at h
            · simp at h
            · split at h
              · simp at h; rw [← h.2, List.length_drop]; omega
              · simp at h
theorem chunks_len : ∀ (f : Nat) (body l b r : List UInt8), chunksF f body l = .inr (b, r) → r.length ≤ l.length
  | 0, body, l, b, r, h => by simp [chunksF] at h
  | f + 1, body, l, b, r, h => by
    unfold chunksF at h
    rcases hc : chunkL body l with e | r2 | ⟨d, r2⟩
    · rw [hc] at h; simp at h
    · rw [hc] at h; simp at h; rw [← h.2]; exact chunk_len hc
    · rw [hc] at h; simp only at h
      have := chunk_len2 hc
      have := chunks_len f _ r2 b r h
      omega
theorem dec_bd {l : List UInt8} : 0 ≤ (decodeL l).2.1 ∧ (decodeL l).2.1 ≤ l.length := by
  unfold decodeL decS
  rcases hc : chunksF (l.length + 1) [] l with e | ⟨b, r⟩
  · simp only [decT]; omega
  · have h1 := chunks_len _ _ _ _ _ hc
    simp only
    rcases ht : trailF 66 0 r with e | r2
    · simp only [decT]; omega
    · have h2 := trail_len _ _ _ _ ht
      simp only [decT]; omega
end
section
open Go.RowKit
theorem results_tmp4 {fn : Func} {t u v x : Tmp} (h : fn.results = #[.tmp t, .tmp u, .tmp v, .tmp x]) (tmps : Array Value) (P : Program) (w : World) :
    (results fn tmps).run P w = .ok (.tuple #[tmps.getD t undef, tmps.getD u undef, tmps.getD v undef, tmps.getD x undef]) w := by
  simp [results, h]
def reqV (p : List UInt8 × List UInt8 × Int × Int) : Value := .tuple #[.string (bs p.1), .string (bs p.2.1), .int .i64 p.2.2.1, .int .i64 p.2.2.2]
theorem ret_req {p q : List UInt8 × List UInt8 × Int × Int} (h : p = q) : Ending.returned (reqV q) = .returned (reqV p) := by rw [h]
theorem len_of (s : ByteArray) : s.data.toList.length = s.size := by simp
theorem long_of {s : ByteArray} {n : Nat} (h : n < s.size) : n < s.data.toList.length := by rw [len_of]; exact h
theorem nlong_of {s : ByteArray} {n : Nat} (h : ¬ n < s.size) : ¬ n < s.data.toList.length := by rw [len_of]; exact h
theorem bs_le {l m : List UInt8} (h : l.length ≤ m.length) (hm : ¬ 2000 < m.length) : (bs l).size ≤ maxLen := by rw [bs_size]; unfold maxLen; omega
theorem bne0 {a : Int} (h : a ≠ 0) : (a != 0) = true := by simpa using h
theorem bne1 {a : Int} (h : a = 0) : (a != 0) = false := by simpa using h
theorem ParseRequest_any (s : ByteArray) (w : World) (hs : s.size ≤ maxLen) :
    Calls Try.prog 43 #[.string s] w fun e w' => e = .returned (reqV (reqL s.data.toList)) ∧ Below w.heap.size w w' := by
  by_cases hl : 2000 < s.size
  · unfold maxLen at hs
    go_enter Try.func43, Try.ntmps43
    go_wp2
    ((try simp only [Exit.inBlock, Exit.then]); refine bodyPost_ret (results_tmp4 rfl _ _ _) rfl ?_)
    exact ⟨ret_req (req_long (long_of hl)), Below.refl _ _⟩
  · have HS := Lib.hid hs
    have HL := Lib.hid (nlong_of hl)
    have hle : s.size ≤ 2000 := by omega
    have H2 := Lib.hid (bs_le (cut2_le 32 s.data.toList) HL.out)
    have H1 := Lib.hid (bs_le (cut1_le 32 s.data.toList) HL.out)
    have H21 := Lib.hid (bs_le (Nat.le_trans (cut1_le 32 (cut2 32 s.data.toList)) (cut2_le 32 s.data.toList)) HL.out)
    have H22 := Lib.hid (bs_le (Nat.le_trans (cut2_le 32 (cut2 32 s.data.toList)) (cut2_le 32 s.data.toList)) HL.out)
    clear hs
    rcases ht : tokL (cut1 32 s.data.toList) with _ | _
    · have HT := Lib.hid ht
      go_enter Try.func43, Try.ntmps43
      go_wp2_with fail
      refine (Cut_any _ 32 _ HS.out).mono ?_; rintro e w1 ⟨rfl, hb1⟩; unfold cutV
      go_wp2_with fail
      refine (Cut_any _ 32 _ H2.out).mono ?_; rintro e w2 ⟨rfl, hb2⟩; rw [bs_toList]; unfold cutV
      have b2 := hb1.trans (hb2.mono hb1.size)
      clear hb1 hb2
      go_wp2_with fail
      refine (Token_any _ _ H1.out).mono ?_; rintro e w3 ⟨rfl, rfl⟩; rw [bs_toList]
      go_wp2
      ((try simp only [Exit.inBlock, Exit.then]); refine bodyPost_ret (results_tmp4 rfl _ _ _) rfl ?_)
      exact ⟨ret_req (req_bad HL.out (by rw [HT.out]; rfl)), b2⟩
    · have HT := Lib.hid ht
      rcases hv : visL (cut1 32 (cut2 32 s.data.toList)) with _ | _
      · have HV := Lib.hid hv
        go_enter Try.func43, Try.ntmps43
        go_wp2_with fail
        refine (Cut_any _ 32 _ HS.out).mono ?_; rintro e w1 ⟨rfl, hb1⟩; unfold cutV
        go_wp2_with fail
        refine (Cut_any _ 32 _ H2.out).mono ?_; rintro e w2 ⟨rfl, hb2⟩; rw [bs_toList]; unfold cutV
        have b2 := hb1.trans (hb2.mono hb1.size)
        clear hb1 hb2
        go_wp2_with fail
        refine (Token_any _ _ H1.out).mono ?_; rintro e w3 ⟨rfl, rfl⟩; rw [bs_toList]
        go_wp2_with fail
        refine (isTarget_any _ _ H21.out).mono ?_; rintro e w3 ⟨rfl, rfl⟩; rw [bs_toList]
        go_wp2
        ((try simp only [Exit.inBlock, Exit.then]); refine bodyPost_ret (results_tmp4 rfl _ _ _) rfl ?_)
        exact ⟨ret_req (req_bad HL.out (by rw [HT.out, HV.out]; rfl)), b2⟩
      · have HV := Lib.hid hv
        by_cases hE : verE (cut2 32 (cut2 32 s.data.toList)) = 0
        · have HE := Lib.hid hE
          have hE2 := bne1 hE
          clear hE
          go_enter Try.func43, Try.ntmps43
          go_wp2_with fail
          refine (Cut_any _ 32 _ HS.out).mono ?_; rintro e w1 ⟨rfl, hb1⟩; unfold cutV
          go_wp2_with fail
          refine (Cut_any _ 32 _ H2.out).mono ?_; rintro e w2 ⟨rfl, hb2⟩; rw [bs_toList]; unfold cutV
          have b2 := hb1.trans (hb2.mono hb1.size)
          clear hb1 hb2
          go_wp2_with fail
          refine (Token_any _ _ H1.out).mono ?_; rintro e w3 ⟨rfl, rfl⟩; rw [bs_toList]
          go_wp2_with fail
          refine (isTarget_any _ _ H21.out).mono ?_; rintro e w3 ⟨rfl, rfl⟩; rw [bs_toList]
          go_wp2_with fail
          refine (parseVersion_any _ _ H22.out).mono ?_; rintro e w3 ⟨rfl, rfl⟩; rw [bs_toList]; unfold verV
          go_wp2
          ((try simp only [Exit.inBlock, Exit.then]); refine bodyPost_ret (results_tmp4 rfl _ _ _) rfl ?_)
          exact ⟨ret_req (req_ok HL.out HT.out HV.out HE.out), b2⟩
        · have HE := Lib.hid hE
          have hE2 := bne0 hE
          clear hE
          go_enter Try.func43, Try.ntmps43
          go_wp2_with fail
          refine (Cut_any _ 32 _ HS.out).mono ?_; rintro e w1 ⟨rfl, hb1⟩; unfold cutV
          go_wp2_with fail
          refine (Cut_any _ 32 _ H2.out).mono ?_; rintro e w2 ⟨rfl, hb2⟩; rw [bs_toList]; unfold cutV
          have b2 := hb1.trans (hb2.mono hb1.size)
          clear hb1 hb2
          go_wp2_with fail
          refine (Token_any _ _ H1.out).mono ?_; rintro e w3 ⟨rfl, rfl⟩; rw [bs_toList]
          go_wp2_with fail
          refine (isTarget_any _ _ H21.out).mono ?_; rintro e w3 ⟨rfl, rfl⟩; rw [bs_toList]
          go_wp2_with fail
          refine (parseVersion_any _ _ H22.out).mono ?_; rintro e w3 ⟨rfl, rfl⟩; rw [bs_toList]; unfold verV
          go_wp2
          ((try simp only [Exit.inBlock, Exit.then]); refine bodyPost_ret (results_tmp4 rfl _ _ _) rfl ?_)
          exact ⟨ret_req (req_ver HL.out HT.out HV.out HE.out), b2⟩
end
end Go.Proofs.Ytjabcfabenobiaa.Asc
