/- Merged texts: LstOwn LstFil LstGet LisRef AscTrim LisRef2 LisRef3. -/
import Derived.Test.YtgagaebgiioeoaaZs01
import Derived.Test.YtgagaebgiioeoaaZs02
import Derived.Test.YtgagaebgiioeoaaZs03
import Derived.BigQuiet
import Derived.Deep.AppendLies
import Derived.Deep.QuietTactic
import Derived.Laws.AppendOwnNone
import Derived.Lib.Hide
import Derived.Lib.SmallJoins
import Derived.LoopTactic
set_option linter.unusedVariables false
set_option linter.unusedSimpArgs false
set_option maxRecDepth 100000
namespace Go.Proofs.Ytgagaebgiioeoaa.Asc
section
open Go.RowKit
theorem info_fld : (Try.prog.info? 35).map (fun i => (i.zero, i.size, i.bytes)) = some (some (.agg #[.string ⟨#[]⟩, .string ⟨#[]⟩]), 2, 32) := by kernel_rfl
def cellsF (L : List F) : List Value := L.flatMap fun p => [.string p.1, .string p.2]
theorem cellsF_len (L : List F) : (cellsF L).length = L.length * 2 := by
  induction L with
  | nil => rfl
  | cons p L ih => simp only [cellsF, List.flatMap_cons, List.length_append, List.length_cons, List.length_nil] at *; omega
theorem cellsF_app (L M : List F) : cellsF (L ++ M) = cellsF L ++ cellsF M := by simp [cellsF]
theorem cellsF_at (L : List F) (i : Nat) (h : i < L.length) : (cellsF L)[i * 2]? = some (.string L[i].1) ∧ (cellsF L)[i * 2 + 1]? = some (.string L[i].2) := by
  have e := split_at h
  have hl : (cellsF (L.take i)).length = i * 2 := by rw [cellsF_len, List.length_take, Nat.min_eq_left (Nat.le_of_lt h)]
  have e2 : cellsF L = cellsF (L.take i) ++ (.string L[i].1 :: .string L[i].2 :: cellsF (L.drop (i + 1))) := by
    conv => lhs; rw [e, cellsF_app]
    rfl
  rw [e2]
  constructor
  · rw [List.getElem?_append_right (by omega), hl]; simp
  · rw [List.getElem?_append_right (by omega), hl]; simp
def OwnF (w : World) (B : Nat) (v : Value) (L : List F) : Prop := w.ownsRow B 35 2 v L.length (cellsF L)
section
variable {w w' : World} {B : Nat} {v : Value}
theorem OwnF.nil (w : World) (B : Nat) : OwnF w B (.slice none 0 0) [] := World.ownsRow_nil _ _ _ _
/-- what a slice of fields that a call owns looks like -/
theorem OwnF.fs {L : List F} (h : OwnF w B v L) : ∃ a cap, v = .slice a L.length cap ∧ Fs w a L ∧ L.length ≤ cap := by
  rcases h.2 with ⟨rfl, hn⟩ | ⟨g, cap, cur, rfl, hB, hg, hc, hm, hs, ht⟩
  · exact ⟨none, 0, by rw [hn], fun i hi => by omega, by omega⟩
  · refine ⟨_, cap, rfl, fun i hi => ⟨g, 0, rfl, ?_, ?_⟩, hc⟩
    all_goals
      obtain ⟨q0, q1⟩ := cellsF_at L i hi
      rw [← ht] at q0 q1
      rw [List.getElem?_take] at q0 q1
      rw [if_pos (by omega)] at q0 q1
      simp only [World.cell?, hg]
    · simpa using q0
    · simpa [Nat.add_assoc] using q1
end
/-- append of one field that lies in a block of its own -/
theorem wpList_append_fld (w : World) {ops : Array Oper} {rest : List Oper} {o : Oper} {a : Act} {Q : Exit → Act → World → Prop} (hgd : o.guard = none) (s x : Operand)
    (ho : o.op = .call { callee := .builtin .append, args := #[s, x], argTypes := #[22, 22] })
    (B : Nat) (v : Value) (L : List F) (hs : a.eval s = v) (hown : OwnF w B v L)
    (g : Nat) (c : Nat) (hx : a.eval x = .slice (some ⟨g, 0, none⟩) 1 c) (n u : ByteArray) (h0 : w.cell? ⟨g, 0, none⟩ = some (.string n)) (h1 : w.cell? ⟨g, 1, none⟩ = some (.string u)) (hl : L.length ≤ 65536) (hB : B ≤ w.heap.size)
    (h : ∀ v' w', OwnF w' B v' (L ++ [(n, u)]) → Below B w w' → wpList Try.prog ops Q rest (a.put o.dst v') w') : wpList Try.prog ops Q (o :: rest) a w := by
  obtain ⟨i0, hi0, hz0, hz1, hz2⟩ := info_parts info_fld
  refine wpList_append_own (P := Try.prog) w hgd s x 22 ho B 35 i0 _ 2 32 Try.underlying22 hi0 hz0 hz1 hz2 rfl (by decide) v L.length (cellsF L) hs hown ⟨g, 0, none⟩ 1 c [.string n, .string u] hx rfl ?_ ?_ (by unfold maxLen; omega) (by omega) hB ?_
  · intro j u hj
    match j, hj with
    | 0, hj => simp at hj; subst hj; simpa [Addr.add] using h0
    | 1, hj => simp at hj; subst hj; simpa [Addr.add] using h1
  · intro u hu; simp at hu; rcases hu with rfl | rfl <;> rfl
  · intro v' w' q1 q2 _
    refine h v' w' (by simpa [OwnF, cellsF_app, cellsF] using q1) ((Below.refl _ _).grown q2 hB (fun k hk => own_block hown k hk))
end
section
open Go.RowKit
theorem filter_more {p : F → Bool} {L : List F} {k : Nat} (h : k < L.length) : (L.take (k + 1)).filter p = (L.take k).filter p ++ (if p L[k] then [L[k]] else []) := by
  rw [take_next h, List.filter_append]; simp [List.filter_cons]
theorem filter_le {p : F → Bool} {L : List F} {k : Nat} : ((L.take k).filter p).length ≤ L.length := by
  have h1 := List.length_filter_le p (L.take k)
  have h2 : (L.take k).length ≤ L.length := by rw [List.length_take]; omega
  omega
/-- what a function value answers, in every world in which what it has captured still lies -/
def Ans (f : FuncId) (c : Value) (p : F → Bool) (J : World → Prop) : Prop :=
  ∀ (n v : ByteArray) (w : World), J w → n.size ≤ 65536 → Calls Try.prog f #[.agg #[.string n, .string v], c] w fun e w' => e = .returned (.bool (p (n, v))) ∧ Below w.heap.size w w'
set_option maxHeartbeats 800000 in
theorem filterN_any (a : Option Addr) (cap : Nat) (L : List F) (c : Option Addr) (p : F → Bool) (J : World → Prop) (w : World) (hl : L.length ≤ 65536) (S : Box (Sm L)) (hF : Box (Fs w a L))
    (hA : Box (Ans 47 (.pointer c) p J)) (hJ : Box (∀ w', Below w.heap.size w w' → J w')) :
    Calls Try.prog 41 #[.slice a L.length cap, .func (.func 47) #[] #[.pointer c]] w fun e w' => ∃ v, e = .returned v ∧ OwnF w' w.heap.size v (L.filter p) ∧ Below w.heap.size w w' := by
  go_enter Try.func41, Try.ntmps41
  go_wp2
  go_loopw [5, 10] (fun v i wr => ∃ k : Nat, k ≤ L.length ∧ i = .int .i64 k ∧ OwnF wr w.heap.size v ((L.take k).filter p) ∧ Below w.heap.size w wr) (fun _ i _ => L.length - (intOf i).toNat)
  case atStart => exact ⟨0, Nat.zero_le _, rfl, OwnF.nil _ _, Below.refl _ _⟩
  case round =>
    obtain ⟨k, hk, rfl, hO, hbel⟩ := hrel
    by_cases hlt : k < L.length
    · obtain ⟨q, off, rfl, c0, c1⟩ := (hF.out.below hbel) k hlt
      have B1 := box ((S.out.2 k hlt).1)
      have O := box hO
      have BL := box hbel
      clear hO hbel
      go_wp2_with fail
      refine (hA.out L[k].1 L[k].2 _ (hJ.out _ (BL.out.alloc BL.out.size _)) B1.out).mono ?_; rintro e w1 ⟨rfl, hb1⟩
      obtain ⟨f0, f1, _, _⟩ := (Fld.new L[k].1 L[k].2 _ 35).below hb1 (by simp)
      have O1 := box (own_below (own_below O.out (below_new _ _)) hb1)
      have BL1 := box ((BL.out.alloc BL.out.size _).trans (hb1.mono (BL.out.alloc BL.out.size _).size))
      have hbs := BL1.out.size
      clear hb1 c0 c1
      rcases hp : p (L[k].1, L[k].2) with _ | _
      · go_wp2
        go_roundw
        case rel => exact ⟨k + 1, by omega, by go_num, by rw [filter_more hlt, if_neg (by rw [show p L[k] = false from hp]; simp), List.append_nil]; exact O1.out, BL1.out⟩
        case measure => simp [intOf]; omega
      · go_wp2_with (at_builtin; refine wpList_append_fld _ rfl (.tmp 17) (.tmp 19) rfl w.heap.size _ ((L.take k).filter p) rfl (own_below O1.out (below_new _ _)) _ _ rfl L[k].1 L[k].2 (by go_simp) (by go_simp) (Nat.le_trans filter_le hl) (by simp; omega) ?_; intro v' w2 hO2 hb2)
        go_roundw
        case rel => exact ⟨k + 1, by omega, by go_num, by rw [filter_more hlt, if_pos (show p L[k] = true from hp)]; exact hO2, (BL1.out.alloc BL1.out.size _).trans hb2⟩
        case measure => simp [intOf]; omega
    · have e : k = L.length := by omega
      subst e
      rw [List.take_length] at hO
      go_wp2
      go_ret
      exact ⟨_, rfl, hO, hbel⟩
end
section
open Go.RowKit
theorem ans_named (g : Nat) (nm : ByteArray) (M : Box (nm.size ≤ 65536)) : Ans 47 (.pointer (some ⟨g, 0, none⟩)) (nmd nm) (Nm g nm) :=
  fun n v w h hn => clo_any g nm n v w (box hn) M (box h)
set_option maxHeartbeats 800000 in
theorem Get_any (a : Option Addr) (cap : Nat) (L : List F) (nm : ByteArray) (w : World) (hl : L.length ≤ 65536) (S : Box (Sm L)) (M : Box (nm.size ≤ 65536)) (hF : Box (Fs w a L)) :
    Calls Try.prog 35 #[.slice a L.length cap, .string nm] w fun e w' => ∃ v, e = .returned v ∧ OwnS w' w.heap.size v (getL nm L) ∧ Below w.heap.size w w' := by
  go_enter Try.func35, Try.ntmps35
  go_wp2_with fail
  refine (named_any nm _).mono ?_; rintro e w1 ⟨rfl, rfl⟩
  unfold nmV
  go_wp2_with fail
  refine (filterN_any a cap L _ (nmd nm) (Nm w.heap.size nm) (w.alloc (.cells #[.string nm] 9)) hl S (box (hF.out.below (below_new _ _))) (box (ans_named _ nm M)) (box (fun w' hb => (Nm.new nm w _).below hb))).mono ?_
  rintro e w2 ⟨v, rfl, hO, hb2⟩
  obtain ⟨K, hK⟩ : ∃ K, L.filter (nmd nm) = K := ⟨_, rfl⟩
  have HG : Box (getL nm L = K.map (·.2)) := box (by unfold getL; rw [hK])
  rw [hK] at hO
  obtain ⟨a2, cap2, rfl, hfs, hcl⟩ := hO.fs
  have FS := box hfs
  have b2 := box ((below_new w _).trans (hb2.mono (below_new w _).size))
  have hKl : K.length ≤ 65536 := by rw [← hK]; exact Nat.le_trans (List.length_filter_le _ _) hl
  clear hb2 hO hfs hK hcl
  go_wp2
  go_loopw [5, 13] (fun v i wr => ∃ k : Nat, k ≤ K.length ∧ i = .int .i64 k ∧ OwnS wr w2.heap.size v ((K.take k).map (·.2)) ∧ Below w2.heap.size w2 wr) (fun _ i _ => K.length - (intOf i).toNat)
  case atStart => exact ⟨0, Nat.zero_le _, rfl, OwnS.nil _ _, Below.refl _ _⟩
  case round =>
    obtain ⟨k, hk, rfl, hO, hbel2⟩ := hrel
    by_cases hlt : k < K.length
    · obtain ⟨q, off, rfl, c0, c1⟩ := (FS.out.below hbel2) k hlt
      have O := box hO
      have BL2 := box hbel2
      have hbs := hbel2.size
      clear hO hbel2
      go_wp2_with (at_builtin; refine wpList_append_str _ rfl (.tmp 17) (.tmp 20) rfl w2.heap.size _ ((K.take k).map (·.2)) rfl ?a1 _ _ rfl K[k].2 ?b1 ?c1 ?d1 ?_)
      case a1 => exact own_below (own_below O.out (below_new _ _)) (below_new _ _)
      case b1 => go_simp
      case c1 => rw [List.length_map, List.length_take]; omega
      case d1 => simp; omega
      intro v' w3 hO2 hb2
      have hO3 := box hO2
      clear hO2
      go_wp2
      go_roundw
      case rel => exact ⟨k + 1, by omega, by go_num, by rw [take_next hlt, List.map_append]; simpa using hO3.out, ((BL2.out.alloc BL2.out.size _).alloc (by simp; omega) _).trans hb2⟩
      case measure => simp [intOf]; omega
    · have e : k = K.length := by omega
      subst e
      rw [List.take_length] at hO
      go_wp2
      go_ret
      exact ⟨_, rfl, by rw [HG.out]; exact Go.Joins.ownsRow_le hO b2.out.size, b2.out.trans (hbel2.mono b2.out.size)⟩
theorem get_more {nm : ByteArray} {L : List F} {k : Nat} (h : k < L.length) : getL nm (L.take (k + 1)) = getL nm (L.take k) ++ (if nmd nm L[k] then [L[k].2] else []) := by
  unfold getL; rw [filter_more h, List.map_append]; split <;> rfl
theorem get_le {nm : ByteArray} {L : List F} {k : Nat} : (getL nm (L.take k)).length ≤ L.length := by
  unfold getL; rw [List.length_map]; exact filter_le
theorem small_4g {s : ByteArray} (h : s.size ≤ 65536) : s.size ≤ 4294967296 := by omega
set_option maxHeartbeats 800000 in
theorem rGet_any (a : Option Addr) (cap : Nat) (L : List F) (nm : ByteArray) (w : World) (hl : L.length ≤ 65536) (S : Box (Sm L)) (M : Box (nm.size ≤ 65536)) (hF : Box (Fs w a L)) :
    Calls Try.prog 25 #[.slice a L.length cap, .string nm] w fun e w' => ∃ v, e = .returned v ∧ OwnS w' w.heap.size v (getL nm L) ∧ Below w.heap.size w w' := by
  go_enter Try.func25, Try.ntmps25
  go_wp2
  go_loopw [5, 6] (fun v i wr => ∃ k : Nat, k ≤ L.length ∧ i = .int .i64 k ∧ OwnS wr w.heap.size v (getL nm (L.take k)) ∧ Below w.heap.size w wr) (fun _ i _ => L.length - (intOf i).toNat)
  case atStart => exact ⟨0, Nat.zero_le _, rfl, OwnS.nil _ _, Below.refl _ _⟩
  case round =>
    obtain ⟨k, hk, rfl, hO, hbel⟩ := hrel
    by_cases hlt : k < L.length
    · obtain ⟨q, off, rfl, c0, c1⟩ := (hF.out.below hbel) k hlt
      have B1 := box ((S.out.2 k hlt).1)
      have O := box hO
      have BL := box hbel
      clear hO hbel
      go_wp2_with fail
      refine (rFold_any L[k].1 nm _ (small_4g B1.out) (small_4g M.out)).mono ?_; rintro e w1 ⟨rfl, hb1⟩
      have c2 := hb1.cell (p := ⟨q, off + k * 2 + 1, none⟩) (cell_lt c1)
      have O1 := box (own_below O.out hb1)
      have BL1 := box (BL.out.trans (hb1.mono BL.out.size))
      have hbs := BL1.out.size
      rw [c1] at c2
      clear hb1 c0 c1
      rcases hp : nmd nm L[k] with _ | _
      · rw [show foldL L[k].1.data.toList nm.data.toList = false from hp]
        have HP := box hp
        clear hp
        go_wp2
        go_roundw
        case rel => exact ⟨k + 1, by omega, by go_num, by rw [get_more hlt, HP.out, if_neg (by simp), List.append_nil]; exact O1.out, BL1.out⟩
        case measure => simp [intOf]; omega
      · rw [show foldL L[k].1.data.toList nm.data.toList = true from hp]
        have HP := box hp
        clear hp
        go_wp2_with (at_builtin; refine wpList_append_str _ rfl (.tmp 20) (.tmp 26) rfl w.heap.size _ (getL nm (L.take k)) rfl ?a1 _ _ rfl L[k].2 ?b1 ?c1 ?d1 ?_)
        case a1 => exact own_below O1.out (below_new _ _)
        case b1 => go_simp
        case c1 => exact Nat.le_trans get_le hl
        case d1 => simp; omega
        intro v' w3 hO2 hb2
        have O2 := box hO2
        clear hO2
        go_wp2
        go_roundw
        case rel => exact ⟨k + 1, by omega, by go_num, by rw [get_more hlt, HP.out]; exact O2.out, (BL1.out.alloc BL1.out.size _).trans hb2⟩
        case measure => simp [intOf]; omega
    · have e : k = L.length := by omega
      subst e
      rw [List.take_length] at hO
      go_wp2
      go_ret
      exact ⟨_, rfl, hO, hbel⟩
theorem get_any {nm : ByteArray} {L : List F} : decide (0 < (getL nm L).length) = L.any (nmd nm) := by
  rcases idx_ways nm L with ⟨_, h⟩ | ⟨k, hk, _, ha, h1⟩
  · rw [get_none h, h]; rfl
  · rw [get_at hk ha h1, List.any_eq_true.mpr ⟨L[k], List.getElem_mem hk, h1⟩]; simp
theorem rHas_any (a : Option Addr) (cap : Nat) (L : List F) (nm : ByteArray) (w : World) (hl : L.length ≤ 65536) (S : Box (Sm L)) (M : Box (nm.size ≤ 65536)) (hF : Box (Fs w a L)) :
    Calls Try.prog 13 #[.slice a L.length cap, .string nm] w fun e w' => e = .returned (.bool (L.any (nmd nm))) ∧ Below w.heap.size w w' := by
  go_enter Try.func13, Try.ntmps13
  go_wp2_with fail
  refine (rGet_any a cap L nm _ hl S M hF).mono ?_; rintro e w1 ⟨v, rfl, hO, hb⟩
  obtain ⟨a2, cap2, rfl, hS, hc⟩ := hO.ss
  clear hO hS hc
  go_wp2
  go_ret
  exact ⟨ret_bool (by rw [← get_any]), hb⟩
end
section
open Go.RowKit
def cutsB (sep : UInt8) (l : List UInt8) : List ByteArray := (cutL sep l).map bs
def CutRel (s : ByteArray) (sep : UInt8) (w : World) (v fr q i : Value) (wr : World) : Prop :=
  ∃ (k n : Nat) (b : Bool) (o : List (List UInt8)), i = .int .i64 k ∧ fr = .int .i64 n ∧ q = .bool b ∧ n ≤ k ∧ n ≤ s.size ∧ k ≤ s.size + 1 ∧ o.length ≤ n ∧ cutL sep s.data.toList = o ++ cutAt sep s.data.toList b k n ∧ OwnS wr w.heap.size v (o.map bs) ∧ Below w.heap.size w wr
theorem byte_is {c d : UInt8} (h : ((c.toNat : Int) == (d.toNat : Int)) = true) : c = d := by
  have : (c.toNat : Int) = d.toNat := by simpa using h
  exact UInt8.toNat_inj.mp (by omega)
theorem byte_no {c d : UInt8} (h : ((c.toNat : Int) == (d.toNat : Int)) = false) : c ≠ d := by
  rintro rfl
  simp at h
set_option maxHeartbeats 4000000 in
theorem rCut_any (s : ByteArray) (sep : UInt8) (w : World) (hs : s.size ≤ 65000) :
    Calls Try.prog 33 #[.string s, .int .u8 (sep.toNat : Int)] w fun e w' => ∃ v, e = .returned v ∧ OwnS w' w.heap.size v (cutsB sep s.data.toList) ∧ Below w.heap.size w w' := by
  have hz : s.data.toList.length = s.size := by simp
  go_enter Try.func33, Try.ntmps33
  go_wp2
  go_loopw [5, 6, 7, 8] (fun v fr q i wr => CutRel s sep w v fr q i wr) (fun _ _ _ i _ => s.size + 1 - (intOf i).toNat)
  case atStart => exact ⟨0, 0, false, [], rfl, rfl, rfl, Nat.le_refl _, Nat.zero_le _, Nat.zero_le _, Nat.le_refl _, by rw [cut_start]; rfl, OwnS.nil _ _, Below.refl _ _⟩
  case round =>
    obtain ⟨k, n, b, o, rfl, rfl, rfl, hnk, hns, hk1, hol, hC, hO, hbel⟩ := hrel
    have HC := box hC
    have O0 := box hO
    have BL := box hbel
    have hBw := hbel.size
    clear hC hO hbel
    by_cases hlt : k < s.size
    · have hlt' : k < s.data.toList.length := by rw [hz]; exact hlt
      have hbk : s.data.toList[k] = s[k] := rfl
      rcases hc34 : ((s[k].toNat : Int) == 34) with _ | _
      · have n34 : s.data.toList[k] ≠ 34 := by rw [hbk]; exact byte_no (d := 34) hc34
        rcases b with _ | _
        · rcases hcs : ((s[k].toNat : Int) == (sep.toNat : Int)) with _ | _
          · have HX := box (HC.out.trans (congrArg (o ++ ·) (cut_any hlt' hnk (by simp) n34 (fun h => byte_no hcs h.1))))
            clear hbk n34
            go_wp2
            go_roundw
            case rel => exact ⟨k + 1, n, false, o, by go_num, rfl, rfl, by omega, hns, by omega, hol, HX.out, O0.out, BL.out⟩
            case measure => simp [intOf]; omega
          · have HX : Box (cutL sep s.data.toList = (o ++ [(s.extract n k).data.toList]) ++ cutAt sep s.data.toList false (k + 1) (k + 1)) := box (by
              rw [HC.out, cut_sep hlt' n34 (byte_is hcs), ext_bs, List.append_assoc]; rfl)
            have hol6 : (o.map bs).length ≤ 65536 := by rw [List.length_map]; omega
            clear hbk n34
            go_wp2_with (at_builtin; refine wpList_append_str _ rfl (.tmp 42) (.tmp 47) rfl w.heap.size _ (o.map bs) rfl (own_below O0.out (below_new _ _)) _ _ rfl (s.extract n k) (by go_simp) hol6 (by simp; omega) ?_; intro v3 w3 hO3 hb3; have O3 := box hO3; have B3 := box ((BL.out.alloc hBw _).trans hb3); clear hO3 hb3)
            go_roundw
            case rel => exact ⟨k + 1, k + 1, false, o ++ [(s.extract n k).data.toList], by go_num, by go_num, rfl, Nat.le_refl _, by omega, by omega, by simp; omega, HX.out, by rw [List.map_append]; exact O3.out, B3.out⟩
            case measure => simp [intOf]; omega
        · rcases hc92 : ((s[k].toNat : Int) == 92) with _ | _
          · have HX := box (HC.out.trans (congrArg (o ++ ·) (cut_any hlt' hnk (fun h => byte_no (d := 92) hc92 h.2) n34 (by simp))))
            rcases hcs : ((s[k].toNat : Int) == (sep.toNat : Int)) with _ | _
            all_goals
              clear hbk n34
              go_wp2
              go_roundw
              case rel => exact ⟨k + 1, n, true, o, by go_num, rfl, rfl, by omega, hns, by omega, hol, HX.out, O0.out, BL.out⟩
              case measure => simp [intOf]; omega
          · have HX := box (HC.out.trans (congrArg (o ++ ·) (cut_esc hlt' hnk (byte_is (d := 92) hc92))))
            clear hbk n34
            go_wp2
            go_roundw
            case rel => exact ⟨k + 2, n, true, o, by go_num, rfl, rfl, by omega, hns, by omega, hol, HX.out, O0.out, BL.out⟩
            case measure => simp [intOf]; omega
      · have e34 : s.data.toList[k] = 34 := by rw [hbk]; exact byte_is (d := 34) hc34
        have hn92 : ¬ s.data.toList[k] = 92 := by rw [e34]; decide
        have hc92 : ((s[k].toNat : Int) == 92) = false := by rw [← hbk, e34]; rfl
        have HX := box (HC.out.trans (congrArg (o ++ ·) (cut_quo hlt' hnk (fun h => hn92 h.2) e34)))
        clear hbk e34 hn92
        rcases b with _ | _
        all_goals
          go_wp2
          go_roundw
          case rel => exact ⟨k + 1, n, _, o, by go_num, rfl, rfl, by omega, hns, by omega, hol, HX.out, O0.out, BL.out⟩
          case measure => simp [intOf]; omega
    · have HX : Box (cutsB sep s.data.toList = o.map bs ++ [s.extract n s.size]) := box (by
        unfold cutsB; rw [HC.out, cut_out (by rw [hz]; omega), List.map_append, List.map_cons, List.map_nil, ext_bs, List.take_of_length_le (by rw [hz]; exact Nat.le_refl _)])
      have hol6 : (o.map bs).length ≤ 65536 := by rw [List.length_map]; omega
      go_wp2_with (at_builtin; refine wpList_append_str _ rfl (.tmp 51) (.tmp 55) rfl w.heap.size _ (o.map bs) rfl (own_below O0.out (below_new _ _)) _ _ rfl (s.extract n s.size) (by go_simp) hol6 (by simp; omega) ?_; intro v3 w3 hO3 hb3; have O3 := box hO3; have B3 := box ((BL.out.alloc hBw _).trans hb3); clear hO3 hb3)
      go_ret
      exact ⟨_, rfl, by rw [HX.out]; exact O3.out, B3.out⟩
end
section
open Go.RowKit
theorem ret_str {a b : ByteArray} (h : a = b) : Ending.returned (.string a) = .returned (.string b) := by rw [h]
theorem str_ext {a : ByteArray} {l : List UInt8} (h : a.data.toList = l) : a = ⟨l.toArray⟩ := by
  subst h; rfl
theorem extract_list (s : ByteArray) (i j : Nat) : (s.extract i j).data.toList = (s.data.toList.take j).drop i := by
  rw [ByteArray.data_extract, Array.toList_extract, List.extract_eq_take_drop, List.drop_take]
theorem blank_at {s : ByteArray} {k : Nat} {b : Bool} (hk : k < s.size) (h : blankB (s.data.toList.getD k 0) = b) : blankI (s[k].toNat) = b := by
  rw [getD_at s k hk] at h; exact h
theorem blank_drop {t : ByteArray} {l : List UInt8} {k : Nat} {b : Bool} (ht : t.data.toList = l.drop k) (h0 : 0 < t.size) (h : blankB (l.getD k 0) = b) : blankI (t[0].toNat) = b := by
  refine blank_at (s := t) (k := 0) h0 ?_
  rw [ht]; rw [← h]; simp [List.getD_eq_getElem?_getD, List.getElem?_drop]
theorem blank_last {t : ByteArray} {l : List UInt8} {k e : Nat} {b : Bool} (ht : t.data.toList = (l.take e).drop k) (hl : t.size - 1 < t.size) (hsz : t.size = e - k) (h : blankB (l.getD (e - 1) 0) = b) : blankI (t[t.size - 1].toNat) = b := by
  refine blank_at (s := t) (k := t.size - 1) hl ?_
  rw [ht, ← h]
  simp only [List.getD_eq_getElem?_getD, List.getElem?_drop]
  rw [List.getElem?_take_of_lt (by omega), show k + (t.size - 1) = e - 1 by omega]
theorem list_size {t : ByteArray} {l : List UInt8} (h : t.data.toList = l) : t.size = l.length := by subst h; simp
set_option maxHeartbeats 800000 in
theorem Trim_any (s : ByteArray) (w : World) (hs : s.size ≤ maxLen) :
    Calls Try.prog 44 #[.string s] w fun e w' => e = .returned (.string ⟨(trimL s.data.toList).toArray⟩) ∧ w = w' := by
  unfold maxLen at hs
  obtain ⟨k0, e0, ht⟩ := ex_trim s.data.toList
  have HR : Hid (s.extract k0 e0 = ⟨(trimL s.data.toList).toArray⟩) := Lib.hid (str_ext (by rw [extract_list, trim_at ht]))
  obtain ⟨h1, h2, h3, h4, h5, h6⟩ := ht
  have hz : s.data.toList.length = s.size := by simp
  rw [hz] at h2
  have H3 := Lib.hid h3
  have H4 := Lib.hid h4
  have H5 := Lib.hid h5
  have H6 := Lib.hid h6
  clear h3 h4 h5 h6 hz
  go_enter Try.func44, Try.ntmps44
  go_wp2
  go_loop [3] (fun i => ∃ k : Nat, k ≤ k0 ∧ i = .int .i64 k) (fun i => s.size - (intOf i).toNat)
  case atStart => exact ⟨0, Nat.zero_le _, rfl⟩
  case round =>
    obtain ⟨k, hk, rfl⟩ := hrel
    by_cases hlt : k < k0
    · have hks : k < s.size := by omega
      have hb := byte_bd s k hks
      have hbl := blank_at hks (H3.out k hlt)
      go_wp2_with (go_at_call 50; refine (isBlank_any _ _).mono ?_; rintro e w' ⟨rfl, rfl⟩)
      go_round
      case rel => exact ⟨k + 1, by omega, by go_num⟩
      case measure => simp [intOf]; omega
    · obtain rfl : k = k0 := by omega
      by_cases hks : k < s.size
      · have hbl := blank_at hks (H5.out (by simpa using hks))
        go_wp2_with (go_at_call 50; refine (isBlank_any _ _).mono ?_; rintro e w' ⟨rfl, rfl⟩)
        go_loop [4] (fun j => ∃ e : Nat, e0 ≤ e ∧ e ≤ s.size ∧ j = .int .i64 e) (fun j => (intOf j).toNat)
        case atStart => exact ⟨s.size, h2, Nat.le_refl _, rfl⟩
        case round =>
          obtain ⟨e, he, hes, rfl⟩ := hrel
          by_cases hle : e0 < e
          · have hq : e - 1 < s.size := by omega
            have hbe := blank_at hq (H4.out (e - 1) (by omega) (by simpa using hq))
            go_wp2_with (go_at_call 50; refine (isBlank_any _ _).mono ?_; rintro e w' ⟨rfl, rfl⟩)
            go_round
            case rel => exact ⟨e - 1, by omega, by omega, by go_num⟩
            case measure => simp [intOf]; omega
          · obtain rfl : e = e0 := by omega
            by_cases hke : k < e
            · have hq : e - 1 < s.size := by omega
              have hbe := blank_at hq (H6.out hke)
              go_wp2_with (go_at_call 50; refine (isBlank_any _ _).mono ?_; rintro e w' ⟨rfl, rfl⟩)
              go_ret
              exact ⟨ret_str HR.out, rfl⟩
            · go_wp2
              go_ret
              exact ⟨ret_str HR.out, rfl⟩
      · go_wp2
        go_loop [4] (fun j => ∃ e : Nat, e0 ≤ e ∧ e ≤ s.size ∧ j = .int .i64 e) (fun j => (intOf j).toNat)
        case atStart => exact ⟨s.size, h2, Nat.le_refl _, rfl⟩
        case round =>
          obtain ⟨e, he, hes, rfl⟩ := hrel
          by_cases hle : e0 < e
          · exfalso; omega
          · obtain rfl : e = e0 := by omega
            by_cases hke : k < e
            · exfalso; omega
            · go_wp2
              go_ret
              exact ⟨ret_str HR.out, rfl⟩
set_option maxHeartbeats 800000 in
theorem rTrim_any (s : ByteArray) (w : World) (hs : s.size ≤ maxLen) :
    Calls Try.prog 34 #[.string s] w fun e w' => e = .returned (.string ⟨(trimL s.data.toList).toArray⟩) ∧ w = w' := by
  unfold maxLen at hs
  obtain ⟨k0, e0, ht⟩ := ex_trim s.data.toList
  have HR := Lib.hid (trim_at ht)
  obtain ⟨h1, h2, h3, h4, h5, h6⟩ := ht
  have hz : s.data.toList.length = s.size := by simp
  rw [hz] at h2
  have H3 := Lib.hid h3
  have H4 := Lib.hid h4
  have H5 := Lib.hid h5
  have H6 := Lib.hid h6
  clear h3 h4 h5 h6 hz
  go_enter Try.func34, Try.ntmps34
  go_wp2
  go_loop [0] (fun i => ∃ (t : ByteArray) (k : Nat), k ≤ k0 ∧ i = .string t ∧ Hid (t.data.toList = s.data.toList.drop k) ∧ Hid (t.size = s.size - k)) (fun i => match i with | .string t => t.size | _ => 0)
  case atStart => exact ⟨s, 0, Nat.zero_le _, rfl, Lib.hid (by simp), Lib.hid (by simp)⟩
  case round =>
    obtain ⟨t, k, hk, rfl, HT, HZ⟩ := hrel
    by_cases hlt : k < k0
    · have h0 : 0 < t.size := by have := HZ.out; omega
      have hle : t.size ≤ s.size := by have := HZ.out; omega
      have hbl := blank_drop HT.out h0 (H3.out k hlt)
      have hb := byte_bd t 0 h0
      go_wp2_with (go_at_call 40; refine (rblank_any _ _).mono ?_; rintro e w' ⟨rfl, rfl⟩)
      go_round
      case rel =>
        have e1 : (t.extract 1 t.size).data.toList = s.data.toList.drop (k + 1) := by
          rw [extract_list, List.take_of_length_le (by simp), HT.out, List.drop_drop]
        exact ⟨_, k + 1, by omega, rfl, Lib.hid e1, Lib.hid (by rw [list_size e1]; simp)⟩
      case measure => simp; omega
    · obtain rfl : k = k0 := by omega
      by_cases hks : k < s.size
      · have h0 : 0 < t.size := by have := HZ.out; omega
        have hle : t.size ≤ s.size := by have := HZ.out; omega
        have hbl := blank_drop HT.out h0 (H5.out (by simpa using hks))
        go_wp2_with (go_at_call 40; refine (rblank_any _ _).mono ?_; rintro e w' ⟨rfl, rfl⟩)
        go_loop [0] (fun i => ∃ (t : ByteArray) (e : Nat), e0 ≤ e ∧ e ≤ s.size ∧ i = .string t ∧ Hid (t.data.toList = (s.data.toList.take e).drop k) ∧ Hid (t.size = e - k)) (fun i => match i with | .string t => t.size | _ => 0)
        case atStart => exact ⟨t, s.size, h2, Nat.le_refl _, rfl, Lib.hid (by rw [List.take_of_length_le (by simp)]; exact HT.out), HZ⟩
        case round =>
          obtain ⟨t, e, he, hes, rfl, HT, HZ⟩ := hrel
          by_cases hle : e0 < e
          · have h0 : 0 < t.size := by have := HZ.out; omega
            have hl : t.size - 1 < t.size := by omega
            have hsz : t.size ≤ s.size := by have := HZ.out; omega
            have hbl := blank_last HT.out hl HZ.out (H4.out (e - 1) (by omega) (by simp; omega))
            have e1 : (t.extract 0 (t.size - 1)).data.toList = (s.data.toList.take (e - 1)).drop k := by
              rw [extract_list, HT.out, List.drop_zero, HZ.out, show e - k - 1 = e - 1 - k by omega, ← List.drop_take, List.take_take, Nat.min_eq_left (by omega)]
            have E1 := Lib.hid e1
            have E2 : Hid ((t.extract 0 (t.size - 1)).size = e - 1 - k) := Lib.hid (by rw [list_size e1]; simp; omega)
            clear e1
            go_wp2_with (go_at_call 40; refine (rblank_any _ _).mono ?_; rintro e w' ⟨rfl, rfl⟩)
            go_round
            case rel => exact ⟨_, e - 1, by omega, by omega, rfl, E1, E2⟩
            case measure => simp; omega
          · obtain rfl : e = e0 := by omega
            have hsz : t.size ≤ s.size := by have := HZ.out; omega
            have HF : Hid (t = ⟨(trimL s.data.toList).toArray⟩) := Lib.hid (str_ext (by rw [HT.out, HR.out]))
            by_cases hke : k < e
            · have h0 : 0 < t.size := by have := HZ.out; omega
              have hl : t.size - 1 < t.size := by omega
              have hbl := blank_last HT.out hl HZ.out (H6.out hke)
              go_wp2_with (go_at_call 40; refine (rblank_any _ _).mono ?_; rintro e w' ⟨rfl, rfl⟩)
              go_ret
              exact ⟨ret_str HF.out, rfl⟩
            · have h0 : t.size = 0 := by have := HZ.out; omega
              go_wp2
              go_ret
              exact ⟨ret_str HF.out, rfl⟩
      · have h0 : t.size = 0 := by have := HZ.out; omega
        go_wp2
        go_loop [0] (fun i => ∃ (t : ByteArray) (e : Nat), e0 ≤ e ∧ e ≤ s.size ∧ i = .string t ∧ Hid (t.data.toList = (s.data.toList.take e).drop k) ∧ Hid (t.size = e - k)) (fun i => match i with | .string t => t.size | _ => 0)
        case atStart => exact ⟨t, s.size, h2, Nat.le_refl _, rfl, Lib.hid (by rw [List.take_of_length_le (by simp)]; exact HT.out), HZ⟩
        case round =>
          obtain ⟨t, e, he, hes, rfl, HT, HZ⟩ := hrel
          by_cases hle : e0 < e
          · exfalso; omega
          · obtain rfl : e = e0 := by omega
            have hsz : t.size ≤ s.size := by have := HZ.out; omega
            have HF : Hid (t = ⟨(trimL s.data.toList).toArray⟩) := Lib.hid (str_ext (by rw [HT.out, HR.out]))
            by_cases hke : k < e
            · exfalso; omega
            · have h0 : t.size = 0 := by have := HZ.out; omega
              go_wp2
              go_ret
              exact ⟨ret_str HF.out, rfl⟩
end
section
open Go.RowKit
def splitB (l : List UInt8) : List ByteArray := (splitL l).map bs
theorem rTrim_is {s x : ByteArray} {w : World} (hs : s.size ≤ maxLen) (h : Box (bs (trimL s.data.toList) = x)) :
    Calls Try.prog 34 #[.string s] w fun e w' => e = .returned (.string x) ∧ w = w' :=
  (rTrim_any s w hs).mono fun e w' ⟨h1, h2⟩ => ⟨by rw [h1, ← h.out]; rfl, by first | exact h2 | exact h2.symm⟩
def SplRel (ps : List (List UInt8)) (B : Nat) (w : World) (v i : Value) (wr : World) : Prop :=
  ∃ k : Nat, i = .int .i64 k ∧ k ≤ ps.length ∧ (memL (ps.take k)).length ≤ 64 ∧ OwnS wr B v ((memL (ps.take k)).map bs) ∧ Below w.heap.size w wr
set_option maxHeartbeats 4000000 in
theorem rSplit_any (s : ByteArray) (w : World) (hs : s.size ≤ 65000) :
    Calls Try.prog 28 #[.string s] w fun e w' => ∃ v, e = .returned v ∧ OwnS w' w.heap.size v (splitB s.data.toList) ∧ Below w.heap.size w w' := by
  have hz : s.data.toList.length = s.size := by simp
  obtain ⟨ps, hps⟩ : ∃ ps, cutL 44 s.data.toList = ps := ⟨_, rfl⟩
  have HSP : Box (splitB s.data.toList = ((memL ps).take 64).map bs) := box (by unfold splitB splitL; rw [hps])
  have hcnt : ps.length ≤ 65536 := by
    have := cut_count (sep := 44) s.data.toList.length false s.data.toList []
    rw [← hps]; unfold cutL; omega
  have hsm : Box (∀ p ∈ ps, p.length ≤ 65536) := box (fun p hp => by
    rw [← hps] at hp
    have := cut_small _ _ _ _ p hp
    simp at this; omega)
  have HCB : Box (cutsB 44 s.data.toList = ps.map bs) := box (by unfold cutsB; rw [hps])
  clear hps hz
  go_enter Try.func28, Try.ntmps28
  go_wp2_with fail
  refine (rCut_any s 44 _ hs).mono ?_; rintro e w1 ⟨v1, rfl, hO1, hb1⟩
  rw [HCB.out] at hO1
  obtain ⟨a1, cap1, rfl, hS1, hc1⟩ := hO1.ss
  rw [List.length_map] at hc1 ⊢
  have S1 := box hS1
  have B1 := box hb1
  have hB1 := hb1.size
  clear hO1 hS1 hb1
  go_wp2
  go_loopw [3, 5] (fun v i wr => SplRel ps w1.heap.size w1 v i wr) (fun _ i _ => ps.length - (intOf i).toNat)
  case atStart => exact ⟨0, rfl, Nat.zero_le _, Nat.zero_le _, OwnS.nil _ _, Below.refl _ _⟩
  case round =>
    obtain ⟨k, rfl, hk, h64, hO, hbel⟩ := hrel
    obtain ⟨M, hM⟩ : ∃ M, (memL (ps.take k)) = M := ⟨_, rfl⟩
    rw [hM] at h64 hO
    have HM := box hM
    obtain ⟨av, cv, rfl, _, _⟩ := hO.ss
    rw [List.length_map] at hO ⊢
    have O0 := box hO
    have BL := box hbel
    have hBw := hbel.size
    clear hO hbel hM
    by_cases hlt : k < ps.length
    · by_cases hm : M.length = 64
      · have hmi : ¬ (M.length : Int) < 64 := by omega
        have HF : Box ((memL ps).take 64 = M) := box (by rw [mem_full (by rw [HM.out]; exact hm), HM.out])
        clear hm
        go_wp2
        go_ret
        refine ⟨_, rfl, ?_, B1.out.trans (BL.out.mono hB1)⟩
        rw [HSP.out, HF.out]
        exact Go.Joins.ownsRow_le O0.out hB1
      · have hmi : (M.length : Int) < 64 := by omega
        obtain ⟨q, off, rfl, c0⟩ := (S1.out.below BL.out) k (by rw [List.length_map]; exact hlt)
        rw [List.getElem_map] at c0
        have hpz : (bs ps[k]).size ≤ maxLen := by
          rw [bs_size]; have := hsm.out ps[k] (List.getElem_mem hlt); unfold maxLen; omega
        by_cases ht : trimL ps[k] = []
        · have HT : Box (bs (trimL (bs ps[k]).data.toList) = ⟨#[]⟩) := box (by rw [bs_toList, ht]; rfl)
          have HN : Box (memL (ps.take (k + 1)) = M) := box (by rw [mem_more hlt, if_pos ht, List.append_nil, HM.out])
          go_wp2_with fail
          refine (rTrim_is hpz HT).mono ?_; rintro e w2 ⟨rfl, rfl⟩
          go_wp2
          go_roundw
          case rel => exact ⟨k + 1, by go_num, by omega, by rw [HN.out]; exact h64, by rw [HN.out]; exact O0.out, BL.out⟩
          case measure => simp [intOf]; omega
        · obtain ⟨x, hx⟩ : ∃ x, bs (trimL ps[k]) = x := ⟨_, rfl⟩
          have HT : Box (bs (trimL (bs ps[k]).data.toList) = x) := box (by rw [bs_toList, hx])
          have hxe : x.toList.isEmpty = false := by
            rw [← hx, toList_bs]
            cases h : trimL ps[k] with
            | nil => exact absurd h ht
            | cons c r => rfl
          have HN : Box ((memL (ps.take (k + 1))).map bs = M.map bs ++ [x]) := box (by rw [mem_more hlt, if_neg ht, HM.out, List.map_append, List.map_cons, List.map_nil, hx])
          have HL : Box ((memL (ps.take (k + 1))).length ≤ 64) := box (by rw [mem_more hlt, if_neg ht, HM.out, List.length_append]; simp; omega)
          have hm6 : Box ((M.map bs).length ≤ 65536) := box (by rw [List.length_map]; omega)
          clear hx
          go_wp2_with fail
          refine (rTrim_is hpz HT).mono ?_; rintro e w2 ⟨rfl, rfl⟩
          go_wp2_with (at_builtin; refine wpList_append_str _ rfl (.tmp 27) (.tmp 29) rfl w1.heap.size _ (M.map bs) rfl ?a1 _ _ rfl x ?b1 ?c1 ?d1 ?_)
          case a1 => exact own_below O0.out (below_new _ _)
          case b1 => go_simp
          case c1 => exact hm6.out
          case d1 => simp; omega
          intro v3 w3 hO3 hb3
          have O3 := box hO3
          have B3 := box ((BL.out.alloc BL.out.size _).trans hb3)
          clear hO3 hb3
          go_wp2
          go_roundw
          case rel => exact ⟨k + 1, by go_num, by omega, HL.out, by rw [HN.out]; exact O3.out, B3.out⟩
          case measure => simp [intOf]; omega
    · have HF : Box ((memL ps).take 64 = M) := box (by rw [mem_end (k := k) (by omega) (by rw [HM.out]; exact h64), HM.out])
      go_wp2
      go_ret
      refine ⟨_, rfl, ?_, B1.out.trans (BL.out.mono hB1)⟩
      rw [HSP.out, HF.out]
      exact Go.Joins.ownsRow_le O0.out hB1
end
section
open Go.RowKit
def allB (nm : ByteArray) (L : List F) : List ByteArray := (allL nm L).map bs
/-- the first k members more, as long as there is room -/
theorem room_more {A M : List (List UInt8)} {k : Nat} (h : k < M.length) (hl : ((A ++ M.take k).take 64).length < 64) : (A ++ M.take (k + 1)).take 64 = (A ++ M.take k).take 64 ++ [M[k]] := by
  have h1 : (A ++ M.take k).length < 64 := by rw [List.length_take] at hl; omega
  have e : M.take (k + 1) = M.take k ++ [M[k]] := by rw [List.take_add_one, List.getElem?_eq_getElem h]; rfl
  rw [e, ← List.append_assoc, List.take_of_length_le (l := A ++ M.take k) (by omega), List.take_of_length_le (by rw [List.length_append]; simp only [List.length_cons, List.length_nil]; omega)]
theorem room_full {A M : List (List UInt8)} {k : Nat} (hl : ((A ++ M.take k).take 64).length = 64) : (A ++ M).take 64 = (A ++ M.take k).take 64 := by
  have h1 : 64 ≤ (A ++ M.take k).length := by rw [List.length_take] at hl; omega
  have e : A ++ M = (A ++ M.take k) ++ M.drop k := by rw [List.append_assoc, List.take_append_drop]
  rw [e, List.take_append_of_le_length h1]
def AllRel (vs : List ByteArray) (B : Nat) (w : World) (v i : Value) (wr : World) : Prop :=
  ∃ k : Nat, i = .int .i64 k ∧ k ≤ vs.length ∧ OwnS wr B v (((allF (vs.take k)).take 64).map bs) ∧ Below w.heap.size w wr
/-- a list of strings of the call's own, whose block does not lie from lo on below hi; what lies there stays -/
def OwnX (w : World) (B lo hi : Nat) (v : Value) (L : List ByteArray) : Prop := OwnS w B v L ∧ ∀ k, v.ownBlock = some k → k < lo ∨ hi ≤ k
def Mid (lo hi : Nat) (w w' : World) : Prop := ∀ k, lo ≤ k → k < hi → w'.heap[k]? = w.heap[k]?
theorem wpList_append_strX (w : World) {ops : Array Oper} {rest : List Oper} {o : Oper} {a : Act} {Q : Exit → Act → World → Prop} (hgd : o.guard = none) (s x : Operand)
    (ho : o.op = .call { callee := .builtin .append, args := #[s, x], argTypes := #[29, 29] })
    (B lo hi : Nat) (v : Value) (L : List ByteArray) (hs : a.eval s = v) (hown : OwnX w B lo hi v L)
    (g : Nat) (c : Nat) (hx : a.eval x = .slice (some ⟨g, 0, none⟩) 1 c) (u : ByteArray) (h0 : w.cell? ⟨g, 0, none⟩ = some (.string u)) (hl : L.length ≤ 65536) (hB : B ≤ w.heap.size) (hhi : hi ≤ w.heap.size)
    (h : ∀ v' w', OwnX w' B lo hi v' (L ++ [u]) → Below B w w' → Mid lo hi w w' → wpList Try.prog ops Q rest (a.put o.dst v') w') : wpList Try.prog ops Q (o :: rest) a w := by
  obtain ⟨i0, hi0, hz0, hz1, hz2⟩ := info_parts info_str
  refine wpList_append_lies (P := Try.prog) w hgd s x 29 ho B 9 i0 _ 1 16 Try.underlying29 hi0 hz0 hz1 hz2 rfl (by decide) v L.length (L.map Value.string) hs hown.1 ⟨g, 0, none⟩ 1 c [.string u] hx rfl ?_ ?_ (by omega) (by unfold maxLen; omega) (by omega) hB _ rfl ?_
  · intro j u hj
    match j, hj with
    | 0, hj => simp at hj; subst hj; simpa [Addr.add] using h0
  · intro u hu; simp at hu; subst hu; rfl
  · intro g' cap w' q1 q2 q3 _
    refine h _ w' ⟨by simpa [OwnS] using q1, fun k hk => ?_⟩ ((Below.refl _ _).grown q2 hB (fun k hk => own_block hown.1 k hk)) (fun k h1 h2 => q2.block k (by omega) (fun e => ?_))
    · simp [Value.ownBlock] at hk
      subst hk
      rcases q3 with q3 | q3
      · exact hown.2 _ q3
      · right; omega
    · rcases hown.2 k e.symm with q | q <;> omega
def InRel (A M : List (List UInt8)) (B lo hi : Nat) (w : World) (v i : Value) (wr : World) : Prop :=
  ∃ k : Nat, i = .int .i64 k ∧ k ≤ M.length ∧ OwnX wr B lo hi v (((A ++ M.take k).take 64).map bs) ∧ Below B w wr ∧ Mid lo hi w wr
set_option maxHeartbeats 4000000 in
theorem rAll_any (a : Option Addr) (cap : Nat) (L : List F) (nm : ByteArray) (w : World) (S : Box (Sm L)) (hv : Box (∀ x ∈ getL nm L, x.size ≤ 65000)) (M : Box (nm.size ≤ 65536)) (hF : Box (Fs w a L)) :
    Calls Try.prog 16 #[.slice a L.length cap, .string nm] w fun e w' => ∃ v, e = .returned v ∧ OwnS w' w.heap.size v (allB nm L) ∧ Below w.heap.size w w' := by
  obtain ⟨vs, hvs⟩ : ∃ vs, getL nm L = vs := ⟨_, rfl⟩
  have HVS := box hvs
  have HAL : Box (allB nm L = ((allF vs).take 64).map bs) := box (by unfold allB allL; rw [hvs])
  have hvl : vs.length ≤ 65536 := by
    have := get_le (nm := nm) (L := L) (k := L.length)
    rw [List.take_length, hvs] at this
    have := S.out.1; omega
  rw [hvs] at hv
  clear hvs
  have hl := S.out.1
  go_enter Try.func16, Try.ntmps16
  go_wp2_with fail
  refine (rGet_any a cap L nm _ hl S M hF).mono ?_; rintro e w1 ⟨v1, rfl, hO1, hb1⟩
  rw [HVS.out] at hO1
  obtain ⟨a1, cap1, rfl, hS1, hc1⟩ := hO1.ss
  have S1 := box hS1
  have B1 := box hb1
  have hB1 := hb1.size
  clear hO1 hS1 hb1
  go_wp2
  go_loopw [5, 7] (fun v i wr => AllRel vs w1.heap.size w1 v i wr) (fun _ i _ => vs.length - (intOf i).toNat)
  case atStart => exact ⟨0, rfl, Nat.zero_le _, OwnS.nil _ _, Below.refl _ _⟩
  case round =>
    obtain ⟨wo, rfl⟩ : ∃ wo, wo = wr := ⟨_, rfl⟩
    obtain ⟨k, rfl, hk, hO, hbel⟩ := hrel
    have O0 := box hO
    have BL := box hbel
    have hBw := hbel.size
    clear hO hbel
    by_cases hlt : k < vs.length
    · obtain ⟨q, off, rfl, c0⟩ := (S1.out.below BL.out) k hlt
      have hxz := hv.out vs[k] (List.getElem_mem hlt)
      have HN := box (allF_more hlt)
      obtain ⟨A, hA⟩ : ∃ A, (allF (vs.take k)).take 64 = A := ⟨_, rfl⟩
      have hA64 : A.length ≤ 64 := by rw [← hA, List.length_take]; omega
      have HA64 : Box (A = (A ++ ([] : List (List UInt8))).take 64) := box (by rw [List.append_nil, List.take_of_length_le hA64])
      rw [hA] at HN O0
      clear hA hA64
      go_wp2_with fail
      refine (rSplit_any vs[k] _ hxz).mono ?_; rintro e w2 ⟨v2, rfl, hO2, hb2⟩
      obtain ⟨MM, hMM⟩ : ∃ MM, splitL vs[k].data.toList = MM := ⟨_, rfl⟩
      have hM64 : MM.length ≤ 64 := by rw [← hMM]; exact split_len _
      unfold splitB at hO2
      rw [hMM] at hO2 HN
      obtain ⟨a2, cap2, rfl, hS2, hc2⟩ := hO2.ss
      rw [List.length_map] at hc2 ⊢
      have S2 := box hS2
      have hblk : ∀ q2 off2, a2 = some ⟨q2, off2, none⟩ → wo.heap.size ≤ q2 := fun q2 off2 e => own_block hO2 q2 (by rw [e]; rfl)
      have HBK := box hblk
      have OX : Box (OwnX w2 w1.heap.size wo.heap.size w2.heap.size _ (A.map bs)) := box ⟨own_below O0.out hb2, fun k hk => .inl (World.ownsRow.lt O0.out k hk).2⟩
      have B2 := box (BL.out.trans (hb2.mono BL.out.size))
      have hB2 := Nat.le_trans hBw hb2.size
      clear hO2 hS2 hb2 hMM c0 hblk
      go_wp2
      go_loopw [5, 9] (fun v i wi => InRel A MM w1.heap.size wo.heap.size w2.heap.size w2 v i wi) (fun _ i _ => MM.length - (intOf i).toNat)
      case atStart => exact ⟨0, rfl, Nat.zero_le _, by rw [List.take_zero, ← HA64.out]; exact OX.out, Below.refl _ _, fun _ _ _ => rfl⟩
      case round =>
        obtain ⟨j, rfl, hj, hO, hbel, hmid⟩ := hrel
        obtain ⟨O, hOl⟩ : ∃ O, (A ++ MM.take j).take 64 = O := ⟨_, rfl⟩
        rw [hOl] at hO
        have HOL := box hOl
        have ho64 : O.length ≤ 64 := by rw [← hOl, List.length_take]; omega
        obtain ⟨av, cv, rfl, _, _⟩ := hO.1.ss
        rw [List.length_map] at hO ⊢
        have O1 := box hO
        have B3 := box hbel
        have hmw := box hmid
        have hsz3 := hbel.size
        clear hO hbel hmid hOl
        by_cases hjl : j < MM.length
        · by_cases hm : O.length = 64
          · have hmi : ¬ (O.length : Int) < 64 := by omega
            have HF : Box ((A ++ MM).take 64 = O) := box (by rw [room_full (k := j) (by rw [HOL.out]; exact hm), HOL.out])
            clear hm
            go_wp2
            go_roundw
            case rel => exact ⟨k + 1, by go_num, by omega, by rw [HN.out, HF.out]; exact O1.out.1, B2.out.trans B3.out⟩
            case measure => simp [intOf]; omega
          · have hmi : (O.length : Int) < 64 := by omega
            obtain ⟨q2, off2, rfl, c1⟩ := S2.out j (by rw [List.length_map]; exact hjl)
            have hq1 := HBK.out q2 off2 rfl
            have hq2 : q2 < w2.heap.size := cell_lt c1
            have c2 : wr.cell? ⟨q2, off2 + j, none⟩ = some (.string (bs MM[j])) := by
              rw [World.cell?_of_block (w := w2) (hmw.out q2 hq1 hq2), c1, List.getElem_map]
            have HN2 : Box (((A ++ MM.take (j + 1)).take 64).map bs = O.map bs ++ [bs MM[j]]) := box (by
              rw [room_more hjl (by rw [HOL.out]; omega), HOL.out, List.map_append, List.map_cons, List.map_nil])
            have hm6 : Box ((O.map bs).length ≤ 65536) := box (by rw [List.length_map]; omega)
            have hB3 := B3.out.size
            have HBW : Box (w1.heap.size ≤ wr.heap.size) := box (Nat.le_trans hB2 hsz3)
            clear c1 hm
            go_wp2_with (at_builtin; refine wpList_append_strX _ rfl (.tmp 35) (.tmp 40) rfl w1.heap.size wo.heap.size w2.heap.size _ (O.map bs) rfl ?a1 _ _ rfl (bs MM[j]) ?b1 ?c1 ?d1 ?e1 ?_)
            case a1 => exact ⟨own_below O1.out.1 (below_new _ _), O1.out.2⟩
            case b1 => go_simp
            case c1 => exact hm6.out
            case d1 => have := HBW.out; simp; omega
            case e1 => simp; omega
            intro v4 w4 hO4 hb4 hm4
            have O4 := box hO4
            have B4 := box ((B3.out.alloc HBW.out _).trans hb4)
            have M4 : Box (Mid wo.heap.size w2.heap.size w2 w4) := box (fun k h1 h2 => by
              rw [hm4 k h1 h2, ← hmw.out k h1 h2]
              exact (below_new wr _).block k (by omega))
            clear hO4 hb4 hm4 c2
            go_wp2
            go_roundw
            case rel => exact ⟨j + 1, by go_num, by omega, by rw [HN2.out]; exact O4.out, B4.out, M4.out⟩
            case measure => simp [intOf]; omega
        · have HF : Box ((A ++ MM).take 64 = O) := box (by rw [← HOL.out, List.take_of_length_le (l := MM) (by omega)])
          go_wp2
          go_roundw
          case rel => exact ⟨k + 1, by go_num, by omega, by rw [HN.out, HF.out]; exact O1.out.1, B2.out.trans B3.out⟩
          case measure => simp [intOf]; omega
    · have HF : Box ((allF (vs.take k)).take 64 = (allF vs).take 64) := box (by rw [List.take_of_length_le (l := vs) (by omega)])
      rw [HF.out] at O0
      go_wp2
      go_ret
      exact ⟨_, rfl, by rw [HAL.out]; exact Go.Joins.ownsRow_le O0.out hB1, B1.out.trans (BL.out.mono hB1)⟩
end
end Go.Proofs.Ytgagaebgiioeoaa.Asc
