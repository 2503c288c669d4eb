/- Merged texts: LstRem LstClo MedApp LanRef LanRef2 LanRef3 CodRef QvaRef AccRef2 AccRef3. -/
import Derived.Test.YtklfpkaemnhdhaaGreatDoorZa02
import Derived.Test.YtklfpkaemnhdhaaGreatDoorZa03
import Derived.Test.YtklfpkaemnhdhaaGreatDoorZa04
import Derived.Test.YtklfpkaemnhdhaaGreatDoorZa05
import Derived.Test.YtklfpkaemnhdhaaGreatDoorZa06
import Derived.Deep.RegionHeld3
import Derived.Laws.EntriesVeiled
import Derived.Lib.SliceRun
set_option linter.unusedVariables false
set_option linter.unusedSimpArgs false
set_option maxRecDepth 100000
namespace Go.Proofs.YtklfpkaemnhdhaaGreatDoor.Asc
section
open Go.RowKit
/-- what the function value of Remove has captured: a variable that holds the function value of named -/
def Cap (g2 g1 : Nat) (nm : ByteArray) (w : World) : Prop := w.cell? ⟨g2, 0, none⟩ = some (nmV g1) ∧ Nm g1 nm w
theorem Cap.below {w w' : World} {g2 g1 : Nat} {nm : ByteArray} (h : Cap g2 g1 nm w) (hb : Below w.heap.size w w') : Cap g2 g1 nm w' := ⟨(hb.cell (cell_lt h.1)).trans h.1, h.2.below hb⟩
theorem rem_more {nm : ByteArray} {L : List F} {k : Nat} (h : k < L.length) : remL nm (L.take (k + 1)) = remL nm (L.take k) ++ (if nmd nm L[k] then [] else [L[k]]) := by
  unfold remL; rw [filter_more h]; cases nmd nm L[k] <;> rfl
theorem rem_le {nm : ByteArray} {L : List F} {k : Nat} : (remL nm (L.take k)).length ≤ L.length := by
  unfold remL; exact filter_le
set_option maxHeartbeats 800000 in
theorem rRemove_any (a : Option Addr) (cap : Nat) (L : List F) (nm : ByteArray) (w : World) (hl : L.length ≤ 65536) (S : Box (Sm L)) (M : Box (nm.size ≤ 65536)) (hF : Box (Fs w a L)) :
    Calls Tryz.prog 25 #[.slice a L.length cap, .string nm] w fun e w' => ∃ v, e = .returned v ∧ OwnF w' w.heap.size v (remL nm L) ∧ Below w.heap.size w w' := by
  go_enter Tryz.func25, Tryz.ntmps25
  go_wp2
  go_loopw [5, 6] (fun v i wr => ∃ k : Nat, k ≤ L.length ∧ i = .int .i64 k ∧ OwnF wr w.heap.size v (remL nm (L.take k)) ∧ Below w.heap.size w wr) (fun _ i _ => L.length - (intOf i).toNat)
  case atStart => exact ⟨0, Nat.zero_le _, rfl, OwnF.nil _ _, Below.refl _ _⟩
  case round =>
    obtain ⟨k, hk, rfl, hO, hbel⟩ := hrel
    by_cases hlt : k < L.length
    · obtain ⟨q, off, rfl, c0, c1⟩ := (hF.out.below hbel) k hlt
      have B1 := box ((S.out.2 k hlt).1)
      have O := box hO
      have BL := box hbel
      clear hO hbel
      go_wp2_with fail
      refine (rFold_any L[k].1 nm _ (small_4g B1.out) (small_4g M.out)).mono ?_; rintro e w1 ⟨rfl, hb1⟩
      have c2 := hb1.cell (p := ⟨q, off + k * 2 + 1, none⟩) (cell_lt c1)
      have c3 := hb1.cell (p := ⟨q, off + k * 2, none⟩) (cell_lt c0)
      have O1 := box (own_below O.out hb1)
      have BL1 := box (BL.out.trans (hb1.mono BL.out.size))
      have hbs := BL1.out.size
      rw [c1] at c2
      rw [c0] at c3
      clear hb1 c0 c1
      rcases hp : nmd nm L[k] with _ | _
      · rw [show foldL L[k].1.data.toList nm.data.toList = false from hp]
        have HP := box hp
        clear hp
        go_wp2_with (at_builtin; refine wpList_append_fld _ rfl (.tmp 21) (.tmp 26) rfl w.heap.size _ (remL nm (L.take k)) rfl ?a1 _ _ rfl L[k].1 L[k].2 ?b1 ?b2 ?c1 ?d1 ?_)
        case a1 => exact own_below O1.out (below_new _ _)
        case b1 => go_simp
        case b2 => go_simp
        case c1 => exact Nat.le_trans rem_le hl
        case d1 => simp; omega
        intro v' w3 hO2 hb2
        have O2 := box hO2
        clear hO2
        go_wp2
        go_roundw
        case rel => exact ⟨k + 1, by omega, by go_num, by rw [rem_more hlt, HP.out]; exact O2.out, (BL1.out.alloc BL1.out.size _).trans hb2⟩
        case measure => simp [intOf]; omega
      · rw [show foldL L[k].1.data.toList nm.data.toList = true from hp]
        have HP := box hp
        clear hp
        go_wp2
        go_roundw
        case rel => exact ⟨k + 1, by omega, by go_num, by rw [rem_more hlt, HP.out, if_pos rfl, List.append_nil]; exact O1.out, BL1.out⟩
        case measure => simp [intOf]; omega
    · have e : k = L.length := by omega
      subst e
      rw [List.take_length] at hO
      go_wp2
      go_ret
      exact ⟨_, rfl, hO, hbel⟩
end
section
open Go.RowKit
theorem add_at (g off j : Nat) : (⟨g, off, none⟩ : Addr).add j = ⟨g, off + j, none⟩ := by
  unfold Addr.add; split <;> simp_all
/-- the cells of a list of fields, out of memory -/
theorem Fs.news {w : World} {ad : Addr} {M : List F} (h : Fs w (some ad) M) : ∀ j u, (cellsF M)[j]? = some u → w.cell? (ad.add j) = some u := by
  intro j u hj
  have hlen := (List.getElem?_eq_some_iff.mp hj).1
  rw [cellsF_len] at hlen
  have hi : j / 2 < M.length := by omega
  obtain ⟨g, off, e, c0, c1⟩ := h (j / 2) hi
  obtain ⟨q0, q1⟩ := cellsF_at M (j / 2) hi
  cases e
  rw [add_at]
  rcases Nat.mod_two_eq_zero_or_one j with r | r
  · have ej : j = j / 2 * 2 := by omega
    rw [← ej] at q0 c0
    rw [q0] at hj; cases hj; exact c0
  · have ej : j = j / 2 * 2 + 1 := by omega
    rw [← ej] at q1
    rw [Nat.add_assoc, ← ej] at c1
    rw [q1] at hj; cases hj; exact c1
theorem cellsF_one (M : List F) : ∀ u ∈ cellsF M, u.oneCell' = true := by
  intro u hu
  obtain ⟨p, _, hp⟩ := List.mem_flatMap.mp hu
  simp at hp; rcases hp with rfl | rfl <;> rfl
/-- append of a list of fields -/
theorem wpList_append_flds (w : World) {ops : Array Oper} {rest : List Oper} {o : Oper} {a : Act} {Q : Exit → Act → World → Prop} (hgd : o.guard = none) (s x : Operand)
    (ho : o.op = .call { callee := .builtin .append, args := #[s, x], argTypes := #[23, 23] })
    (B : Nat) (v : Value) (L M : List F) (hs : a.eval s = v) (hown : OwnF w B v L)
    (ad : Option Addr) (c : Nat) (hx : a.eval x = .slice ad M.length c) (hn : ad = none → c = 0) (hM : Fs w ad M) (hl : L.length ≤ 65536) (hm : M.length ≤ 65536) (hB : B ≤ w.heap.size)
    (h : ∀ v' w', OwnF w' B v' (L ++ M) → Below B w w' → wpList Tryz.prog ops Q rest (a.put o.dst v') w') : wpList Tryz.prog ops Q (o :: rest) a w := by
  obtain ⟨i0, hi0, hz0, hz1, hz2⟩ := info_parts info_fld
  rcases ad with _ | ad
  · have hc := hn rfl
    subst hc
    have he : M = [] := by
      rcases M with _ | ⟨p, M⟩
      · rfl
      · obtain ⟨g, off, e, _⟩ := hM 0 (by simp)
        cases e
    subst he
    rw [List.append_nil] at h
    exact wpList_append_own_none (P := Tryz.prog) hgd s x 23 ho B 42 i0 2 Tryz.underlying23 hi0 v L.length (cellsF L) hs hown hx (h v w hown (Below.refl _ _))
  · refine wpList_append_own (P := Tryz.prog) w hgd s x 23 ho B 42 i0 _ 2 32 Tryz.underlying23 hi0 hz0 hz1 hz2 rfl (by decide) v L.length (cellsF L) hs hown ad M.length c (cellsF M) hx (cellsF_len M) hM.news (cellsF_one M) (by unfold maxLen; omega) (by omega) hB ?_
    intro v' w' q1 q2 _
    refine h v' w' (by simpa [OwnF, cellsF_app] using q1) ((Below.refl _ _).grown q2 hB (fun k hk => own_block hown k hk))
/-- what a slice of fields that a call owns looks like: nil has no capacity -/
theorem OwnF.fs2 {w : World} {B : Nat} {v : Value} {L : List F} (h : OwnF w B v L) : ∃ a cap, v = .slice a L.length cap ∧ Fs w a L ∧ (a = none → cap = 0) ∧ L.length ≤ cap := by
  rcases h.2 with ⟨rfl, hn⟩ | ⟨g, cap, cur, rfl, _⟩
  · exact ⟨none, 0, by rw [hn], fun i hi => by omega, fun _ => rfl, by omega⟩
  · obtain ⟨a, cap', hv, hf, hc⟩ := OwnF.fs h
    injection hv with e1 e2 e3
    exact ⟨_, cap, rfl, by rw [e1]; exact hf, fun ha => (by cases ha), by omega⟩
theorem OwnF.empty (w : World) : OwnF (w.alloc (.cells #[] 42)) w.heap.size (.slice (some ⟨w.heap.size, 0, none⟩) 0 0) [] :=
  ⟨rfl, .inr ⟨_, _, _, rfl, Nat.le_refl _, heap_alloc_new w _, Nat.zero_le _, by unfold maxLen; omega, rfl, rfl⟩⟩
end
section
open Go.RowKit
/-- what a slice of parameters that a call owns looks like: nil has no capacity -/
theorem OwnP.fs2 {w : World} {B : Nat} {v : Value} {L : List F} (h : OwnP w B v L) : ∃ a cap, v = .slice a L.length cap ∧ Fs w a L ∧ (a = none → cap = 0) ∧ L.length ≤ cap := by
  rcases h.2 with ⟨rfl, hn⟩ | ⟨g, cap, cur, rfl, _⟩
  · exact ⟨none, 0, by rw [hn], fun i hi => by omega, fun _ => rfl, by omega⟩
  · obtain ⟨a, cap', hv, hf, hc⟩ := OwnP.fs h
    injection hv with e1 e2 e3
    exact ⟨_, cap, rfl, by rw [e1]; exact hf, fun ha => (by cases ha), by omega⟩
theorem C3.set2 {g : Nat} {c0 c1 c2 : Value} {w : World} (f : C3 g c0 c1 c2 w) (v : Value) : C3 g c0 c1 v (w.setCell ⟨g, 2, none⟩ v) := by
  obtain ⟨⟨h0, h1, h2⟩, f0⟩ := f
  refine ⟨⟨?_, ?_, ?_⟩, by simpa only [World.frozen?_setCell] using f0⟩
  all_goals first
    | (rw [World.cell?_setCell_same (h := h2)])
    | exact (World.cell?_setCell_other _ _ _ _ (by simp)).trans (by assumption)
end
section
open Go.RowKit
/-- append of one string, at a step of a region that draws its order -/
theorem step_append_str (w : World) {ops : Array Oper} {o : Oper} {a : Act} {K : Act → World → Prop} {Q : Exit → Act → World → Prop} {E : Prop} (hgd : o.guard = none) (s x : Operand)
    (ho : o.op = .call { callee := .builtin .append, args := #[s, x], argTypes := #[29, 29] })
    (B : Nat) (v : Value) (L : List ByteArray) (hs : a.eval s = v) (hown : OwnS w B v L)
    (g : Nat) (c : Nat) (hx : a.eval x = .slice (some ⟨g, 0, none⟩) 1 c) (u : ByteArray) (h0 : w.cell? ⟨g, 0, none⟩ = some (.string u)) (hl : L.length ≤ 65536) (hB : B ≤ w.heap.size)
    (h : ∀ v' w', OwnS w' B v' (L ++ [u]) → Below B w w' → K (a.put o.dst v') w') :
    if Region.wanted o (yielded ops a.tmps) = true then Oper.wp Tryz.prog o a w K Q else E := by
  obtain ⟨i0, hi0, hz0, hz1, hz2⟩ := info_parts info_str
  refine step_append_lies (P := Tryz.prog) w hgd s x 29 ho B 9 i0 _ 1 16 Tryz.underlying29 hi0 hz0 hz1 hz2 rfl (by decide) v L.length (L.map Value.string) hs hown ⟨g, 0, none⟩ 1 c [.string u] hx rfl ?_ ?_ (by omega) (by unfold maxLen; omega) (by omega) hB _ rfl ?_
  · intro j u hj
    match j, hj with
    | 0, hj => simp at hj; subst hj; simpa [Addr.add] using h0
  · intro u hu; simp at hu; subst hu; rfl
  · intro g' cap' w' q1 q2 _ _
    refine h _ w' (by simpa [OwnS] using q1) ((Below.refl _ _).grown q2 hB (fun k hk => own_block hown k hk))
theorem OwnS.drewN {w : World} {B n : Nat} {v : Value} {L : List ByteArray} (h : OwnS w B v L) : OwnS (w.drewN n) B v L := own_below h (below_drewN _ _)
theorem size_more11 (w : World) (o : Obj) : w.heap.size ≤ (w.alloc o).heap.size := ((Below.refl w.heap.size w).alloc (Nat.le_refl _) o).size
theorem cell_new1 (w : World) (u : Value) (t : TypeId) : (w.alloc (.cells #[u] t)).cell? ⟨w.heap.size, 0, none⟩ = some u := by rw [World.cell?_alloc_mark]; rfl
def subB (l : List UInt8) : List ByteArray := (subL l).map bs
/-- what has been cut off, and what is left -/
def SbRel (l : List UInt8) (B : Nat) (w : World) (s out : Value) (wr : World) : Prop :=
  ∃ (t : ByteArray) (acc : List ByteArray), s = .string t ∧ OwnS wr B out acc ∧ acc ++ subB t.data.toList = subB l ∧ t.size ≤ l.length ∧ acc.length + t.size ≤ l.length ∧ Below w.heap.size w wr
def strLen : Value → Nat
  | .string s => s.size
  | _ => 0
theorem sub_left {t : ByteArray} (h : Lib.indexByte t.data.toList 45 = -1) : subB t.data.toList = [t] := by
  have hn : (45 : UInt8) ∉ t.data.toList := by
    have := (cut_no h).2.2
    simpa [cutB] using this
  unfold subB; rw [sub_no hn]; rfl
theorem sub_step {t : ByteArray} {o : Nat} (h : Lib.indexByte t.data.toList 45 = (o : Int)) : subB t.data.toList = t.extract 0 o :: subB (t.extract (o + 1) t.size).data.toList := by
  obtain ⟨h1, h2, h3, h4⟩ := cut_at h
  have hz : t.data.toList.length = t.size := by simp
  have hn : (45 : UInt8) ∉ t.data.toList.take o := by
    rw [← h2]; unfold cut1
    intro hm
    have := List.all_eq_true.1 (List.all_takeWhile (p := (· != (45 : UInt8))) (l := t.data.toList)) 45 hm
    simp at this
  have e : t.data.toList = t.data.toList.take o ++ 45 :: t.data.toList.drop (o + 1) := by
    have h5 := cut_join h4
    rwa [h2, h3] at h5
  have e2 : (t.extract (o + 1) t.size).data.toList = t.data.toList.drop (o + 1) := by rw [ext_bs, bs_toList, List.take_of_length_le (by omega)]
  rw [e2]
  unfold subB
  conv => lhs; rw [e]
  rw [sub_at hn, ext_bs, List.drop_zero]; rfl
theorem rIndex45_is {s : ByteArray} {n : Int} {w : World} (hs : s.size ≤ maxLen) (h : Box (idxF s.data.toList 45 0 = n)) :
    Calls Tryz.prog 99 #[.string s, .int .u8 45, .int .i64 0] w fun e w' => e = .returned (.int .i64 n) ∧ w = w' :=
  (rIndex_any s 45 45 0 w hs (Nat.zero_le _) rfl).mono fun e w' ⟨h1, h2⟩ => ⟨by rw [h1, h.out], h2⟩
set_option maxHeartbeats 1000000 in
theorem rSubs_any (s : ByteArray) (w : World) (hs : s.size ≤ 65000) :
    Calls Tryz.prog 87 #[.string s] w fun e w' => ∃ v, e = .returned v ∧ OwnS w' w.heap.size v (subB s.data.toList) ∧ Below w.heap.size w w' := by
  have hz : s.data.toList.length = s.size := by simp
  obtain ⟨l, hl⟩ : ∃ l, s.data.toList = l := ⟨_, rfl⟩
  have hll : l.length ≤ 65000 := by rw [← hl]; omega
  have HL := box hl
  rw [hl] at hz ⊢
  clear hl
  go_enter Tryz.func87, Tryz.ntmps87
  go_wp2
  go_loopw [0, 3, 4] (fun s out _ wr => SbRel l w.heap.size w s out wr) (fun s _ _ _ => strLen s)
  case atStart => exact ⟨s, [], rfl, OwnS.nil _ _, by rw [HL.out]; rfl, by omega, by simp; omega, Below.refl _ _⟩
  case round =>
    obtain ⟨t, acc, rfl, hO, hq, hts, hac, hb⟩ := hrel
    obtain ⟨av, cv, rfl, _, _⟩ := hO.ss
    have O := box hO
    have BL := box hb
    have HQ := box hq
    have hbs := hb.size
    have htm : t.size ≤ maxLen := by unfold maxLen; omega
    have hz2 : t.data.toList.length = t.size := by simp
    clear hO hb hq
    by_cases hi : idxF t.data.toList 45 0 < 0
    · have h1 := idxF_none hi
      rw [List.drop_zero] at h1
      have HS : Box (acc ++ [t] = subB l) := box (by rw [← HQ.out, sub_left h1])
      obtain ⟨n, hn⟩ : ∃ n, idxF t.data.toList 45 0 = n := ⟨_, rfl⟩
      have HN := box hn
      rw [hn] at hi
      clear h1 hn
      go_wp2_with fail
      refine (rIndex45_is htm HN).mono ?_; rintro e w1 ⟨rfl, rfl⟩
      go_wp2_with (at_builtin; refine wpList_append_str _ rfl (.tmp 9) (.tmp 11) rfl w.heap.size _ acc rfl (own_below O.out (below_new _ _)) _ _ rfl t (cell_new1 _ _ _) (by omega) (by simp; omega) ?_)
      intro v2 w2 hO2 hb2
      rw [HS.out] at hO2
      have O2 := box hO2
      have B2 := box ((BL.out.alloc hbs _).trans hb2)
      clear hO2 hb2
      go_wp2
      go_ret
      exact ⟨_, rfl, O2.out, B2.out⟩
    · obtain ⟨o, h1, h2, h3⟩ := idxF_some hi
      rw [List.drop_zero] at h1
      rw [Nat.zero_add] at h2 h3
      have ho : o < t.size := by omega
      have HS : Box (acc ++ [t.extract 0 o] ++ subB (t.extract (o + 1) t.size).data.toList = subB l) := box (by rw [← HQ.out, sub_step h1, List.append_assoc]; rfl)
      have hez : (t.extract (o + 1) t.size).size = t.size - (o + 1) := by rw [ByteArray.size_extract]; omega
      have HN := box h2
      have hoi : (o : Int) ≤ (t.size : Int) := by omega
      have ho0 : (0 : Int) ≤ (o : Int) := by omega
      have ho2 : (o : Int) + 1 ≤ (t.size : Int) := by omega
      have ho1 : (0 : Int) ≤ (o : Int) + 1 := by omega
      have hwr : IntKind.i64.wrap ((o : Int) + 1) = (o : Int) + 1 := by simp [IntKind.wrap, IntKind.bits, IntKind.signed]; omega
      clear h1 h2 hi h3
      go_wp2_with fail
      refine (rIndex45_is htm HN).mono ?_; rintro e w1 ⟨rfl, rfl⟩
      go_wp2
      go_region_held3 (fun w' => True) (first | trivial) (first | (refine step_append_str _ rfl (.tmp 13) (.tmp 17) (by rfl) w.heap.size _ acc (by rfl) ?_ _ _ (by rfl) (t.extract 0 o) ?_ ?_ ?_ ?_; (exact own_below (OwnS.drewN O.out) (below_new _ _)); (exact cell_new1 _ _ _); omega; (exact Nat.le_trans hbs (size_more11 _ _)); intro v4 w4 hO4 hb4; have O4 := box hO4; have B4 := box (((BL.out.trans ((below_drewN _ _).mono BL.out.size)).alloc hbs _).trans hb4); clear hO4 hb4))
      all_goals
        go_wp2
        go_roundw
        case rel => exact ⟨_, _, rfl, O4.out, HS.out, by omega, by simp; omega, B4.out⟩
        case measure => simp [strLen]; omega
end
section
open Go.RowKit
def chOk (first : Bool) (c : UInt8) : Bool := lettI c.toNat || (!first && digitI c.toNat)
theorem subs_all {L : List (List UInt8)} (h : ∀ j (hj : j < L.length), subOk (decide (j = 0)) L[j] = true) : subsOk L = true := by
  match L, h with
  | [], _ => rfl
  | x :: xs, h =>
    show (subOk true x && xs.all (subOk false)) = true
    have h0 : subOk true x = true := h 0 (by simp)
    rw [h0, Bool.true_and, List.all_eq_true]
    intro y hy
    obtain ⟨i, hi, rfl⟩ := List.getElem_of_mem hy
    exact h (i + 1) (by simpa using hi)
theorem subs_bad {L : List (List UInt8)} {k : Nat} (hk : k < L.length) (h : subOk (decide (k = 0)) L[k] = false) : subsOk L = false := by
  match L, k, hk, h with
  | x :: xs, 0, _, h =>
    have h0 : subOk true x = false := h
    show (subOk true x && xs.all (subOk false)) = false
    rw [h0]; rfl
  | x :: xs, k + 1, hk, h =>
    have hk' : k < xs.length := by simpa using hk
    have h0 : subOk false xs[k] = false := h
    show (subOk true x && xs.all (subOk false)) = false
    have : xs.all (subOk false) = false := by
      rw [List.all_eq_false]
      exact ⟨xs[k], List.getElem_mem _, by rw [h0]; simp⟩
    rw [this, Bool.and_false]
theorem sub_chars {f : Bool} {x : List UInt8} (h1 : 1 ≤ x.length) (h8 : x.length ≤ 8) : subOk f x = x.all (chOk f) := by
  unfold subOk
  rw [decide_eq_true ⟨h1, h8⟩, Bool.true_and]; rfl
theorem sub_size {f : Bool} {x : List UInt8} (h : x.length < 1 ∨ 8 < x.length) : subOk f x = false := by
  unfold subOk
  rw [decide_eq_false (by omega), Bool.false_and]
theorem allC_more {f : UInt8 → Bool} {x : ByteArray} {m : Nat} (h : (x.data.toList.take m).all f = true) (hm : m < x.size) (hc : f x[m] = true) : (x.data.toList.take (m + 1)).all f = true := by
  rw [take_snoc x m hm, List.all_append, h]; simp [hc]
theorem allC_not {f : UInt8 → Bool} {x : ByteArray} {m : Nat} (hm : m < x.size) (hc : f x[m] = false) : x.data.toList.all f = false := by
  rw [List.all_eq_false]
  have hm2 : m < x.data.toList.length := by simpa using hm
  exact ⟨x.data.toList[m], List.getElem_mem hm2, by show ¬ f x[m] = true; rw [hc]; simp⟩
/-- the cases of a byte -/
inductive ChCase (k : Nat) (c : Int) (r : Bool) : Prop
  | low (h1 : 97 ≤ c) (h2 : c ≤ 122) (h : r = true) : ChCase k c r
  | up (h0 : c < 97) (h1 : 65 ≤ c) (h2 : c ≤ 90) (h : r = true) : ChCase k c r
  | dig (h0 : c < 65) (hk : (0 : Int) < k) (hd : digitI c = true) (h : r = true) : ChCase k c r
  | no0 (h0 : c < 65) (hk : ¬ (0 : Int) < k) (h : r = false) : ChCase k c r
  | no1 (h0 : c < 65) (hk : (0 : Int) < k) (hd : digitI c = false) (h : r = false) : ChCase k c r
  | mid0 (h0 : 90 < c) (h1 : c < 97) (hk : ¬ (0 : Int) < k) (h : r = false) : ChCase k c r
  | mid1 (h0 : 90 < c) (h1 : c < 97) (hk : (0 : Int) < k) (hd : digitI c = false) (h : r = false) : ChCase k c r
  | hi0 (h0 : 122 < c) (hk : ¬ (0 : Int) < k) (h : r = false) : ChCase k c r
  | hi1 (h0 : 122 < c) (hk : (0 : Int) < k) (hd : digitI c = false) (h : r = false) : ChCase k c r
theorem ch_case (k : Nat) (c : UInt8) : ChCase k c.toNat (chOk (decide (k = 0)) c) := by
  have hdig : ∀ n : Int, digitI n = decide (48 ≤ n ∧ n ≤ 57) := fun n => rfl
  have hlet : ∀ n : Int, lettI n = (decide (97 ≤ n ∧ n ≤ 122) || decide (65 ≤ n ∧ n ≤ 90)) := fun n => rfl
  by_cases h1 : 97 ≤ (c.toNat : Int) ∧ (c.toNat : Int) ≤ 122
  · exact .low h1.1 h1.2 (by unfold chOk; rw [hlet, decide_eq_true h1]; rfl)
  · by_cases h2 : 65 ≤ (c.toNat : Int) ∧ (c.toNat : Int) ≤ 90
    · exact .up (by omega) h2.1 h2.2 (by unfold chOk; rw [hlet, decide_eq_true h2]; simp)
    · have hl : lettI (c.toNat : Int) = false := by rw [hlet, decide_eq_false h1, decide_eq_false h2]; rfl
      have hr : chOk (decide (k = 0)) c = (!decide (k = 0) && digitI c.toNat) := by unfold chOk; rw [hl, Bool.false_or]
      rw [hr]
      by_cases hk : k = 0
      · have e : (!decide (k = 0) && digitI (c.toNat : Int)) = false := by rw [decide_eq_true hk]; rfl
        rw [e]
        by_cases a : (c.toNat : Int) < 65
        · exact .no0 a (by omega) rfl
        · by_cases b : (c.toNat : Int) < 97
          · exact .mid0 (by omega) b (by omega) rfl
          · exact .hi0 (by omega) (by omega) rfl
      · have e : (!decide (k = 0) && digitI (c.toNat : Int)) = digitI c.toNat := by rw [decide_eq_false hk]; rfl
        rw [e]
        have hd1 : 65 ≤ (c.toNat : Int) → digitI (c.toNat : Int) = false := fun h => by rw [hdig]; exact decide_eq_false (by omega)
        by_cases a : (c.toNat : Int) < 65
        · cases hd : digitI (c.toNat : Int) with
          | true => exact .dig a (by omega) hd rfl
          | false => exact .no1 a (by omega) hd rfl
        · rw [hd1 (by omega)]
          by_cases b : (c.toNat : Int) < 97
          · exact .mid1 (by omega) b (by omega) (hd1 (by omega)) rfl
          · exact .hi1 (by omega) (by omega) (hd1 (by omega)) rfl
def TagO (T : List ByteArray) (i : Value) : Prop := ∃ k : Nat, i = .int .i64 k ∧ k ≤ T.length ∧ ∀ j (hj : j < T.length), j < k → subOk (decide (j = 0)) T[j].data.toList = true
def TagI (x : ByteArray) (f : Bool) (m : Value) : Prop := ∃ k : Nat, m = .int .i64 k ∧ k ≤ x.size ∧ (x.data.toList.take k).all (chOk f) = true
theorem tag_all {l : List UInt8} {T : List ByteArray} (hT : subB l = T) (h : ∀ j (hj : j < T.length), subOk (decide (j = 0)) T[j].data.toList = true) : tagL l = true := by
  unfold tagL
  refine subs_all fun j hj => ?_
  have := h j (by rw [← hT]; unfold subB; simpa using hj)
  simp only [← hT, subB, List.getElem_map, bs_toList] at this
  exact this
theorem tag_bad {l : List UInt8} {T : List ByteArray} (hT : subB l = T) {k : Nat} (hk : k < T.length) (h : subOk (decide (k = 0)) T[k].data.toList = false) : tagL l = false := by
  unfold tagL
  subst hT
  have hk2 : k < (subL l).length := by unfold subB at hk; simpa using hk
  refine subs_bad hk2 ?_
  simp only [subB, List.getElem_map, bs_toList] at h
  exact h
set_option maxHeartbeats 1000000 in
theorem rTag_any (s : ByteArray) (w : World) (hs : s.size ≤ 65000) :
    Calls Tryz.prog 50 #[.string s] w fun e w' => e = .returned (.bool (tagL s.data.toList)) ∧ Below w.heap.size w w' := by
  obtain ⟨T, hT⟩ : ∃ T, subB s.data.toList = T := ⟨_, rfl⟩
  have HT := box hT
  have hlen : T.length ≤ 65001 := by rw [← hT]; unfold subB; have := sub_count s.data.toList; have hz : s.data.toList.length = s.size := by simp
                                     rw [List.length_map]; omega
  have hsm : Box (∀ k (h : k < T.length), T[k].size ≤ 65000) := box (fun k hk => by
    subst hT
    have hk2 : k < (subL s.data.toList).length := by unfold subB at hk; simpa using hk
    have := (sub_mem s.data.toList _ (List.getElem_mem hk2)).2
    have hz : s.data.toList.length = s.size := by simp
    simp only [subB, List.getElem_map, bs_size]; omega)
  clear hT
  go_enter Tryz.func50, Tryz.ntmps50
  go_wp2_with fail
  refine (rSubs_any s _ hs).mono ?_; rintro e w1 ⟨v, rfl, hO1, hb1⟩
  rw [HT.out] at hO1
  obtain ⟨a1, cap1, rfl, hS1, hc1⟩ := hO1.ss
  have S1 := box hS1
  have B1 := box hb1
  clear hO1 hS1 hb1
  go_wp2
  go_loop [4, 5, 6] (fun i _ _ => TagO T i) (fun i _ _ => T.length - (intOf i).toNat)
  case atStart => exact ⟨0, rfl, Nat.zero_le _, fun j hj h => absurd h (by omega)⟩
  case round =>
    obtain ⟨k, rfl, hk, hall⟩ := hrel
    have HA := box hall
    clear hall
    by_cases hlt : k < T.length
    · obtain ⟨x, hx⟩ : ∃ x, T[k] = x := ⟨_, rfl⟩
      have HX := box hx
      have hxz : x.size ≤ 65000 := by rw [← hx]; exact hsm.out k hlt
      have hti : (k : Int) < (T.length : Int) := by omega
      obtain ⟨g, off, rfl, hcell⟩ := S1.out k hlt
      rw [hx] at hcell
      have hz : x.data.toList.length = x.size := by simp
      by_cases h1 : x.size < 1
      · have h1i : (x.size : Int) < 1 := by omega
        have HR : Box (tagL s.data.toList = false) := box (tag_bad HT.out hlt (by rw [hx]; exact sub_size (.inl (by omega))))
        clear hx hz
        go_wp2
        go_ret
        exact ⟨by rw [HR.out]; rfl, B1.out⟩
      · by_cases h8 : 8 < x.size
        · have h1i : ¬ (x.size : Int) < 1 := by omega
          have h8i : (8 : Int) < (x.size : Int) := by omega
          have HR : Box (tagL s.data.toList = false) := box (tag_bad HT.out hlt (by rw [hx]; exact sub_size (.inr (by omega))))
          clear hx hz
          go_wp2
          go_ret
          exact ⟨by rw [HR.out]; rfl, B1.out⟩
        · have h1i : ¬ (x.size : Int) < 1 := by omega
          have h8i : ¬ (8 : Int) < (x.size : Int) := by omega
          have HC : Box (subOk (decide (k = 0)) x.data.toList = x.data.toList.all (chOk (decide (k = 0)))) := box (sub_chars (by omega) (by omega))
          clear hx hz
          go_wp2
          go_loop [5, 6] (fun m _ => TagI x (decide (k = 0)) m) (fun m _ => x.size - (intOf m).toNat)
          case atStart => exact ⟨0, rfl, Nat.zero_le _, rfl⟩
          case round =>
            obtain ⟨m, rfl, hm, hc⟩ := hrel
            have HM := box hc
            clear hc
            by_cases hml : m < x.size
            · have hmi : (m : Int) < (x.size : Int) := by omega
              obtain ⟨c, hcq⟩ : ∃ c, x[m] = c := ⟨_, rfl⟩
              have hcc := ch_case k x[m]
              have HCQ := box hcq
              rw [hcq] at hcc
              have hbd := c_bd c
              have HY : Box (∀ r, chOk (decide (k = 0)) c = r → (r = true → (x.data.toList.take (m + 1)).all (chOk (decide (k = 0))) = true) ∧ (r = false → tagL s.data.toList = false)) := box (by
                intro r hr
                rw [← hcq] at hr
                refine ⟨fun ht => allC_more HM.out hml (by rw [hr, ht]), fun hf => tag_bad HT.out hlt ?_⟩
                rw [HX.out, HC.out]; exact allC_not hml (by rw [hr, hf]))
              rcases hcc with ⟨c1, c2, hr⟩ | ⟨c0, c1, c2, hr⟩ | ⟨c0, c1, hd, hr⟩ | ⟨c0, c1, hr⟩ | ⟨c0, c1, hd, hr⟩ | ⟨c0, c1, c2, hr⟩ | ⟨c0, c1, c2, hd, hr⟩ | ⟨c0, c1, hr⟩ | ⟨c0, c1, hd, hr⟩
              · have HR := box ((HY.out _ hr).1 rfl)
                clear hr
                go_wp2_with (go_at_call 88; refine (rDigit_c _ _).mono ?_; rintro e w' ⟨rfl, rfl⟩)
                go_round
                case rel => exact ⟨m + 1, by go_num, hml, HR.out⟩
                case measure => simp [intOf]; omega
              · have HR := box ((HY.out _ hr).1 rfl)
                clear hr
                go_wp2_with (go_at_call 88; refine (rDigit_c _ _).mono ?_; rintro e w' ⟨rfl, rfl⟩)
                go_round
                case rel => exact ⟨m + 1, by go_num, hml, HR.out⟩
                case measure => simp [intOf]; omega
              · have HR := box ((HY.out _ hr).1 rfl)
                clear hr
                go_wp2_with (go_at_call 88; refine (rDigit_c _ _).mono ?_; rintro e w' ⟨rfl, rfl⟩)
                go_round
                case rel => exact ⟨m + 1, by go_num, hml, HR.out⟩
                case measure => simp [intOf]; omega
              · have HR := box ((HY.out _ hr).2 rfl)
                clear hr
                go_wp2_with (go_at_call 88; refine (rDigit_c _ _).mono ?_; rintro e w' ⟨rfl, rfl⟩)
                go_ret
                exact ⟨by rw [HR.out]; rfl, B1.out⟩
              · have HR := box ((HY.out _ hr).2 rfl)
                clear hr
                go_wp2_with (go_at_call 88; refine (rDigit_c _ _).mono ?_; rintro e w' ⟨rfl, rfl⟩)
                go_ret
                exact ⟨by rw [HR.out]; rfl, B1.out⟩
              · have HR := box ((HY.out _ hr).2 rfl)
                clear hr
                have k1 : (65 : Int) ≤ (c.toNat : Int) := by omega
                have k2 : ¬ (c.toNat : Int) ≤ 90 := by omega
                go_wp2_with (go_at_call 88; refine (rDigit_c _ _).mono ?_; rintro e w' ⟨rfl, rfl⟩)
                go_ret
                exact ⟨by rw [HR.out]; rfl, B1.out⟩
              · have HR := box ((HY.out _ hr).2 rfl)
                clear hr
                have k1 : (65 : Int) ≤ (c.toNat : Int) := by omega
                have k2 : ¬ (c.toNat : Int) ≤ 90 := by omega
                go_wp2_with (go_at_call 88; refine (rDigit_c _ _).mono ?_; rintro e w' ⟨rfl, rfl⟩)
                go_ret
                exact ⟨by rw [HR.out]; rfl, B1.out⟩
              · have HR := box ((HY.out _ hr).2 rfl)
                clear hr
                have k1 : (65 : Int) ≤ (c.toNat : Int) := by omega
                have k2 : ¬ (c.toNat : Int) ≤ 90 := by omega
                have k3 : (97 : Int) ≤ (c.toNat : Int) := by omega
                have k4 : ¬ (c.toNat : Int) ≤ 122 := by omega
                go_wp2_with (go_at_call 88; refine (rDigit_c _ _).mono ?_; rintro e w' ⟨rfl, rfl⟩)
                go_ret
                exact ⟨by rw [HR.out]; rfl, B1.out⟩
              · have HR := box ((HY.out _ hr).2 rfl)
                clear hr
                have k1 : (65 : Int) ≤ (c.toNat : Int) := by omega
                have k2 : ¬ (c.toNat : Int) ≤ 90 := by omega
                have k3 : (97 : Int) ≤ (c.toNat : Int) := by omega
                have k4 : ¬ (c.toNat : Int) ≤ 122 := by omega
                go_wp2_with (go_at_call 88; refine (rDigit_c _ _).mono ?_; rintro e w' ⟨rfl, rfl⟩)
                go_ret
                exact ⟨by rw [HR.out]; rfl, B1.out⟩
            · have HR : Box (subOk (decide (k = 0)) x.data.toList = true) := box (by
                have h := HM.out
                rw [List.take_of_length_le (by simp; omega)] at h
                rw [HC.out, h])
              go_wp2
              go_round
              case rel => exact ⟨k + 1, by go_num, hlt, fun j hj hjk => by
                by_cases e : j = k
                · subst e; rw [HX.out]; exact HR.out
                · exact HA.out j hj (by omega)⟩
              case measure => simp [intOf]; omega
    · have HR : Box (tagL s.data.toList = true) := box (tag_all HT.out fun j hj => HA.out j hj (by omega))
      go_wp2
      go_ret
      exact ⟨by rw [HR.out]; rfl, B1.out⟩
theorem rTag_is {s : ByteArray} {b : Bool} {w : World} (hs : s.size ≤ 65000) (h : Box (tagL s.data.toList = b)) :
    Calls Tryz.prog 50 #[.string s] w fun e w' => e = .returned (.bool b) ∧ Below w.heap.size w w' :=
  (rTag_any s w hs).mono fun e w' ⟨h1, h2⟩ => ⟨by rw [h1, h.out], h2⟩
theorem star_list {s : ByteArray} : (s.toList == [42]) = decide (s.data.toList = [42]) := by
  rw [toList_data]
  by_cases h : s.data.toList = [42]
  · rw [decide_eq_true h, h]; rfl
  · rw [decide_eq_false h, beq_eq_false_iff_ne]; exact h
theorem rRangeT_any (s : ByteArray) (w : World) (hs : s.size ≤ 65000) :
    Calls Tryz.prog 97 #[.string s] w fun e w' => e = .returned (.bool (rangeT s.data.toList)) ∧ Below w.heap.size w w' := by
  have hst := star_list (s := s)
  cases h : decide (s.data.toList = [42]) with
  | true =>
    rw [h] at hst
    have HR : Box (rangeT s.data.toList = true) := box (by unfold rangeT; rw [h]; rfl)
    clear h
    go_enter Tryz.func97, Tryz.ntmps97
    go_wp2
    go_ret
    exact ⟨by rw [HR.out]; rfl, Below.refl _ _⟩
  | false =>
    rw [h] at hst
    have HR : Box (rangeT s.data.toList = tagL s.data.toList) := box (by unfold rangeT; rw [h, Bool.false_or])
    obtain ⟨b, hb⟩ : ∃ b, tagL s.data.toList = b := ⟨_, rfl⟩
    have HB := box hb
    clear h hb
    go_enter Tryz.func97, Tryz.ntmps97
    go_wp2_with fail
    refine (rTag_is hs HB).mono ?_; rintro e w1 ⟨rfl, hb1⟩
    have B1 := box hb1
    clear hb1
    go_wp2
    go_ret
    exact ⟨by rw [HR.out, HB.out]; rfl, B1.out⟩
end
section
open Go.RowKit
theorem rRange_tis {s : ByteArray} {b : Bool} {w : World} (hs : s.size ≤ 65000) (h : Box (rangeT s.data.toList = b)) :
    Calls Tryz.prog 97 #[.string s] w fun e w' => e = .returned (.bool b) ∧ Below w.heap.size w w' :=
  (rRangeT_any s w hs).mono fun e w' ⟨h1, h2⟩ => ⟨by rw [h1, h.out], h2⟩
theorem rFold11_is {a b : ByteArray} {q : Bool} {w : World} (ha : a.size ≤ 4294967296) (hb : b.size ≤ 4294967296) (h : Box (foldL a.data.toList b.data.toList = q)) :
    Calls Tryz.prog 58 #[.string a, .string b] w fun e w' => e = .returned (.bool q) ∧ Below w.heap.size w w' :=
  (rFold_any a b w ha hb).mono fun e w' ⟨h1, h2⟩ => ⟨by rw [h1, h.out], h2⟩
def prefB : List ByteArray → List ByteArray → Bool
  | [], _ => true
  | _ :: _, [] => false
  | x :: xs, y :: ys => foldL x.data.toList y.data.toList && prefB xs ys
theorem pref_map : ∀ (A B : List (List UInt8)), prefB (A.map bs) (B.map bs) = prefS A B
  | [], _ => rfl
  | _ :: _, [] => rfl
  | x :: xs, y :: ys => by
    show (foldL (bs x).data.toList (bs y).data.toList && prefB (xs.map bs) (ys.map bs)) = (foldL x y && prefS xs ys)
    rw [pref_map xs ys]; rfl
theorem pref_end {A B : List ByteArray} {k : Nat} (h : A.length ≤ k) : prefB (A.drop k) (B.drop k) = true := by rw [List.drop_of_length_le h]; rfl
theorem pref_short {A B : List ByteArray} {k : Nat} (h : k < A.length) (hb : B.length ≤ k) : prefB (A.drop k) (B.drop k) = false := by
  rw [List.drop_eq_getElem_cons h, List.drop_of_length_le hb]; rfl
theorem pref_next {A B : List ByteArray} {k : Nat} (h : k < A.length) (hb : k < B.length) : prefB (A.drop k) (B.drop k) = (foldL A[k].data.toList B[k].data.toList && prefB (A.drop (k + 1)) (B.drop (k + 1))) := by
  rw [List.drop_eq_getElem_cons h, List.drop_eq_getElem_cons hb]; rfl
theorem subB_len (s : ByteArray) : (subB s.data.toList).length ≤ s.size + 1 := by
  have := sub_count s.data.toList
  have hz : s.data.toList.length = s.size := by simp
  unfold subB; rw [List.length_map]; omega
theorem subB_small (s : ByteArray) : ∀ k (h : k < (subB s.data.toList).length), (subB s.data.toList)[k].size ≤ s.size := by
  intro k hk
  have hk2 : k < (subL s.data.toList).length := by unfold subB at hk; simpa using hk
  have := (sub_mem s.data.toList _ (List.getElem_mem hk2)).2
  have hz : s.data.toList.length = s.size := by simp
  simp only [subB, List.getElem_map, bs_size]; omega
theorem match_no {r t : List UInt8} (h : (rangeT r && tagL t) = false) : matchT r t = -1 := by unfold matchT; rw [if_pos h]
theorem match_star {t : List UInt8} (h : tagL t = true) : matchT [42] t = 0 := by
  have hr : rangeT [42] = true := by decide +kernel
  unfold matchT; rw [hr, h]; simp
theorem match_pref {r t : List UInt8} (h1 : rangeT r = true) (h2 : tagL t = true) (h3 : r ≠ [42]) : matchT r t = if prefB (subB r) (subB t) = true then ((subB r).length : Int) else -1 := by
  unfold matchT
  rw [h1, h2, if_neg (by simp), if_neg h3]
  unfold subB
  rw [pref_map, List.length_map]
def MtRel (A B : List ByteArray) (W : World) (i : Value) (wr : World) : Prop := ∃ k : Nat, i = .int .i64 k ∧ k ≤ A.length ∧ k ≤ B.length ∧ prefB A B = prefB (A.drop k) (B.drop k) ∧ Below W.heap.size W wr
set_option maxHeartbeats 2000000 in
theorem rMatchT_pref (r t : ByteArray) (w : World) (hr : r.size ≤ 65000) (ht : t.size ≤ 65000) (h1 : Box (rangeT r.data.toList = true)) (h2 : Box (tagL t.data.toList = true)) (h3 : (r.toList == [42]) = false) (m : Int)
    (hm : Box ((if prefB (subB r.data.toList) (subB t.data.toList) = true then ((subB r.data.toList).length : Int) else -1) = m)) :
    Calls Tryz.prog 64 #[.string r, .string t] w fun e w' => e = .returned (.int .i64 m) ∧ Below w.heap.size w w' := by
  have hla := subB_len r
  have hlb := subB_len t
  have hza := subB_small r
  have hzb := subB_small t
  obtain ⟨A, hA⟩ : ∃ A, subB r.data.toList = A := ⟨_, rfl⟩
  obtain ⟨B, hB⟩ : ∃ B, subB t.data.toList = B := ⟨_, rfl⟩
  rw [hA] at hla hza hm
  rw [hB] at hlb hzb hm
  have HA := box hA
  have HB := box hB
  have ZA := box hza
  have ZB := box hzb
  clear hA hB hza hzb
  go_enter Tryz.func64, Tryz.ntmps64
  go_wp2_with fail
  refine (rRange_tis hr h1).mono ?_; rintro e w1 ⟨rfl, hb1⟩
  have B1 := box hb1
  clear hb1
  go_wp2_with fail
  refine (rTag_is ht h2).mono ?_; rintro e w2 ⟨rfl, hb2⟩
  have B2 := box (B1.out.trans (hb2.mono B1.out.size))
  clear hb2
  go_wp2_with fail
  refine (rSubs_any r _ hr).mono ?_; rintro e w3 ⟨v3, rfl, hO3, hb3⟩
  rw [HA.out] at hO3
  obtain ⟨a3, c3, rfl, hS3, hc3⟩ := hO3.ss
  have B3 := box (B2.out.trans (hb3.mono B2.out.size))
  have S3 := box hS3
  clear hO3 hb3 hS3
  go_wp2_with fail
  refine (rSubs_any t _ ht).mono ?_; rintro e w4 ⟨v4, rfl, hO4, hb4⟩
  rw [HB.out] at hO4
  obtain ⟨a4, c4, rfl, hS4, hc4⟩ := hO4.ss
  have B4 := box (B3.out.trans (hb4.mono B3.out.size))
  have SA := box (S3.out.below hb4)
  have SB := box hS4
  clear hO4 hb4 hS4 S3
  go_wp2
  go_loopw [7] (fun i wr => MtRel A B w4 i wr) (fun i _ => A.length - (intOf i).toNat)
  case atStart => exact ⟨0, rfl, Nat.zero_le _, Nat.zero_le _, rfl, Below.refl _ _⟩
  case round =>
    obtain ⟨k, rfl, hka, hkb, hq, hbel⟩ := hrel
    have HQ := box hq
    have BL := box hbel
    have FA := SA.out.below hbel
    have FB := SB.out.below hbel
    clear hq hbel
    by_cases hlt : k < A.length
    · have hai : (k : Int) < (A.length : Int) := by omega
      by_cases hkb2 : k < B.length
      · obtain ⟨x, hx⟩ : ∃ x, A[k] = x := ⟨_, rfl⟩
        obtain ⟨y, hy⟩ : ∃ y, B[k] = y := ⟨_, rfl⟩
        obtain ⟨g, off, rfl, cA⟩ := FA k hlt
        obtain ⟨g', off', rfl, cB⟩ := FB k hkb2
        rw [hx] at cA
        rw [hy] at cB
        have hxz : x.size ≤ 4294967296 := by have := ZA.out k hlt; rw [hx] at this; omega
        have hyz : y.size ≤ 4294967296 := by have := ZB.out k hkb2; rw [hy] at this; omega
        have hne : ((k : Int) == (B.length : Int)) = false := by rw [beq_eq_false_iff_ne]; omega
        have hbi : (k : Int) < (B.length : Int) := by omega
        have HN := box (pref_next hlt hkb2)
        rw [hx, hy] at HN
        have BS := BL.out.size
        clear FA FB
        cases hf : foldL x.data.toList y.data.toList with
        | true =>
          have HF := box hf
          have HP : Box (prefB A B = prefB (A.drop (k + 1)) (B.drop (k + 1))) := box (by rw [HQ.out, HN.out, hf, Bool.true_and])
          clear hf hx hy
          go_wp2
          go_region_held3 (fun w' => w'.cell? ⟨g, off + k, none⟩ = some (.string x) ∧ w'.cell? ⟨g', off' + k, none⟩ = some (.string y)) (first | exact ⟨(hb5.cell (cell_lt cA)).trans cA, (hb5.cell (cell_lt cB)).trans cB⟩ | exact ⟨cA, cB⟩) (first | (go_at_call 58; refine (rFold11_is hxz hyz HF).mono ?_; rintro e w5 ⟨rfl, hb5⟩))
          all_goals
            have B5 := box (BL.out.trans ((below_drewN _ _).trans hb5 |>.mono BS))
            clear hb5
            go_wp2
            go_roundw
            case rel => exact ⟨k + 1, by go_num, hlt, hkb2, HP.out, B5.out⟩
            case measure => simp [intOf]; omega
        | false =>
          have HF := box hf
          have HP : Box (m = -1) := box (by rw [← hm.out, HQ.out, HN.out, hf, Bool.false_and]; rfl)
          clear hf hx hy
          go_wp2
          go_region_held3 (fun w' => w'.cell? ⟨g, off + k, none⟩ = some (.string x) ∧ w'.cell? ⟨g', off' + k, none⟩ = some (.string y)) (first | exact ⟨(hb5.cell (cell_lt cA)).trans cA, (hb5.cell (cell_lt cB)).trans cB⟩ | exact ⟨cA, cB⟩) (first | (go_at_call 58; refine (rFold11_is hxz hyz HF).mono ?_; rintro e w5 ⟨rfl, hb5⟩))
          all_goals
            have B5 := box (BL.out.trans ((below_drewN _ _).trans hb5 |>.mono BS))
            clear hb5
            go_wp2
            go_ret
            exact ⟨by rw [HP.out]; rfl, B4.out.trans (B5.out.mono B4.out.size)⟩
      · have hke : k = B.length := by omega
        have hne : ((k : Int) == (B.length : Int)) = true := by rw [hke]; simp
        have HP : Box (m = -1) := box (by rw [← hm.out, HQ.out, pref_short hlt (by omega)]; rfl)
        clear FA FB hke
        go_wp2
        go_region
        all_goals
          go_wp2
          go_ret
          exact ⟨by rw [HP.out]; rfl, B4.out.trans ((BL.out.trans ((below_drewN _ _).mono BL.out.size)).mono B4.out.size)⟩
    · have HP : Box (m = (A.length : Int)) := box (by rw [← hm.out, HQ.out, pref_end (by omega)]; rfl)
      have hai : ¬ (k : Int) < (A.length : Int) := by omega
      clear FA FB
      go_wp2
      go_ret
      exact ⟨by rw [HP.out]; rfl, B4.out.trans (BL.out.mono B4.out.size)⟩
theorem rMatchT_any (r t : ByteArray) (w : World) (hr : r.size ≤ 65000) (ht : t.size ≤ 65000) :
    Calls Tryz.prog 64 #[.string r, .string t] w fun e w' => e = .returned (.int .i64 (matchT r.data.toList t.data.toList)) ∧ Below w.heap.size w w' := by
  cases h1 : rangeT r.data.toList with
  | false =>
    have HV : Box (matchT r.data.toList t.data.toList = -1) := box (match_no (by rw [h1]; rfl))
    have H1 := box h1
    clear h1
    go_enter Tryz.func64, Tryz.ntmps64
    go_wp2_with fail
    refine (rRange_tis hr H1).mono ?_; rintro e w1 ⟨rfl, hb1⟩
    go_wp2
    go_ret
    exact ⟨by rw [HV.out]; rfl, hb1⟩
  | true =>
    have H1 := box h1
    cases h2 : tagL t.data.toList with
    | false =>
      have HV : Box (matchT r.data.toList t.data.toList = -1) := box (match_no (by rw [h1, h2]; rfl))
      have H2 := box h2
      clear h1 h2
      go_enter Tryz.func64, Tryz.ntmps64
      go_wp2_with fail
      refine (rRange_tis hr H1).mono ?_; rintro e w1 ⟨rfl, hb1⟩
      have B1 := box hb1
      clear hb1
      go_wp2_with fail
      refine (rTag_is ht H2).mono ?_; rintro e w2 ⟨rfl, hb2⟩
      have B2 := box (B1.out.trans (hb2.mono B1.out.size))
      clear hb2
      go_wp2
      go_ret
      exact ⟨by rw [HV.out]; rfl, B2.out⟩
    | true =>
      have H2 := box h2
      have hst := star_list (s := r)
      by_cases h3 : r.data.toList = [42]
      · have HV : Box (matchT r.data.toList t.data.toList = 0) := box (by rw [h3]; exact match_star h2)
        rw [decide_eq_true h3] at hst
        clear h1 h2 h3
        go_enter Tryz.func64, Tryz.ntmps64
        go_wp2_with fail
        refine (rRange_tis hr H1).mono ?_; rintro e w1 ⟨rfl, hb1⟩
        have B1 := box hb1
        clear hb1
        go_wp2_with fail
        refine (rTag_is ht H2).mono ?_; rintro e w2 ⟨rfl, hb2⟩
        have B2 := box (B1.out.trans (hb2.mono B1.out.size))
        clear hb2
        go_wp2
        go_ret
        exact ⟨by rw [HV.out]; rfl, B2.out⟩
      · rw [decide_eq_false h3] at hst
        refine (rMatchT_pref r t w hr ht H1 H2 hst _ (box rfl)).mono fun e w' ⟨he, hb⟩ => ⟨?_, hb⟩
        rw [he, match_pref h1 h2 h3]
end
section
open Go.RowKit
theorem rLow12_is {s x : ByteArray} {w : World} (hs : s.size ≤ 4294967296) (h : Box (bs (lowL s.data.toList) = x)) :
    Calls Tryz.prog 28 #[.string s] w fun e w' => e = .returned (.string x) ∧ Below w.heap.size w w' :=
  (rLower_any s w hs).mono fun e w' ⟨h1, h2⟩ => ⟨by rw [h1, ← h.out]; rfl, h2⟩
theorem bs_list (l : List UInt8) : (bs l).toList = l := by rw [toList_data]; rfl
theorem beq_list {a b : List UInt8} {q : Bool} (h : decide (a = b) = q) : (a == b) = q := by
  rw [← h]
  by_cases e : a = b
  · rw [decide_eq_true e, e]; simp
  · rw [decide_eq_false e, beq_eq_false_iff_ne]; exact e
theorem rCan_any (k : Int) (s : ByteArray) (w : World) (hk : InI64 k) (hs : s.size ≤ 65536) :
    Calls Tryz.prog 98 #[.int .i64 k, .string s] w fun e w' => e = .returned (.string (bs (canL k s.data.toList))) ∧ Below w.heap.size w w' := by
  have hs4 : s.size ≤ 4294967296 := by omega
  obtain ⟨l, hl⟩ : ∃ l, lowL s.data.toList = l := ⟨_, rfl⟩
  have HX : Box (bs (lowL s.data.toList) = bs l) := box (by rw [hl])
  by_cases h4 : k = 4
  · subst h4
    by_cases h1 : l = xgzL
    · have HV : Box (canL 4 s.data.toList = gzL) := box (by unfold canL; rw [hl, if_pos ⟨rfl, h1⟩])
      subst h1
      clear hl
      go_enter Tryz.func98, Tryz.ntmps98
      go_wp2_with fail
      refine (rLow12_is hs4 HX).mono ?_; rintro e w1 ⟨rfl, hb1⟩; rw [show bs xgzL = ⟨#[120, 45, 103, 122, 105, 112]⟩ from rfl]
      go_wp2
      go_ret
      exact ⟨by rw [HV.out]; rfl, hb1⟩
    · have e1 : ((bs l).toList == [120, 45, 103, 122, 105, 112]) = false := by rw [bs_list]; exact beq_list (decide_eq_false h1)
      by_cases h2 : l = xcoL
      · have HV : Box (canL 4 s.data.toList = coL) := box (by unfold canL; rw [hl, if_neg (fun q => h1 q.2), if_pos ⟨rfl, h2⟩])
        subst h2
        clear hl e1
        go_enter Tryz.func98, Tryz.ntmps98
        go_wp2_with fail
        refine (rLow12_is hs4 HX).mono ?_; rintro e w1 ⟨rfl, hb1⟩; rw [show bs xcoL = ⟨#[120, 45, 99, 111, 109, 112, 114, 101, 115, 115]⟩ from rfl]
        go_wp2
        go_ret
        exact ⟨by rw [HV.out]; rfl, hb1⟩
      · have e2 : ((bs l).toList == [120, 45, 99, 111, 109, 112, 114, 101, 115, 115]) = false := by rw [bs_list]; exact beq_list (decide_eq_false h2)
        have HV : Box (canL 4 s.data.toList = l) := box (by unfold canL; rw [hl, if_neg (fun q => h1 q.2), if_neg (fun q => h2 q.2)])
        clear hl h1 h2
        go_enter Tryz.func98, Tryz.ntmps98
        go_wp2_with fail
        refine (rLow12_is hs4 HX).mono ?_; rintro e w1 ⟨rfl, hb1⟩
        go_wp2
        go_ret
        exact ⟨by rw [HV.out]; rfl, hb1⟩
  · have e4 : (k == 4) = false := by rw [beq_eq_false_iff_ne]; exact h4
    have HV : Box (canL k s.data.toList = l) := box (by unfold canL; rw [hl, if_neg (fun q => h4 q.1), if_neg (fun q => h4 q.1)])
    clear hl h4
    go_enter Tryz.func98, Tryz.ntmps98
    go_wp2_with fail
    refine (rLow12_is hs4 HX).mono ?_; rintro e w1 ⟨rfl, hb1⟩
    go_wp2
    go_ret
    exact ⟨by rw [HV.out]; rfl, hb1⟩
theorem rCan_is {k : Int} {s x : ByteArray} {w : World} (hk : InI64 k) (hs : s.size ≤ 65536) (h : Box (bs (canL k s.data.toList) = x)) :
    Calls Tryz.prog 98 #[.int .i64 k, .string s] w fun e w' => e = .returned (.string x) ∧ Below w.heap.size w w' :=
  (rCan_any k s w hk hs).mono fun e w' ⟨h1, h2⟩ => ⟨by rw [h1, h.out], h2⟩
theorem star12 {s : ByteArray} : (s.toList == [42]) = decide (s.data.toList = [42]) := by rw [toList_data]; exact beq_list rfl
theorem rMatchC_any (k : Int) (r v : ByteArray) (w : World) (hk : InI64 k) (hr : r.size ≤ 65536) (hv : v.size ≤ 65536) :
    Calls Tryz.prog 65 #[.int .i64 k, .string r, .string v] w fun e w' => e = .returned (.int .i64 (matchC k r.data.toList v.data.toList)) ∧ Below w.heap.size w w' := by
  have hst := star12 (s := r)
  by_cases h : r.data.toList = [42]
  · have HV : Box (matchC k r.data.toList v.data.toList = 0) := box (by rw [h]; exact matchC_star _ _)
    rw [decide_eq_true h] at hst
    clear h
    go_enter Tryz.func65, Tryz.ntmps65
    go_wp2
    go_ret
    exact ⟨by rw [HV.out]; rfl, Below.refl _ _⟩
  · rw [decide_eq_false h] at hst
    obtain ⟨x, hx⟩ : ∃ x, canL k r.data.toList = x := ⟨_, rfl⟩
    obtain ⟨y, hy⟩ : ∃ y, canL k v.data.toList = y := ⟨_, rfl⟩
    have HX : Box (bs (canL k r.data.toList) = bs x) := box (by rw [hx])
    have HY : Box (bs (canL k v.data.toList) = bs y) := box (by rw [hy])
    have HV : Box (matchC k r.data.toList v.data.toList = if x = y then 1 else -1) := box (by rw [matchC_not h, hx, hy])
    clear hx hy h
    by_cases he : x = y
    · subst he
      rw [if_pos rfl] at HV
      have e1 : ((bs x).toList == (bs x).toList) = true := by simp
      go_enter Tryz.func65, Tryz.ntmps65
      go_wp2_with fail
      refine (rCan_is hk hr HX).mono ?_; rintro e w1 ⟨rfl, hb1⟩
      have B1 := box hb1
      clear hb1
      go_wp2_with fail
      refine (rCan_is hk hv HY).mono ?_; rintro e w2 ⟨rfl, hb2⟩
      have B2 := box (B1.out.trans (hb2.mono B1.out.size))
      clear hb2
      go_wp2
      go_ret
      exact ⟨by rw [HV.out]; rfl, B2.out⟩
    · rw [if_neg he] at HV
      have e1 : ((bs x).toList == (bs y).toList) = false := by rw [bs_list, bs_list]; exact beq_list (decide_eq_false he)
      clear he
      go_enter Tryz.func65, Tryz.ntmps65
      go_wp2_with fail
      refine (rCan_is hk hr HX).mono ?_; rintro e w1 ⟨rfl, hb1⟩
      have B1 := box hb1
      clear hb1
      go_wp2_with fail
      refine (rCan_is hk hv HY).mono ?_; rintro e w2 ⟨rfl, hb2⟩
      have B2 := box (B1.out.trans (hb2.mono B1.out.size))
      clear hb2
      go_wp2
      go_ret
      exact ⟨by rw [HV.out]; rfl, B2.out⟩
end
section
open Go.RowKit
def qvT (o : Option Int) : Value := .tuple #[.int .i64 (qvV o).1, .bool (qvV o).2]
theorem qv_long {l : List UInt8} (h : 5 < l.length) : qvL l = none := by
  match l, h with
  | a :: r, h =>
    have h' : 5 < r.length + 1 := h
    show (if 5 < r.length + 1 ∨ ¬ (a = 48 ∨ a = 49) then none else _) = none
    rw [if_pos (Or.inl h')]
theorem qv_first {a : UInt8} {r : List UInt8} (h : ¬ (a = 48 ∨ a = 49)) : qvL (a :: r) = none := by
  show (if 5 < r.length + 1 ∨ ¬ (a = 48 ∨ a = 49) then none else _) = none
  rw [if_pos (Or.inr h)]
theorem qv_one {a : UInt8} (h : a = 48 ∨ a = 49) : qvL [a] = qvEnd (some (((a.toNat : Int) - 48) * 1000)) := by
  show (if 5 < 0 + 1 ∨ ¬ (a = 48 ∨ a = 49) then none else _) = _
  rw [if_neg (fun q => q.elim (fun q => by omega) (fun q => q h))]
/-- the weight ahead of place k -/
def wtOf (k : Nat) : Int := if k = 2 then 100 else if k = 3 then 10 else if k = 4 then 1 else 0
def QvRel (s : ByteArray) (q wt i : Value) : Prop :=
  ∃ (k : Nat) (qv : Int), i = .int .i64 k ∧ q = .int .i64 qv ∧ wt = .int .i64 (wtOf k) ∧ 2 ≤ k ∧ (k = 2 ∨ k ≤ s.size) ∧ 0 ≤ qv ∧ qv ≤ 1000 * k ∧ qvL s.data.toList = qvEnd (qvD qv (wtOf k) (s.data.toList.drop k))
theorem list_first {s : ByteArray} (h : 0 < s.size) : s.data.toList = s[0] :: s.data.toList.drop 1 := by
  have := List.drop_eq_getElem_cons (l := s.data.toList) (i := 0) (by simpa using h)
  rw [List.drop_zero] at this
  exact this
theorem list_second {s : ByteArray} (h : 1 < s.size) : s.data.toList = s[0] :: s[1] :: s.data.toList.drop 2 := by
  have h1 := list_first (s := s) (by omega)
  have := List.drop_eq_getElem_cons (l := s.data.toList) (i := 1) (by simpa using h)
  rw [this] at h1
  exact h1
theorem byte8 {c d : UInt8} (h : (c.toNat : Int) = (d.toNat : Int)) : c = d := UInt8.toNat_inj.mp (by omega)
set_option maxHeartbeats 2000000 in
theorem rParseQ_z1 (s : ByteArray) (w : World) (p0 : 0 < s.size) (h5 : s.size ≤ 5) (ha : (s[0].toNat : Int) = 48) (h1 : s.size = 1) :
    Calls Tryz.prog 95 #[.string s] w fun e w' => e = .returned (qvT (qvL s.data.toList)) ∧ w = w' := by
  have hz : s.data.toList.length = s.size := by simp
  have ha8 : s[0] = 48 ∨ s[0] = 49 := .inl (byte8 (d := 48) ha)
  have HST : Box (qvL s.data.toList = qvEnd (qvD 0 100 (s.data.toList.drop 2))) := box (by
    have e : s.data.toList = [s[0]] := by
      have := list_first p0
      rw [List.drop_of_length_le (l := s.data.toList) (i := 1) (by omega)] at this
      exact this
    rw [e, qv_one ha8, ha]; rfl)
  have i1 : ¬ (s.size : Int) < 1 := by omega
  have i2 : ¬ (5 : Int) < (s.size : Int) := by omega
  have i3 : ¬ (1 : Int) < (s.size : Int) := by omega
  clear hz ha8
  · skip
    · skip
      go_enter Tryz.func95, Tryz.ntmps95
      go_wp2
      go_loop [4, 5, 6] (fun q wt i => QvRel s q wt i) (fun _ _ i => 6 - (intOf i).toNat)
      case atStart => exact ⟨2, 0, rfl, rfl, rfl, Nat.le_refl _, .inl rfl, by omega, by omega, HST.out⟩
      case round =>
        obtain ⟨k, qv, rfl, rfl, rfl, hk2, hks, hq0, hq1, hQ⟩ := hrel
        have HQ := box hQ
        clear hQ
        by_cases hlt : k < s.size
        · exact absurd hlt (by omega)
        · have hsl : s.data.toList.length = s.size := by simp
          have HE : Box (qvL s.data.toList = qvEnd (some qv)) := box (by rw [HQ.out, List.drop_of_length_le (by omega)]; rfl)
          clear HQ hsl
          by_cases hbig : 1000 < qv
          · have HE2 : Box (qvL s.data.toList = none) := box (by rw [HE.out]; show (if 1000 < qv then none else some qv) = none; rw [if_pos hbig])
            go_wp2
            go_ret2
            exact ⟨by rw [HE2.out]; rfl, rfl⟩
          · have HE2 : Box (qvL s.data.toList = some qv) := box (by rw [HE.out]; show (if 1000 < qv then none else some qv) = some qv; rw [if_neg hbig])
            go_wp2
            go_ret2
            exact ⟨by rw [HE2.out]; rfl, rfl⟩
set_option maxHeartbeats 2000000 in
theorem rParseQ_zm (s : ByteArray) (w : World) (p0 : 0 < s.size) (h5 : s.size ≤ 5) (ha : (s[0].toNat : Int) = 48) (p1 : 1 < s.size) (h46 : ((s[1].toNat : Int) != 46) = false) :
    Calls Tryz.prog 95 #[.string s] w fun e w' => e = .returned (qvT (qvL s.data.toList)) ∧ w = w' := by
  have hz : s.data.toList.length = s.size := by simp
  have ha8 : s[0] = 48 ∨ s[0] = 49 := .inl (byte8 (d := 48) ha)
  have HST : Box (qvL s.data.toList = qvEnd (qvD 0 100 (s.data.toList.drop 2))) := box (by
    have e8 : s[1] = 46 := byte8 (d := 46) (by simpa using h46)
    rw [list_second p1, qv_more, if_pos ⟨by rw [List.length_drop]; omega, ha8, e8⟩, ha]; rfl)
  have i1 : ¬ (s.size : Int) < 1 := by omega
  have i2 : ¬ (5 : Int) < (s.size : Int) := by omega
  have i3 : (1 : Int) < (s.size : Int) := by omega
  clear hz ha8
  · skip
    · skip
      go_enter Tryz.func95, Tryz.ntmps95
      go_wp2
      go_loop [4, 5, 6] (fun q wt i => QvRel s q wt i) (fun _ _ i => 6 - (intOf i).toNat)
      case atStart => exact ⟨2, 0, rfl, rfl, rfl, Nat.le_refl _, .inl rfl, by omega, by omega, HST.out⟩
      case round =>
        obtain ⟨k, qv, rfl, rfl, rfl, hk2, hks, hq0, hq1, hQ⟩ := hrel
        have HQ := box hQ
        clear hQ
        by_cases hlt : k < s.size
        · have hb := byte_bd s k hlt
          have hd : s.data.toList.drop k = s[k] :: s.data.toList.drop (k + 1) := List.drop_eq_getElem_cons (l := s.data.toList) (i := k) (by simpa using hlt)
          rcases hp : digitI (s[k].toNat) with _ | _
          · have HE : Box (qvL s.data.toList = none) := box (by rw [HQ.out, hd, qvD_cons, if_neg (by rw [hp]; simp)]; rfl)
            go_wp2_with (go_at_call 88; refine (rDigit_any _ _ hb.1 hb.2).mono ?_; rintro e w' ⟨rfl, rfl⟩)
            go_ret2
            exact ⟨by rw [HE.out]; rfl, rfl⟩
          · have hdb := digitI_bd hp
            have HN := box (HQ.out.trans (congrArg qvEnd (by rw [hd, qvD_cons, if_pos hp] : qvD qv (wtOf k) (s.data.toList.drop k) = qvD (qv + ((s[k].toNat : Int) - 48) * wtOf k) (wtOf k / 10) (s.data.toList.drop (k + 1)))))
            have hk4 : k = 2 ∨ k = 3 ∨ k = 4 := by omega
            clear hd HQ
            rcases hk4 with rfl | rfl | rfl
            · rw [show wtOf 2 = 100 from rfl] at HN ⊢
              go_wp2_with (go_at_call 88; refine (rDigit_any _ _ hb.1 hb.2).mono ?_; rintro e w' ⟨rfl, rfl⟩)
              go_round
              case rel => exact ⟨3, _, by go_num, rfl, by go_num, by omega, .inr (by omega), by omega, by omega, HN.out⟩
              case measure => simp [intOf]
            · rw [show wtOf 3 = 10 from rfl] at HN ⊢
              go_wp2_with (go_at_call 88; refine (rDigit_any _ _ hb.1 hb.2).mono ?_; rintro e w' ⟨rfl, rfl⟩)
              go_round
              case rel => exact ⟨4, _, by go_num, rfl, by go_num, by omega, .inr (by omega), by omega, by omega, HN.out⟩
              case measure => simp [intOf]
            · rw [show wtOf 4 = 1 from rfl] at HN ⊢
              rw [Int.mul_one] at HN
              go_wp2_with (go_at_call 88; refine (rDigit_any _ _ hb.1 hb.2).mono ?_; rintro e w' ⟨rfl, rfl⟩)
              go_round
              case rel => exact ⟨5, _, by go_num, rfl, by go_num, by omega, .inr (by omega), by omega, by omega, HN.out⟩
              case measure => simp [intOf]
        · have hsl : s.data.toList.length = s.size := by simp
          have HE : Box (qvL s.data.toList = qvEnd (some qv)) := box (by rw [HQ.out, List.drop_of_length_le (by omega)]; rfl)
          clear HQ hsl
          by_cases hbig : 1000 < qv
          · have HE2 : Box (qvL s.data.toList = none) := box (by rw [HE.out]; show (if 1000 < qv then none else some qv) = none; rw [if_pos hbig])
            go_wp2
            go_ret2
            exact ⟨by rw [HE2.out]; rfl, rfl⟩
          · have HE2 : Box (qvL s.data.toList = some qv) := box (by rw [HE.out]; show (if 1000 < qv then none else some qv) = some qv; rw [if_neg hbig])
            go_wp2
            go_ret2
            exact ⟨by rw [HE2.out]; rfl, rfl⟩
set_option maxHeartbeats 2000000 in
theorem rParseQ_o1 (s : ByteArray) (w : World) (p0 : 0 < s.size) (h5 : s.size ≤ 5) (ha : (s[0].toNat : Int) = 49) (h1 : s.size = 1) :
    Calls Tryz.prog 95 #[.string s] w fun e w' => e = .returned (qvT (qvL s.data.toList)) ∧ w = w' := by
  have hz : s.data.toList.length = s.size := by simp
  have ha8 : s[0] = 48 ∨ s[0] = 49 := .inr (byte8 (d := 49) ha)
  have HST : Box (qvL s.data.toList = qvEnd (qvD 1000 100 (s.data.toList.drop 2))) := box (by
    have e : s.data.toList = [s[0]] := by
      have := list_first p0
      rw [List.drop_of_length_le (l := s.data.toList) (i := 1) (by omega)] at this
      exact this
    rw [e, qv_one ha8, ha]; rfl)
  have i1 : ¬ (s.size : Int) < 1 := by omega
  have i2 : ¬ (5 : Int) < (s.size : Int) := by omega
  have i3 : ¬ (1 : Int) < (s.size : Int) := by omega
  clear hz ha8
  · skip
    · skip
      go_enter Tryz.func95, Tryz.ntmps95
      go_wp2
      go_loop [4, 5, 6] (fun q wt i => QvRel s q wt i) (fun _ _ i => 6 - (intOf i).toNat)
      case atStart => exact ⟨2, 1000, rfl, rfl, rfl, Nat.le_refl _, .inl rfl, by omega, by omega, HST.out⟩
      case round =>
        obtain ⟨k, qv, rfl, rfl, rfl, hk2, hks, hq0, hq1, hQ⟩ := hrel
        have HQ := box hQ
        clear hQ
        by_cases hlt : k < s.size
        · exact absurd hlt (by omega)
        · have hsl : s.data.toList.length = s.size := by simp
          have HE : Box (qvL s.data.toList = qvEnd (some qv)) := box (by rw [HQ.out, List.drop_of_length_le (by omega)]; rfl)
          clear HQ hsl
          by_cases hbig : 1000 < qv
          · have HE2 : Box (qvL s.data.toList = none) := box (by rw [HE.out]; show (if 1000 < qv then none else some qv) = none; rw [if_pos hbig])
            go_wp2
            go_ret2
            exact ⟨by rw [HE2.out]; rfl, rfl⟩
          · have HE2 : Box (qvL s.data.toList = some qv) := box (by rw [HE.out]; show (if 1000 < qv then none else some qv) = some qv; rw [if_neg hbig])
            go_wp2
            go_ret2
            exact ⟨by rw [HE2.out]; rfl, rfl⟩
set_option maxHeartbeats 2000000 in
theorem rParseQ_om (s : ByteArray) (w : World) (p0 : 0 < s.size) (h5 : s.size ≤ 5) (ha : (s[0].toNat : Int) = 49) (p1 : 1 < s.size) (h46 : ((s[1].toNat : Int) != 46) = false) :
    Calls Tryz.prog 95 #[.string s] w fun e w' => e = .returned (qvT (qvL s.data.toList)) ∧ w = w' := by
  have hz : s.data.toList.length = s.size := by simp
  have ha8 : s[0] = 48 ∨ s[0] = 49 := .inr (byte8 (d := 49) ha)
  have HST : Box (qvL s.data.toList = qvEnd (qvD 1000 100 (s.data.toList.drop 2))) := box (by
    have e8 : s[1] = 46 := byte8 (d := 46) (by simpa using h46)
    rw [list_second p1, qv_more, if_pos ⟨by rw [List.length_drop]; omega, ha8, e8⟩, ha]; rfl)
  have i1 : ¬ (s.size : Int) < 1 := by omega
  have i2 : ¬ (5 : Int) < (s.size : Int) := by omega
  have i3 : (1 : Int) < (s.size : Int) := by omega
  clear hz ha8
  · skip
    · skip
      go_enter Tryz.func95, Tryz.ntmps95
      go_wp2
      go_loop [4, 5, 6] (fun q wt i => QvRel s q wt i) (fun _ _ i => 6 - (intOf i).toNat)
      case atStart => exact ⟨2, 1000, rfl, rfl, rfl, Nat.le_refl _, .inl rfl, by omega, by omega, HST.out⟩
      case round =>
        obtain ⟨k, qv, rfl, rfl, rfl, hk2, hks, hq0, hq1, hQ⟩ := hrel
        have HQ := box hQ
        clear hQ
        by_cases hlt : k < s.size
        · have hb := byte_bd s k hlt
          have hd : s.data.toList.drop k = s[k] :: s.data.toList.drop (k + 1) := List.drop_eq_getElem_cons (l := s.data.toList) (i := k) (by simpa using hlt)
          rcases hp : digitI (s[k].toNat) with _ | _
          · have HE : Box (qvL s.data.toList = none) := box (by rw [HQ.out, hd, qvD_cons, if_neg (by rw [hp]; simp)]; rfl)
            go_wp2_with (go_at_call 88; refine (rDigit_any _ _ hb.1 hb.2).mono ?_; rintro e w' ⟨rfl, rfl⟩)
            go_ret2
            exact ⟨by rw [HE.out]; rfl, rfl⟩
          · have hdb := digitI_bd hp
            have HN := box (HQ.out.trans (congrArg qvEnd (by rw [hd, qvD_cons, if_pos hp] : qvD qv (wtOf k) (s.data.toList.drop k) = qvD (qv + ((s[k].toNat : Int) - 48) * wtOf k) (wtOf k / 10) (s.data.toList.drop (k + 1)))))
            have hk4 : k = 2 ∨ k = 3 ∨ k = 4 := by omega
            clear hd HQ
            rcases hk4 with rfl | rfl | rfl
            · rw [show wtOf 2 = 100 from rfl] at HN ⊢
              go_wp2_with (go_at_call 88; refine (rDigit_any _ _ hb.1 hb.2).mono ?_; rintro e w' ⟨rfl, rfl⟩)
              go_round
              case rel => exact ⟨3, _, by go_num, rfl, by go_num, by omega, .inr (by omega), by omega, by omega, HN.out⟩
              case measure => simp [intOf]
            · rw [show wtOf 3 = 10 from rfl] at HN ⊢
              go_wp2_with (go_at_call 88; refine (rDigit_any _ _ hb.1 hb.2).mono ?_; rintro e w' ⟨rfl, rfl⟩)
              go_round
              case rel => exact ⟨4, _, by go_num, rfl, by go_num, by omega, .inr (by omega), by omega, by omega, HN.out⟩
              case measure => simp [intOf]
            · rw [show wtOf 4 = 1 from rfl] at HN ⊢
              rw [Int.mul_one] at HN
              go_wp2_with (go_at_call 88; refine (rDigit_any _ _ hb.1 hb.2).mono ?_; rintro e w' ⟨rfl, rfl⟩)
              go_round
              case rel => exact ⟨5, _, by go_num, rfl, by go_num, by omega, .inr (by omega), by omega, by omega, HN.out⟩
              case measure => simp [intOf]
        · have hsl : s.data.toList.length = s.size := by simp
          have HE : Box (qvL s.data.toList = qvEnd (some qv)) := box (by rw [HQ.out, List.drop_of_length_le (by omega)]; rfl)
          clear HQ hsl
          by_cases hbig : 1000 < qv
          · have HE2 : Box (qvL s.data.toList = none) := box (by rw [HE.out]; show (if 1000 < qv then none else some qv) = none; rw [if_pos hbig])
            go_wp2
            go_ret2
            exact ⟨by rw [HE2.out]; rfl, rfl⟩
          · have HE2 : Box (qvL s.data.toList = some qv) := box (by rw [HE.out]; show (if 1000 < qv then none else some qv) = some qv; rw [if_neg hbig])
            go_wp2
            go_ret2
            exact ⟨by rw [HE2.out]; rfl, rfl⟩
theorem rParseQ_any (s : ByteArray) (w : World) (hs : s.size ≤ 9223372036854775807) :
    Calls Tryz.prog 95 #[.string s] w fun e w' => e = .returned (qvT (qvL s.data.toList)) ∧ w = w' := by
  have hz : s.data.toList.length = s.size := by simp
  by_cases h0 : s.size = 0
  · have HE : Box (qvL s.data.toList = none) := box (by rw [List.eq_nil_of_length_eq_zero (by omega : s.data.toList.length = 0)]; rfl)
    have i1 : (s.size : Int) < 1 := by omega
    clear hz h0
    go_enter Tryz.func95, Tryz.ntmps95
    go_wp2
    go_ret2
    exact ⟨by rw [HE.out]; rfl, rfl⟩
  · by_cases h5 : 5 < s.size
    · have HE : Box (qvL s.data.toList = none) := box (qv_long (by omega))
      have i1 : ¬ (s.size : Int) < 1 := by omega
      have i2 : (5 : Int) < (s.size : Int) := by omega
      clear hz h0
      go_enter Tryz.func95, Tryz.ntmps95
      go_wp2
      go_ret2
      exact ⟨by rw [HE.out]; rfl, rfl⟩
    · have p0 : 0 < s.size := by omega
      have i1 : ¬ (s.size : Int) < 1 := by omega
      have i2 : ¬ (5 : Int) < (s.size : Int) := by omega
      by_cases ha : (s[0].toNat : Int) = 48 ∨ (s[0].toNat : Int) = 49
      · have ha8 : s[0] = 48 ∨ s[0] = 49 := ha.imp (byte8 (d := 48)) (byte8 (d := 49))
        by_cases h1 : s.size = 1
        · rcases ha with ha | ha
          · exact rParseQ_z1 s w p0 (by omega) ha h1
          · exact rParseQ_o1 s w p0 (by omega) ha h1
        · have p1 : 1 < s.size := by omega
          rcases h46 : ((s[1].toNat : Int) != 46) with _ | _
          · rcases ha with ha | ha
            · exact rParseQ_zm s w p0 (by omega) ha p1 h46
            · exact rParseQ_om s w p0 (by omega) ha p1 h46
          · have HE : Box (qvL s.data.toList = none) := box (by
              have hn : ¬ s[1] = 46 := by intro e; rw [e] at h46; exact absurd h46 (by decide)
              rw [list_second p1, qv_more, if_neg (fun q => hn q.2.2)])
            have i3 : (1 : Int) < (s.size : Int) := by omega
            clear hz h0 ha8 h1
            rcases ha with ha | ha
            all_goals
              go_enter Tryz.func95, Tryz.ntmps95
              go_wp2
              go_ret2
              exact ⟨by rw [HE.out]; rfl, rfl⟩
      · have HE : Box (qvL s.data.toList = none) := box (by
          rw [list_first p0]
          refine qv_first (fun q => ha (q.imp ?_ ?_))
          · intro e; rw [e]; rfl
          · intro e; rw [e]; rfl)
        have c8 : ((s[0].toNat : Int) != 48) = true := by rw [bne_iff_ne]; exact fun e => ha (.inl e)
        have c9 : ((s[0].toNat : Int) != 49) = true := by rw [bne_iff_ne]; exact fun e => ha (.inr e)
        clear hz h0 ha
        go_enter Tryz.func95, Tryz.ntmps95
        go_wp2
        go_ret2
        exact ⟨by rw [HE.out]; rfl, rfl⟩
end
section
open Go.RowKit
/-- a preference is returned, or a struct that says nothing -/
def MbrIs (o : Option QP) (e : Ending) : Prop := ∃ x q b, e = .returned (.tuple #[.agg #[.string x, .int .i64 q], .bool b]) ∧ o.isSome = b ∧ ∀ p, o = some p → p = (x, q)
theorem mbr_of {o : Option QP} {x : ByteArray} {q : Int} {b : Bool} (h1 : o.isSome = b) (h2 : ∀ p, o = some p → p = (x, q)) : MbrIs o (.returned (.tuple #[.agg #[.string x, .int .i64 q], .bool b])) := ⟨x, q, b, rfl, h1, h2⟩
theorem mbr_no {o : Option QP} {x : ByteArray} {q : Int} (h : Box (o = none)) : MbrIs o (.returned (.tuple #[.agg #[.string x, .int .i64 q], .bool false])) := mbr_of (by rw [h.out]; rfl) (fun p hp => by rw [h.out] at hp; cases hp)
theorem mem_acc_facts {o : Option QP} {v : List UInt8} {a b : ByteArray} {M L : List F} {ok : Bool} {y : ByteArray} {q : Int} (hM : ofM (rangeL v) = (a, b, M)) (hok : (rangeL v).isSome = ok)
    (h : o = (rangeL v).map fun m => (fmtPB (m.1 ++ (⟨#[47]⟩ : ByteArray) ++ m.2.1) L, q)) (hy : fmtMB (a, b, L) = y) : o.isSome = ok ∧ ∀ p, o = some p → p = (y, q) := by
  rw [h, ← hok]
  cases hr : rangeL v with
  | none => exact ⟨rfl, fun p hp => by cases hp⟩
  | some m =>
    rw [hr] at hM
    have hm : m = (a, b, M) := hM
    subst hm
    refine ⟨rfl, fun p hp => ?_⟩
    simp only [Option.map_some, Option.some.injEq] at hp
    rw [← hp, ← hy]; rfl
theorem mem_oth_facts {o : Option QP} {t z : Bool} {n : Nat} {x y : ByteArray} {q : Int} (hz : decide (n = 0) = z) (hy : x = y) (h : o = if (t && decide (n = 0)) = true then some (x, q) else none) : o.isSome = (t && z) ∧ ∀ p, o = some p → p = (y, q) := by
  rw [h, hz]
  cases t && z with
  | true => exact ⟨rfl, fun p hp => by cases hp; rw [hy]⟩
  | false => exact ⟨rfl, fun p hp => by cases hp⟩
theorem at_zero (n : Nat) : decide (n = 0) = ((n : Int) == 0) := by
  by_cases h : n = 0
  · rw [decide_eq_true h, h]; rfl
  · rw [decide_eq_false h, eq_comm, beq_eq_false_iff_ne]; omega
theorem par_of {s : ByteArray} {x : ByteArray} {K : List F} (h : parA s.data.toList = x ∧ parB s.data.toList = K ∧ parO s.data.toList = true) : parL s.data.toList = some (x.data.toList, K) := by
  obtain ⟨h1, h2, h3⟩ := h
  unfold parA at h1; unfold parB at h2; unfold parO at h3
  cases hp : parL s.data.toList with
  | none => rw [hp] at h3; cases h3
  | some m =>
    obtain ⟨v, L⟩ := m
    rw [hp] at h1 h2
    simp only at h1 h2
    rw [← h1, ← h2]; rfl
theorem par_off {s : ByteArray} (h : parO s.data.toList = false) : parL s.data.toList = none := by
  unfold parO at h
  cases hp : parL s.data.toList with
  | none => rfl
  | some m => rw [hp] at h; cases h
theorem range_len13 {x a b : ByteArray} {M : List F} (h : ofM (rangeL x.data.toList) = (a, b, M)) : a.size ≤ x.size ∧ b.size ≤ x.size := by
  have hz : x.data.toList.length = x.size := by simp
  cases hr : rangeL x.data.toList with
  | none => rw [hr] at h; cases h; exact ⟨Nat.zero_le _, Nat.zero_le _⟩
  | some m =>
    obtain ⟨c, d, N⟩ := m
    rw [hr] at h; cases h
    obtain ⟨_, _, h3, _⟩ := range_facts hr
    exact ⟨by omega, by omega⟩
theorem fs_take {w : World} {a : Option Addr} {K : List F} {n : Nat} (h : Fs w a K) : Fs w a (K.take n) := fun i hi => by
  have hi2 : i < K.length := by rw [List.length_take] at hi; omega
  rw [List.getElem_take]; exact h i hi2
theorem rFmt13_is {a b : ByteArray} {p : Option Addr} {n cap : Nat} {L : List F} {x : ByteArray} {w : World} (ha : a.size ≤ 30000) (hb : b.size ≤ 30000) (hn : Box (L.length = n)) (hl : Box (L.length ≤ 65536)) (hz : Box (∀ i (hi : i < L.length), L[i].1.size ≤ 65536 ∧ L[i].2.size ≤ 65536)) (hF : Fs w p L) (h : Box (fmtMB (a, b, L) = x)) :
    Calls Tryz.prog 96 #[.agg #[.string a, .string b, .slice p n cap]] w fun e w' => e = .returned (.string x) ∧ Below w.heap.size w w' := by
  have := rFmtType_any a b p cap L w ha hb hl.out hz (box hF)
  rw [hn.out, h.out] at this; exact this
theorem rRange_t13 {s : ByteArray} {b : Bool} {w : World} (hs : s.size ≤ 20000) (h : Box (rangeT s.data.toList = b)) :
    Calls Tryz.prog 97 #[.string s] w fun e w' => e = .returned (.bool b) ∧ Below w.heap.size w w' :=
  (rRangeT_any s w (by omega)).mono fun e w' ⟨h1, h2⟩ => ⟨by rw [h1, h.out], h2⟩
theorem rTok13_is {s : ByteArray} {b : Bool} {w : World} (hs : s.size ≤ maxLen) (h : Box (tokL s.data.toList = b)) :
    Calls Tryz.prog 48 #[.string s] w fun e w' => e = .returned (.bool b) ∧ w = w' :=
  (rToken_any s w hs).mono fun e w' ⟨h1, h2⟩ => ⟨by rw [h1, h.out], h2⟩
theorem rParseQ13_is {s : ByteArray} {q : Int} {b : Bool} {w : World} (hs : s.size ≤ 9223372036854775807) (h : Box (qvT (qvL s.data.toList) = .tuple #[.int .i64 q, .bool b])) :
    Calls Tryz.prog 95 #[.string s] w fun e w' => e = .returned (.tuple #[.int .i64 q, .bool b]) ∧ w = w' :=
  (rParseQ_any s w hs).mono fun e w' ⟨h1, h2⟩ => ⟨by rw [h1, h.out], h2⟩
theorem qual_at {K : List F} {j : Nat} {u : ByteArray} (h : atQ K = j) (hj : j < K.length) (hu : K[j].2 = u) : qualP K = qvL u.data.toList := by
  subst h
  unfold qualP
  rw [dif_pos hj, hu]
theorem qual_no {K : List F} (h : atQ K = K.length) : qualP K = some 1000 := by
  unfold qualP
  rw [dif_neg (by omega)]
def AtRel (K : List F) (i : Value) : Prop := ∃ j : Nat, i = .int .i64 j ∧ j ≤ K.length ∧ ∀ i (hi : i < K.length), i < j → isQ K[i] = false
theorem isQ_eq (n u : ByteArray) : (n.toList == [113]) = isQ (n, u) := by
  unfold isQ
  rw [toList_data]
  by_cases h : n = (⟨#[113]⟩ : ByteArray)
  · subst h; rfl
  · rw [decide_eq_false h, beq_eq_false_iff_ne]
    intro e
    apply h
    rw [bs_of n, e]; rfl
theorem kind_three (k : Int) : k = 1 ∨ (k = 2 ∧ k ≠ 1) ∨ (k ≠ 1 ∧ k ≠ 2) := by omega
set_option maxHeartbeats 4000000 in
theorem rMember_any (k : Int) (s : ByteArray) (w : World) (hk : InI64 k) (hs : s.size ≤ 20000) :
    Calls Tryz.prog 61 #[.int .i64 k, .string s] w fun e w' => MbrIs (memP k s.data.toList) e ∧ Below w.heap.size w w' := by
  obtain ⟨x, hx⟩ : ∃ x, parA s.data.toList = x := ⟨_, rfl⟩
  obtain ⟨K, hK⟩ : ∃ K, parB s.data.toList = K := ⟨_, rfl⟩
  have hs6 : s.size ≤ 65000 := by omega
  have hx6 : x.size ≤ 65000 := by have := parA_size s; rw [hx] at this; omega
  have hxx : x.size ≤ 20000 := by have := parA_size s; rw [hx] at this; omega
  have hx65 : x.size ≤ 65536 := by omega
  have hxm : x.size ≤ maxLen := by unfold maxLen; omega
  have hkd := kind_three k
  cases ho : parO s.data.toList with
  | false =>
    have HP := box (And.intro hx (And.intro hK ho))
    have HV : Box (memP k s.data.toList = none) := box (mem_none (par_off ho))
    clear hx hK ho hkd
    go_enter Tryz.func61, Tryz.ntmps61
    go_wp2_with fail
    refine (rParO_is hs6 HP).mono ?_; rintro e w1 ⟨a1, c1, rfl, hO1, hb1⟩
    obtain ⟨p9, c9, hv9, hFF, hcc⟩ := hO1.fs
    cases hv9
    have hC1 := box ((C2.new (.string ⟨#[]⟩) (.int .i64 0) w 55).next hb1)
    have B1 := box ((below_new w (.cells #[.string ⟨#[]⟩, .int .i64 0] 55)).trans (hb1.mono (below_new w _).size))
    have hF1 := box hFF
    clear hO1 hb1 hFF
    obtain ⟨⟨r0, r1⟩, ⟨f0, f1⟩⟩ := hC1.out
    go_wp2
    (try simp only [Exit.inBlock, Exit.then])
    refine bodyPost_ret (v := .tuple #[.agg #[.string ⟨#[]⟩, .int .i64 0], .bool false]) (by rw [results_cell_tmp rfl]; go_simp) rfl ?_
    exact ⟨mbr_no HV, below2 B1.out (Nat.le_refl _) _ _⟩
  | true =>
    have HP := box (And.intro hx (And.intro hK ho))
    have HPL := box (par_of HP.out)
    have hKlen : K.length ≤ 20000 := by have := (par_facts HPL.out).2.2.1; have hz : s.data.toList.length = s.size := by simp
                                        omega
    have hKz : Box (∀ i (hi : i < K.length), K[i].1.size ≤ 20000 ∧ K[i].2.size ≤ 20000) := box (fun i hi => by
      have h1 := (par_facts HPL.out).2.1
      have h2 := szF_at hi
      have hz : s.data.toList.length = s.size := by simp
      omega)
    clear hx hK ho
    go_enter Tryz.func61, Tryz.ntmps61
    go_wp2_with fail
    refine (rParO_is hs6 HP).mono ?_; rintro e w1 ⟨a1, c1, rfl, hO1, hb1⟩
    obtain ⟨p9, c9, hv9, hFF, hcc⟩ := hO1.fs
    cases hv9
    have hC1 := box ((C2.new (.string ⟨#[]⟩) (.int .i64 0) w 55).next hb1)
    have B1 := box ((below_new w (.cells #[.string ⟨#[]⟩, .int .i64 0] 55)).trans (hb1.mono (below_new w _).size))
    have hF1 := box hFF
    clear hO1 hb1 hFF
    go_wp2
    go_loop [9] (fun i => AtRel K i) (fun i => K.length - (intOf i).toNat)
    case atStart => exact ⟨0, rfl, Nat.zero_le _, fun i hi h => absurd h (by omega)⟩
    case round =>
      obtain ⟨j, rfl, hj, hno⟩ := hrel
      have HNO := box hno
      clear hno
      by_cases hlt : j < K.length
      · have hji : (j : Int) < (K.length : Int) := by omega
        obtain ⟨g, off, rfl, kc0, kc1⟩ := hF1.out j hlt
        obtain ⟨⟨n, u⟩, hnu⟩ : ∃ p, K[j] = p := ⟨_, rfl⟩
        rw [hnu] at kc0 kc1
        have hq := isQ_eq n u
        cases hqq : isQ (n, u) with
        | false =>
          rw [hqq] at hq
          have HN2 : Box (∀ i (hi : i < K.length), i < j + 1 → isQ K[i] = false) := box (fun i hi hij => by
            by_cases e : i = j
            · subst e; rw [hnu]; exact hqq
            · exact HNO.out i hi (by omega))
          clear hnu hqq
          go_wp2
          go_round
          case rel => exact ⟨j + 1, by go_num, hlt, HN2.out⟩
          case measure => simp [intOf]; omega
        | true =>
          rw [hqq] at hq
          have HPC : Box (atQ K = j) := box (atQ_is (fun i hi hij => HNO.out i hi hij) (.inr ⟨hlt, by rw [hnu]; exact hqq⟩))
          have HQV : Box (qualP K = qvL u.data.toList) := box (qual_at HPC.out hlt (by rw [hnu]))
          have huz : u.size ≤ 9223372036854775807 := by have := (hKz.out j hlt).2; rw [hnu] at this; exact Nat.le_trans this (by omega)
          clear hnu hqq
          cases hqv : qvL u.data.toList with
          | none =>
            have HQT : Box (qvT (qvL u.data.toList) = .tuple #[.int .i64 0, .bool false]) := box (by rw [hqv]; rfl)
            have HV : Box (memP k s.data.toList = none) := box (mem_noq HPL.out (by rw [HQV.out, hqv]))
            clear hqv hkd
            go_wp2_with fail
            refine (rParseQ13_is huz HQT).mono ?_; rintro e w2 ⟨rfl, rfl⟩
            obtain ⟨⟨r0, r1⟩, ⟨f0, f1⟩⟩ := hC1.out
            go_wp2
            (try simp only [Exit.inBlock, Exit.then])
            refine bodyPost_ret (v := .tuple #[.agg #[.string ⟨#[]⟩, .int .i64 0], .bool false]) (by rw [results_cell_tmp rfl]; go_simp) rfl ?_
            exact ⟨mbr_no HV, below2 B1.out (Nat.le_refl _) _ _⟩
          | some q =>
            have HQT : Box (qvT (qvL u.data.toList) = .tuple #[.int .i64 q, .bool true]) := box (by rw [hqv]; rfl)
            have HQ : Box (qualP K = some q) := box (by rw [HQV.out, hqv])
            clear hqv
            go_wp2_with fail
            refine (rParseQ13_is huz HQT).mono ?_; rintro e w2 ⟨rfl, rfl⟩
            clear kc0 kc1 hq
            obtain ⟨z, hz⟩ : ∃ z, ((j : Int) == 0) = z := ⟨_, rfl⟩
            have HZ : Box (decide ((j) = 0) = z) := box (by rw [← hz]; exact at_zero _)
            rcases hkd with rfl | ⟨rfl, hk1⟩ | ⟨hk1, hk2⟩
            · obtain ⟨⟨a, b, M⟩, hM⟩ : ∃ m, ofM (rangeL x.data.toList) = m := ⟨_, rfl⟩
              obtain ⟨ok, hok⟩ : ∃ ok, (rangeL x.data.toList).isSome = ok := ⟨_, rfl⟩
              obtain ⟨y, hy⟩ : ∃ y, fmtMB (a, b, K.take (j)) = y := ⟨_, rfl⟩
              have hlen := range_len13 hM
              have HM := box (And.intro hM hok)
              have HY := box hy
              have ha : a.size ≤ 30000 := by omega
              have hb : b.size ≤ 30000 := by omega
              have hTL : Box ((K.take (j)).length = j) := box (by rw [List.length_take]; omega)
              have lK : Box ((K.take (j)).length ≤ 65536) := box (by rw [List.length_take]; omega)
              have zK : Box (∀ i (hi : i < (K.take (j)).length), (K.take (j))[i].1.size ≤ 65536 ∧ (K.take (j))[i].2.size ≤ 65536) := box (fun i hi => by
                have hi2 : i < K.length := by rw [List.length_take] at hi; omega
                have := hKz.out i hi2
                rw [List.getElem_take]; omega)
              have hcap : (j : Int) ≤ (c1 : Int) := by omega
              have hcap0 : (0 : Int) ≤ (j : Int) := by omega
              clear hM hok hy hlen
              have HMB : Box ((memP 1 s.data.toList).isSome = ok ∧ ∀ p, memP 1 s.data.toList = some p → p = (y, q)) := box (mem_acc_facts HM.out.1 HM.out.2 (by have e := mem_acc HPL.out HQ.out; rwa [HPC.out] at e) HY.out)
              go_wp2_with fail
              refine (rRange_is hx6 HM).mono ?_; rintro e w2 ⟨p2, c2, rfl, hO2, hb2⟩
              have hnw := below_new w2 (.cells #[.string a, .string b, .slice (some ⟨g, off, none⟩) j c1] 77)
              have T2 := box ((hC1.out.next hb2).next hnw)
              have T3 := box (B1.out.trans ((hb2.trans (hnw.mono hb2.size)).mono B1.out.size))
              have T4 : Box (Fs (w2.alloc (.cells #[.string a, .string b, .slice (some ⟨g, off, none⟩) j c1] 77)) (some ⟨g, off, none⟩) (K.take (j))) := box (fs_take ((hF1.out.below hb2).below hnw))
              clear hO2 hb2 hnw
              go_wp2_with fail
              refine (rFmt13_is ha hb hTL lK zK T4.out HY).mono ?_; rintro e w3 ⟨rfl, hb3⟩
              have CZ := T2.out.next hb3
              have B3 := box (T3.out.trans (hb3.mono T3.out.size))
              clear hb3
              obtain ⟨⟨r0, r1⟩, ⟨f0, f1⟩⟩ := CZ
              go_wp2
              (try simp only [Exit.inBlock, Exit.then])
              refine bodyPost_ret (v := .tuple #[.agg #[.string y, .int .i64 q], .bool ok]) (by rw [results_cell_tmp rfl]; go_simp) rfl ?_
              exact ⟨mbr_of HMB.out.1 HMB.out.2, below2 B3.out (Nat.le_refl _) _ _⟩
            · obtain ⟨y, hy⟩ : ∃ y, bs (canL 2 x.data.toList) = y := ⟨_, rfl⟩
              have HY := box hy
              clear hy
              cases ht : rangeT x.data.toList with
              | true =>
                have HT := box ht
                have HMB : Box ((memP 2 s.data.toList).isSome = z ∧ ∀ p, memP 2 s.data.toList = some p → p = (y, q)) := box (mem_oth_facts (t := true) HZ.out HY.out (by have e := mem_oth hk1 HPL.out HQ.out; rw [HPC.out, if_pos rfl, ht] at e; exact e))
                clear ht
                go_wp2_with fail
                refine (rRange_t13 hxx HT).mono ?_; rintro e w2 ⟨rfl, hb2⟩
                have B2 := box (B1.out.trans (hb2.mono B1.out.size))
                have C2x := box (hC1.out.next hb2)
                clear hb2
                go_wp2_with fail
                refine (rCan_is ⟨by omega, by omega⟩ hx65 HY).mono ?_; rintro e w3 ⟨rfl, hb3⟩
                have CZ := C2x.out.next hb3
                have B3 := box (B2.out.trans (hb3.mono B2.out.size))
                clear hb3
                obtain ⟨⟨r0, r1⟩, ⟨f0, f1⟩⟩ := CZ
                go_wp2
                (try simp only [Exit.inBlock, Exit.then])
                refine bodyPost_ret (v := .tuple #[.agg #[.string y, .int .i64 q], .bool z]) (by rw [results_cell_tmp rfl]; go_simp) rfl ?_
                exact ⟨mbr_of HMB.out.1 HMB.out.2, below2 B3.out (Nat.le_refl _) _ _⟩
              | false =>
                have HT := box ht
                have HMB : Box ((memP 2 s.data.toList).isSome = false ∧ ∀ p, memP 2 s.data.toList = some p → p = (y, q)) := box (mem_oth_facts (t := false) HZ.out HY.out (by have e := mem_oth hk1 HPL.out HQ.out; rw [HPC.out, if_pos rfl, ht] at e; exact e))
                clear ht
                go_wp2_with fail
                refine (rRange_t13 hxx HT).mono ?_; rintro e w2 ⟨rfl, hb2⟩
                have B2 := box (B1.out.trans (hb2.mono B1.out.size))
                have C2x := box (hC1.out.next hb2)
                clear hb2
                go_wp2_with fail
                refine (rCan_is ⟨by omega, by omega⟩ hx65 HY).mono ?_; rintro e w3 ⟨rfl, hb3⟩
                have CZ := C2x.out.next hb3
                have B3 := box (B2.out.trans (hb3.mono B2.out.size))
                clear hb3
                obtain ⟨⟨r0, r1⟩, ⟨f0, f1⟩⟩ := CZ
                go_wp2
                (try simp only [Exit.inBlock, Exit.then])
                refine bodyPost_ret (v := .tuple #[.agg #[.string y, .int .i64 q], .bool false]) (by rw [results_cell_tmp rfl]; go_simp) rfl ?_
                exact ⟨mbr_of HMB.out.1 HMB.out.2, below2 B3.out (Nat.le_refl _) _ _⟩
            · have e1 : (k == 1) = false := by rw [beq_eq_false_iff_ne]; exact hk1
              have e2 : (k == 2) = false := by rw [beq_eq_false_iff_ne]; exact hk2
              obtain ⟨y, hy⟩ : ∃ y, bs (canL k x.data.toList) = y := ⟨_, rfl⟩
              have HY := box hy
              clear hy
              cases ht : tokL x.data.toList with
              | true =>
                have HT := box ht
                have HMB : Box ((memP k s.data.toList).isSome = z ∧ ∀ p, memP k s.data.toList = some p → p = (y, q)) := box (mem_oth_facts (t := true) HZ.out HY.out (by have e := mem_oth hk1 HPL.out HQ.out; rw [HPC.out, if_neg hk2, ht] at e; exact e))
                clear ht
                go_wp2_with fail
                refine (rTok13_is hxm HT).mono ?_; rintro e w2 ⟨rfl, rfl⟩
                have B2 := B1
                have C2x := hC1
                go_wp2_with fail
                refine (rCan_is hk hx65 HY).mono ?_; rintro e w3 ⟨rfl, hb3⟩
                have CZ := C2x.out.next hb3
                have B3 := box (B2.out.trans (hb3.mono B2.out.size))
                clear hb3
                obtain ⟨⟨r0, r1⟩, ⟨f0, f1⟩⟩ := CZ
                go_wp2
                (try simp only [Exit.inBlock, Exit.then])
                refine bodyPost_ret (v := .tuple #[.agg #[.string y, .int .i64 q], .bool z]) (by rw [results_cell_tmp rfl]; go_simp) rfl ?_
                exact ⟨mbr_of HMB.out.1 HMB.out.2, below2 B3.out (Nat.le_refl _) _ _⟩
              | false =>
                have HT := box ht
                have HMB : Box ((memP k s.data.toList).isSome = false ∧ ∀ p, memP k s.data.toList = some p → p = (y, q)) := box (mem_oth_facts (t := false) HZ.out HY.out (by have e := mem_oth hk1 HPL.out HQ.out; rw [HPC.out, if_neg hk2, ht] at e; exact e))
                clear ht
                go_wp2_with fail
                refine (rTok13_is hxm HT).mono ?_; rintro e w2 ⟨rfl, rfl⟩
                have B2 := B1
                have C2x := hC1
                go_wp2_with fail
                refine (rCan_is hk hx65 HY).mono ?_; rintro e w3 ⟨rfl, hb3⟩
                have CZ := C2x.out.next hb3
                have B3 := box (B2.out.trans (hb3.mono B2.out.size))
                clear hb3
                obtain ⟨⟨r0, r1⟩, ⟨f0, f1⟩⟩ := CZ
                go_wp2
                (try simp only [Exit.inBlock, Exit.then])
                refine bodyPost_ret (v := .tuple #[.agg #[.string y, .int .i64 q], .bool false]) (by rw [results_cell_tmp rfl]; go_simp) rfl ?_
                exact ⟨mbr_of HMB.out.1 HMB.out.2, below2 B3.out (Nat.le_refl _) _ _⟩
      · have hje : j = K.length := by omega
        subst hje
        have hji : ¬ (K.length : Int) < (K.length : Int) := by omega
        have HPC : Box (atQ K = K.length) := box (atQ_is (fun i hi _ => HNO.out i hi hi) (.inl rfl))
        have HQ : Box (qualP K = some 1000) := box (qual_no HPC.out)
        obtain ⟨z, hz⟩ : ∃ z, ((K.length : Int) == 0) = z := ⟨_, rfl⟩
        have HZ : Box (decide ((K.length) = 0) = z) := box (by rw [← hz]; exact at_zero _)
        rcases hkd with rfl | ⟨rfl, hk1⟩ | ⟨hk1, hk2⟩
        · obtain ⟨⟨a, b, M⟩, hM⟩ : ∃ m, ofM (rangeL x.data.toList) = m := ⟨_, rfl⟩
          obtain ⟨ok, hok⟩ : ∃ ok, (rangeL x.data.toList).isSome = ok := ⟨_, rfl⟩
          obtain ⟨y, hy⟩ : ∃ y, fmtMB (a, b, K.take (K.length)) = y := ⟨_, rfl⟩
          have hlen := range_len13 hM
          have HM := box (And.intro hM hok)
          have HY := box hy
          have ha : a.size ≤ 30000 := by omega
          have hb : b.size ≤ 30000 := by omega
          have hTL : Box ((K.take (K.length)).length = K.length) := box (by rw [List.length_take]; omega)
          have lK : Box ((K.take (K.length)).length ≤ 65536) := box (by rw [List.length_take]; omega)
          have zK : Box (∀ i (hi : i < (K.take (K.length)).length), (K.take (K.length))[i].1.size ≤ 65536 ∧ (K.take (K.length))[i].2.size ≤ 65536) := box (fun i hi => by
            have hi2 : i < K.length := by rw [List.length_take] at hi; omega
            have := hKz.out i hi2
            rw [List.getElem_take]; omega)
          have hcap : (K.length : Int) ≤ (c1 : Int) := by omega
          have hcap0 : (0 : Int) ≤ (K.length : Int) := by omega
          clear hM hok hy hlen
          have HMB : Box ((memP 1 s.data.toList).isSome = ok ∧ ∀ p, memP 1 s.data.toList = some p → p = (y, 1000)) := box (mem_acc_facts HM.out.1 HM.out.2 (by have e := mem_acc HPL.out HQ.out; rwa [HPC.out] at e) HY.out)
          go_wp2_with fail
          refine (rRange_is hx6 HM).mono ?_; rintro e w2 ⟨p2, c2, rfl, hO2, hb2⟩
          have hnw := below_new w2 (.cells #[.string a, .string b, .slice a1 K.length c1] 77)
          have T2 := box ((hC1.out.next hb2).next hnw)
          have T3 := box (B1.out.trans ((hb2.trans (hnw.mono hb2.size)).mono B1.out.size))
          have T4 : Box (Fs (w2.alloc (.cells #[.string a, .string b, .slice a1 K.length c1] 77)) a1 (K.take (K.length))) := box (fs_take ((hF1.out.below hb2).below hnw))
          clear hO2 hb2 hnw
          go_wp2_with fail
          refine (rFmt13_is ha hb hTL lK zK T4.out HY).mono ?_; rintro e w3 ⟨rfl, hb3⟩
          have CZ := T2.out.next hb3
          have B3 := box (T3.out.trans (hb3.mono T3.out.size))
          clear hb3
          obtain ⟨⟨r0, r1⟩, ⟨f0, f1⟩⟩ := CZ
          go_wp2
          (try simp only [Exit.inBlock, Exit.then])
          refine bodyPost_ret (v := .tuple #[.agg #[.string y, .int .i64 1000], .bool ok]) (by rw [results_cell_tmp rfl]; go_simp) rfl ?_
          exact ⟨mbr_of HMB.out.1 HMB.out.2, below2 B3.out (Nat.le_refl _) _ _⟩
        · obtain ⟨y, hy⟩ : ∃ y, bs (canL 2 x.data.toList) = y := ⟨_, rfl⟩
          have HY := box hy
          clear hy
          cases ht : rangeT x.data.toList with
          | true =>
            have HT := box ht
            have HMB : Box ((memP 2 s.data.toList).isSome = z ∧ ∀ p, memP 2 s.data.toList = some p → p = (y, 1000)) := box (mem_oth_facts (t := true) HZ.out HY.out (by have e := mem_oth hk1 HPL.out HQ.out; rw [HPC.out, if_pos rfl, ht] at e; exact e))
            clear ht
            go_wp2_with fail
            refine (rRange_t13 hxx HT).mono ?_; rintro e w2 ⟨rfl, hb2⟩
            have B2 := box (B1.out.trans (hb2.mono B1.out.size))
            have C2x := box (hC1.out.next hb2)
            clear hb2
            go_wp2_with fail
            refine (rCan_is ⟨by omega, by omega⟩ hx65 HY).mono ?_; rintro e w3 ⟨rfl, hb3⟩
            have CZ := C2x.out.next hb3
            have B3 := box (B2.out.trans (hb3.mono B2.out.size))
            clear hb3
            obtain ⟨⟨r0, r1⟩, ⟨f0, f1⟩⟩ := CZ
            go_wp2
            (try simp only [Exit.inBlock, Exit.then])
            refine bodyPost_ret (v := .tuple #[.agg #[.string y, .int .i64 1000], .bool z]) (by rw [results_cell_tmp rfl]; go_simp) rfl ?_
            exact ⟨mbr_of HMB.out.1 HMB.out.2, below2 B3.out (Nat.le_refl _) _ _⟩
          | false =>
            have HT := box ht
            have HMB : Box ((memP 2 s.data.toList).isSome = false ∧ ∀ p, memP 2 s.data.toList = some p → p = (y, 1000)) := box (mem_oth_facts (t := false) HZ.out HY.out (by have e := mem_oth hk1 HPL.out HQ.out; rw [HPC.out, if_pos rfl, ht] at e; exact e))
            clear ht
            go_wp2_with fail
            refine (rRange_t13 hxx HT).mono ?_; rintro e w2 ⟨rfl, hb2⟩
            have B2 := box (B1.out.trans (hb2.mono B1.out.size))
            have C2x := box (hC1.out.next hb2)
            clear hb2
            go_wp2_with fail
            refine (rCan_is ⟨by omega, by omega⟩ hx65 HY).mono ?_; rintro e w3 ⟨rfl, hb3⟩
            have CZ := C2x.out.next hb3
            have B3 := box (B2.out.trans (hb3.mono B2.out.size))
            clear hb3
            obtain ⟨⟨r0, r1⟩, ⟨f0, f1⟩⟩ := CZ
            go_wp2
            (try simp only [Exit.inBlock, Exit.then])
            refine bodyPost_ret (v := .tuple #[.agg #[.string y, .int .i64 1000], .bool false]) (by rw [results_cell_tmp rfl]; go_simp) rfl ?_
            exact ⟨mbr_of HMB.out.1 HMB.out.2, below2 B3.out (Nat.le_refl _) _ _⟩
        · have e1 : (k == 1) = false := by rw [beq_eq_false_iff_ne]; exact hk1
          have e2 : (k == 2) = false := by rw [beq_eq_false_iff_ne]; exact hk2
          obtain ⟨y, hy⟩ : ∃ y, bs (canL k x.data.toList) = y := ⟨_, rfl⟩
          have HY := box hy
          clear hy
          cases ht : tokL x.data.toList with
          | true =>
            have HT := box ht
            have HMB : Box ((memP k s.data.toList).isSome = z ∧ ∀ p, memP k s.data.toList = some p → p = (y, 1000)) := box (mem_oth_facts (t := true) HZ.out HY.out (by have e := mem_oth hk1 HPL.out HQ.out; rw [HPC.out, if_neg hk2, ht] at e; exact e))
            clear ht
            go_wp2_with fail
            refine (rTok13_is hxm HT).mono ?_; rintro e w2 ⟨rfl, rfl⟩
            have B2 := B1
            have C2x := hC1
            go_wp2_with fail
            refine (rCan_is hk hx65 HY).mono ?_; rintro e w3 ⟨rfl, hb3⟩
            have CZ := C2x.out.next hb3
            have B3 := box (B2.out.trans (hb3.mono B2.out.size))
            clear hb3
            obtain ⟨⟨r0, r1⟩, ⟨f0, f1⟩⟩ := CZ
            go_wp2
            (try simp only [Exit.inBlock, Exit.then])
            refine bodyPost_ret (v := .tuple #[.agg #[.string y, .int .i64 1000], .bool z]) (by rw [results_cell_tmp rfl]; go_simp) rfl ?_
            exact ⟨mbr_of HMB.out.1 HMB.out.2, below2 B3.out (Nat.le_refl _) _ _⟩
          | false =>
            have HT := box ht
            have HMB : Box ((memP k s.data.toList).isSome = false ∧ ∀ p, memP k s.data.toList = some p → p = (y, 1000)) := box (mem_oth_facts (t := false) HZ.out HY.out (by have e := mem_oth hk1 HPL.out HQ.out; rw [HPC.out, if_neg hk2, ht] at e; exact e))
            clear ht
            go_wp2_with fail
            refine (rTok13_is hxm HT).mono ?_; rintro e w2 ⟨rfl, rfl⟩
            have B2 := B1
            have C2x := hC1
            go_wp2_with fail
            refine (rCan_is hk hx65 HY).mono ?_; rintro e w3 ⟨rfl, hb3⟩
            have CZ := C2x.out.next hb3
            have B3 := box (B2.out.trans (hb3.mono B2.out.size))
            clear hb3
            obtain ⟨⟨r0, r1⟩, ⟨f0, f1⟩⟩ := CZ
            go_wp2
            (try simp only [Exit.inBlock, Exit.then])
            refine bodyPost_ret (v := .tuple #[.agg #[.string y, .int .i64 1000], .bool false]) (by rw [results_cell_tmp rfl]; go_simp) rfl ?_
            exact ⟨mbr_of HMB.out.1 HMB.out.2, below2 B3.out (Nat.le_refl _) _ _⟩
end
section
open Go.RowKit
def prefsL (k : Int) (L : List F) : List QP := (allL (nameK k) L).filterMap (memP k)
def prefsO (k : Int) (L : List F) : Bool := decide (nameK k ≠ ⟨#[]⟩) && L.any (nmd (nameK k))
def prefsV (k : Int) (L : List F) : List QP := if prefsO k L = true then prefsL k L else []
theorem all_mem {nm : ByteArray} {L : List F} {m : List UInt8} (h : m ∈ allL nm L) : ∃ x ∈ getL nm L, m.length ≤ x.size := by
  unfold allL at h
  have h := List.mem_of_mem_take h
  unfold allF at h
  obtain ⟨x, hx, hm⟩ := List.mem_flatMap.1 h
  refine ⟨x, hx, ?_⟩
  unfold splitL memL at hm
  have hm := (List.mem_filter.1 (List.mem_of_mem_take hm)).1
  obtain ⟨p, hp, rfl⟩ := List.mem_map.1 hm
  have h1 := cut_small _ _ _ _ p hp
  have h2 := trim_le p
  have hz : x.data.toList.length = x.size := by simp
  simp only [List.length_nil, Nat.zero_add] at h1
  omega
theorem fm_next {k : Int} {A : List (List UInt8)} {j : Nat} (h : j < A.length) : (A.take (j + 1)).filterMap (memP k) = (A.take j).filterMap (memP k) ++ (match memP k A[j] with | some p => [p] | none => []) := by
  rw [List.take_succ_eq_append_getElem h, List.filterMap_append]
  congr 1
  cases hm : memP k A[j] with
  | none => simp [hm]
  | some p => simp [hm]
def PfRel (k : Int) (A : List (List UInt8)) (W : World) (v i : Value) (wr : World) : Prop :=
  ∃ j : Nat, i = .int .i64 j ∧ j ≤ A.length ∧ OwnQ wr W.heap.size v ((A.take j).filterMap (memP k)) ∧ ((A.take j).filterMap (memP k)).length ≤ j ∧ Below W.heap.size W wr
theorem rMbr_is {k : Int} {s : ByteArray} {o : Option QP} {w : World} (hk : InI64 k) (hs : s.size ≤ 20000) (h : Box (memP k s.data.toList = o)) :
    Calls Tryz.prog 61 #[.int .i64 k, .string s] w fun e w' => MbrIs o e ∧ Below w.heap.size w w' :=
  (rMember_any k s w hk hs).mono fun e w' ⟨h1, h2⟩ => ⟨by rw [h.out] at h1; exact h1, h2⟩
set_option maxHeartbeats 2000000 in
theorem rPrefs_any (k : Int) (a : Option Addr) (cap : Nat) (L : List F) (w : World) (hk : InI64 k) (S : Box (Sm L)) (hv6 : Box (∀ x ∈ getL (nameK k) L, x.size ≤ 65000)) (hmz : Box (∀ m ∈ allL (nameK k) L, m.length ≤ 20000)) (hF : Box (Fs w a L)) :
    Calls Tryz.prog 32 #[.int .i64 k, .slice a L.length cap] w fun e w' => ∃ v, e = .returned (.tuple #[v, .bool (prefsO k L)]) ∧ OwnQ w' w.heap.size v (prefsV k L) ∧ Below w.heap.size w w' := by
  obtain ⟨nm, hnm⟩ : ∃ nm, nameK k = nm := ⟨_, rfl⟩
  have HN := box hnm
  have hnz : nm.size ≤ 15 := by rw [← hnm]; exact name_size k
  have hm65 : Box (nm.size ≤ 65536) := box (by omega)
  have hl := S.out.1
  by_cases h0 : nm = ⟨#[]⟩
  · have HO : Box (prefsO k L = false) := box (by unfold prefsO; rw [hnm, decide_eq_false (by simp [h0]), Bool.false_and])
    have HV : Box (prefsV k L = []) := box (by unfold prefsV; rw [HO.out]; rfl)
    subst h0
    clear hnm
    go_enter Tryz.func32, Tryz.ntmps32
    go_wp2_with fail
    refine (rName_is hk HN).mono ?_; rintro e w1 ⟨rfl, rfl⟩
    go_wp2
    go_ret2
    exact ⟨_, by rw [HO.out]; rfl, by rw [HV.out]; exact OwnQ.nil _ _, Below.refl _ _⟩
  · have e0 : (nm.toList == []) = false := by
      rw [toList_data, beq_eq_false_iff_ne]
      intro e; apply h0; rw [bs_of nm, e]; rfl
    have HNE : Box (decide (nameK k ≠ ⟨#[]⟩) = true) := box (decide_eq_true (by rw [hnm]; exact h0))
    rw [hnm] at hv6 hmz
    clear h0 hnm
    cases hh : L.any (nmd nm) with
    | false =>
      have HH := box hh
      have HO : Box (prefsO k L = false) := box (by unfold prefsO; rw [HN.out, hh, Bool.and_false])
      have HV : Box (prefsV k L = []) := box (by unfold prefsV; rw [HO.out]; rfl)
      clear hh
      go_enter Tryz.func32, Tryz.ntmps32
      go_wp2_with fail
      refine (rName_is hk HN).mono ?_; rintro e w1 ⟨rfl, rfl⟩
      go_wp2_with fail
      refine (rName_is hk HN).mono ?_; rintro e w1 ⟨rfl, rfl⟩
      go_wp2_with fail
      refine (rHas_any a cap L nm _ hl S hm65 hF).mono ?_; rintro e w1 ⟨rfl, hb1⟩; rw [HH.out]
      go_wp2
      go_ret2
      exact ⟨_, by rw [HO.out]; rfl, by rw [HV.out]; exact OwnQ.nil _ _, hb1⟩
    | true =>
      have HH := box hh
      have HO : Box (prefsO k L = true) := box (by unfold prefsO; rw [HNE.out, HN.out, hh]; rfl)
      obtain ⟨A, hA⟩ : ∃ A, allL nm L = A := ⟨_, rfl⟩
      have HV : Box (prefsV k L = A.filterMap (memP k)) := box (by unfold prefsV prefsL; rw [HO.out, HN.out, hA]; rfl)
      have HAB : Box (allB nm L = A.map bs) := box (by unfold allB; rw [hA])
      have hA64 : A.length ≤ 64 := by rw [← hA]; unfold allL; rw [List.length_take]; omega
      have HSZ : Box (∀ j (hj : j < A.length), A[j].length ≤ 20000) := box (fun j hj => by
        have hm : A[j] ∈ allL nm L := by rw [hA]; exact List.getElem_mem hj
        exact hmz.out _ hm)
      clear hh hA
      go_enter Tryz.func32, Tryz.ntmps32
      go_wp2_with fail
      refine (rName_is hk HN).mono ?_; rintro e w1 ⟨rfl, rfl⟩
      go_wp2_with fail
      refine (rName_is hk HN).mono ?_; rintro e w1 ⟨rfl, rfl⟩
      go_wp2_with fail
      refine (rHas_any a cap L nm _ hl S hm65 hF).mono ?_; rintro e w1 ⟨rfl, hb1⟩; rw [HH.out]
      have B1 := box hb1
      have F1 := box (hF.out.below hb1)
      clear hb1
      go_wp2_with fail
      refine (rName_is hk HN).mono ?_; rintro e w2 ⟨rfl, rfl⟩
      go_wp2_with fail
      refine (rAll_any a cap L nm _ S hv6 hm65 F1).mono ?_; rintro e w2 ⟨v2, rfl, hO2, hb2⟩
      rw [HAB.out] at hO2
      obtain ⟨a2, c2, rfl, hS2, hc2⟩ := hO2.ss
      rw [List.length_map] at hc2 ⊢
      have B2 := box (B1.out.trans (hb2.mono B1.out.size))
      have S2 := box hS2
      clear hO2 hb2 hS2
      go_wp2
      go_loopw [7, 8, 9, 10] (fun v i _ _ wr => PfRel k A w2 v i wr) (fun _ i _ _ _ => A.length - (intOf i).toNat)
      case atStart => exact ⟨0, rfl, Nat.zero_le _, OwnQ.nil _ _, Nat.le_refl _, Below.refl _ _⟩
      case round =>
        obtain ⟨j, rfl, hj, hO, hlen, hbel⟩ := hrel
        obtain ⟨acc, hacc⟩ : ∃ acc, (A.take j).filterMap (memP k) = acc := ⟨_, rfl⟩
        have HACC := box hacc
        rw [hacc] at hO hlen
        obtain ⟨av, cv, rfl, _, _⟩ := hO.qs
        have O0 := box hO
        have BL := box hbel
        have SS := S2.out.below hbel
        clear hO hbel hacc
        by_cases hlt : j < A.length
        · have hji : (j : Int) < (A.length : Int) := by omega
          obtain ⟨m, hm⟩ : ∃ m, A[j] = m := ⟨_, rfl⟩
          have HNX := box (fm_next (k := k) hlt)
          rw [HACC.out, hm] at HNX
          have hmz : (bs m).size ≤ 20000 := by rw [bs_size, ← hm]; exact HSZ.out j hlt
          obtain ⟨g, off, rfl, cA⟩ := SS j (by simpa using hlt)
          have cA' : wr.cell? ⟨g, off + j, none⟩ = some (.string (bs m)) := by rw [cA]; simp [hm]
          obtain ⟨o, ho⟩ : ∃ o, memP k m = o := ⟨_, rfl⟩
          have HO2 : Box (memP k (bs m).data.toList = o) := box ho
          rw [ho] at HNX
          clear cA SS hm ho
          go_wp2_with fail
          refine (rMbr_is hk hmz HO2).mono ?_; rintro e w3 ⟨⟨x, q, b, rfl, hb, hp⟩, hb3⟩
          have O3 := box (own_below O0.out hb3)
          have B3 := box (BL.out.trans (hb3.mono BL.out.size))
          have HB := box hb
          have HPP := box hp
          clear hb3 hb hp cA'
          cases b with
          | false =>
            have HE : Box ((A.take (j + 1)).filterMap (memP k) = acc) := box (by
              rw [HNX.out]
              have h := HB.out
              cases o with
              | none => simp
              | some p => cases h)
            go_wp2
            go_roundw
            case rel => exact ⟨j + 1, by go_num, hlt, by rw [HE.out]; exact own_below O3.out (below_new _ _), by rw [HE.out]; omega, B3.out.alloc B3.out.size _⟩
            case measure => simp [intOf]; omega
          | true =>
            have HE : Box ((A.take (j + 1)).filterMap (memP k) = acc ++ [(x, q)]) := box (by
              rw [HNX.out]
              have h := HB.out
              have h2 := HPP.out
              cases o with
              | none => cases h
              | some p => rw [h2 p rfl])
            go_wp2_with (at_builtin; refine wpList_append_prf _ rfl (.tmp 41) (.tmp 43) rfl w2.heap.size _ acc rfl ?a1 _ _ rfl x q ?b1 ?b2 ?c1 ?d1 ?_)
            case a1 => exact own_below (own_below O3.out (below_new _ _)) (below_new _ _)
            case b1 => go_simp
            case b2 => go_simp
            case c1 => omega
            case d1 => have := B3.out.size; simp; omega
            intro v5 w5 hO5 hb5
            have O5 := box hO5
            have B5 := box (((B3.out.alloc B3.out.size _).alloc (B3.out.alloc B3.out.size _).size _).trans hb5)
            clear hO5 hb5
            go_wp2
            go_roundw
            case rel => exact ⟨j + 1, by go_num, hlt, by rw [HE.out]; exact O5.out, by rw [HE.out, List.length_append]; simp; omega, B5.out⟩
            case measure => simp [intOf]; omega
        · have hji : ¬ (j : Int) < (A.length : Int) := by omega
          have HE : Box (prefsV k L = acc) := box (by rw [HV.out, ← HACC.out, List.take_of_length_le (by omega)])
          clear SS
          go_wp2
          go_ret2
          exact ⟨_, by rw [HO.out]; rfl, by rw [HE.out]; exact own_le O0.out B2.out.size, B2.out.trans (BL.out.mono B2.out.size)⟩
end
end Go.Proofs.YtklfpkaemnhdhaaGreatDoor.Asc
