/- Merged texts: LstRem LstClo LanRef LanRef2 CodRef AccRef2 AccRef3. -/
import Derived.Test.YtcnohcbhnldglaaGreatM01
import Derived.Test.YtcnohcbhnldglaaGreatM03
import Derived.Test.YtcnohcbhnldglaaGreatM04
import Derived.Test.YtcnohcbhnldglaaGreatM05
import Derived.Test.YtcnohcbhnldglaaGreatM06
import Derived.Test.YtcnohcbhnldglaaGreatM07
import Derived.Test.YtcnohcbhnldglaaGreatM08
import Derived.Deep.RegionHeld3
import Derived.Laws.EntriesVeiled
import Derived.Lib.Hide
import Derived.Lib.SliceRun
import Derived.LoopTactic
set_option linter.unusedVariables false
set_option linter.unusedSimpArgs false
set_option maxRecDepth 100000
namespace Go.Proofs.YtcnohcbhnldglaaGreat.Asc
section
open Go.RowKit
/-- what the function value of Remove has captured: a variable that holds the function value of named -/
def Cap (g2 g1 : Nat) (nm : ByteArray) (w : World) : Prop := w.cell? ⟨g2, 0, none⟩ = some (nmV g1) ∧ Nm g1 nm w
theorem Cap.below {w w' : World} {g2 g1 : Nat} {nm : ByteArray} (h : Cap g2 g1 nm w) (hb : Below w.heap.size w w') : Cap g2 g1 nm w' := ⟨(hb.cell (cell_lt h.1)).trans h.1, h.2.below hb⟩
end
section
open Go.RowKit
theorem OwnF.empty (w : World) : OwnF (w.alloc (.cells #[] 45)) w.heap.size (.slice (some ⟨w.heap.size, 0, none⟩) 0 0) [] :=
  ⟨rfl, .inr ⟨_, _, _, rfl, Nat.le_refl _, heap_alloc_new w _, Nat.zero_le _, by unfold maxLen; omega, rfl, rfl⟩⟩
end
section
open Go.RowKit
/-- append of one string, at a step of a region that draws its order -/
theorem step_append_str (w : World) {ops : Array Oper} {o : Oper} {a : Act} {K : Act → World → Prop} {Q : Exit → Act → World → Prop} {E : Prop} (hgd : o.guard = none) (s x : Operand)
    (ho : o.op = .call { callee := .builtin .append, args := #[s, x], argTypes := #[33, 33] })
    (B : Nat) (v : Value) (L : List ByteArray) (hs : a.eval s = v) (hown : OwnS w B v L)
    (g : Nat) (c : Nat) (hx : a.eval x = .slice (some ⟨g, 0, none⟩) 1 c) (u : ByteArray) (h0 : w.cell? ⟨g, 0, none⟩ = some (.string u)) (hl : L.length ≤ 65536) (hB : B ≤ w.heap.size)
    (h : ∀ v' w', OwnS w' B v' (L ++ [u]) → Below B w w' → K (a.put o.dst v') w') :
    if Region.wanted o (yielded ops a.tmps) = true then Oper.wp Tryz.prog o a w K Q else E := by
  obtain ⟨i0, hi0, hz0, hz1, hz2⟩ := info_parts info_str
  refine step_append_lies (P := Tryz.prog) w hgd s x 33 ho B 9 i0 _ 1 16 Tryz.underlying33 hi0 hz0 hz1 hz2 rfl (by decide) v L.length (L.map Value.string) hs hown ⟨g, 0, none⟩ 1 c [.string u] hx rfl ?_ ?_ (by omega) (by unfold maxLen; omega) (by omega) hB _ rfl ?_
  · intro j u hj
    match j, hj with
    | 0, hj => simp at hj; subst hj; simpa [Addr.add] using h0
  · intro u hu; simp at hu; subst hu; rfl
  · intro g' cap' w' q1 q2 _ _
    refine h _ w' (by simpa [OwnS] using q1) ((Below.refl _ _).grown q2 hB (fun k hk => own_block hown k hk))
theorem OwnS.drewN {w : World} {B n : Nat} {v : Value} {L : List ByteArray} (h : OwnS w B v L) : OwnS (w.drewN n) B v L := own_below h (below_drewN _ _)
theorem size_more11 (w : World) (o : Obj) : w.heap.size ≤ (w.alloc o).heap.size := ((Below.refl w.heap.size w).alloc (Nat.le_refl _) o).size
theorem cell_new1 (w : World) (u : Value) (t : TypeId) : (w.alloc (.cells #[u] t)).cell? ⟨w.heap.size, 0, none⟩ = some u := by rw [World.cell?_alloc_mark]; rfl
def subB (l : List UInt8) : List ByteArray := (subL l).map bs
/-- what has been cut off, and what is left -/
def SbRel (l : List UInt8) (B : Nat) (w : World) (s out : Value) (wr : World) : Prop :=
  ∃ (t : ByteArray) (acc : List ByteArray), s = .string t ∧ OwnS wr B out acc ∧ acc ++ subB t.data.toList = subB l ∧ t.size ≤ l.length ∧ acc.length + t.size ≤ l.length ∧ Below w.heap.size w wr
def strLen : Value → Nat
  | .string s => s.size
  | _ => 0
theorem sub_left {t : ByteArray} (h : Lib.indexByte t.data.toList 45 = -1) : subB t.data.toList = [t] := by
  have hn : (45 : UInt8) ∉ t.data.toList := by
    have := (cut_no h).2.2
    simpa [cutB] using this
  unfold subB; rw [sub_no hn]; rfl
theorem sub_step {t : ByteArray} {o : Nat} (h : Lib.indexByte t.data.toList 45 = (o : Int)) : subB t.data.toList = t.extract 0 o :: subB (t.extract (o + 1) t.size).data.toList := by
  obtain ⟨h1, h2, h3, h4⟩ := cut_at h
  have hz : t.data.toList.length = t.size := by simp
  have hn : (45 : UInt8) ∉ t.data.toList.take o := by
    rw [← h2]; unfold cut1
    intro hm
    have := List.all_eq_true.1 (List.all_takeWhile (p := (· != (45 : UInt8))) (l := t.data.toList)) 45 hm
    simp at this
  have e : t.data.toList = t.data.toList.take o ++ 45 :: t.data.toList.drop (o + 1) := by
    have h5 := cut_join h4
    rwa [h2, h3] at h5
  have e2 : (t.extract (o + 1) t.size).data.toList = t.data.toList.drop (o + 1) := by rw [ext_bs, bs_toList, List.take_of_length_le (by omega)]
  rw [e2]
  unfold subB
  conv => lhs; rw [e]
  rw [sub_at hn, ext_bs, List.drop_zero]; rfl
theorem rIndex45_is {s : ByteArray} {n : Int} {w : World} (hs : s.size ≤ maxLen) (h : Box (idxF s.data.toList 45 0 = n)) :
    Calls Tryz.prog 113 #[.string s, .int .u8 45, .int .i64 0] w fun e w' => e = .returned (.int .i64 n) ∧ w = w' :=
  (rIndex_any s 45 45 0 w hs (Nat.zero_le _) rfl).mono fun e w' ⟨h1, h2⟩ => ⟨by rw [h1, h.out], h2⟩
set_option maxHeartbeats 1000000 in
theorem rSubs_any (s : ByteArray) (w : World) (hs : s.size ≤ 65000) :
    Calls Tryz.prog 105 #[.string s] w fun e w' => ∃ v, e = .returned v ∧ OwnS w' w.heap.size v (subB s.data.toList) ∧ Below w.heap.size w w' := by
  have hz : s.data.toList.length = s.size := by simp
  obtain ⟨l, hl⟩ : ∃ l, s.data.toList = l := ⟨_, rfl⟩
  have hll : l.length ≤ 65000 := by rw [← hl]; omega
  have HL := box hl
  rw [hl] at hz ⊢
  clear hl
  go_enter Tryz.func105, Tryz.ntmps105
  go_wp2
  go_loopw [0, 3, 4] (fun s out _ wr => SbRel l w.heap.size w s out wr) (fun s _ _ _ => strLen s)
  case atStart => exact ⟨s, [], rfl, OwnS.nil _ _, by rw [HL.out]; rfl, by omega, by simp; omega, Below.refl _ _⟩
  case round =>
    obtain ⟨t, acc, rfl, hO, hq, hts, hac, hb⟩ := hrel
    obtain ⟨av, cv, rfl, _, _⟩ := hO.ss
    have O := box hO
    have BL := box hb
    have HQ := box hq
    have hbs := hb.size
    have htm : t.size ≤ maxLen := by unfold maxLen; omega
    have hz2 : t.data.toList.length = t.size := by simp
    clear hO hb hq
    by_cases hi : idxF t.data.toList 45 0 < 0
    · have h1 := idxF_none hi
      rw [List.drop_zero] at h1
      have HS : Box (acc ++ [t] = subB l) := box (by rw [← HQ.out, sub_left h1])
      obtain ⟨n, hn⟩ : ∃ n, idxF t.data.toList 45 0 = n := ⟨_, rfl⟩
      have HN := box hn
      rw [hn] at hi
      clear h1 hn
      go_wp2_with fail
      refine (rIndex45_is htm HN).mono ?_; rintro e w1 ⟨rfl, rfl⟩
      go_wp2_with (at_builtin; refine wpList_append_str _ rfl (.tmp 9) (.tmp 11) rfl w.heap.size _ acc rfl (own_below O.out (below_new _ _)) _ _ rfl t (cell_new1 _ _ _) (by omega) (by simp; omega) ?_)
      intro v2 w2 hO2 hb2
      rw [HS.out] at hO2
      have O2 := box hO2
      have B2 := box ((BL.out.alloc hbs _).trans hb2)
      clear hO2 hb2
      go_wp2
      go_ret
      exact ⟨_, rfl, O2.out, B2.out⟩
    · obtain ⟨o, h1, h2, h3⟩ := idxF_some hi
      rw [List.drop_zero] at h1
      rw [Nat.zero_add] at h2 h3
      have ho : o < t.size := by omega
      have HS : Box (acc ++ [t.extract 0 o] ++ subB (t.extract (o + 1) t.size).data.toList = subB l) := box (by rw [← HQ.out, sub_step h1, List.append_assoc]; rfl)
      have hez : (t.extract (o + 1) t.size).size = t.size - (o + 1) := by rw [ByteArray.size_extract]; omega
      have HN := box h2
      have hoi : (o : Int) ≤ (t.size : Int) := by omega
      have ho0 : (0 : Int) ≤ (o : Int) := by omega
      have ho2 : (o : Int) + 1 ≤ (t.size : Int) := by omega
      have ho1 : (0 : Int) ≤ (o : Int) + 1 := by omega
      have hwr : IntKind.i64.wrap ((o : Int) + 1) = (o : Int) + 1 := by simp [IntKind.wrap, IntKind.bits, IntKind.signed]; omega
      clear h1 h2 hi h3
      go_wp2_with fail
      refine (rIndex45_is htm HN).mono ?_; rintro e w1 ⟨rfl, rfl⟩
      go_wp2
      go_region_held3 (fun w' => True) (first | trivial) (first | (refine step_append_str _ rfl (.tmp 13) (.tmp 17) (by rfl) w.heap.size _ acc (by rfl) ?_ _ _ (by rfl) (t.extract 0 o) ?_ ?_ ?_ ?_; (exact own_below (OwnS.drewN O.out) (below_new _ _)); (exact cell_new1 _ _ _); omega; (exact Nat.le_trans hbs (size_more11 _ _)); intro v4 w4 hO4 hb4; have O4 := box hO4; have B4 := box (((BL.out.trans ((below_drewN _ _).mono BL.out.size)).alloc hbs _).trans hb4); clear hO4 hb4))
      all_goals
        go_wp2
        go_roundw
        case rel => exact ⟨_, _, rfl, O4.out, HS.out, by omega, by simp; omega, B4.out⟩
        case measure => simp [strLen]; omega
end
section
open Go.RowKit
def chOk (first : Bool) (c : UInt8) : Bool := lettI c.toNat || (!first && digitI c.toNat)
theorem subs_all {L : List (List UInt8)} (h : ∀ j (hj : j < L.length), subOk (decide (j = 0)) L[j] = true) : subsOk L = true := by
  match L, h with
  | [], _ => rfl
  | x :: xs, h =>
    show (subOk true x && xs.all (subOk false)) = true
    have h0 : subOk true x = true := h 0 (by simp)
    rw [h0, Bool.true_and, List.all_eq_true]
    intro y hy
    obtain ⟨i, hi, rfl⟩ := List.getElem_of_mem hy
    exact h (i + 1) (by simpa using hi)
theorem subs_bad {L : List (List UInt8)} {k : Nat} (hk : k < L.length) (h : subOk (decide (k = 0)) L[k] = false) : subsOk L = false := by
  match L, k, hk, h with
  | x :: xs, 0, _, h =>
    have h0 : subOk true x = false := h
    show (subOk true x && xs.all (subOk false)) = false
    rw [h0]; rfl
  | x :: xs, k + 1, hk, h =>
    have hk' : k < xs.length := by simpa using hk
    have h0 : subOk false xs[k] = false := h
    show (subOk true x && xs.all (subOk false)) = false
    have : xs.all (subOk false) = false := by
      rw [List.all_eq_false]
      exact ⟨xs[k], List.getElem_mem _, by rw [h0]; simp⟩
    rw [this, Bool.and_false]
theorem sub_chars {f : Bool} {x : List UInt8} (h1 : 1 ≤ x.length) (h8 : x.length ≤ 8) : subOk f x = x.all (chOk f) := by
  unfold subOk
  rw [decide_eq_true ⟨h1, h8⟩, Bool.true_and]; rfl
theorem sub_size {f : Bool} {x : List UInt8} (h : x.length < 1 ∨ 8 < x.length) : subOk f x = false := by
  unfold subOk
  rw [decide_eq_false (by omega), Bool.false_and]
theorem allC_more {f : UInt8 → Bool} {x : ByteArray} {m : Nat} (h : (x.data.toList.take m).all f = true) (hm : m < x.size) (hc : f x[m] = true) : (x.data.toList.take (m + 1)).all f = true := by
  rw [take_snoc x m hm, List.all_append, h]; simp [hc]
theorem allC_not {f : UInt8 → Bool} {x : ByteArray} {m : Nat} (hm : m < x.size) (hc : f x[m] = false) : x.data.toList.all f = false := by
  rw [List.all_eq_false]
  have hm2 : m < x.data.toList.length := by simpa using hm
  exact ⟨x.data.toList[m], List.getElem_mem hm2, by show ¬ f x[m] = true; rw [hc]; simp⟩
/-- the cases of a byte -/
inductive ChCase (k : Nat) (c : Int) (r : Bool) : Prop
  | low (h1 : 97 ≤ c) (h2 : c ≤ 122) (h : r = true) : ChCase k c r
  | up (h0 : c < 97) (h1 : 65 ≤ c) (h2 : c ≤ 90) (h : r = true) : ChCase k c r
  | dig (h0 : c < 65) (hk : (0 : Int) < k) (hd : digitI c = true) (h : r = true) : ChCase k c r
  | no0 (h0 : c < 65) (hk : ¬ (0 : Int) < k) (h : r = false) : ChCase k c r
  | no1 (h0 : c < 65) (hk : (0 : Int) < k) (hd : digitI c = false) (h : r = false) : ChCase k c r
  | mid0 (h0 : 90 < c) (h1 : c < 97) (hk : ¬ (0 : Int) < k) (h : r = false) : ChCase k c r
  | mid1 (h0 : 90 < c) (h1 : c < 97) (hk : (0 : Int) < k) (hd : digitI c = false) (h : r = false) : ChCase k c r
  | hi0 (h0 : 122 < c) (hk : ¬ (0 : Int) < k) (h : r = false) : ChCase k c r
  | hi1 (h0 : 122 < c) (hk : (0 : Int) < k) (hd : digitI c = false) (h : r = false) : ChCase k c r
theorem ch_case (k : Nat) (c : UInt8) : ChCase k c.toNat (chOk (decide (k = 0)) c) := by
  have hdig : ∀ n : Int, digitI n = decide (48 ≤ n ∧ n ≤ 57) := fun n => rfl
  have hlet : ∀ n : Int, lettI n = (decide (97 ≤ n ∧ n ≤ 122) || decide (65 ≤ n ∧ n ≤ 90)) := fun n => rfl
  by_cases h1 : 97 ≤ (c.toNat : Int) ∧ (c.toNat : Int) ≤ 122
  · exact .low h1.1 h1.2 (by unfold chOk; rw [hlet, decide_eq_true h1]; rfl)
  · by_cases h2 : 65 ≤ (c.toNat : Int) ∧ (c.toNat : Int) ≤ 90
    · exact .up (by omega) h2.1 h2.2 (by unfold chOk; rw [hlet, decide_eq_true h2]; simp)
    · have hl : lettI (c.toNat : Int) = false := by rw [hlet, decide_eq_false h1, decide_eq_false h2]; rfl
      have hr : chOk (decide (k = 0)) c = (!decide (k = 0) && digitI c.toNat) := by unfold chOk; rw [hl, Bool.false_or]
      rw [hr]
      by_cases hk : k = 0
      · have e : (!decide (k = 0) && digitI (c.toNat : Int)) = false := by rw [decide_eq_true hk]; rfl
        rw [e]
        by_cases a : (c.toNat : Int) < 65
        · exact .no0 a (by omega) rfl
        · by_cases b : (c.toNat : Int) < 97
          · exact .mid0 (by omega) b (by omega) rfl
          · exact .hi0 (by omega) (by omega) rfl
      · have e : (!decide (k = 0) && digitI (c.toNat : Int)) = digitI c.toNat := by rw [decide_eq_false hk]; rfl
        rw [e]
        have hd1 : 65 ≤ (c.toNat : Int) → digitI (c.toNat : Int) = false := fun h => by rw [hdig]; exact decide_eq_false (by omega)
        by_cases a : (c.toNat : Int) < 65
        · cases hd : digitI (c.toNat : Int) with
          | true => exact .dig a (by omega) hd rfl
          | false => exact .no1 a (by omega) hd rfl
        · rw [hd1 (by omega)]
          by_cases b : (c.toNat : Int) < 97
          · exact .mid1 (by omega) b (by omega) (hd1 (by omega)) rfl
          · exact .hi1 (by omega) (by omega) (hd1 (by omega)) rfl
def TagO (T : List ByteArray) (i : Value) : Prop := ∃ k : Nat, i = .int .i64 k ∧ k ≤ T.length ∧ ∀ j (hj : j < T.length), j < k → subOk (decide (j = 0)) T[j].data.toList = true
def TagI (x : ByteArray) (f : Bool) (m : Value) : Prop := ∃ k : Nat, m = .int .i64 k ∧ k ≤ x.size ∧ (x.data.toList.take k).all (chOk f) = true
theorem tag_all {l : List UInt8} {T : List ByteArray} (hT : subB l = T) (h : ∀ j (hj : j < T.length), subOk (decide (j = 0)) T[j].data.toList = true) : tagL l = true := by
  unfold tagL
  refine subs_all fun j hj => ?_
  have := h j (by rw [← hT]; unfold subB; simpa using hj)
  simp only [← hT, subB, List.getElem_map, bs_toList] at this
  exact this
theorem tag_bad {l : List UInt8} {T : List ByteArray} (hT : subB l = T) {k : Nat} (hk : k < T.length) (h : subOk (decide (k = 0)) T[k].data.toList = false) : tagL l = false := by
  unfold tagL
  subst hT
  have hk2 : k < (subL l).length := by unfold subB at hk; simpa using hk
  refine subs_bad hk2 ?_
  simp only [subB, List.getElem_map, bs_toList] at h
  exact h
set_option maxHeartbeats 1000000 in
theorem rTag_any (s : ByteArray) (w : World) (hs : s.size ≤ 65000) :
    Calls Tryz.prog 88 #[.string s] w fun e w' => e = .returned (.bool (tagL s.data.toList)) ∧ Below w.heap.size w w' := by
  obtain ⟨T, hT⟩ : ∃ T, subB s.data.toList = T := ⟨_, rfl⟩
  have HT := box hT
  have hlen : T.length ≤ 65001 := by rw [← hT]; unfold subB; have := sub_count s.data.toList; have hz : s.data.toList.length = s.size := by simp
                                     rw [List.length_map]; omega
  have hsm : Box (∀ k (h : k < T.length), T[k].size ≤ 65000) := box (fun k hk => by
    subst hT
    have hk2 : k < (subL s.data.toList).length := by unfold subB at hk; simpa using hk
    have := (sub_mem s.data.toList _ (List.getElem_mem hk2)).2
    have hz : s.data.toList.length = s.size := by simp
    simp only [subB, List.getElem_map, bs_size]; omega)
  clear hT
  go_enter Tryz.func88, Tryz.ntmps88
  go_wp2_with fail
  refine (rSubs_any s _ hs).mono ?_; rintro e w1 ⟨v, rfl, hO1, hb1⟩
  rw [HT.out] at hO1
  obtain ⟨a1, cap1, rfl, hS1, hc1⟩ := hO1.ss
  have S1 := box hS1
  have B1 := box hb1
  clear hO1 hS1 hb1
  go_wp2
  go_loop [4, 5, 6] (fun i _ _ => TagO T i) (fun i _ _ => T.length - (intOf i).toNat)
  case atStart => exact ⟨0, rfl, Nat.zero_le _, fun j hj h => absurd h (by omega)⟩
  case round =>
    obtain ⟨k, rfl, hk, hall⟩ := hrel
    have HA := box hall
    clear hall
    by_cases hlt : k < T.length
    · obtain ⟨x, hx⟩ : ∃ x, T[k] = x := ⟨_, rfl⟩
      have HX := box hx
      have hxz : x.size ≤ 65000 := by rw [← hx]; exact hsm.out k hlt
      have hti : (k : Int) < (T.length : Int) := by omega
      obtain ⟨g, off, rfl, hcell⟩ := S1.out k hlt
      rw [hx] at hcell
      have hz : x.data.toList.length = x.size := by simp
      by_cases h1 : x.size < 1
      · have h1i : (x.size : Int) < 1 := by omega
        have HR : Box (tagL s.data.toList = false) := box (tag_bad HT.out hlt (by rw [hx]; exact sub_size (.inl (by omega))))
        clear hx hz
        go_wp2
        go_ret
        exact ⟨by rw [HR.out]; rfl, B1.out⟩
      · by_cases h8 : 8 < x.size
        · have h1i : ¬ (x.size : Int) < 1 := by omega
          have h8i : (8 : Int) < (x.size : Int) := by omega
          have HR : Box (tagL s.data.toList = false) := box (tag_bad HT.out hlt (by rw [hx]; exact sub_size (.inr (by omega))))
          clear hx hz
          go_wp2
          go_ret
          exact ⟨by rw [HR.out]; rfl, B1.out⟩
        · have h1i : ¬ (x.size : Int) < 1 := by omega
          have h8i : ¬ (8 : Int) < (x.size : Int) := by omega
          have HC : Box (subOk (decide (k = 0)) x.data.toList = x.data.toList.all (chOk (decide (k = 0)))) := box (sub_chars (by omega) (by omega))
          clear hx hz
          go_wp2
          go_loop [5, 6] (fun m _ => TagI x (decide (k = 0)) m) (fun m _ => x.size - (intOf m).toNat)
          case atStart => exact ⟨0, rfl, Nat.zero_le _, rfl⟩
          case round =>
            obtain ⟨m, rfl, hm, hc⟩ := hrel
            have HM := box hc
            clear hc
            by_cases hml : m < x.size
            · have hmi : (m : Int) < (x.size : Int) := by omega
              obtain ⟨c, hcq⟩ : ∃ c, x[m] = c := ⟨_, rfl⟩
              have hcc := ch_case k x[m]
              have HCQ := box hcq
              rw [hcq] at hcc
              have hbd := c_bd c
              have HY : Box (∀ r, chOk (decide (k = 0)) c = r → (r = true → (x.data.toList.take (m + 1)).all (chOk (decide (k = 0))) = true) ∧ (r = false → tagL s.data.toList = false)) := box (by
                intro r hr
                rw [← hcq] at hr
                refine ⟨fun ht => allC_more HM.out hml (by rw [hr, ht]), fun hf => tag_bad HT.out hlt ?_⟩
                rw [HX.out, HC.out]; exact allC_not hml (by rw [hr, hf]))
              rcases hcc with ⟨c1, c2, hr⟩ | ⟨c0, c1, c2, hr⟩ | ⟨c0, c1, hd, hr⟩ | ⟨c0, c1, hr⟩ | ⟨c0, c1, hd, hr⟩ | ⟨c0, c1, c2, hr⟩ | ⟨c0, c1, c2, hd, hr⟩ | ⟨c0, c1, hr⟩ | ⟨c0, c1, hd, hr⟩
              · have HR := box ((HY.out _ hr).1 rfl)
                clear hr
                go_wp2_with (go_at_call 106; refine (rDigit_c _ _).mono ?_; rintro e w' ⟨rfl, rfl⟩)
                go_round
                case rel => exact ⟨m + 1, by go_num, hml, HR.out⟩
                case measure => simp [intOf]; omega
              · have HR := box ((HY.out _ hr).1 rfl)
                clear hr
                go_wp2_with (go_at_call 106; refine (rDigit_c _ _).mono ?_; rintro e w' ⟨rfl, rfl⟩)
                go_round
                case rel => exact ⟨m + 1, by go_num, hml, HR.out⟩
                case measure => simp [intOf]; omega
              · have HR := box ((HY.out _ hr).1 rfl)
                clear hr
                go_wp2_with (go_at_call 106; refine (rDigit_c _ _).mono ?_; rintro e w' ⟨rfl, rfl⟩)
                go_round
                case rel => exact ⟨m + 1, by go_num, hml, HR.out⟩
                case measure => simp [intOf]; omega
              · have HR := box ((HY.out _ hr).2 rfl)
                clear hr
                go_wp2_with (go_at_call 106; refine (rDigit_c _ _).mono ?_; rintro e w' ⟨rfl, rfl⟩)
                go_ret
                exact ⟨by rw [HR.out]; rfl, B1.out⟩
              · have HR := box ((HY.out _ hr).2 rfl)
                clear hr
                go_wp2_with (go_at_call 106; refine (rDigit_c _ _).mono ?_; rintro e w' ⟨rfl, rfl⟩)
                go_ret
                exact ⟨by rw [HR.out]; rfl, B1.out⟩
              · have HR := box ((HY.out _ hr).2 rfl)
                clear hr
                have k1 : (65 : Int) ≤ (c.toNat : Int) := by omega
                have k2 : ¬ (c.toNat : Int) ≤ 90 := by omega
                go_wp2_with (go_at_call 106; refine (rDigit_c _ _).mono ?_; rintro e w' ⟨rfl, rfl⟩)
                go_ret
                exact ⟨by rw [HR.out]; rfl, B1.out⟩
              · have HR := box ((HY.out _ hr).2 rfl)
                clear hr
                have k1 : (65 : Int) ≤ (c.toNat : Int) := by omega
                have k2 : ¬ (c.toNat : Int) ≤ 90 := by omega
                go_wp2_with (go_at_call 106; refine (rDigit_c _ _).mono ?_; rintro e w' ⟨rfl, rfl⟩)
                go_ret
                exact ⟨by rw [HR.out]; rfl, B1.out⟩
              · have HR := box ((HY.out _ hr).2 rfl)
                clear hr
                have k1 : (65 : Int) ≤ (c.toNat : Int) := by omega
                have k2 : ¬ (c.toNat : Int) ≤ 90 := by omega
                have k3 : (97 : Int) ≤ (c.toNat : Int) := by omega
                have k4 : ¬ (c.toNat : Int) ≤ 122 := by omega
                go_wp2_with (go_at_call 106; refine (rDigit_c _ _).mono ?_; rintro e w' ⟨rfl, rfl⟩)
                go_ret
                exact ⟨by rw [HR.out]; rfl, B1.out⟩
              · have HR := box ((HY.out _ hr).2 rfl)
                clear hr
                have k1 : (65 : Int) ≤ (c.toNat : Int) := by omega
                have k2 : ¬ (c.toNat : Int) ≤ 90 := by omega
                have k3 : (97 : Int) ≤ (c.toNat : Int) := by omega
                have k4 : ¬ (c.toNat : Int) ≤ 122 := by omega
                go_wp2_with (go_at_call 106; refine (rDigit_c _ _).mono ?_; rintro e w' ⟨rfl, rfl⟩)
                go_ret
                exact ⟨by rw [HR.out]; rfl, B1.out⟩
            · have HR : Box (subOk (decide (k = 0)) x.data.toList = true) := box (by
                have h := HM.out
                rw [List.take_of_length_le (by simp; omega)] at h
                rw [HC.out, h])
              go_wp2
              go_round
              case rel => exact ⟨k + 1, by go_num, hlt, fun j hj hjk => by
                by_cases e : j = k
                · subst e; rw [HX.out]; exact HR.out
                · exact HA.out j hj (by omega)⟩
              case measure => simp [intOf]; omega
    · have HR : Box (tagL s.data.toList = true) := box (tag_all HT.out fun j hj => HA.out j hj (by omega))
      go_wp2
      go_ret
      exact ⟨by rw [HR.out]; rfl, B1.out⟩
theorem rTag_is {s : ByteArray} {b : Bool} {w : World} (hs : s.size ≤ 65000) (h : Box (tagL s.data.toList = b)) :
    Calls Tryz.prog 88 #[.string s] w fun e w' => e = .returned (.bool b) ∧ Below w.heap.size w w' :=
  (rTag_any s w hs).mono fun e w' ⟨h1, h2⟩ => ⟨by rw [h1, h.out], h2⟩
end
section
open Go.RowKit
theorem rLow12_is {s x : ByteArray} {w : World} (hs : s.size ≤ 4294967296) (h : Box (bs (lowL s.data.toList) = x)) :
    Calls Tryz.prog 59 #[.string s] w fun e w' => e = .returned (.string x) ∧ Below w.heap.size w w' :=
  (rLower_any s w hs).mono fun e w' ⟨h1, h2⟩ => ⟨by rw [h1, ← h.out]; rfl, h2⟩
theorem bs_list (l : List UInt8) : (bs l).toList = l := by rw [toList_data]; rfl
theorem beq_list {a b : List UInt8} {q : Bool} (h : decide (a = b) = q) : (a == b) = q := by
  rw [← h]
  by_cases e : a = b
  · rw [decide_eq_true e, e]; simp
  · rw [decide_eq_false e, beq_eq_false_iff_ne]; exact e
theorem rCan_any (k : Int) (s : ByteArray) (w : World) (hk : InI64 k) (hs : s.size ≤ 65536) :
    Calls Tryz.prog 52 #[.int .i64 k, .string s] w fun e w' => e = .returned (.string (bs (canL k s.data.toList))) ∧ Below w.heap.size w w' := by
  have hs4 : s.size ≤ 4294967296 := by omega
  obtain ⟨l, hl⟩ : ∃ l, lowL s.data.toList = l := ⟨_, rfl⟩
  have HX : Box (bs (lowL s.data.toList) = bs l) := box (by rw [hl])
  by_cases h4 : k = 4
  · subst h4
    by_cases h1 : l = xgzL
    · have HV : Box (canL 4 s.data.toList = gzL) := box (by unfold canL; rw [hl, if_pos ⟨rfl, h1⟩])
      subst h1
      clear hl
      go_enter Tryz.func52, Tryz.ntmps52
      go_wp2_with fail
      refine (rLow12_is hs4 HX).mono ?_; rintro e w1 ⟨rfl, hb1⟩; rw [show bs xgzL = ⟨#[120, 45, 103, 122, 105, 112]⟩ from rfl]
      go_wp2
      go_ret
      exact ⟨by rw [HV.out]; rfl, hb1⟩
    · have e1 : ((bs l).toList == [120, 45, 103, 122, 105, 112]) = false := by rw [bs_list]; exact beq_list (decide_eq_false h1)
      by_cases h2 : l = xcoL
      · have HV : Box (canL 4 s.data.toList = coL) := box (by unfold canL; rw [hl, if_neg (fun q => h1 q.2), if_pos ⟨rfl, h2⟩])
        subst h2
        clear hl e1
        go_enter Tryz.func52, Tryz.ntmps52
        go_wp2_with fail
        refine (rLow12_is hs4 HX).mono ?_; rintro e w1 ⟨rfl, hb1⟩; rw [show bs xcoL = ⟨#[120, 45, 99, 111, 109, 112, 114, 101, 115, 115]⟩ from rfl]
        go_wp2
        go_ret
        exact ⟨by rw [HV.out]; rfl, hb1⟩
      · have e2 : ((bs l).toList == [120, 45, 99, 111, 109, 112, 114, 101, 115, 115]) = false := by rw [bs_list]; exact beq_list (decide_eq_false h2)
        have HV : Box (canL 4 s.data.toList = l) := box (by unfold canL; rw [hl, if_neg (fun q => h1 q.2), if_neg (fun q => h2 q.2)])
        clear hl h1 h2
        go_enter Tryz.func52, Tryz.ntmps52
        go_wp2_with fail
        refine (rLow12_is hs4 HX).mono ?_; rintro e w1 ⟨rfl, hb1⟩
        go_wp2
        go_ret
        exact ⟨by rw [HV.out]; rfl, hb1⟩
  · have e4 : (k == 4) = false := by rw [beq_eq_false_iff_ne]; exact h4
    have HV : Box (canL k s.data.toList = l) := box (by unfold canL; rw [hl, if_neg (fun q => h4 q.1), if_neg (fun q => h4 q.1)])
    clear hl h4
    go_enter Tryz.func52, Tryz.ntmps52
    go_wp2_with fail
    refine (rLow12_is hs4 HX).mono ?_; rintro e w1 ⟨rfl, hb1⟩
    go_wp2
    go_ret
    exact ⟨by rw [HV.out]; rfl, hb1⟩
theorem rCan_is {k : Int} {s x : ByteArray} {w : World} (hk : InI64 k) (hs : s.size ≤ 65536) (h : Box (bs (canL k s.data.toList) = x)) :
    Calls Tryz.prog 52 #[.int .i64 k, .string s] w fun e w' => e = .returned (.string x) ∧ Below w.heap.size w w' :=
  (rCan_any k s w hk hs).mono fun e w' ⟨h1, h2⟩ => ⟨by rw [h1, h.out], h2⟩
end
section
open Go.RowKit
theorem rTok13_is {s : ByteArray} {b : Bool} {w : World} (hs : s.size ≤ maxLen) (h : Box (tokL s.data.toList = b)) :
    Calls Tryz.prog 58 #[.string s] w fun e w' => e = .returned (.bool b) ∧ w = w' :=
  (rToken_any s w hs).mono fun e w' ⟨h1, h2⟩ => ⟨by rw [h1, h.out], h2⟩
end
section
open Go.RowKit
theorem all_mem {nm : ByteArray} {L : List F} {m : List UInt8} (h : m ∈ allL nm L) : ∃ x ∈ getL nm L, m.length ≤ x.size := by
  unfold allL at h
  have h := List.mem_of_mem_take h
  unfold allF at h
  obtain ⟨x, hx, hm⟩ := List.mem_flatMap.1 h
  refine ⟨x, hx, ?_⟩
  unfold splitL memL at hm
  have hm := (List.mem_filter.1 (List.mem_of_mem_take hm)).1
  obtain ⟨p, hp, rfl⟩ := List.mem_map.1 hm
  have h1 := cut_small _ _ _ _ p hp
  have h2 := trim_le p
  have hz : x.data.toList.length = x.size := by simp
  simp only [List.length_nil, Nat.zero_add] at h1
  omega
end
end Go.Proofs.YtcnohcbhnldglaaGreat.Asc
