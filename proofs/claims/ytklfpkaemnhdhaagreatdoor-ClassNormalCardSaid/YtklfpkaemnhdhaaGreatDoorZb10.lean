/- Merged texts: QvaRef2 AccRef5 AccSpec4 VarSpec7 KeySpec RnkSpec SelSpec SelSpec3 ClsSpec ClsSpec2. -/
import Derived.Test.YtklfpkaemnhdhaaGreatDoorZb01
import Derived.Test.YtklfpkaemnhdhaaGreatDoorZb02
import Derived.Test.YtklfpkaemnhdhaaGreatDoorZb05
import Derived.Test.YtklfpkaemnhdhaaGreatDoorZb06
import Derived.Test.YtklfpkaemnhdhaaGreatDoorZb07
import Derived.Test.YtklfpkaemnhdhaaGreatDoorZb08
import Derived.Test.YtklfpkaemnhdhaaGreatDoorZb09
set_option linter.unusedVariables false
set_option linter.unusedSimpArgs false
set_option maxRecDepth 100000
namespace Go.Proofs.YtklfpkaemnhdhaaGreatDoor.Asc
section
open Go.RowKit
theorem strip_three (a b c : UInt8) : stripF 3 [a, b, c] = if c = 48 then (if b = 48 then (if a = 48 then [] else [a]) else [a, b]) else [a, b, c] := by
  unfold stripF
  by_cases hc : c = 48
  · rw [if_pos (by simp [hc]), if_pos hc]
    show stripF 2 [a, b] = _
    unfold stripF
    by_cases hb : b = 48
    · rw [if_pos (by simp [hb]), if_pos hb]
      show stripF 1 [a] = _
      unfold stripF
      by_cases ha : a = 48
      · rw [if_pos (by simp [ha]), if_pos ha]; rfl
      · rw [if_neg (by simp [ha]), if_neg ha]
    · rw [if_neg (by simp [hb]), if_neg hb]
  · rw [if_neg (by simp [hc]), if_neg hc]
theorem three_not (q : Int) (h0 : 0 < q) (h1 : q < 1000) : ∃ a b c : UInt8, threeL q.toNat = [a, b, c] ∧ ¬ (a = 48 ∧ b = 48 ∧ c = 48) := by
  have key : ∀ n : Fin 1000, n.1 = 0 ∨ ¬ (digC (n.1 / 100 % 10) = 48 ∧ digC (n.1 / 10 % 10) = 48 ∧ digC (n.1 % 10) = 48) := by decide +kernel
  refine ⟨_, _, _, rfl, ?_⟩
  rcases key ⟨q.toNat, by omega⟩ with h | h
  · exfalso; have : q.toNat = 0 := h; omega
  · exact h
theorem rDec8_is {n : Int} {x : ByteArray} {w : World} (h1 : InI64 n) (h : Box (bs (decL n) = x)) :
    Calls Tryz.prog 60 #[.int .i64 n] w fun e w' => e = .returned (.string x) ∧ Below w.heap.size w w' :=
  (rDecimal_any n w h1).mono fun e w' ⟨h1, h2⟩ => ⟨by rw [h1, ← h.out]; rfl, h2⟩
def strN : Value → Nat
  | .string s => s.size
  | _ => 0
def QfRel (a b c : UInt8) (v : Value) : Prop := v = .string ⟨#[a, b, c]⟩ ∨ (c = 48 ∧ v = .string ⟨#[a, b]⟩) ∨ (c = 48 ∧ b = 48 ∧ v = .string ⟨#[a]⟩)
theorem int48 {c : UInt8} : (((c.toNat : Nat) : Int) == 48) = decide (c = 48) := by
  by_cases h : c = 48
  · subst h; rfl
  · rw [decide_eq_false h, beq_eq_false_iff_ne]
    exact fun e => h (byte8 (d := 48) e)
set_option maxHeartbeats 2000000 in
theorem rFormatQ_in (q : Int) (w : World) (h0 : 0 < q) (h1 : q < 1000) :
    Calls Tryz.prog 31 #[.int .i64 q] w fun e w' => e = .returned (.string (bs (fmtQ q))) ∧ Below w.heap.size w w' := by
  obtain ⟨a, b, c, ht, hn⟩ := three_not q h0 h1
  have HD : Box (bs (decL (1000 + q)) = ⟨#[49, a, b, c]⟩) := box (by rw [dec_four q (by omega) h1, ht]; rfl)
  have HF : Box (fmtQ q = 48 :: 46 :: (if c = 48 then (if b = 48 then [a] else [a, b]) else [a, b, c])) := box (by
    unfold fmtQ
    rw [if_neg (by omega), if_neg (by omega), if_neg (by omega), ht, strip_three]
    by_cases hc : c = 48
    · by_cases hb : b = 48
      · rw [if_pos hc, if_pos hb, if_neg (fun ha => hn ⟨ha, hb, hc⟩), if_pos hc, if_pos hb]
      · rw [if_pos hc, if_neg hb, if_pos hc, if_neg hb]
    · rw [if_neg hc, if_neg hc])
  have HI : InI64 (1000 + q) := ⟨by omega, by omega⟩
  have i1 : ¬ q < 0 := by omega
  have i2 : ¬ 1000 < q := by omega
  have i3 : (q == 0) = false := by rw [beq_eq_false_iff_ne]; omega
  have i4 : (q == 1000) = false := by rw [beq_eq_false_iff_ne]; omega
  have hx : (⟨#[49, a, b, c]⟩ : ByteArray).extract 1 4 = ⟨#[a, b, c]⟩ := by rw [ext_bs]; rfl
  clear ht
  go_enter Tryz.func31, Tryz.ntmps31
  go_wp2_with fail
  refine (rDec8_is HI HD).mono ?_; rintro e w1 ⟨rfl, hb1⟩
  have B1 := box hb1
  clear hb1
  go_wp2
  have hx2 : (⟨#[a, b, c]⟩ : ByteArray).extract 0 2 = ⟨#[a, b]⟩ := by rw [ext_bs]; rfl
  have hx1 : (⟨#[a, b]⟩ : ByteArray).extract 0 1 = ⟨#[a]⟩ := by rw [ext_bs]; rfl
  have ad : ∀ (y : ByteArray), y.size ≤ 10 → ∀ w, (Op.stringOp .add ⟨#[48, 46]⟩ y).run Tryz.prog w = .ok (.string (⟨#[48, 46]⟩ ++ y)) w := fun y hy w => run_string_add_sum w _ _ (by show 2 + y.size ≤ 9223372036854775807; omega)
  have ad1 := ad ⟨#[a, b, c]⟩ (by show 3 ≤ 10; omega)
  have ad2 := ad ⟨#[a, b]⟩ (by show 2 ≤ 10; omega)
  have ad3 := ad ⟨#[a]⟩ (by show 1 ≤ 10; omega)
  have gx2 : (⟨#[a, b, c]⟩ : ByteArray)[2]'(by show 2 < 3; decide) = c := rfl
  have gx1 : (⟨#[a, b]⟩ : ByteArray)[1]'(by show 1 < 2; decide) = b := rfl
  have gx0 : (⟨#[a]⟩ : ByteArray)[0]'(by show 0 < 1; decide) = a := rfl
  clear ad
  go_loop [3] (fun v => QfRel a b c v) (fun v => strN v)
  case atStart => exact .inl rfl
  case round =>
    have HREL := box hrel
    rcases hrel with rfl | ⟨hc, rfl⟩ | ⟨hc, hb, rfl⟩
    · by_cases hc : c = 48
      · have e8 : (((c.toNat : Nat) : Int) == 48) = true := by rw [int48, decide_eq_true hc]
        go_wp2
        go_round
        case rel => exact .inr (.inl ⟨hc, rfl⟩)
        case measure => show min 2 3 < 3; decide
      · have e8 : (((c.toNat : Nat) : Int) == 48) = false := by rw [int48, decide_eq_false hc]
        have HE : Box ((⟨#[48, 46]⟩ : ByteArray) ++ ⟨#[a, b, c]⟩ = bs (fmtQ q)) := box (by rw [HF.out, if_neg hc]; rfl)
        go_wp2
        go_ret
        exact ⟨by rw [← HE.out]; rfl, B1.out⟩
    · by_cases hb : b = 48
      · have e8 : (((b.toNat : Nat) : Int) == 48) = true := by rw [int48, decide_eq_true hb]
        go_wp2
        go_round
        case rel => exact .inr (.inr ⟨hc, hb, rfl⟩)
        case measure => show min 1 2 < 2; decide
      · have e8 : (((b.toNat : Nat) : Int) == 48) = false := by rw [int48, decide_eq_false hb]
        have HE : Box ((⟨#[48, 46]⟩ : ByteArray) ++ ⟨#[a, b]⟩ = bs (fmtQ q)) := box (by rw [HF.out, if_pos hc, if_neg hb]; rfl)
        go_wp2
        go_ret
        exact ⟨by rw [← HE.out]; rfl, B1.out⟩
    · have ha : ¬ a = 48 := fun ha => hn ⟨ha, hb, hc⟩
      have e8 : (((a.toNat : Nat) : Int) == 48) = false := by rw [int48, decide_eq_false ha]
      have HE : Box ((⟨#[48, 46]⟩ : ByteArray) ++ ⟨#[a]⟩ = bs (fmtQ q)) := box (by rw [HF.out, if_pos hc, if_pos hb]; rfl)
      go_wp2
      go_ret
      exact ⟨by rw [← HE.out]; rfl, B1.out⟩
theorem rFormatQ_any (q : Int) (w : World) (h : InI64 q) :
    Calls Tryz.prog 31 #[.int .i64 q] w fun e w' => e = .returned (.string (bs (fmtQ q))) ∧ Below w.heap.size w w' := by
  by_cases h1 : q < 0
  · have HE : Box (fmtQ q = []) := box (qv_none q (.inl h1))
    go_enter Tryz.func31, Tryz.ntmps31
    go_wp2
    go_ret
    exact ⟨by rw [HE.out]; rfl, Below.refl _ _⟩
  · by_cases h2 : 1000 < q
    · have HE : Box (fmtQ q = []) := box (qv_none q (.inr h2))
      go_enter Tryz.func31, Tryz.ntmps31
      go_wp2
      go_ret
      exact ⟨by rw [HE.out]; rfl, Below.refl _ _⟩
    · by_cases h3 : q = 0
      · subst h3
        have HE : Box (fmtQ 0 = [48]) := box (by decide)
        go_enter Tryz.func31, Tryz.ntmps31
        go_wp2
        go_ret
        exact ⟨by rw [HE.out]; rfl, Below.refl _ _⟩
      · by_cases h4 : q = 1000
        · subst h4
          have HE : Box (fmtQ 1000 = [49]) := box (by decide)
          go_enter Tryz.func31, Tryz.ntmps31
          go_wp2
          go_ret
          exact ⟨by rw [HE.out]; rfl, Below.refl _ _⟩
        · exact rFormatQ_in q w (by omega) (by omega)
end
section
open Go.RowKit
def fmtPf (L : List QP) : ByteArray := joinB (L.map fun p => bs (onePref p))
theorem cell_new13 (w : World) (u : Value) (t : TypeId) : (w.alloc (.cells #[u] t)).cell? ⟨w.heap.size, 0, none⟩ = some u := by rw [World.cell?_alloc_mark]; rfl
def FpRel (L : List QP) (W : World) (v i : Value) (wr : World) : Prop :=
  ∃ j : Nat, i = .int .i64 j ∧ j ≤ L.length ∧ OwnS wr W.heap.size v ((L.take j).map fun p => bs (onePref p)) ∧ Below W.heap.size W wr
theorem map_next {α β : Type} {f : α → β} {L : List α} {j : Nat} (h : j < L.length) : (L.take (j + 1)).map f = (L.take j).map f ++ [f L[j]] := by
  rw [List.take_succ_eq_append_getElem h, List.map_append]; rfl
theorem fmtQ_le5 (q : Int) : (fmtQ q).length ≤ 5 := by
  by_cases h : q < 0 ∨ 1000 < q
  · rw [qv_none q h]; simp
  · have key : ∀ n : Fin 1001, (fmtQ (n.1 : Int)).length ≤ 5 := by decide +kernel
    have := key ⟨q.toNat, by omega⟩
    simp only at this
    rwa [show ((q.toNat : Nat) : Int) = q from by omega] at this
theorem rFmtQ13_is {q : Int} {x : ByteArray} {w : World} (hq : InI64 q) (h : Box (bs (fmtQ q) = x)) :
    Calls Tryz.prog 31 #[.int .i64 q] w fun e w' => e = .returned (.string x) ∧ Below w.heap.size w w' :=
  (rFormatQ_any q w hq).mono fun e w' ⟨h1, h2⟩ => ⟨by rw [h1, h.out], h2⟩
set_option maxHeartbeats 2000000 in
theorem rFmtPrefs_any (a : Option Addr) (cap : Nat) (L : List QP) (w : World) (hl : L.length ≤ 65536) (hz : Box (∀ i (hi : i < L.length), L[i].1.size ≤ 65000)) (hq : Box (∀ i (hi : i < L.length), InI64 L[i].2)) (hF : Box (Qs w a L)) :
    Calls Tryz.prog 52 #[.slice a L.length cap] w fun e w' => e = .returned (.string (fmtPf L)) ∧ Below w.heap.size w w' := by
  go_enter Tryz.func52, Tryz.ntmps52
  go_wp2
  go_loopw [3, 4, 5] (fun v i _ wr => FpRel L w v i wr) (fun _ i _ _ => L.length - (intOf i).toNat)
  case atStart => exact ⟨0, rfl, Nat.zero_le _, OwnS.nil _ _, Below.refl _ _⟩
  case round =>
    obtain ⟨j, rfl, hj, hO, hbel⟩ := hrel
    obtain ⟨acc, hacc⟩ : ∃ acc, ((L.take j).map fun p => bs (onePref p)) = acc := ⟨_, rfl⟩
    have HACC := box hacc
    rw [hacc] at hO
    have hal : acc.length ≤ 65536 := by rw [← hacc, List.length_map, List.length_take]; omega
    obtain ⟨av, cv, rfl, _, _⟩ := hO.ss
    have O0 := box hO
    have BL := box hbel
    have QS := hF.out.below hbel
    clear hO hbel hacc
    by_cases hlt : j < L.length
    · have hji : (j : Int) < (L.length : Int) := by omega
      obtain ⟨⟨x, q⟩, hp⟩ : ∃ p, L[j] = p := ⟨_, rfl⟩
      have HNX := box (map_next (f := fun p : QP => bs (onePref p)) hlt)
      rw [HACC.out, hp] at HNX
      obtain ⟨g, off, rfl, c0, c1⟩ := QS j hlt
      rw [hp] at c0 c1
      have hxz : x.size ≤ 65000 := by have := hz.out j hlt; rw [hp] at this; exact this
      have hqi : InI64 q := by have := hq.out j hlt; rw [hp] at this; exact this
      clear QS hp
      by_cases h1 : q = 1000
      · subst h1
        have HE : Box (((L.take (j + 1)).map fun p => bs (onePref p)) = acc ++ [x]) := box (by rw [HNX.out]; unfold onePref; simp only [if_pos, List.append_nil]; rfl)
        go_wp2_with (at_builtin; refine wpList_append_str _ rfl (.tmp 32) (.tmp 34) rfl w.heap.size _ acc rfl (own_below O0.out (below_new _ _)) _ _ rfl x (cell_new13 _ _ _) (by omega) (by have := BL.out.size; simp; omega) ?_)
        intro v5 w5 hO5 hb5
        have O5 := box hO5
        have B5 := box ((BL.out.alloc BL.out.size _).trans hb5)
        clear hO5 hb5
        go_wp2
        go_roundw
        case rel => exact ⟨j + 1, by go_num, hlt, by rw [HE.out]; exact O5.out, B5.out⟩
        case measure => simp [intOf]; omega
      · have hqn : (q != 1000) = true := by simp [h1]
        obtain ⟨f, hf⟩ : ∃ f, bs (fmtQ q) = f := ⟨_, rfl⟩
        have HFQ := box hf
        have hfz : f.size ≤ 5 := by rw [← hf, bs_size]; exact fmtQ_le5 q
        obtain ⟨y, hy⟩ : ∃ y, bs (onePref (x, q)) = y := ⟨_, rfl⟩
        have hyq : x ++ ((⟨#[59, 113, 61]⟩ : ByteArray) ++ f) = y := by
          rw [← hy, ← hf]
          unfold onePref
          rw [if_neg h1, bs_of (x ++ ((⟨#[59, 113, 61]⟩ : ByteArray) ++ bs (fmtQ q)))]
          congr 1
        have HE : Box (((L.take (j + 1)).map fun p => bs (onePref p)) = acc ++ [y]) := box (by rw [HNX.out, hy])
        have ad1 : ∀ w, (Op.stringOp .add ⟨#[59, 113, 61]⟩ f).run Tryz.prog w = .ok (.string (⟨#[59, 113, 61]⟩ ++ f)) w := fun w => run_string_add_sum w _ _ (by show 3 + f.size ≤ 9223372036854775807; omega)
        have ad2 : ∀ w, (Op.stringOp .add x (⟨#[59, 113, 61]⟩ ++ f)).run Tryz.prog w = .ok (.string y) w := fun w => by
          have := run_string_add_sum (P := Tryz.prog) w x ((⟨#[59, 113, 61]⟩ : ByteArray) ++ f) (by rw [ByteArray.size_append]; show x.size + (3 + f.size) ≤ 9223372036854775807; omega)
          rw [hyq] at this; exact this
        clear hf hy hyq h1
        go_wp2_with fail
        refine (rFmtQ13_is hqi HFQ).mono ?_; rintro e w3 ⟨rfl, hb3⟩
        have O3 := box (own_below O0.out hb3)
        have B3 := box (BL.out.trans (hb3.mono BL.out.size))
        clear hb3 c0 c1
        go_wp2_with (at_builtin; refine wpList_append_str _ rfl (.tmp 32) (.tmp 34) rfl w.heap.size _ acc rfl (own_below O3.out (below_new _ _)) _ _ rfl y (cell_new13 _ _ _) (by omega) (by have := B3.out.size; simp; omega) ?_)
        intro v5 w5 hO5 hb5
        have O5 := box hO5
        have B5 := box ((B3.out.alloc B3.out.size _).trans hb5)
        clear hO5 hb5
        go_wp2
        go_roundw
        case rel => exact ⟨j + 1, by go_num, hlt, by rw [HE.out]; exact O5.out, B5.out⟩
        case measure => simp [intOf]; omega
    · have hji : ¬ (j : Int) < (L.length : Int) := by omega
      have HE : Box (joinB acc = fmtPf L) := box (by unfold fmtPf; rw [← HACC.out, List.take_of_length_le (by omega)])
      have hsz : Box (∀ y ∈ acc, y.size ≤ 65536) := box (fun y hy => by
        rw [← HACC.out] at hy
        obtain ⟨p, hp, rfl⟩ := List.mem_map.1 hy
        obtain ⟨i, hi, rfl⟩ := List.getElem_of_mem (List.mem_of_mem_take hp)
        have h1 := hz.out i hi
        have h2 := fmtQ_le5 L[i].2
        rw [bs_size]
        unfold onePref
        rw [List.length_append]
        have hz2 : L[i].1.data.toList.length = L[i].1.size := by simp
        split
        · simp; omega
        · simp only [List.length_cons]; omega)
      obtain ⟨a5, c5, hv5, hS5, _⟩ := O0.out.ss
      cases hv5
      have S5 := box hS5
      clear QS hS5
      go_wp2_with fail
      refine (rJoin7_any av cv acc _ hal hsz S5).mono ?_; rintro e w3 ⟨rfl, rfl⟩
      go_wp2
      go_ret
      exact ⟨by rw [← HE.out]; rfl, BL.out⟩
end
section
theorem atQ_before : ∀ {L : List F} {j : Nat} (hj : j < L.length), j < atQ L → isQ L[j] = false
  | p :: L, j, hj, h => by
    unfold atQ at h
    rw [List.takeWhile_cons] at h
    by_cases hp : isQ p = true
    · rw [if_neg (by rw [hp]; simp)] at h; simp at h
    · have hp' : isQ p = false := by simpa using hp
      rw [if_pos (by rw [hp']; rfl), List.length_cons] at h
      match j, hj, h with
      | 0, _, _ => exact hp'
      | j + 1, hj, h => exact atQ_before (L := L) (by simpa using hj) (by unfold atQ; omega)
theorem cut_sum2 {sep : UInt8} : ∀ (f : Nat) (q : Bool) (l acc : List UInt8), ((cutF sep f q l acc).map List.length).sum + (cutF sep f q l acc).length ≤ acc.length + l.length + 1
  | f, q, [], acc => by rw [cutF_nil]; simp
  | 0, q, c :: r, acc => by unfold cutF; simp
  | f + 1, q, c :: r, acc => by
    rw [cutF_cons]
    split
    · match r with
      | [] => simp
      | d :: r2 =>
        have := cut_sum2 (sep := sep) f q r2 (acc ++ [c, d])
        simp only [List.length_append, List.length_cons, List.length_nil] at this ⊢; omega
    · split
      · have := cut_sum2 (sep := sep) f (!q) r (acc ++ [c])
        simp only [List.length_append, List.length_cons, List.length_nil] at this ⊢; omega
      · split
        · have := cut_sum2 (sep := sep) f q r []
          simp only [List.map_cons, List.sum_cons, List.length_cons, List.length_nil] at this ⊢; omega
        · have := cut_sum2 (sep := sep) f q r (acc ++ [c])
          simp only [List.length_append, List.length_cons, List.length_nil] at this ⊢; omega
theorem cut_sizes2 {c : UInt8} {l : List UInt8} (h : cutB c l = true) : (cut1 c l).length + 1 + (cut2 c l).length ≤ l.length := by
  have := congrArg List.length (cut_join h)
  rw [List.length_append, List.length_cons] at this; omega
theorem param_size2 {x : List UInt8} {p : F} (h : paramL x = some p) : p.1.size + p.2.size + 1 ≤ x.length := by
  have hlow : (lowL (cut1 61 x)).length = (cut1 61 x).length := lowL_len _
  unfold paramL at h
  split at h
  · cases h
  · rename_i hc
    have hb : cutB 61 x = true := by
      cases hh : cutB 61 x with
      | true => rfl
      | false => exact absurd (.inl hh) hc
    have hs := cut_sizes2 hb
    split at h
    · cases h; rw [bs_size, bs_size]; omega
    · cases hu : unqL (cut2 61 x) with
      | none => rw [hu] at h; cases h
      | some u => rw [hu] at h; cases h; have := (unq_facts hu).1; rw [bs_size, bs_size]; omega
theorem parF_size2 : ∀ (ps : List (List UInt8)) (acc L : List F), parF ps acc = some L → szF L + L.length + L.length ≤ szF acc + acc.length + acc.length + (ps.map List.length).sum + ps.length
  | [], acc, L, h => by unfold parF at h; cases h; simp
  | p :: ps, acc, L, h => by
    unfold parF at h
    split at h
    · have := parF_size2 ps acc L h
      simp only [List.map_cons, List.sum_cons, List.length_cons]; omega
    · cases hp : paramL (trimL p) with
      | none => rw [hp] at h; cases h
      | some f =>
        rw [hp] at h
        have g := param_size2 hp
        have ht := trim_le p
        have i := parF_size2 ps (acc ++ [f]) L h
        have e : szF (acc ++ [f]) = szF acc + (f.1.size + f.2.size) := by simp [szF]
        rw [e, List.length_append] at i
        simp only [List.map_cons, List.sum_cons, List.length_cons, List.length_nil] at i ⊢; omega
theorem par_size2 {s v : List UInt8} {L : List F} (h : parL s = some (v, L)) : v.length + szF L + 2 * L.length ≤ s.length := by
  unfold parL at h
  cases hc : cutL 59 s with
  | nil => rw [hc] at h; cases h
  | cons x ps =>
    rw [hc] at h
    simp only at h
    split at h
    · cases h
    · cases hp : parF ps [] with
      | none => rw [hp] at h; cases h
      | some K =>
        rw [hp] at h
        cases h
        have i := parF_size2 ps [] L hp
        have hsum := cut_sum2 (sep := 59) s.length false s []
        rw [show cutF 59 s.length false s [] = x :: ps from hc] at hsum
        simp only [List.map_cons, List.sum_cons, List.length_nil, List.length_cons] at hsum i
        have ht := trim_le x
        have e : szF [] = 0 := rfl
        rw [e] at i
        omega
theorem szF_take (L : List F) (n : Nat) : szF (L.take n) ≤ szF L := by
  have e : szF L = szF (L.take n) + szF (L.drop n) := by
    conv => lhs; rw [← List.take_append_drop n L]
    unfold szF; rw [List.map_append, List.sum_append]
  omega
theorem one_len (p : QP) : (onePref p).length ≤ p.1.size + 8 := by
  unfold onePref
  have hz : p.1.data.toList.length = p.1.size := by simp
  have := fmtQ_le5 p.2
  rw [List.length_append]
  split
  · simp
  · simp only [List.length_cons]; omega
def chkR (n : Nat) : Bool := !(lettI (n : Int) || digitI (n : Int) || n == 45) || tokI (n : Int)
theorem chkR_all : ∀ x : Fin 256, chkR x.1 = true := by decide +kernel
theorem let_tok {c : UInt8} (h : lettI c.toNat = true ∨ digitI c.toNat = true ∨ c = 45) : tokI c.toNat = true := by
  have k := chkR_all ⟨c.toNat, c.toNat_lt⟩
  unfold chkR at k
  simp only at k
  rcases h with h | h | h
  · rw [h] at k; simpa using k
  · rw [h] at k; simpa using k
  · subst h; decide
theorem sub_char : ∀ (l : List UInt8), ∀ c ∈ l, c = 45 ∨ ∃ x ∈ subL l, c ∈ x
  | d :: r, c, hc => by
    obtain ⟨y, ys, e⟩ := subL_cons r
    have ih := sub_char r
    by_cases hd : d = 45
    · subst hd
      rw [subL_hyp]
      rcases List.mem_cons.1 hc with rfl | hc
      · exact .inl rfl
      · rcases ih c hc with q | ⟨x, hx, hcx⟩
        · exact .inl q
        · exact .inr ⟨x, by simp [hx], hcx⟩
    · rw [subL_chr hd e]
      rcases List.mem_cons.1 hc with rfl | hc
      · exact .inr ⟨_, List.mem_cons_self, by simp⟩
      · rcases ih c hc with q | ⟨x, hx, hcx⟩
        · exact .inl q
        · rw [e] at hx
          rcases List.mem_cons.1 hx with rfl | hx
          · exact .inr ⟨_, List.mem_cons_self, by simp [hcx]⟩
          · exact .inr ⟨x, by simp [hx], hcx⟩
theorem subOk_char {f : Bool} {x : List UInt8} (h : subOk f x = true) : ∀ c ∈ x, lettI c.toNat = true ∨ digitI c.toNat = true := by
  unfold subOk at h
  rw [Bool.and_eq_true, List.all_eq_true] at h
  intro c hc
  have := h.2 c hc
  rw [Bool.or_eq_true, Bool.and_eq_true] at this
  rcases this with q | ⟨_, q⟩
  · exact .inl q
  · exact .inr q
theorem subs_each {L : List (List UInt8)} (h : subsOk L = true) : ∀ x ∈ L, ∃ f, subOk f x = true := by
  match L, h with
  | [], _ => intro x hx; cases hx
  | y :: ys, h =>
    have h' : (subOk true y && ys.all (subOk false)) = true := h
    rw [Bool.and_eq_true, List.all_eq_true] at h'
    intro x hx
    rcases List.mem_cons.1 hx with rfl | hx
    · exact ⟨true, h'.1⟩
    · exact ⟨false, h'.2 x hx⟩
theorem range_tok {l : List UInt8} (h : rangeT l = true) : tokL l = true := by
  unfold rangeT at h
  rw [Bool.or_eq_true, decide_eq_true_eq] at h
  rcases h with rfl | h
  · decide +kernel
  · unfold tagL at h
    refine tok_mk ?_ fun c hc => ?_
    · intro e; subst e
      have : subsOk (subL []) = false := by decide +kernel
      rw [this] at h; cases h
    · rcases sub_char l c hc with q | ⟨x, hx, hcx⟩
      · exact let_tok (.inr (.inr q))
      · obtain ⟨f, hf⟩ := subs_each h x hx
        rcases subOk_char hf c hcx with q | q
        · exact let_tok (.inl q)
        · exact let_tok (.inr (.inl q))
theorem can_tok {k : Int} {v : List UInt8} (h : tokL v = true) : tokL (canL k v) = true := by
  unfold canL
  split
  · decide +kernel
  · split
    · decide +kernel
    · exact tok_low h
theorem can_two (v : List UInt8) : canL 2 v = lowL v := by unfold canL; rw [if_neg (by omega), if_neg (by omega)]
theorem again_acc {m : List UInt8} {r : ByteArray} {q : Int} (h : memP 1 m = some (r, q)) : memP 1 (onePref (r, q)) = some (r, q) ∧ IsMem (onePref (r, q)) ∧ r.size ≤ 2 * m.length + 1 := by
  unfold memP at h
  cases hp : parL m with
  | none => rw [hp] at h; cases h
  | some y =>
    obtain ⟨v, L⟩ := y
    rw [hp] at h; simp only at h
    cases hq : qualP L with
    | none => rw [hq] at h; cases h
    | some q' =>
      rw [hq] at h; simp only at h
      rw [if_pos trivial] at h
      cases hr : rangeL v with
      | none => rw [hr] at h; cases h
      | some z =>
        obtain ⟨a, b, M⟩ := z
        rw [hr] at h
        simp only [Option.some.injEq, Prod.mk.injEq] at h
        obtain ⟨hr1, rfl⟩ := h
        obtain ⟨⟨t1, t2, t3, t4, t5⟩, _, hab, _⟩ := range_facts hr
        obtain ⟨gL, _, _, _, _⟩ := par_facts hp
        have hsz := par_size2 hp
        have qb : 0 ≤ q' ∧ q' ≤ 1000 := by
          unfold qualP at hq
          split at hq
          · exact qv_bounds hq
          · cases hq; omega
        obtain ⟨P, hP⟩ : ∃ P, L.take (atQ L) = P := ⟨_, rfl⟩
        have gP : ∀ p ∈ P, GoodP p := fun p hp => gL p (by rw [← hP] at hp; exact List.mem_of_mem_take hp)
        have nP : ∀ p ∈ P, isQ p = false := fun p hp => by
          rw [← hP] at hp
          obtain ⟨i, hi, rfl⟩ := List.getElem_of_mem hp
          rw [List.length_take] at hi
          rw [List.getElem_take]
          exact atQ_before (by omega) (by omega)
        rw [hP] at hr1
        have hrl : r.data.toList = fmtPL (a.data.toList ++ 47 :: b.data.toList) P := by
          rw [← hr1]
          show fmtPL (a ++ (⟨#[47]⟩ : ByteArray) ++ b).data.toList P = _
          congr 1
          simp [ByteArray.data_append]
        have ht := one_with hrl qb.1 qb.2
        have hpar := par_back2 (media_piece t1 t2) (media_trim t1 t2) (by simp) (with_good gP qb.1 qb.2)
        have hrv : rangeL (a.data.toList ++ 47 :: b.data.toList) = some (a, b, []) := by
          have h0 := par_back2 (L := []) (media_piece t1 t2) (media_trim t1 t2) (by simp) (fun p hp => by cases hp)
          have e0 : fmtPL (a.data.toList ++ 47 :: b.data.toList) [] = a.data.toList ++ 47 :: b.data.toList := by unfold fmtPL; simp
          rw [e0] at h0
          unfold rangeL
          rw [h0]; simp only
          rw [type_back t1 t2 t3 t4 t5]
        refine ⟨?_, ?_, ?_⟩
        · rw [ht, mem_acc hpar (with_qual nP qb.1 qb.2), hrv, with_at nP, with_take]
          show some (fmtPB (a ++ (⟨#[47]⟩ : ByteArray) ++ b) P, q') = _
          rw [hr1]
        · rw [ht]
          refine fmt_mem (fun q hq => ?_) (by simp) (fun r c r' h => ?_) ?_ (with_good gP qb.1 qb.2)
          · rw [List.append_assoc, List.cons_append]
            exact pc_tok t1 (Piece.cons (by decide) (by decide) (pc_tok t2 hq))
          · rw [List.append_assoc] at h; exact first_ok t1 c r' h
          · have e : a.data.toList ++ 47 :: b.data.toList = (a.data.toList ++ [47]) ++ b.data.toList := by simp
            rw [e]; exact last_app13 (tok_ne t2) (last_tok t2)
        · have hl := fmt_len (a.data.toList ++ 47 :: b.data.toList) P
          have hz : r.data.toList.length = r.size := by simp
          have za : a.data.toList.length = a.size := by simp
          have zb : b.data.toList.length = b.size := by simp
          have h1 : szF P ≤ szF L := by rw [← hP]; exact szF_take _ _
          have h2 : P.length ≤ L.length := by rw [← hP, List.length_take]; omega
          rw [← hrl, hz, List.length_append, List.length_cons] at hl
          omega
theorem again_oth {k : Int} {m : List UInt8} {r : ByteArray} {q : Int} (hk1 : k ≠ 1) (h : memP k m = some (r, q)) : memP k (onePref (r, q)) = some (r, q) ∧ IsMem (onePref (r, q)) ∧ r.size ≤ 2 * m.length + 1 := by
  cases hp : parL m with
  | none => rw [mem_none hp] at h; cases h
  | some y =>
    obtain ⟨v, L⟩ := y
    cases hq : qualP L with
    | none => rw [mem_noq hp hq] at h; cases h
    | some q' =>
      rw [mem_oth hk1 hp hq] at h
      by_cases ht : ((if k = 2 then rangeT v else tokL v) && decide (atQ L = 0)) = true
      · rw [if_pos ht] at h
        cases h
        rw [Bool.and_eq_true, decide_eq_true_eq] at ht
        have hsz := par_size2 hp
        have qb : 0 ≤ q ∧ q ≤ 1000 := by
          unfold qualP at hq
          split at hq
          · exact qv_bounds hq
          · cases hq; omega
        have hv : tokL v = true := by
          by_cases h2 : k = 2
          · rw [if_pos h2] at ht; exact range_tok ht.1
          · rw [if_neg h2] at ht; exact ht.1
        have hr := can_tok (k := k) hv
        have hone := one_with (r := bs (canL k v)) (v := canL k v) (P := []) (q := q) (by rw [bs_toList]; unfold fmtPL; simp) qb.1 qb.2
        have gP := with_good (P := []) (q := q) (fun p hp => by cases hp) qb.1 qb.2
        have nP : ∀ p ∈ ([] : List F), isQ p = false := fun p hp => by cases hp
        have hpar := par_back2 (v := canL k v) (by have := Piece.tok hr (Piece.nil 59); rwa [List.append_nil] at this) (by have := trim_tok (v := canL k v) (a := []) (b := []) hr (by simp) (by simp); rwa [List.nil_append, List.append_nil] at this) (tok_ne hr) gP
        refine ⟨?_, ?_, ?_⟩
        · rw [hone, mem_oth hk1 hpar (with_qual nP qb.1 qb.2), with_at nP]
          have hc : (if k = 2 then rangeT (canL k v) else tokL (canL k v)) = true := by
            by_cases h2 : k = 2
            · rw [if_pos h2]; rw [if_pos h2] at ht; subst h2; rw [can_two, range_low]; exact ht.1
            · rw [if_neg h2]; exact hr
          rw [hc, if_pos (by simp), can_can]
        · rw [hone]
          exact fmt_mem (fun q hq => pc_tok hr hq) (tok_ne hr) (fun r c r' h => first_ok hr c r' h) (last_tok hr) gP
        · have := can_len k v
          rw [bs_size]; omega
      · rw [if_neg ht] at h; cases h
theorem again {k : Int} {m : List UInt8} {p : QP} (h : memP k m = some p) : memP k (onePref p) = some p ∧ IsMem (onePref p) ∧ p.1.size ≤ 2 * m.length + 1 := by
  obtain ⟨r, q⟩ := p
  by_cases h1 : k = 1
  · subst h1; exact again_acc h
  · exact again_oth h1 h
theorem joinC_len13 : ∀ (ms : List (List UInt8)) (n : Nat), (∀ m ∈ ms, m.length ≤ n) → (joinC ms).length ≤ ms.length * (n + 2)
  | [], n, _ => Nat.zero_le _
  | [m], n, h => by have := h m (by simp); show m.length ≤ 1 * (n + 2); omega
  | m :: y :: r, n, h => by
    have ih := joinC_len13 (y :: r) n (fun x hx => h x (by simp [hx]))
    have h1 := h m (by simp)
    have e : (joinC (m :: y :: r)).length = m.length + 2 + (joinC (y :: r)).length := by
      show (m ++ [44, 32] ++ joinC (y :: r)).length = _
      rw [List.length_append, List.length_append]; rfl
    have e2 : (m :: y :: r).length * (n + 2) = (y :: r).length * (n + 2) + (n + 2) := by
      rw [List.length_cons, Nat.add_mul, Nat.one_mul]
    rw [e, e2]; omega
theorem qual_bounds {L : List F} {q : Int} (hq : qualP L = some q) : 0 ≤ q ∧ q ≤ 1000 := by
  unfold qualP at hq
  split at hq
  · exact qv_bounds hq
  · cases hq; omega
theorem mem_q {k : Int} {m : List UInt8} {p : QP} (h : memP k m = some p) : 0 ≤ p.2 ∧ p.2 ≤ 1000 := by
  cases hp : parL m with
  | none => rw [mem_none hp] at h; cases h
  | some y =>
    obtain ⟨v, L⟩ := y
    cases hq : qualP L with
    | none => rw [mem_noq hp hq] at h; cases h
    | some q =>
      have hb := qual_bounds hq
      by_cases h1 : k = 1
      · subst h1
        rw [mem_acc hp hq] at h
        cases hr : rangeL v with
        | none => rw [hr] at h; cases h
        | some z => rw [hr] at h; cases h; exact hb
      · rw [mem_oth h1 hp hq] at h
        by_cases ht : ((if k = 2 then rangeT v else tokL v) && decide (atQ L = 0)) = true
        · rw [if_pos ht] at h; cases h; exact hb
        · rw [if_neg ht] at h; cases h
theorem prefs_q {k : Int} {L : List F} : ∀ p ∈ prefsV k L, 0 ≤ p.2 ∧ p.2 ≤ 1000 := by
  intro p hp
  unfold prefsV at hp
  split at hp
  · unfold prefsL at hp
    obtain ⟨m, _, hm⟩ := List.mem_filterMap.1 hp
    exact mem_q hm
  · cases hp
end
section
theorem blank_text15 {c : UInt8} (h : blankB c = true) : textI c.toNat = true := by
  unfold blankB blankI at h
  unfold textI
  simp only [Bool.or_eq_true, beq_iff_eq] at h
  simp only [Bool.or_eq_true, beq_iff_eq, decide_eq_true_eq]
  rcases h with h | h
  · exact .inl (.inr ⟨by omega, by omega⟩)
  · exact .inl (.inl h)
theorem text_app {a b : List UInt8} (h1 : textL a = true) (h2 : textL b = true) : textL (a ++ b) = true :=
  text_mk fun c hc => by
    rcases List.mem_append.1 hc with q | q
    · exact text_byte h1 c q
    · exact text_byte h2 c q
theorem text_trim15 {l : List UInt8} (h : textL (trimL l) = true) : textL l = true := by
  obtain ⟨a, b, e, ha, hb, _⟩ := trim_split l
  refine text_mk fun c hc => ?_
  rw [e] at hc
  rcases List.mem_append.1 hc with q | q
  · exact blank_text15 (ha c q)
  · rcases List.mem_append.1 q with q | q
    · exact text_byte h c q
    · exact blank_text15 (hb c q)
theorem unq_text {l u : List UInt8} (h : unqL l = some u) : textL l = true := by
  obtain ⟨m, rfl, hm, _⟩ := unq_parts h
  refine text_mk fun c hc => ?_
  rcases List.mem_cons.1 hc with rfl | hc
  · decide
  · rcases List.mem_append.1 hc with q | q
    · exact text_byte hm c q
    · rw [List.mem_singleton.1 q]; decide
theorem cut_join15 {c : UInt8} {l : List UInt8} (h : cutB c l = true) : l = cut1 c l ++ c :: cut2 c l := by
  unfold cutB at h
  have hm := List.contains_iff_mem.1 h
  unfold cut1 cut2
  conv => lhs; rw [← List.takeWhile_append_dropWhile (p := (· != c)) (l := l)]
  congr 1
  cases hd : l.dropWhile (· != c) with
  | nil =>
    have e := List.takeWhile_append_dropWhile (p := (· != c)) (l := l)
    rw [hd, List.append_nil] at e
    have hm2 : c ∈ l.takeWhile (· != c) := by rw [e]; exact hm
    have := (List.all_eq_true.1 (List.all_takeWhile (p := (· != c)) (l := l))) c hm2
    simp at this
  | cons d r =>
    have := List.head?_dropWhile_not (· != c) l
    rw [hd] at this
    have e : d = c := by simpa using this
    rw [e]; rfl
theorem param_text {x : List UInt8} {p : F} (h : paramL x = some p) : textL x = true := by
  unfold paramL at h
  split at h
  · cases h
  · rename_i hc
    have hB : cutB 61 x = true := by
      cases hh : cutB 61 x with
      | true => rfl
      | false => exact absurd (.inl hh) hc
    have hT : tokL (cut1 61 x) = true := by
      cases hh : tokL (cut1 61 x) with
      | true => rfl
      | false => exact absurd (.inr hh) hc
    have h2 : textL (cut2 61 x) = true := by
      split at h
      · rename_i hv; exact tok_text hv
      · cases hu : unqL (cut2 61 x) with
        | none => rw [hu] at h; cases h
        | some u => exact unq_text hu
    rw [cut_join15 hB]
    refine text_app (tok_text hT) (text_mk fun c hc => ?_)
    rcases List.mem_cons.1 hc with rfl | hc
    · decide
    · exact text_byte h2 c hc
theorem parF_text : ∀ (ps : List (List UInt8)) (acc L : List F), parF ps acc = some L → ∀ p ∈ ps, textL p = true
  | [], acc, L, _, p, hp => by simp at hp
  | q :: ps, acc, L, h, p, hp => by
    unfold parF at h
    split at h
    · rename_i ht
      rcases List.mem_cons.1 hp with rfl | hp
      · exact text_trim15 (by rw [ht]; rfl)
      · exact parF_text ps acc L h p hp
    · cases hq : paramL (trimL q) with
      | none => rw [hq] at h; cases h
      | some f =>
        rw [hq] at h
        rcases List.mem_cons.1 hp with rfl | hp
        · exact text_trim15 (param_text hq)
        · exact parF_text ps _ L h p hp
theorem cut_chars {sep : UInt8} : ∀ (f : Nat) (q : Bool) (l acc : List UInt8), l.length ≤ f → ∀ c ∈ acc ++ l, c = sep ∨ ∃ p ∈ cutF sep f q l acc, c ∈ p
  | f, q, [], acc, _, c, hc => .inr ⟨acc, by rw [cutF_nil]; simp, by simpa using hc⟩
  | 0, q, d :: r, acc, h, c, hc => by simp at h
  | f + 1, q, d :: r, acc, h, c, hc => by
    simp only [List.length_cons] at h
    rw [cutF_cons]
    split
    · match r, h, hc with
      | [], h, hc => exact .inr ⟨acc ++ [d], by simp, hc⟩
      | e :: r2, h, hc =>
        simp only [List.length_cons] at h
        exact cut_chars f q r2 (acc ++ [d, e]) (by omega) c (by simpa using hc)
    · split
      · exact cut_chars f (!q) r (acc ++ [d]) (by omega) c (by simpa using hc)
      · split
        · rename_i hs
          rcases List.mem_append.1 hc with hq | hq
          · exact .inr ⟨acc, by simp, hq⟩
          · rcases List.mem_cons.1 hq with rfl | hq
            · exact .inl hs.1
            · rcases cut_chars f q r [] (by omega) c (by simpa using hq) with g | ⟨p, g1, g2⟩
              · exact .inl g
              · exact .inr ⟨p, by simp [g1], g2⟩
        · exact cut_chars f q r (acc ++ [d]) (by omega) c (by simpa using hc)
theorem media_text {s : List UInt8} {m : M} (h : mediaL s = some m) : textL s = true := by
  unfold mediaL at h
  cases hr : rangeL s with
  | none => rw [hr] at h; cases h
  | some t =>
    unfold rangeL at hr
    cases hp : parL s with
    | none => rw [hp] at hr; cases hr
    | some vL =>
      obtain ⟨v, L⟩ := vL
      rw [hp] at hr
      simp only at hr
      cases ht : typeL v with
      | none => rw [ht] at hr; cases hr
      | some ab =>
        unfold parL at hp
        cases hc : cutL 59 s with
        | nil => rw [hc] at hp; cases hp
        | cons x ps =>
          rw [hc] at hp
          simp only at hp
          split at hp
          · cases hp
          · cases hf : parF ps [] with
            | none => rw [hf] at hp; cases hp
            | some K =>
              rw [hf] at hp
              simp only [Option.some.injEq, Prod.mk.injEq] at hp
              obtain ⟨rfl, rfl⟩ := hp
              have hx : textL x = true := by
                refine text_trim15 ?_
                unfold typeL at ht
                split at ht
                · cases ht
                · rename_i h1
                  split at ht
                  · cases ht
                  · rename_i h2
                    split at ht
                    · cases ht
                    · rename_i h3
                      have hB : cutB 47 (trimL x) = true := by simpa using h1
                      rw [cut_join15 hB]
                      refine text_app (tok_text (by simpa using h2)) (text_mk fun c hc => ?_)
                      rcases List.mem_cons.1 hc with rfl | hc
                      · decide
                      · exact text_byte (tok_text (by simpa using h3)) c hc
              have hps := parF_text ps [] K hf
              refine text_mk fun c hcs => ?_
              rcases cut_chars (sep := 59) s.length false s [] (Nat.le_refl _) c (by simpa using hcs) with rfl | ⟨p, hp1, hp2⟩
              · decide
              · rw [show cutF 59 s.length false s [] = x :: ps from hc] at hp1
                rcases List.mem_cons.1 hp1 with rfl | hp1
                · exact text_byte hx c hp2
                · exact text_byte (hps p hp1) c hp2
theorem value_text {n x : ByteArray} (h : valueV n x = true) : textL x.data.toList = true := by
  unfold valueV at h
  split at h
  · rw [Bool.and_eq_true] at h
    obtain ⟨m, hm⟩ := Option.isSome_iff_exists.1 h.1
    exact media_text hm
  · split at h
    · exact tok_text (range_tok (by unfold rangeT; rw [h, Bool.or_true]))
    · split at h
      · rw [Bool.and_eq_true] at h; exact tok_text h.1
      · rw [Bool.and_eq_true, Bool.and_eq_true] at h; exact h.1.2
theorem valid_parts15 {x : AX} (h : validA x = true) : tokL x.1.data.toList = true ∧ lowL x.1.data.toList = x.1.data.toList ∧ 1 ≤ x.2.length ∧ x.2.length ≤ 16 ∧ ∀ v ∈ x.2, textL v.data.toList = true := by
  unfold validA headV at h
  simp only [Bool.and_eq_true, decide_eq_true_eq] at h
  obtain ⟨⟨⟨⟨h1, h2⟩, h3⟩, h4⟩, h5⟩ := h
  refine ⟨h1, h2, h3, h4, fun v hv => ?_⟩
  obtain ⟨i, hi, rfl⟩ := List.mem_iff_getElem.1 hv
  unfold valsV at h5
  have := List.all_eq_true.1 h5 i (List.mem_range.2 hi)
  rw [Bool.and_eq_true, atS_is hi] at this
  exact value_text this.1
theorem keep_fit {L : List AX} (hk : keepA L = true) : L.length ≤ 6 ∧ (∀ i (hi : i < L.length), fitA L[i]) := by
  obtain ⟨hl, hp⟩ := keepA_parts hk
  exact ⟨hl, fun i hi => by obtain ⟨a1, a2, a3⟩ := hp i hi; exact ⟨by omega, by omega, fun v hv => by have := a3 v hv; omega⟩⟩
end
section
abbrev KY := List ByteArray
def uniV (x : AX) : Prop := ∀ v : ByteArray, ∀ i j : Nat, i < j → j < x.2.length → sameV x.1 v (atS x.2 i) = true → sameV x.1 v (atS x.2 j) = false
theorem valid_uni {x : AX} (h : validA x = true) : uniV x := by
  intro v i j hij hj hi
  unfold validA at h
  rw [Bool.and_eq_true] at h
  unfold valsV at h
  have h1 := List.all_eq_true.1 h.2 j (List.mem_range.2 hj)
  rw [Bool.and_eq_true] at h1
  have h2 := List.all_eq_true.1 h1.2 i (List.mem_range.2 hij)
  cases hv : sameV x.1 v (atS x.2 j) with
  | false => rfl
  | true =>
    have h3 : sameV x.1 (atS x.2 j) v = true := by rw [sameV_symm]; exact hv
    rw [sameV_trans h3 hi] at h2
    cases h2
theorem validX_at {L : List AX} (h : validX L = true) (i : Nat) (hi : i < L.length) : validA L[i] = true := by
  unfold validX at h
  rw [Bool.and_eq_true] at h
  unfold axesV at h
  have h1 := List.all_eq_true.1 h.2 i (List.mem_range.2 hi)
  rw [Bool.and_eq_true, atA_is hi] at h1
  exact h1.1
theorem validX_len {L : List AX} (h : validX L = true) : 1 ≤ L.length ∧ L.length ≤ 4 := by
  unfold validX at h
  simp only [Bool.and_eq_true, decide_eq_true_eq] at h
  exact h.1
end
section
def idenL : List UInt8 := [105, 100, 101, 110, 116, 105, 116, 121]
def qual0 (k : Int) (v : List UInt8) : Int := if k = 4 ∧ foldL v idenL = true then 1 else 0
def stepQ14 (k : Int) (v : List UInt8) (st : Int × Int) (p : ByteArray × Int) : Int × Int := if st.1 < matchP k p.1.data.toList v then (matchP k p.1.data.toList v, p.2) else st
def bestQ (k : Int) (v : List UInt8) (L : List (ByteArray × Int)) (st : Int × Int) : Int × Int := L.foldl (stepQ14 k v) st
def qualR (k : Int) (L : List (ByteArray × Int)) (present : Bool) (v : List UInt8) : Int := if present = true then (bestQ k v L (-1, qual0 k v)).2 else 1000
theorem best_next {k : Int} {v : List UInt8} {L : List (ByteArray × Int)} {st : Int × Int} {j : Nat} (h : j < L.length) : bestQ k v (L.take (j + 1)) st = stepQ14 k v (bestQ k v (L.take j) st) L[j] := by
  unfold bestQ
  rw [List.take_succ_eq_append_getElem h, List.foldl_append]; rfl
/-- the greatest specificity -/
theorem best_is {k : Int} {v : List UInt8} : ∀ (L : List (ByteArray × Int)) (st : Int × Int), ((∀ p ∈ L, matchP k p.1.data.toList v ≤ st.1) ∧ bestQ k v L st = st) ∨
    ∃ p ∈ L, st.1 < matchP k p.1.data.toList v ∧ bestQ k v L st = (matchP k p.1.data.toList v, p.2) ∧ ∀ q ∈ L, matchP k q.1.data.toList v ≤ matchP k p.1.data.toList v
  | [], st => .inl ⟨fun p hp => (by cases hp), rfl⟩
  | p :: L, st => by
    have ih := best_is (k := k) (v := v) L (stepQ14 k v st p)
    have e : bestQ k v (p :: L) st = bestQ k v L (stepQ14 k v st p) := rfl
    rw [e]
    by_cases h : st.1 < matchP k p.1.data.toList v
    · have es : stepQ14 k v st p = (matchP k p.1.data.toList v, p.2) := by unfold stepQ14; rw [if_pos h]
      rw [es] at ih ⊢
      rcases ih with ⟨h1, h2⟩ | ⟨q, hq, h1, h2, h3⟩
      · refine .inr ⟨p, by simp, h, h2, fun q hq => ?_⟩
        rcases List.mem_cons.1 hq with rfl | hq
        · exact Int.le_refl _
        · exact h1 q hq
      · refine .inr ⟨q, by simp [hq], Int.lt_trans h h1, h2, fun r hr => ?_⟩
        rcases List.mem_cons.1 hr with rfl | hr
        · exact Int.le_of_lt h1
        · exact h3 r hr
    · have es : stepQ14 k v st p = st := by unfold stepQ14; rw [if_neg h]
      rw [es] at ih ⊢
      rcases ih with ⟨h1, h2⟩ | ⟨q, hq, h1, h2, h3⟩
      · refine .inl ⟨fun q hq => ?_, h2⟩
        rcases List.mem_cons.1 hq with rfl | hq
        · omega
        · exact h1 q hq
      · refine .inr ⟨q, by simp [hq], h1, h2, fun r hr => ?_⟩
        rcases List.mem_cons.1 hr with rfl | hr
        · omega
        · exact h3 r hr
section
variable (q : ByteArray → Int)
def insR (x : ByteArray) : List ByteArray → List ByteArray
  | [] => [x]
  | y :: ys => if q y < q x then x :: y :: ys else y :: insR x ys
def stepR (acc : List ByteArray) (v : ByteArray) : List ByteArray := if 0 < q v then insR q v acc else acc
def rankQ (V : List ByteArray) : List ByteArray := V.foldl (stepR q) []
def DescR : List ByteArray → Prop
  | [] => True
  | y :: ys => (∀ z ∈ ys, q z ≤ q y) ∧ DescR ys
/-- the place of a value: the better ones, and the equally good ones ahead of it -/
def aheadR (V : List ByteArray) (i k : Nat) : Bool := decide (q (V.getD i ⟨#[]⟩) < q (V.getD k ⟨#[]⟩)) || (decide (q (V.getD k ⟨#[]⟩) = q (V.getD i ⟨#[]⟩)) && decide (k < i))
def atR (V : List ByteArray) (i : Nat) : Nat := (List.range V.length).countP fun k => aheadR q V i k
end
variable {q : ByteArray → Int}
theorem ins_mem {x z : ByteArray} : ∀ {l : List ByteArray}, z ∈ insR q x l → z = x ∨ z ∈ l
  | [], h => by simp [insR] at h; exact .inl h
  | y :: ys, h => by
    unfold insR at h
    split at h
    · rcases List.mem_cons.1 h with h | h
      · exact .inl h
      · exact .inr h
    · rcases List.mem_cons.1 h with h | h
      · exact .inr (by simp [h])
      · rcases ins_mem h with h | h
        · exact .inl h
        · exact .inr (by simp [h])
theorem ins_desc {x : ByteArray} : ∀ {l : List ByteArray}, DescR q l → DescR q (insR q x l)
  | [], _ => ⟨fun z hz => (by cases hz), trivial⟩
  | y :: ys, h => by
    unfold insR
    split
    · rename_i hlt
      refine ⟨fun z hz => ?_, h⟩
      rcases List.mem_cons.1 hz with rfl | hz
      · omega
      · have := h.1 z hz; omega
    · rename_i hge
      refine ⟨fun z hz => ?_, ins_desc h.2⟩
      rcases ins_mem hz with rfl | hz
      · omega
      · exact h.1 z hz
/-- how many of a list come ahead of x -/
def aheadN (q : ByteArray → Int) (x : ByteArray) (l : List ByteArray) : Nat := l.countP fun y => decide (q x ≤ q y)
theorem ins_at {x : ByteArray} : ∀ {l : List ByteArray}, DescR q l → ∀ j, (insR q x l)[j]? = if j < aheadN q x l then l[j]? else if j = aheadN q x l then some x else l[j - 1]?
  | [], _, j => by
    unfold insR aheadN
    match j with
    | 0 => rfl
    | j + 1 => simp
  | y :: ys, h, j => by
    unfold insR
    by_cases hlt : q y < q x
    · have hz : aheadN q x (y :: ys) = 0 := by
        unfold aheadN
        rw [List.countP_eq_zero]
        intro z hz
        rcases List.mem_cons.1 hz with rfl | hz
        · simp; omega
        · have := h.1 z hz; simp; omega
      rw [if_pos hlt, hz, if_neg (by omega)]
      match j with
      | 0 => rfl
      | j + 1 => rw [if_neg (by omega)]; rfl
    · have hz : aheadN q x (y :: ys) = aheadN q x ys + 1 := by
        unfold aheadN
        rw [List.countP_cons, if_pos (by simp; omega)]
      rw [if_neg hlt, hz]
      match j with
      | 0 => rw [if_pos (by omega)]; rfl
      | j + 1 =>
        rw [List.getElem?_cons_succ, ins_at h.2 j]
        by_cases h1 : j < aheadN q x ys
        · rw [if_pos h1, if_pos (show j + 1 < aheadN q x ys + 1 by omega)]; rfl
        · rw [if_neg h1, if_neg (show ¬ j + 1 < aheadN q x ys + 1 by omega)]
          by_cases h2 : j = aheadN q x ys
          · rw [if_pos h2, if_pos (show j + 1 = aheadN q x ys + 1 by omega)]
          · rw [if_neg h2, if_neg (show ¬ j + 1 = aheadN q x ys + 1 by omega)]
            obtain ⟨m, rfl⟩ : ∃ m, j = m + 1 := ⟨j - 1, by omega⟩
            rfl
/-- in a list in order: the values ahead are those at the front -/
theorem ahead_front {x : ByteArray} : ∀ {l : List ByteArray}, DescR q l → ∀ j (hj : j < l.length), j < aheadN q x l ↔ q x ≤ q l[j]
  | y :: ys, h, j, hj => by
    by_cases hlt : q y < q x
    · have hz : aheadN q x (y :: ys) = 0 := by
        unfold aheadN
        rw [List.countP_eq_zero]
        intro z hz
        rcases List.mem_cons.1 hz with rfl | hz
        · simp; omega
        · have := h.1 z hz; simp; omega
      rw [hz]
      have hle : q (y :: ys)[j] ≤ q y := by
        match j, hj with
        | 0, _ => exact Int.le_refl _
        | j + 1, hj => exact h.1 _ (List.getElem_mem _)
      constructor
      · omega
      · omega
    · have hz : aheadN q x (y :: ys) = aheadN q x ys + 1 := by
        unfold aheadN
        rw [List.countP_cons, if_pos (by simp; omega)]
      rw [hz]
      match j, hj with
      | 0, _ => exact ⟨fun _ => by show q x ≤ q y; omega, fun _ => by omega⟩
      | j + 1, hj =>
        have ih := ahead_front (x := x) h.2 j (by simpa using hj)
        constructor
        · intro hh; exact ih.1 (by omega)
        · intro hh; have := ih.2 hh; omega
theorem rank_snoc (W : List ByteArray) (x : ByteArray) : rankQ q (W ++ [x]) = stepR q (rankQ q W) x := by unfold rankQ; rw [List.foldl_append]; rfl
theorem ins_count {p : ByteArray → Bool} {x : ByteArray} : ∀ (l : List ByteArray), (insR q x l).countP p = l.countP p + (if p x = true then 1 else 0)
  | [] => by unfold insR; rw [List.countP_cons, List.countP_nil]
  | y :: ys => by
    unfold insR
    split
    · rw [List.countP_cons]
    · rw [List.countP_cons, List.countP_cons, ins_count ys]; omega
theorem getD_snoc {W : List ByteArray} {x : ByteArray} {k : Nat} (h : k < W.length) : (W ++ [x]).getD k ⟨#[]⟩ = W.getD k ⟨#[]⟩ := by
  rw [List.getD_eq_getElem?_getD, List.getD_eq_getElem?_getD, List.getElem?_append_left h]
theorem getD_last {W : List ByteArray} {x : ByteArray} : (W ++ [x]).getD W.length ⟨#[]⟩ = x := by
  rw [List.getD_eq_getElem?_getD, List.getElem?_append_right (Nat.le_refl _)]; simp
theorem at_snoc {W : List ByteArray} {x : ByteArray} {i : Nat} (h : i < W.length) : atR q (W ++ [x]) i = atR q W i + (if q (W.getD i ⟨#[]⟩) < q x then 1 else 0) := by
  unfold atR
  have hl : (W ++ [x]).length = W.length + 1 := by simp
  rw [hl, List.range_succ, List.countP_append]
  congr 1
  · apply List.countP_congr
    intro k hk
    have hk2 : k < W.length := by simpa using hk
    unfold aheadR
    rw [getD_snoc h, getD_snoc hk2]
  · rw [List.countP_cons, List.countP_nil]
    have e : aheadR q (W ++ [x]) i W.length = decide (q (W.getD i ⟨#[]⟩) < q x) := by
      unfold aheadR
      rw [getD_snoc h, getD_last, decide_eq_false (by omega : ¬ W.length < i), Bool.and_false, Bool.or_false]
    rw [e]
    simp
theorem at_last {W : List ByteArray} {x : ByteArray} : atR q (W ++ [x]) W.length = W.countP fun y => decide (q x ≤ q y) := by
  unfold atR
  have hl : (W ++ [x]).length = W.length + 1 := by simp
  rw [hl, List.range_succ, List.countP_append, List.countP_cons, List.countP_nil]
  have e0 : aheadR q (W ++ [x]) W.length W.length = false := by
    unfold aheadR; rw [getD_last, decide_eq_false (by omega), decide_eq_false (by omega : ¬ W.length < W.length)]; simp
  rw [e0]
  simp only [Bool.false_eq_true, if_false, Nat.add_zero]
  have key : ∀ (n : Nat), n ≤ W.length → (List.range n).countP (fun k => aheadR q (W ++ [x]) W.length k) = (W.take n).countP fun y => decide (q x ≤ q y) := by
    intro n
    induction n with
    | zero => intro _; rfl
    | succ n ih =>
      intro hn
      rw [List.range_succ, List.countP_append, ih (by omega), List.take_succ_eq_append_getElem (by omega), List.countP_append]
      congr 1
      rw [List.countP_cons, List.countP_nil, List.countP_cons, List.countP_nil]
      have e : aheadR q (W ++ [x]) W.length n = decide (q x ≤ q (W[n]'(by omega))) := by
        unfold aheadR
        rw [getD_last, getD_snoc (by omega), List.getD_eq_getElem?_getD, List.getElem?_eq_getElem (by omega : n < W.length), decide_eq_true (by omega : n < W.length), Bool.and_true]
        simp only [Option.getD_some]
        by_cases h1 : q x < q (W[n]'(by omega))
        · rw [decide_eq_true h1, Bool.true_or, decide_eq_true (Int.le_of_lt h1)]
        · rw [decide_eq_false h1, Bool.false_or]
          apply decide_eq_decide.2; omega
      rw [e]
  rw [key W.length (Nat.le_refl _), List.take_length]
theorem rank_all : ∀ (n : Nat) (V : List ByteArray), V.length = n → DescR q (rankQ q V) ∧ (∀ p : ByteArray → Bool, (rankQ q V).countP p = V.countP fun y => p y && decide (0 < q y)) ∧ ∀ i (hi : i < V.length), 0 < q V[i] → (rankQ q V)[atR q V i]? = some V[i]
  | 0, V, h => by
    have : V = [] := List.length_eq_zero_iff.1 h
    subst this
    exact ⟨trivial, fun p => rfl, fun i hi => by simp at hi⟩
  | n + 1, V, h => by
    obtain ⟨W, x, rfl⟩ : ∃ W x, V = W ++ [x] := by
      have hne : V ≠ [] := by intro e; subst e; simp at h
      exact ⟨V.dropLast, V.getLast hne, (List.dropLast_concat_getLast hne).symm⟩
    have hW : W.length = n := by simpa using h
    obtain ⟨i1, i2, i3⟩ := rank_all n W hW
    rw [rank_snoc]
    unfold stepR
    by_cases hx : 0 < q x
    · rw [if_pos hx]
      refine ⟨ins_desc i1, fun p => ?_, fun i hi hqi => ?_⟩
      · rw [ins_count, i2 p, List.countP_append, List.countP_cons, List.countP_nil]
        simp [hx]
      · have hn : aheadN q x (rankQ q W) = W.countP fun y => decide (q x ≤ q y) := by
          unfold aheadN
          rw [i2]
          apply List.countP_congr
          intro y _
          simp only [Bool.and_eq_true, decide_eq_true_eq]
          omega
        by_cases hil : i < W.length
        · have hVi : (W ++ [x])[i] = W[i] := List.getElem_append_left hil
          rw [hVi] at hqi ⊢
          have ih := i3 i hil hqi
          have hg : W.getD i ⟨#[]⟩ = W[i] := by rw [List.getD_eq_getElem?_getD, List.getElem?_eq_getElem hil]; rfl
          rw [at_snoc hil, hg, ins_at i1]
          have hlt : atR q W i < (rankQ q W).length := by
            rcases Nat.lt_or_ge (atR q W i) (rankQ q W).length with h | h
            · exact h
            · rw [List.getElem?_eq_none h] at ih; cases ih
          have hel : (rankQ q W)[atR q W i] = W[i] := by rw [List.getElem?_eq_getElem hlt] at ih; exact Option.some.inj ih
          have hf := ahead_front (x := x) i1 _ hlt
          rw [hel] at hf
          by_cases hxi : q W[i] < q x
          · rw [if_pos hxi]
            have hge : ¬ atR q W i < aheadN q x (rankQ q W) := fun h => by have := hf.1 h; omega
            rw [if_neg (by omega), if_neg (by omega), Nat.add_sub_cancel]; exact ih
          · rw [if_neg hxi, Nat.add_zero, if_pos (hf.2 (by omega))]; exact ih
        · have hie : i = W.length := by simp at hi; omega
          subst hie
          have hVi : (W ++ [x])[W.length] = x := by simp
          rw [hVi, at_last, ← hn, ins_at i1, if_neg (by omega), if_pos rfl]
    · rw [if_neg hx]
      refine ⟨i1, fun p => ?_, fun i hi hqi => ?_⟩
      · rw [i2 p, List.countP_append, List.countP_cons, List.countP_nil]
        simp [hx]
      · by_cases hil : i < W.length
        · have hVi : (W ++ [x])[i] = W[i] := List.getElem_append_left hil
          rw [hVi] at hqi ⊢
          have hg : W.getD i ⟨#[]⟩ = W[i] := by rw [List.getD_eq_getElem?_getD, List.getElem?_eq_getElem hil]; rfl
          rw [at_snoc hil, hg, if_neg (by omega), Nat.add_zero]
          exact i3 i hil hqi
        · have hie : i = W.length := by simp at hi; omega
          subst hie
          have hVi : (W ++ [x])[W.length] = x := by simp
          rw [hVi] at hqi; exact absurd hqi hx
theorem rank_len (V : List ByteArray) : (rankQ q V).length = V.countP fun y => decide (0 < q y) := by
  have := (rank_all (q := q) V.length V rfl).2.1 (fun _ => true)
  simpa using this
end
section
/-- what a request with the fields L says of an axis -/
def qlS (x : AX) (L : List F) : ByteArray → Int := fun v => qualR (kindN x.1) (prefsV (kindN x.1) L) (prefsO (kindN x.1) L) v.data.toList
def accS (x : AX) (L : List F) : List ByteArray := if kindN x.1 = 0 then x.2.filter (fun v => decide (v = joinB (allB x.1 L))) else rankQ (qlS x L) x.2
/-- 17.1 -/
def rankS (x : AX) (L : List F) (strict : Bool) : List ByteArray :=
  if validA x = false then [] else if accS x L = [] ∧ strict = false then [atS x.2 0] else accS x L
theorem rankQ_mem {q : ByteArray → Int} {z : ByteArray} : ∀ {V : List ByteArray}, z ∈ rankQ q V → z ∈ V ∧ 0 < q z := by
  intro V h
  have key : ∀ (n : Nat) (V : List ByteArray), V.length = n → z ∈ rankQ q V → z ∈ V ∧ 0 < q z := by
    intro n
    induction n with
    | zero =>
      intro V hV h
      obtain rfl := List.length_eq_zero_iff.1 hV
      cases h
    | succ n ih =>
      intro V hV h
      obtain ⟨W, x, rfl⟩ : ∃ W x, V = W ++ [x] := by
        have hne : V ≠ [] := by intro e; subst e; simp at hV
        exact ⟨V.dropLast, V.getLast hne, (List.dropLast_concat_getLast hne).symm⟩
      have hW : W.length = n := by simpa using hV
      rw [rank_snoc] at h
      unfold stepR at h
      split at h
      · rename_i hx
        rcases ins_mem h with rfl | h
        · exact ⟨by simp, hx⟩
        · obtain ⟨h1, h2⟩ := ih W hW h
          exact ⟨by simp [h1], h2⟩
      · obtain ⟨h1, h2⟩ := ih W hW h
        exact ⟨by simp [h1], h2⟩
  exact key _ V rfl h
theorem acc_mem {x : AX} {L : List F} {z : ByteArray} (h : z ∈ accS x L) : z ∈ x.2 := by
  unfold accS at h
  split at h
  · exact (List.mem_filter.1 h).1
  · exact (rankQ_mem h).1
theorem acc_len (x : AX) (L : List F) : (accS x L).length ≤ x.2.length := by
  unfold accS
  split
  · exact List.length_filter_le _ _
  · rw [rank_len]; exact List.countP_le_length
theorem validA_len {x : AX} (h : validA x = true) : 1 ≤ x.2.length ∧ x.2.length ≤ 16 := by
  unfold validA headV at h
  simp only [Bool.and_eq_true, decide_eq_true_eq] at h
  omega
theorem rankS_mem {x : AX} {L : List F} {st : Bool} {z : ByteArray} (h : z ∈ rankS x L st) : z ∈ x.2 := by
  unfold rankS at h
  split at h
  · cases h
  · rename_i hv
    have hv2 : validA x = true := by cases e : validA x with
      | true => rfl
      | false => exact absurd e hv
    split at h
    · rw [List.mem_singleton.1 h, atS_is (by have := (validA_len hv2).1; omega)]
      exact List.getElem_mem _
    · exact acc_mem h
theorem rankS_len (x : AX) (L : List F) (st : Bool) : (rankS x L st).length ≤ 16 := by
  unfold rankS
  split
  · exact Nat.zero_le _
  · rename_i hv
    have hv2 : validA x = true := by cases e : validA x with
      | true => rfl
      | false => exact absurd e hv
    split
    · show 1 ≤ 16; omega
    · have := acc_len x L; have := validA_len hv2; omega
theorem rankS_bad {x : AX} {L : List F} {st : Bool} (h : validA x = false) : rankS x L st = [] := by unfold rankS; rw [if_pos h]
theorem rankS_dflt {x : AX} {L : List F} (h : validA x = true) (h2 : accS x L = []) : rankS x L false = [atS x.2 0] := by
  unfold rankS; rw [if_neg (by rw [h]; simp), if_pos ⟨h2, rfl⟩]
theorem rankS_acc {x : AX} {L : List F} {st : Bool} (h : validA x = true) (h2 : accS x L ≠ [] ∨ st = true) : rankS x L st = accS x L := by
  unfold rankS; rw [if_neg (by rw [h]; simp), if_neg (fun hh => by rcases h2 with q | q; exact q hh.1; rw [q] at hh; cases hh.2)]
theorem valid_ne {x : AX} (h : validA x = true) {i j : Nat} (hij : i < j) (hj : j < x.2.length) : x.2[i]'(by omega) ≠ x.2[j] := by
  intro e
  have hu := valid_uni h (atS x.2 i) i j hij hj (sameV_refl _ _)
  rw [atS_is hj, ← e, atS_is (by omega : i < x.2.length), sameV_refl] at hu
  cases hu
def hasS (V : List ByteArray) (j : ByteArray) : Bool := V.any fun v => decide (v = j)
theorem hasS_iff {V : List ByteArray} {j : ByteArray} : hasS V j = true ↔ j ∈ V := by
  unfold hasS
  rw [List.any_eq_true]
  exact ⟨fun ⟨v, h, e⟩ => by have := of_decide_eq_true e; subst this; exact h, fun h => ⟨j, h, decide_eq_true rfl⟩⟩
theorem filter_one {V : List ByteArray} {j : ByteArray} (hd : ∀ i k (hik : i < k) (hk : k < V.length), V[i]'(by omega) ≠ V[k]) : V.filter (fun v => decide (v = j)) = if hasS V j = true then [j] else [] := by
  induction V with
  | nil => rfl
  | cons v V ih =>
    have ih' := ih (fun i k hik hk => by have := hd (i + 1) (k + 1) (by omega) (by simp; omega); simpa using this)
    by_cases hv : v = j
    · subst hv
      have hno : v ∉ V := by
        intro hm
        obtain ⟨i, hi, e⟩ := List.getElem_of_mem hm
        exact hd 0 (i + 1) (by omega) (by simp; omega) (by simp [e])
      rw [List.filter_cons, if_pos (by simp), ih', if_neg (fun h => hno (hasS_iff.1 h)), if_pos (hasS_iff.2 (by simp))]
    · rw [List.filter_cons, if_neg (by simp [hv]), ih']
      have : hasS (v :: V) j = hasS V j := by
        unfold hasS
        rw [List.any_cons, decide_eq_false hv, Bool.false_or]
      rw [this]
theorem acc_other {x : AX} {L : List F} (h : validA x = true) (hk : kindN x.1 = 0) : accS x L = if hasS x.2 (joinB (allB x.1 L)) = true then [joinB (allB x.1 L)] else [] := by
  unfold accS
  rw [if_pos hk]
  exact filter_one (fun i k hik hk2 => valid_ne h hik hk2)
end
section
def midF (L : List F) (f : F) (k : Nat) : List F := L.take k ++ f :: L.drop k
theorem mid_filter {L : List F} {f : F} {k : Nat} {p : F → Bool} (h : p f = false) : (midF L f k).filter p = L.filter p := by
  unfold midF
  rw [List.filter_append, List.filter_cons, h]
  simp only [Bool.false_eq_true, if_false]
  rw [← List.filter_append, List.take_append_drop]
theorem mid_any {L : List F} {f : F} {k : Nat} {p : F → Bool} (h : p f = false) : (midF L f k).any p = L.any p := by
  unfold midF
  rw [List.any_append, List.any_cons, h, Bool.false_or, ← List.any_append, List.take_append_drop]
theorem mid_all {L : List F} {f : F} {k : Nat} {nm : ByteArray} (h : nmd nm f = false) : allL nm (midF L f k) = allL nm L := by
  unfold allL getL
  rw [mid_filter h]
theorem kind_fold {n : ByteArray} (h : kindN n ≠ 0) : foldL n.data.toList (nameK (kindN n)).data.toList = true := by
  unfold kindN at h ⊢
  split
  · rename_i h1; exact h1
  · split
    · rename_i h1; exact h1
    · split
      · rename_i h1; exact h1
      · split
        · rename_i h1; exact h1
        · rename_i h1 h2 h3 h4
          rw [if_neg h1, if_neg h2, if_neg h3, if_neg h4] at h
          exact absurd rfl h
theorem nmd_other {n : ByteArray} {f : F} (h : foldL n.data.toList f.1.data.toList = false) {m : ByteArray} (hm : foldL n.data.toList m.data.toList = true) : nmd m f = false := by
  unfold nmd
  cases e : foldL f.1.data.toList m.data.toList with
  | false => rfl
  | true =>
    have h1 := fold_trans hm (by rw [fold_symm]; exact e)
    rw [h] at h1; cases h1
theorem fold_self (a : List UInt8) : foldL a a = true := by unfold foldL; exact decide_eq_true rfl
theorem acc_mid {x : AX} {L : List F} {f : F} {k : Nat} (h : foldL x.1.data.toList f.1.data.toList = false) : accS x (midF L f k) = accS x L := by
  unfold accS
  split
  · have : allB x.1 (midF L f k) = allB x.1 L := by unfold allB; rw [mid_all (nmd_other h (fold_self _))]
    rw [this]
  · rename_i hk
    have hn := nmd_other h (kind_fold hk)
    have ho : prefsO (kindN x.1) (midF L f k) = prefsO (kindN x.1) L := by unfold prefsO; rw [mid_any hn]
    have hp : prefsV (kindN x.1) (midF L f k) = prefsV (kindN x.1) L := by unfold prefsV prefsL; rw [ho, mid_all hn]
    have hq : qlS x (midF L f k) = qlS x L := by unfold qlS; rw [ho, hp]
    rw [hq]
end
section
/-- each axis with its ranked values -/
def rankX (X : List AX) (L : List F) (st : Bool) : List AX := X.map fun x => (x.1, rankS x L st)
/-- 18.1 -/
def classS (X : List AX) (L : List F) (st : Bool) : ByteArray := if validX X = true then axesB (rankX X L st) else ⟨#[]⟩
def sameC (X : List AX) (L M : List F) (st : Bool) : Bool := validX X && decide (classS X L st = classS X M st)
theorem same_rows {X : List AX} {L M : List F} {st : Bool} (hv : validX X = true) (h : ∀ x ∈ X, accS x L = accS x M) : sameC X L M st = true := by
  have hr : rankX X L st = rankX X M st := by
    unfold rankX
    refine List.map_congr_left (fun x hx => ?_)
    unfold rankS
    rw [h x hx]
  unfold sameC classS
  rw [hv, hr]
  simp
end
section
theorem ins_congr {q p : ByteArray → Int} {x : ByteArray} (hx : q x = p x) : ∀ {l : List ByteArray}, (∀ y ∈ l, q y = p y) → insR q x l = insR p x l
  | [], _ => rfl
  | y :: ys, h => by
    unfold insR
    rw [h y (by simp), hx, ins_congr hx (fun z hz => h z (by simp [hz]))]
theorem rankQ_congr {q p : ByteArray → Int} : ∀ (n : Nat) (V : List ByteArray), V.length = n → (∀ v ∈ V, q v = p v) → rankQ q V = rankQ p V
  | 0, V, hV, _ => by
    obtain rfl := List.length_eq_zero_iff.1 hV
    rfl
  | n + 1, V, hV, h => by
    obtain ⟨W, x, rfl⟩ : ∃ W x, V = W ++ [x] := by
      have hne : V ≠ [] := by intro e; subst e; simp at hV
      exact ⟨V.dropLast, V.getLast hne, (List.dropLast_concat_getLast hne).symm⟩
    have hW : W.length = n := by simpa using hV
    have hw : ∀ v ∈ W, q v = p v := fun v hv => h v (by simp [hv])
    have hx : q x = p x := h x (by simp)
    rw [rank_snoc, rank_snoc, rankQ_congr n W hW hw]
    unfold stepR
    rw [hx, ins_congr hx (fun y hy => hw y (rankQ_mem hy).1)]
/-- alike in what they say of the values -/
theorem acc_congr {x : AX} {L M : List F} (h0 : kindN x.1 = 0 → allL x.1 L = allL x.1 M) (h : kindN x.1 ≠ 0 → ∀ v ∈ x.2, qlS x L v = qlS x M v) : accS x L = accS x M := by
  unfold accS
  split
  · rename_i hk
    have : allB x.1 L = allB x.1 M := by unfold allB; rw [h0 hk]
    rw [this]
  · rename_i hk
    exact rankQ_congr _ _ rfl (h hk)
/-- lower-case names -/
theorem fold_eq18 {a b : List UInt8} (ha : lowL a = a) (hb : lowL b = b) : foldL a b = decide (a = b) := by
  unfold foldL
  rw [ha, hb]
theorem other_axis {X : List AX} (hv : validX X = true) {i j : Nat} (hi : i < X.length) (hj : j < X.length) (hij : i ≠ j) : foldL X[i].1.data.toList X[j].1.data.toList = false := by
  have h1 := (valid_parts15 (validX_at hv i hi)).2.1
  have h2 := (valid_parts15 (validX_at hv j hj)).2.1
  rw [fold_eq18 h1 h2]
  have key : ∀ i j (hi : i < X.length) (hj : j < X.length), j < i → X[i].1 ≠ X[j].1 := by
    intro i j hi hj hji
    unfold validX axesV at hv
    rw [Bool.and_eq_true] at hv
    have h3 := List.all_eq_true.1 hv.2 i (List.mem_range.2 hi)
    rw [Bool.and_eq_true] at h3
    have h4 := h3.2
    unfold newA at h4
    have h5 := List.all_eq_true.1 h4 j (List.mem_range.2 hji)
    have h6 := of_decide_eq_true h5
    rw [atA_is hi, atA_is hj] at h6
    exact h6
  have hne : X[i].1 ≠ X[j].1 := by
    rcases Nat.lt_or_gt_of_ne hij with h | h
    · exact fun e => key j i hj hi h e.symm
    · exact key i j hi hj h
  refine decide_eq_false (fun e => hne ?_)
  cases hx : X[i].1; cases hy : X[j].1
  rw [hx, hy] at e
  simp only at e
  congr 1
  exact Array.toList_inj.1 e
end
end Go.Proofs.YtklfpkaemnhdhaaGreatDoor.Asc
