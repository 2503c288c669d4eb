/- Merged texts: MsgRd3 MsgRef7 MsgRd4 MsgRd5 MsgRd6. -/
import Derived.Test.YtjabcfabenobiaaM08
import Derived.Test.YtjabcfabenobiaaM10
import Derived.BigRegion
import Derived.Deep.RegionHeld3
set_option linter.unusedVariables false
set_option linter.unusedSimpArgs false
set_option maxRecDepth 100000
namespace Go.Proofs.Ytjabcfabenobiaa.Asc
section
open Go.RowKit
theorem without_any (a : Option Addr) (cap : Nat) (L : List F) (w : World) (S : Box (Sm L)) (hF : Box (Fs w a L)) :
    Calls Try.prog 50 #[.slice a L.length cap] w fun e w' => ∃ v, e = .returned v ∧ OwnF w' w.heap.size v (unfrL L) ∧ Below w.heap.size w w' := by
  have hl := S.out.1
  have M1 : Box (clN.size ≤ 65536) := box (by decide)
  have M2 : Box (teN.size ≤ 65536) := box (by decide)
  have S2 : Box (Sm (remL clN L)) := box (sm_rem S.out)
  go_enter Try.func50, Try.ntmps50
  go_wp2_with fail
  refine (Remove_any a cap L clN _ hl S M1 hF).mono ?_; rintro e w1 ⟨v1, rfl, hO1, hb1⟩
  obtain ⟨a1, cap1, rfl, hF1, _⟩ := hO1.fs
  have F1 := box hF1
  have B1 := box hb1
  clear hO1 hF1 hb1
  go_wp2_with fail
  refine (Remove_any a1 cap1 _ teN _ S2.out.1 S2 M2 F1).mono ?_; rintro e w2 ⟨v2, rfl, hO2, hb2⟩
  have O2 := box (own_le hO2 B1.out.size)
  have B2 := box (B1.out.trans (hb2.mono B1.out.size))
  clear hO2 hb2
  go_wp2
  go_ret
  exact ⟨_, rfl, O2.out, B2.out⟩
theorem Fold_is {s t : ByteArray} {b : Bool} {w : World} (hs : Box (s.size ≤ 65536)) (ht : Box (t.size ≤ 65536)) (h : Box (foldL s.data.toList t.data.toList = b)) :
    Calls Try.prog 66 #[.string s, .string t] w fun e w' => e = .returned (.bool b) ∧ Below w.heap.size w w' := by
  have := Fold_any s t w (small_max hs).out (small_max ht).out
  rw [h.out] at this; exact this
theorem Number_is {s : ByteArray} {o : Option Int} {w : World} (hs : Box (s.size ≤ 65536)) (h : Box (numL s.data.toList = o)) :
    Calls Try.prog 67 #[.string s] w fun e w' => e = .returned (numT o) ∧ w = w' := by
  have := Number_any s w (small_max hs).out
  rw [h.out] at this; exact this
section
variable {g : Nat} {s x v : Value} {w : World}
theorem tc_many {a a2 : Option Addr} {n cap n2 cap2 : Nat} (hn : (1 : Int) < (n : Int)) :
    Calls Try.prog 51 #[.pointer (some ⟨g, 0, none⟩), .slice a n cap, .slice a2 n2 cap2] w fun e w' => e = .returned (.int .i64 7) ∧ w = w' := by
  go_enter Try.func51, Try.ntmps51
  go_wp2
  go_ret
  exact ⟨rfl, rfl⟩
theorem tc_bad {q off : Nat} {t : ByteArray} {a2 : Option Addr} {cap n2 cap2 : Nat} (c0 : w.cell? ⟨q, off, none⟩ = some (.string t)) (hcap : 1 ≤ cap) (hts : Box (t.size ≤ 65536)) (HF : Box (foldL t.data.toList chunkedB.data.toList = false)) :
    Calls Try.prog 51 #[.pointer (some ⟨g, 0, none⟩), .slice (some ⟨q, off, none⟩) 1 cap, .slice a2 n2 cap2] w fun e w' => e = .returned (.int .i64 7) ∧ Below w.heap.size w w' := by
  have hck : Box (chunkedB.size ≤ 65536) := box (by decide)
  go_enter Try.func51, Try.ntmps51
  go_wp2_with fail
  refine (Fold_is hts hck HF).mono ?_; rintro e w1 ⟨rfl, hb1⟩
  have B1 := box hb1
  clear hb1 c0
  go_wp2
  go_ret
  exact ⟨rfl, B1.out⟩
theorem tc_both {q off : Nat} {t : ByteArray} {a2 : Option Addr} {cap n2 cap2 : Nat} (c0 : w.cell? ⟨q, off, none⟩ = some (.string t)) (hcap : 1 ≤ cap) (hts : Box (t.size ≤ 65536)) (HF : Box (foldL t.data.toList chunkedB.data.toList = true)) (hn2 : (0 : Int) < (n2 : Int)) :
    Calls Try.prog 51 #[.pointer (some ⟨g, 0, none⟩), .slice (some ⟨q, off, none⟩) 1 cap, .slice a2 n2 cap2] w fun e w' => e = .returned (.int .i64 8) ∧ Below w.heap.size w w' := by
  have hck : Box (chunkedB.size ≤ 65536) := box (by decide)
  go_enter Try.func51, Try.ntmps51
  go_wp2_with fail
  refine (Fold_is hts hck HF).mono ?_; rintro e w1 ⟨rfl, hb1⟩
  have B1 := box hb1
  clear hb1 c0
  go_wp2
  go_ret
  exact ⟨rfl, B1.out⟩
theorem tc_ok {q off : Nat} {t : ByteArray} {a2 : Option Addr} {cap cap2 : Nat} {f l : Value} (c0 : w.cell? ⟨q, off, none⟩ = some (.string t)) (hcap : 1 ≤ cap) (hts : Box (t.size ≤ 65536)) (HF : Box (foldL t.data.toList chunkedB.data.toList = true)) (C : Box (C5 g s x v f l w)) (hf : f.oneCell' = true) :
    Calls Try.prog 51 #[.pointer (some ⟨g, 0, none⟩), .slice (some ⟨q, off, none⟩) 1 cap, .slice a2 0 cap2] w fun e w' => e = .returned (.int .i64 0) ∧ C5 g s x v (.int .i64 2) l w' ∧ Kept g w w' := by
  have hck : Box (chunkedB.size ≤ 65536) := box (by decide)
  go_enter Try.func51, Try.ntmps51
  go_wp2_with fail
  refine (Fold_is hts hck HF).mono ?_; rintro e w1 ⟨rfl, hb1⟩
  have C1 := box (C.out.next hb1)
  have K1 := box (Kept.of hb1 C.out.lt)
  clear hb1 c0
  obtain ⟨⟨r0, r1, r2, r3, r4⟩, ⟨f0, f1, f2, f3, f4⟩⟩ := C1.out
  go_wp2
  go_ret
  exact ⟨rfl, C1.out.set3 _, K1.out.set (i := 3) (by omega) _⟩
theorem tl_none {a : Option Addr} {cap : Nat} :
    Calls Try.prog 52 #[.pointer (some ⟨g, 0, none⟩), .slice a 0 cap] w fun e w' => e = .returned (.int .i64 0) ∧ w = w' := by
  go_enter Try.func52, Try.ntmps52
  go_wp2
  go_ret
  exact ⟨rfl, rfl⟩
theorem tl_two {a : Option Addr} {n cap : Nat} (h0 : ((n : Int) == 0) = false) (h1 : ((n : Int) == 1) = false) :
    Calls Try.prog 52 #[.pointer (some ⟨g, 0, none⟩), .slice a n cap] w fun e w' => e = .returned (.int .i64 8) ∧ w = w' := by
  go_enter Try.func52, Try.ntmps52
  go_wp2
  go_ret
  exact ⟨rfl, rfl⟩
theorem tl_bad {q off : Nat} {c : ByteArray} {cap : Nat} (c0 : w.cell? ⟨q, off, none⟩ = some (.string c)) (hcap : 1 ≤ cap) (hcs : Box (c.size ≤ 65536)) (HN : Box (numL c.data.toList = none)) :
    Calls Try.prog 52 #[.pointer (some ⟨g, 0, none⟩), .slice (some ⟨q, off, none⟩) 1 cap] w fun e w' => e = .returned (.int .i64 8) ∧ w = w' := by
  go_enter Try.func52, Try.ntmps52
  go_wp2_with fail
  refine (Number_is hcs HN).mono ?_; rintro e w3 ⟨rfl, rfl⟩; unfold numT numV
  go_wp2
  go_ret
  exact ⟨rfl, rfl⟩
theorem tl_long {q off : Nat} {c : ByteArray} {cap : Nat} {n : Int} (c0 : w.cell? ⟨q, off, none⟩ = some (.string c)) (hcap : 1 ≤ cap) (hcs : Box (c.size ≤ 65536)) (HN : Box (numL c.data.toList = some n)) (h9 : (9 : Int) < (c.size : Int)) :
    Calls Try.prog 52 #[.pointer (some ⟨g, 0, none⟩), .slice (some ⟨q, off, none⟩) 1 cap] w fun e w' => e = .returned (.int .i64 8) ∧ w = w' := by
  go_enter Try.func52, Try.ntmps52
  go_wp2_with fail
  refine (Number_is hcs HN).mono ?_; rintro e w3 ⟨rfl, rfl⟩; unfold numT numV
  go_wp2
  go_ret
  exact ⟨rfl, rfl⟩
theorem tl_ok {q off : Nat} {c : ByteArray} {cap : Nat} {n : Int} {f l : Value} (c0 : w.cell? ⟨q, off, none⟩ = some (.string c)) (hcap : 1 ≤ cap) (hcs : Box (c.size ≤ 65536)) (HN : Box (numL c.data.toList = some n)) (h9 : ¬ (9 : Int) < (c.size : Int)) (C : Box (C5 g s x v f l w)) :
    Calls Try.prog 52 #[.pointer (some ⟨g, 0, none⟩), .slice (some ⟨q, off, none⟩) 1 cap] w fun e w' => e = .returned (.int .i64 0) ∧ C5 g s x v (.int .i64 1) (.int .i64 n) w' ∧ Kept g w w' := by
  obtain ⟨⟨r0, r1, r2, r3, r4⟩, ⟨f0, f1, f2, f3, f4⟩⟩ := C.out
  go_enter Try.func52, Try.ntmps52
  go_wp2_with fail
  refine (Number_is hcs HN).mono ?_; rintro e w3 ⟨rfl, rfl⟩; unfold numT numV
  go_wp2
  go_ret
  exact ⟨rfl, (C.out.set3 _).set4 _, ((Kept.refl _ _).set (i := 3) (by omega) _).set (i := 4) (by omega) _⟩
end
/-- how the framing stands in the reader's cells -/
def FrOk (how fr ln : Int) : Prop := (how = -1 ∧ fr = 2 ∧ ln = 0) ∨ (how = -2 ∧ fr = 0 ∧ ln = 0) ∨ (0 ≤ how ∧ how ≤ 2147483647 ∧ fr = 1 ∧ ln = how)
def TfPost (B g : Nat) (s x : Value) (L : List F) (p : Int × Int) (e : Ending) (w' : World) : Prop :=
  e = .returned (.int .i64 p.2) ∧ (p.2 = 0 → ∃ v fr ln, OwnF w' B v (unfrL L) ∧ C5 g s x v (.int .i64 fr) (.int .i64 ln) w' ∧ FrOk p.1 fr ln)
/-- the part of takeFraming that is the same for all ways: what lies when the branch begins -/
theorem num_bd {l : List UInt8} {v : Int} (h : numL l = some v) : 0 ≤ v ∧ v ≤ 2147483647 := by
  have hb : ∀ l : List UInt8, (∀ c ∈ l, digitI c.toNat = true) → ∀ v : Int, 0 ≤ v ∧ v ≤ 2147483647 → 0 ≤ l.foldl (fun n c => satI n ((c.toNat : Int) - 48)) v ∧ l.foldl (fun n c => satI n ((c.toNat : Int) - 48)) v ≤ 2147483647 := by
    intro l
    induction l with
    | nil => intro _ v h; exact h
    | cons c l ih =>
      intro hd v h
      have h1 := digitI_bd (hd c (by simp))
      exact ih (fun x hx => hd x (by simp [hx])) _ (satI_bd h.1 (by omega))
  unfold numL at h
  split at h
  · rename_i hd
    cases h
    exact hb _ (fun c hc => List.all_eq_true.mp hd.1 c hc) 0 ⟨by omega, by omega⟩
  · cases h
theorem ss_one {w : World} {a : Option Addr} {t : ByteArray} {R : List ByteArray} (h : Ss w a (t :: R)) : ∃ q off, a = some ⟨q, off, none⟩ ∧ w.cell? ⟨q, off, none⟩ = some (.string t) := by
  obtain ⟨q, off, rfl, c0⟩ := h 0 (by simp)
  exact ⟨q, off, rfl, by simpa using c0⟩
theorem ownS_ss {w : World} {B n cap : Nat} {a : Option Addr} {L : List ByteArray} (h : OwnS w B (.slice a n cap) L) : Ss w a L := by
  obtain ⟨a', cap', he, hF, _⟩ := h.ss
  cases he; exact hF
set_option maxHeartbeats 4000000 in
theorem takeFraming_any (g : Nat) (s x : Value) (a : Option Addr) (cap : Nat) (L : List F) (w : World) (S : Box (Sm L)) (hF : Box (Fs w a L)) (C : Box (C5 g s x (.slice a L.length cap) (.int .i64 0) (.int .i64 0) w)) :
    Calls Try.prog 42 #[.pointer (some ⟨g, 0, none⟩)] w fun e w' => TfPost w.heap.size g s x L (framedL L) e w' ∧ Kept g w w' := by
  have hl := S.out.1
  have TS := box (get_small (nm := teN) S.out)
  have CS := box (get_small (nm := clN) S.out)
  have hg := C.out.lt
  obtain ⟨nt, hnt⟩ : ∃ n, (getL teN L).length = n := ⟨_, rfl⟩
  obtain ⟨nc, hnc⟩ : ∃ n, (getL clN L).length = n := ⟨_, rfl⟩
  have HNT := box hnt
  have HNC := box hnc
  clear hnt hnc
  obtain ⟨⟨r0, r1, r2, r3, r4⟩, _⟩ := C.out
  go_enter Try.func42, Try.ntmps42
  go_wp2_with fail
  refine (Get_any a cap L teN _ hl S (box (by decide)) hF).mono ?_; rintro e w1 ⟨v, rfl, hO, hb⟩
  obtain ⟨a2, cap2, rfl, _, hc⟩ := hO.ss
  rw [HNT.out] at hO hc ⊢
  have F1 := box (hF.out.below hb)
  have C1 := box (C.out.next hb)
  have K1 := box (Kept.of hb hg)
  have BB1 := box hb.size
  have T1 := box hO
  clear hO hb r0 r1 r2 r3 r4
  obtain ⟨⟨r0, r1, r2, r3, r4⟩, _⟩ := C1.out
  go_wp2_with fail
  refine (Get_any a cap L clN _ hl S (box (by decide)) F1).mono ?_; rintro e w2 ⟨v, rfl, hO, hb⟩
  obtain ⟨a3, cap3, rfl, _, hc3⟩ := hO.ss
  rw [HNC.out] at hO hc3 ⊢
  have F2 := box (F1.out.below hb)
  have C2 := box (C1.out.next hb)
  have K2 := box (K1.out.trans (Kept.of hb C1.out.lt))
  have BB2 := box (Nat.le_trans BB1.out hb.size)
  have T2 := box (own_below T1.out hb)
  have S2 := box (own_le hO BB1.out)
  clear hO hb r0 r1 r2 r3 r4
  obtain ⟨⟨r0, r1, r2, r3, r4⟩, _⟩ := C2.out
  go_wp2_with fail
  refine (without_any a cap L _ S F2).mono ?_; rintro e w3 ⟨v, rfl, hO, hb⟩
  obtain ⟨a4, cap4, rfl, _, _⟩ := hO.fs
  have C3 := box (C2.out.next hb)
  have hset := (Only.refl g w3).setAt 2 (.slice a4 (unfrL L).length cap4)
  have K4 := box ((K2.out.trans (Kept.of hb C2.out.lt)).set (i := 2) (by omega) (.slice a4 (unfrL L).length cap4))
  have T4 := box (ownS_ss (own_only (own_below T2.out hb) hset hg))
  have S4 := box (ownS_ss (own_only (own_below S2.out hb) hset hg))
  have O4 := box (own_only (own_le hO BB2.out) hset hg)
  have C4 := box (C3.out.set2 (.slice a4 (unfrL L).length cap4))
  clear hO hb hset r0 r1 r2 r3 r4
  obtain ⟨⟨r0, r1, r2, r3, r4⟩, ⟨f0, f1, f2, f3, f4⟩⟩ := C3.out
  rcases hte : getL teN L with _ | ⟨t, _ | ⟨t', R⟩⟩
  · obtain rfl : nt = 0 := by rw [← HNT.out, hte]; rfl
    rcases hcl : getL clN L with _ | ⟨c, _ | ⟨c', R'⟩⟩
    · obtain rfl : nc = 0 := by rw [← HNC.out, hcl]; rfl
      have HE := box (fr_none hte hcl)
      clear hte hcl
      go_wp2_with fail
      refine tl_none.mono ?_; rintro e w5 ⟨rfl, rfl⟩
      go_wp2
      go_ret
      rw [HE.out]
      exact ⟨⟨rfl, fun _ => ⟨_, 0, 0, O4.out, C4.out, .inr (.inl ⟨rfl, rfl, rfl⟩)⟩⟩, K4.out⟩
    · obtain rfl : nc = 1 := by rw [← HNC.out, hcl]; rfl
      have hcs : Box (c.size ≤ 65536) := box (CS.out c (by rw [hcl]; simp))
      rw [hcl] at S4
      obtain ⟨q, off, rfl, c0⟩ := ss_one S4.out
      rcases hn : numL c.data.toList with _ | n
      · have HN := box hn
        have HE := box (fr_one0 hte hcl hn)
        clear hte hcl hn
        go_wp2_with fail
        refine (tl_bad c0 hc3 hcs HN).mono ?_; rintro e w5 ⟨rfl, rfl⟩
        go_wp2
        go_ret
        rw [HE.out]
        exact ⟨⟨rfl, fun h => absurd h (by decide)⟩, K4.out⟩
      · have HN := box hn
        have hbd := num_bd hn
        by_cases h9 : c.size ≤ 9
        · have h9i : ¬ (9 : Int) < (c.size : Int) := by omega
          have HE : Box (framedL L = (n, 0)) := box (by rw [fr_one1 hte hcl hn, if_pos h9])
          clear hte hcl hn
          go_wp2_with fail
          refine (tl_ok c0 hc3 hcs HN (by omega) C4).mono ?_; rintro e w5 ⟨rfl, hC5, hK5⟩
          have C6 := box hC5
          have K6 := box (K4.out.trans hK5)
          have O6 := box (own_only O4.out hK5.only hg)
          clear hC5 hK5
          go_wp2
          go_ret
          rw [HE.out]
          exact ⟨⟨rfl, fun _ => ⟨_, 1, n, O6.out, C6.out, .inr (.inr ⟨hbd.1, hbd.2, rfl, rfl⟩)⟩⟩, K6.out⟩
        · have h9i : (9 : Int) < (c.size : Int) := by omega
          have HE : Box (framedL L = (0, 8)) := box (by rw [fr_one1 hte hcl hn, if_neg h9])
          clear hte hcl hn
          go_wp2_with fail
          refine (tl_long c0 hc3 hcs HN h9i).mono ?_; rintro e w5 ⟨rfl, rfl⟩
          go_wp2
          go_ret
          rw [HE.out]
          exact ⟨⟨rfl, fun h => absurd h (by decide)⟩, K4.out⟩
    · have hnc2 : 2 ≤ nc := by rw [← HNC.out, hcl]; simp
      have h0 : ((nc : Int) == 0) = false := by rw [beq_eq_false_iff_ne]; omega
      have h1 : ((nc : Int) == 1) = false := by rw [beq_eq_false_iff_ne]; omega
      have HE := box (fr_two hte hcl)
      clear hte hcl
      go_wp2_with fail
      refine (tl_two h0 h1).mono ?_; rintro e w5 ⟨rfl, rfl⟩
      go_wp2
      go_ret
      rw [HE.out]
      exact ⟨⟨rfl, fun h => absurd h (by decide)⟩, K4.out⟩
  · obtain rfl : nt = 1 := by rw [← HNT.out, hte]; rfl
    have hts : Box (t.size ≤ 65536) := box (TS.out t (by rw [hte]; simp))
    rw [hte] at T4
    obtain ⟨q, off, rfl, c0⟩ := ss_one T4.out
    rcases hf : foldL t.data.toList chunkedL with _ | _
    · have HF : Box (foldL t.data.toList chunkedB.data.toList = false) := box hf
      have HE := box (fr_bad hte hf)
      clear hte hf
      go_wp2_with fail
      refine (tc_bad c0 hc hts HF).mono ?_; rintro e w5 ⟨rfl, hb⟩
      have K6 := box (K4.out.trans (Kept.of hb C4.out.lt))
      clear hb
      go_wp2
      go_ret
      rw [HE.out]
      exact ⟨⟨rfl, fun h => absurd h (by decide)⟩, K6.out⟩
    · have HF : Box (foldL t.data.toList chunkedB.data.toList = true) := box hf
      rcases hcl : getL clN L with _ | ⟨c, R'⟩
      · obtain rfl : nc = 0 := by rw [← HNC.out, hcl]; rfl
        have HE := box (fr_te hte hf hcl)
        clear hte hf hcl
        go_wp2_with fail
        refine (tc_ok c0 hc hts HF C4 rfl).mono ?_; rintro e w5 ⟨rfl, hC5, hK5⟩
        have C6 := box hC5
        have K6 := box (K4.out.trans hK5)
        have O6 := box (own_only O4.out hK5.only hg)
        clear hC5 hK5
        go_wp2
        go_ret
        rw [HE.out]
        exact ⟨⟨rfl, fun _ => ⟨_, 2, 0, O6.out, C6.out, .inl ⟨rfl, rfl, rfl⟩⟩⟩, K6.out⟩
      · have hn2 : (0 : Int) < (nc : Int) := by have : 0 < nc := by rw [← HNC.out, hcl]; simp
                                                omega
        have HE := box (fr_both hte hf hcl)
        clear hte hf hcl
        go_wp2_with fail
        refine (tc_both c0 hc hts HF hn2).mono ?_; rintro e w5 ⟨rfl, hb⟩
        have K6 := box (K4.out.trans (Kept.of hb C4.out.lt))
        clear hb
        go_wp2
        go_ret
        rw [HE.out]
        exact ⟨⟨rfl, fun h => absurd h (by decide)⟩, K6.out⟩
  · have hnt2 : 2 ≤ nt := by rw [← HNT.out, hte]; simp
    have h1 : (1 : Int) < (nt : Int) := by omega
    have HE := box (fr_many hte)
    clear hte
    go_wp2_with fail
    refine (tc_many h1).mono ?_; rintro e w5 ⟨rfl, rfl⟩
    go_wp2
    go_ret
    rw [HE.out]
    exact ⟨⟨rfl, fun h => absurd h (by decide)⟩, K4.out⟩
end
section
open Go.RowKit
theorem C5.drewN {g n : Nat} {c0 c1 c2 c3 c4 : Value} {w : World} (h : C5 g c0 c1 c2 c3 c4 w) : C5 g c0 c1 c2 c3 c4 (w.drewN n) := h
theorem rJoined_is {st b : ByteArray} {a : Option Addr} {cap : Nat} {L : List F} {ln wh : Bool} {x : ByteArray} {w : World} (hst : Box (st.size ≤ 100000)) (hb : b.size ≤ 1000000) (S : Box (Sm L)) (hF : Box (Fs w a L)) (h : Box (bs (joinedL st.data.toList L b.data.toList ln wh) = x)) :
    Calls Try.prog 17 #[.string st, .slice a L.length cap, .string b, .bool ln, .bool wh] w fun e w' => e = .returned (.string x) ∧ Below w.heap.size w w' :=
  (rJoined_any st a cap L b ln wh w hst.out hb S hF).mono fun e w' ⟨h1, h2⟩ => ⟨by rw [h1, h.out], h2⟩
theorem rFReq_is {m t : ByteArray} {n : Int} {x : ByteArray} {w : World} (hm : m.size ≤ 3000) (ht : t.size ≤ 3000) (h1 : Box (InI64 n)) (h : Box (bs (fmtReqL m.data.toList t.data.toList n) = x)) :
    Calls Try.prog 18 #[.string m, .string t, .int .i64 n] w fun e w' => e = .returned (.string x) ∧ Below w.heap.size w w' :=
  (rFormatRequest_any m t n w hm ht h1).mono fun e w' ⟨h1, h2⟩ => ⟨by rw [h1, h.out], h2⟩
theorem fmtReq_le {m t : List UInt8} {n : Int} : (fmtReqL m t n).length ≤ 2000 ∨ (fmtReqL m t n).length ≤ m.length + t.length + 40 := by
  right
  unfold fmtReqL
  split
  · unfold reqLine http7; have := decL_len n; simp; omega
  · simp
set_option maxRecDepth 100000 in
set_option maxHeartbeats 4000000 in
theorem rFmtReq_any (m t : ByteArray) (n : Int) (a : Option Addr) (cap : Nat) (L : List F) (b : ByteArray) (w : World) (hm : m.size ≤ 3000) (ht : t.size ≤ 3000) (h1 : Box (InI64 n)) (hb : b.size ≤ 1000000) (S : Box (Sm L)) (hF : Box (Fs w a L)) :
    Calls Try.prog 7 #[.agg #[.string m, .string t, .int .i64 n, .slice a L.length cap, .string b]] w fun e w' => e = .returned (.string (bs (fmtRQ (m.data.toList, t.data.toList, n, L, b.data.toList)))) ∧ Below w.heap.size w w' := by
  obtain ⟨st, hst⟩ : ∃ st, bs (fmtReqL m.data.toList t.data.toList n) = st := ⟨_, rfl⟩
  have HST := box hst
  have HSZ : Box (st.size ≤ 100000) := box (by
    rw [← hst, bs_size]
    have e1 : m.data.toList.length = m.size := by simp
    have e2 : t.data.toList.length = t.size := by simp
    rcases fmtReq_le (m := m.data.toList) (t := t.data.toList) (n := n) with h | h <;> omega)
  obtain ⟨ln, hln⟩ : ∃ ln, lengthB m.data.toList b.data.toList = ln := ⟨_, rfl⟩
  obtain ⟨x, hx⟩ : ∃ x, bs (fmtRQ (m.data.toList, t.data.toList, n, L, b.data.toList)) = x := ⟨_, rfl⟩
  have HX : Box (bs (joinedL st.data.toList L b.data.toList ln true) = x) := box (by rw [← hx, ← hst, bs_toList]; unfold fmtRQ; rw [hln])
  have HE := box hx
  have C0 := box (C5.new (.string m) (.string t) (.int .i64 n) (.slice a L.length cap) (.string b) w 24)
  have F0 := box (hF.out.below (below_new w (.cells #[.string m, .string t, .int .i64 n, .slice a L.length cap, .string b] 24)))
  have hlnE : ln = (!b.toList.isEmpty || m.toList == [80, 79, 83, 84] || m.toList == [80, 85, 84] || m.toList == [80, 65, 84, 67, 72]) := by rw [← hln, toList_data, toList_data]; rfl
  clear hst hln hx
  have ways : b.toList.isEmpty = false ∧ ln = true ∨ b.toList.isEmpty = true ∧ ((m.toList == [80, 79, 83, 84]) = true ∧ ln = true ∨ (m.toList == [80, 79, 83, 84]) = false ∧ ((m.toList == [80, 85, 84]) = true ∧ ln = true ∨ (m.toList == [80, 85, 84]) = false ∧ ((m.toList == [80, 65, 84, 67, 72]) = true ∧ ln = true ∨ (m.toList == [80, 65, 84, 67, 72]) = false ∧ ln = false))) := by
    rw [hlnE]
    cases b.toList.isEmpty <;> cases (m.toList == [80, 79, 83, 84]) <;> cases (m.toList == [80, 85, 84]) <;> cases (m.toList == [80, 65, 84, 67, 72]) <;> simp
  clear hlnE
  rcases ways with ⟨g0, rfl⟩ | ⟨g0, ⟨g1, rfl⟩ | ⟨g1, ⟨g2, rfl⟩ | ⟨g2, ⟨g3, rfl⟩ | ⟨g3, rfl⟩⟩⟩⟩
  all_goals
    go_enter Try.func7, Try.ntmps7
    go_wp2
    go_region_held3 (fun w' => w'.cell? ⟨w.heap.size, 0, none⟩ = some (.string m) ∧ w'.cell? ⟨w.heap.size, 1, none⟩ = some (.string t) ∧ w'.cell? ⟨w.heap.size, 2, none⟩ = some (.int .i64 n) ∧ w'.cell? ⟨w.heap.size, 3, none⟩ = some (.slice a L.length cap) ∧ w'.cell? ⟨w.heap.size, 4, none⟩ = some (.string b)) (first | exact C1.out.1 | exact C2.out.1 | exact C0.out.1 | exact (C5.drewN C0.out).1 | exact (C5.drewN C1.out).1 | exact (C5.drewN C2.out).1) (first | (go_at_call 18; refine (rFReq_is hm ht h1 HST).mono ?_; rintro e w1 ⟨rfl, hb1⟩; have C1 := box ((C5.drewN C0.out).next hb1); have F1 := box (F0.out.below ((below_drewN _ _).trans hb1)); have B1 := box ((below_new w _).trans (((below_drewN _ _).trans hb1).mono (below_new w _).size)); clear hb1) | (go_at_call 17; refine (rJoined_is HSZ hb S F1 HX).mono ?_; rintro e w2 ⟨rfl, hb2⟩; have C2 := box (C1.out.next hb2); have B2 := box (B1.out.trans (hb2.mono B1.out.size)); clear hb2))
    all_goals
      go_wp2
      go_ret
      exact ⟨by rw [HE.out]; rfl, B2.out⟩
end
section
open Go.RowKit
def BodPost (g : Nat) (s x : ByteArray) (v fr : Value) (o : Int ⊕ (List UInt8 × Int)) (e : Ending) (w' : World) : Prop := match o with
  | .inl c => e = .returned (hlV ⟨#[]⟩ c) ∧ (c = 0 → False)
  | .inr (b, c) => e = .returned (hlV (bs b) 0) ∧ ∃ x1 ln, C5 g (.string s) (.string x1) v fr ln w' ∧ (x1.size : Int) + c = x.size ∧ 0 ≤ c
theorem counted_any (g : Nat) (s x : ByteArray) (v fr : Value) (k : Nat) (w : World) (hx : x.size ≤ 4000000) (hk : (k : Int) ≤ 2147483647) (C : Box (C5 g (.string s) (.string x) v fr (.int .i64 k) w)) (o : Int ⊕ (List UInt8 × Int)) (HO : Box (bodyL k x.data.toList = o)) :
    Calls Try.prog 45 #[.pointer (some ⟨g, 0, none⟩)] w fun e w' => BodPost g s x v fr o e w' ∧ Kept g w w' := by
  have hz : x.data.toList.length = x.size := by simp
  have hg := C.out.lt
  obtain ⟨⟨r0, r1, r2, r3, r4⟩, ⟨f0, f1, f2, f3, f4⟩⟩ := C.out
  by_cases h1 : (100000 : Int) < (k : Int)
  · have HE : Box (o = .inl 5) := box (by rw [← HO.out]; unfold bodyL; rw [if_neg (by omega), if_pos h1])
    clear hz
    go_enter Try.func45, Try.ntmps45
    go_wp2
    go_ret2
    rw [HE.out]
    exact ⟨⟨rfl, by decide⟩, Kept.refl _ _⟩
  · by_cases h2 : (x.size : Int) < (k : Int)
    · have HE : Box (o = .inl 2) := box (by rw [← HO.out]; unfold bodyL; rw [if_neg (by omega), if_neg h1, if_pos (by omega)])
      clear hz
      go_enter Try.func45, Try.ntmps45
      go_wp2
      go_quiet (fail)
      go_wp2
      go_ret2
      rw [HE.out]
      exact ⟨⟨rfl, by decide⟩, Kept.of (below_drewN _ _) hg⟩
    · have hkn : k ≤ x.size := by omega
      have hk0 : (0 : Int) ≤ (k : Int) := by omega
      have hkx : (k : Int) ≤ (x.size : Int) := by omega
      have HE : Box (o = .inr ((x.extract 0 k).data.toList, (k : Int))) := box (by
        rw [← HO.out]; unfold bodyL; rw [if_neg (by omega), if_neg h1, if_neg (by omega)]
        rw [ext_bs, bs_toList]; simp)
      have HZ : Box (((x.extract k x.size).size : Int) + (k : Int) = x.size) := box (by simp; omega)
      clear hz
      go_enter Try.func45, Try.ntmps45
      go_wp2
      go_quiet (fail)
      go_wp2
      go_quiet (fail)
      go_wp2
      go_region
      all_goals
        go_wp2
        go_ret2
        rw [HE.out]
        exact ⟨⟨rfl, x.extract k x.size, _, C5.set1 (C5.drewN C.out) _, HZ.out, hk0⟩, Kept.set (i := 1) (Kept.of (below_drewN _ _) hg) (by omega) _⟩
theorem cDec_is {x b : ByteArray} {c e0 : Int} {w : World} (hx : x.size ≤ 2000000) (h : Box (decodeL x.data.toList = (b.data.toList, c, e0))) :
    Calls Try.prog 59 #[.string x] w fun e w' => e = .returned (.tuple #[.string b, .int .i64 c, .int .i64 e0]) ∧ Below w.heap.size w w' :=
  (cDecode_any x w hx).mono fun e w' ⟨h1, h2⟩ => ⟨by rw [h1, h.out]; rfl, h2⟩
theorem chunked_any (g : Nat) (s x : ByteArray) (v fr ln : Value) (w : World) (hx : x.size ≤ 2000000) (C : Box (C5 g (.string s) (.string x) v fr ln w)) (o : Int ⊕ (List UInt8 × Int)) (HO : Box (bodyL (-1) x.data.toList = o)) :
    Calls Try.prog 46 #[.pointer (some ⟨g, 0, none⟩)] w fun e w' => BodPost g s x v fr o e w' ∧ Kept g w w' := by
  have hz : x.data.toList.length = x.size := by simp
  have hg := C.out.lt
  obtain ⟨⟨r0, r1, r2, r3, r4⟩, _⟩ := C.out
  obtain ⟨b, c, e0, hd⟩ : ∃ (b : ByteArray) (c e0 : Int), decodeL x.data.toList = (b.data.toList, c, e0) := ⟨bs (decodeL x.data.toList).1, _, _, by rw [bs_toList]⟩
  have HD := box hd
  by_cases he : e0 = 0
  · subst he
    have hbd := dec_bd (l := x.data.toList)
    rw [hd] at hbd
    simp only at hbd
    have HE : Box (o = .inr (b.data.toList, c)) := box (by rw [← HO.out]; unfold bodyL; rw [if_pos rfl, hd]; simp)
    obtain ⟨k, rfl⟩ : ∃ k : Nat, c = (k : Int) := ⟨c.toNat, by omega⟩
    have hkn : k ≤ x.size := by omega
    have hk0 : (0 : Int) ≤ (k : Int) := by omega
    have hkx : (k : Int) ≤ (x.size : Int) := by omega
    have HZ : Box (((x.extract k x.size).size : Int) + (k : Int) = x.size) := box (by simp; omega)
    clear hd hbd hz
    go_enter Try.func46, Try.ntmps46
    go_wp2_with fail
    refine (cDec_is hx HD).mono ?_; rintro e w1 ⟨rfl, hb1⟩
    have C1 := box (C.out.next hb1)
    have K1 := box (Kept.of hb1 hg)
    clear hb1 r0 r1 r2 r3 r4
    obtain ⟨⟨r0, r1, r2, r3, r4⟩, ⟨f0, f1, f2, f3, f4⟩⟩ := C1.out
    go_wp2
    go_ret2
    rw [HE.out]
    exact ⟨⟨rfl, x.extract k x.size, _, C1.out.set1 _, HZ.out, hk0⟩, K1.out.set (i := 1) (by omega) _⟩
  · have HE : Box (o = .inl e0) := box (by rw [← HO.out]; unfold bodyL; rw [if_pos rfl, hd]; simp [he])
    have hne : (e0 != 0) = true := by simpa using he
    have HNE := box he
    clear hd hz he
    go_enter Try.func46, Try.ntmps46
    go_wp2_with fail
    refine (cDec_is hx HD).mono ?_; rintro e w1 ⟨rfl, hb1⟩
    have K1 := box (Kept.of hb1 hg)
    clear hb1
    go_wp2
    go_ret2
    rw [HE.out]
    exact ⟨⟨rfl, HNE.out⟩, K1.out⟩
theorem bodL_zero (l : List UInt8) : bodyL 0 l = .inr ([], 0) := by
  unfold bodyL; rw [if_neg (by omega), if_neg (by omega), if_neg (by omega)]; rfl
theorem BodPost.shape {g : Nat} {s x : ByteArray} {v fr : Value} {o : Int ⊕ (List UInt8 × Int)} {e : Ending} {w' : World} (h : BodPost g s x v fr o e w') : ∃ y c, e = .returned (hlV y c) := by
  rcases o with c | ⟨b, c⟩
  · exact ⟨_, _, h.1⟩
  · exact ⟨_, _, h.1⟩
theorem readBody_any (g : Nat) (s x : ByteArray) (v : Value) (how fr ln : Int) (w : World) (hx : x.size ≤ 2000000) (hf : FrOk how fr ln) (C : Box (C5 g (.string s) (.string x) v (.int .i64 fr) (.int .i64 ln) w)) (o : Int ⊕ (List UInt8 × Int)) (HO : Box (bodyL (if how = -2 then 0 else how) x.data.toList = o)) :
    Calls Try.prog 32 #[.pointer (some ⟨g, 0, none⟩)] w fun e w' => BodPost g s x v (.int .i64 fr) o e w' ∧ Kept g w w' := by
  obtain ⟨⟨r0, r1, r2, r3, r4⟩, _⟩ := C.out
  rcases hf with ⟨rfl, rfl, rfl⟩ | ⟨rfl, rfl, rfl⟩ | ⟨h0, h1, rfl, rfl⟩
  · have HO2 : Box (bodyL (-1) x.data.toList = o) := box (by have := HO.out; rwa [if_neg (by omega)] at this)
    go_enter Try.func32, Try.ntmps32
    go_wp2_with fail
    refine (chunked_any g s x v _ _ _ hx C o HO2).mono ?_; rintro e w1 ⟨hp, hk⟩
    obtain ⟨y, c, rfl⟩ := hp.shape
    have P := box hp
    have K := box hk
    clear hp hk
    unfold hlV
    go_wp2
    go_ret2
    exact ⟨P.out, K.out⟩
  · have HE : Box (o = .inr ([], 0)) := box (by rw [← HO.out, if_pos rfl, bodL_zero])
    go_enter Try.func32, Try.ntmps32
    go_wp2
    go_ret2
    rw [HE.out]
    exact ⟨⟨rfl, x, _, C.out, by omega, by omega⟩, Kept.refl _ _⟩
  · obtain ⟨k, rfl⟩ : ∃ k : Nat, ln = (k : Int) := ⟨ln.toNat, by omega⟩
    have HO2 : Box (bodyL k x.data.toList = o) := box (by have := HO.out; rwa [if_neg (by omega)] at this)
    have hx4 : x.size ≤ 4000000 := by omega
    go_enter Try.func32, Try.ntmps32
    go_wp2_with fail
    refine (counted_any g s x v _ k _ hx4 h1 C o HO2).mono ?_; rintro e w1 ⟨hp, hk⟩
    obtain ⟨y, c, rfl⟩ := hp.shape
    have P := box hp
    have K := box hk
    clear hp hk
    unfold hlV
    go_wp2
    go_ret2
    exact ⟨P.out, K.out⟩
end
section
open Go.RowKit
theorem C5.setD {g i : Nat} {c0 c1 c2 c3 c4 : Value} {w : World} (f : C5 g c0 c1 c2 c3 c4 w) (hi : 5 ≤ i) (v : Value) : C5 g c0 c1 c2 c3 c4 (w.setCell ⟨g, i, none⟩ v) := by
  obtain ⟨⟨h0, h1, h2, h3, h4⟩, f0⟩ := f
  refine ⟨⟨?_, ?_, ?_, ?_, ?_⟩, by simpa only [World.frozen?_setCell] using f0⟩
  all_goals exact (World.cell?_setCell_other _ _ _ _ (by intro e; have := congrArg Addr.off e; simp at this; omega)).trans (by assumption)
/-- the cells behind the reader's five -/
def Dq (g : Nat) (d5 d6 d7 d8 d9 : Value) (w : World) : Prop :=
  (w.cell? ⟨g, 5, none⟩ = some d5 ∧ w.cell? ⟨g, 6, none⟩ = some d6 ∧ w.cell? ⟨g, 7, none⟩ = some d7 ∧ w.cell? ⟨g, 8, none⟩ = some d8 ∧ w.cell? ⟨g, 9, none⟩ = some d9) ∧
  (w.frozen? ⟨g, 5, none⟩ = false ∧ w.frozen? ⟨g, 6, none⟩ = false ∧ w.frozen? ⟨g, 7, none⟩ = false ∧ w.frozen? ⟨g, 8, none⟩ = false ∧ w.frozen? ⟨g, 9, none⟩ = false)
section
variable {g : Nat} {d5 d6 d7 d8 d9 : Value} {w w' : World}
theorem Dq.kept (h : Dq g d5 d6 d7 d8 d9 w) (k : Kept g w w') : Dq g d5 d6 d7 d8 d9 w' := by
  obtain ⟨⟨h5, h6, h7, h8, h9⟩, ⟨f5, f6, f7, f8, f9⟩⟩ := h
  exact ⟨⟨(k.tail 5 (by omega)).1.trans h5, (k.tail 6 (by omega)).1.trans h6, (k.tail 7 (by omega)).1.trans h7, (k.tail 8 (by omega)).1.trans h8, (k.tail 9 (by omega)).1.trans h9⟩, ⟨(k.tail 5 (by omega)).2.trans f5, (k.tail 6 (by omega)).2.trans f6, (k.tail 7 (by omega)).2.trans f7, (k.tail 8 (by omega)).2.trans f8, (k.tail 9 (by omega)).2.trans f9⟩⟩
theorem Dq.next (h : Dq g d5 d6 d7 d8 d9 w) (hb : Below w.heap.size w w') : Dq g d5 d6 d7 d8 d9 w' := h.kept (Kept.of hb (cell_lt (p := ⟨g, 5, none⟩) h.1.1))
theorem Dq.drewN {n : Nat} (h : Dq g d5 d6 d7 d8 d9 w) : Dq g d5 d6 d7 d8 d9 (w.drewN n) := h
theorem Dq.set5 (f : Dq g d5 d6 d7 d8 d9 w) (v : Value) : Dq g v d6 d7 d8 d9 (w.setCell ⟨g, 5, none⟩ v) := by
  obtain ⟨⟨h5, h6, h7, h8, h9⟩, f0⟩ := f
  refine ⟨⟨?_, ?_, ?_, ?_, ?_⟩, by simpa only [World.frozen?_setCell] using f0⟩
  all_goals first
    | (rw [World.cell?_setCell_same (h := h5)])
    | exact (World.cell?_setCell_other _ _ _ _ (by simp)).trans (by assumption)
theorem Dq.set6 (f : Dq g d5 d6 d7 d8 d9 w) (v : Value) : Dq g d5 v d7 d8 d9 (w.setCell ⟨g, 6, none⟩ v) := by
  obtain ⟨⟨h5, h6, h7, h8, h9⟩, f0⟩ := f
  refine ⟨⟨?_, ?_, ?_, ?_, ?_⟩, by simpa only [World.frozen?_setCell] using f0⟩
  all_goals first
    | (rw [World.cell?_setCell_same (h := h6)])
    | exact (World.cell?_setCell_other _ _ _ _ (by simp)).trans (by assumption)
theorem Dq.set7 (f : Dq g d5 d6 d7 d8 d9 w) (v : Value) : Dq g d5 d6 v d8 d9 (w.setCell ⟨g, 7, none⟩ v) := by
  obtain ⟨⟨h5, h6, h7, h8, h9⟩, f0⟩ := f
  refine ⟨⟨?_, ?_, ?_, ?_, ?_⟩, by simpa only [World.frozen?_setCell] using f0⟩
  all_goals first
    | (rw [World.cell?_setCell_same (h := h7)])
    | exact (World.cell?_setCell_other _ _ _ _ (by simp)).trans (by assumption)
theorem Dq.set8 (f : Dq g d5 d6 d7 d8 d9 w) (v : Value) : Dq g d5 d6 d7 v d9 (w.setCell ⟨g, 8, none⟩ v) := by
  obtain ⟨⟨h5, h6, h7, h8, h9⟩, f0⟩ := f
  refine ⟨⟨?_, ?_, ?_, ?_, ?_⟩, by simpa only [World.frozen?_setCell] using f0⟩
  all_goals first
    | (rw [World.cell?_setCell_same (h := h8)])
    | exact (World.cell?_setCell_other _ _ _ _ (by simp)).trans (by assumption)
theorem Dq.set9 (f : Dq g d5 d6 d7 d8 d9 w) (v : Value) : Dq g d5 d6 d7 d8 v (w.setCell ⟨g, 9, none⟩ v) := by
  obtain ⟨⟨h5, h6, h7, h8, h9⟩, f0⟩ := f
  refine ⟨⟨?_, ?_, ?_, ?_, ?_⟩, by simpa only [World.frozen?_setCell] using f0⟩
  all_goals first
    | (rw [World.cell?_setCell_same (h := h9)])
    | exact (World.cell?_setCell_other _ _ _ _ (by simp)).trans (by assumption)
end
theorem Pq_is {t a b : List UInt8} {n e0 : Int} {w : World} (hs : t.length ≤ 2000) (h : Box (reqL t = (a, b, n, e0))) :
    Calls Try.prog 43 #[.string (bs t)] w fun e w' => e = .returned (.tuple #[.string (bs a), .string (bs b), .int .i64 n, .int .i64 e0]) ∧ Below w.heap.size w w' :=
  (ParseRequest_any (bs t) w (by rw [bs_size]; unfold maxLen; omega)).mono fun e w' ⟨h1, h2⟩ => ⟨by rw [h1, bs_toList, h.out]; rfl, h2⟩
theorem rslq_any {g : Nat} {t a b : List UInt8} {n e0 : Int} {d5 d6 d7 d8 d9 : Value} {w : World} (ht : t.length ≤ 2000) (HQ : Box (reqL t = (a, b, n, e0))) (HD : Box (Dq g d5 d6 d7 d8 d9 w)) :
    Calls Try.prog 30 #[.pointer (some ⟨g, 0, none⟩), .string (bs t)] w fun e w' => e = .returned (.int .i64 e0) ∧ Dq g (.string (bs a)) (.string (bs b)) (.int .i64 n) (.slice none 0 0) (.string ⟨#[]⟩) w' ∧ (∀ c0 c1 c2 c3 c4, C5 g c0 c1 c2 c3 c4 w → C5 g c0 c1 c2 c3 c4 w') ∧ Only g w w' := by
  go_enter Try.func30, Try.ntmps30
  go_wp2_with fail
  refine (Pq_is ht HQ).mono ?_; rintro e w1 ⟨rfl, hb1⟩
  have D1 := box (HD.out.next hb1)
  have B1 := box hb1
  clear hb1
  obtain ⟨⟨r5, r6, r7, r8, r9⟩, ⟨f5, f6, f7, f8, f9⟩⟩ := D1.out
  go_wp2
  go_ret
  refine ⟨rfl, (((((D1.out.set5 _).set6 _).set7 _).set8 _).set9 _), fun c0 c1 c2 c3 c4 hc0 => ?_, (Only.setAt (Only.setAt (Only.setAt (Only.setAt (Only.setAt (Only.of B1.out) 5 _) 6 _) 7 _) 8 _) 9 _)⟩
  have hc := hc0.next B1.out
  exact (C5.setD (C5.setD (C5.setD (C5.setD (C5.setD hc (i := 5) (by omega) _) (i := 6) (by omega) _) (i := 7) (by omega) _) (i := 8) (by omega) _) (i := 9) (by omega) _)
theorem head_st : ∀ {f k n : Nat} {rq : Bool} {st l st' r : List UInt8} {L L' : List F} {n' : Nat}, headF f rq k st L n l = .inr (st', L', n', r) → k ≠ 0 → st' = st
  | 0, k, n, rq, st, l, st', r, L, L', n', h, hk => by cases h
  | f + 1, k, n, rq, st, l, st', r, L, L', n', h, hk => by
    unfold headF at h
    split at h
    · cases h
    · split at h
      · cases h
      · try rw [if_neg hk] at h
        split at h
        · cases h; rfl
        · split at h
          · cases h
          · exact head_st h (by omega)
def Hdq (B g : Nat) (s : ByteArray) (o : Int ⊕ (List UInt8 × List F × Nat × List UInt8)) (e : Ending) (w' : World) : Prop := match o with
  | .inl c => e = .returned (.int .i64 c) ∧ (c = 0 → False)
  | .inr (st, L, n, r) => e = .returned (.int .i64 (framedL L).2) ∧ ((framedL L).2 = 0 → ∃ v x fr ln, OwnF w' B v (unfrL L) ∧ C5 g (.string s) (.string x) v (.int .i64 fr) (.int .i64 ln) w' ∧ FrOk (framedL L).1 fr ln ∧ x.data.toList = r ∧ n + x.size = s.size ∧ Dq g (.string (bs (reqL st).1)) (.string (bs (reqL st).2.1)) (.int .i64 (reqL st).2.2.1) (.slice none 0 0) (.string ⟨#[]⟩) w')
set_option maxHeartbeats 4000000 in
theorem headq_any {g : Nat} {s : ByteArray} {d5 d6 d7 d8 d9 : Value} {w : World} (hs : s.size ≤ 4000000) (C : Box (C5 g (.string s) (.string s) (.slice none 0 0) (.int .i64 0) (.int .i64 0) w)) (HD : Box (Dq g d5 d6 d7 d8 d9 w)) (o : Int ⊕ (List UInt8 × List F × Nat × List UInt8)) (HO : Box (headL true s.data.toList = o)) :
    Calls Try.prog 29 #[.pointer (some ⟨g, 0, none⟩), .func (.func 30) #[.pointer (some ⟨g, 0, none⟩)] #[]] w fun e w' => Hdq w.heap.size g s o e w' ∧ Only g w w' := by
  have hg := C.out.lt
  have HO2 : Box (headF 67 true 0 [] [] 0 s.data.toList = o) := HO
  rcases hN : nextL s.data.toList with e0 | ⟨t, r⟩
  · have HE : Box (o = .inl e0) := box (by rw [← HO2.out, head_bad hN])
    have HN := box hN
    have he0 : (e0 != 0) = true := by rcases err_size hN with rfl | rfl | rfl <;> rfl
    have HNE : Box (e0 = 0 → False) := box (by intro q; rw [q] at he0; simp at he0)
    clear hN
    go_enter Try.func29, Try.ntmps29
    go_wp2_with fail
    refine (nh_bad g s s _ _ _ _ hs e0 he0 HN C).mono ?_; rintro e w1 ⟨rfl, hk1⟩; unfold hlV
    have K1 := box hk1.only
    clear hk1
    go_wp2
    go_ret
    rw [HE.out]
    exact ⟨⟨rfl, HNE.out⟩, K1.out⟩
  · obtain ⟨x1, rfl⟩ : ∃ x1 : ByteArray, r = x1.data.toList := ⟨bs r, rfl⟩
    obtain ⟨hn1, htl⟩ := size_next (n := 0) (s := s) (x := s) (by omega) hN
    have HN := box hN
    have hx1 : x1.size ≤ 4000000 := by omega
    have HV : Box ((if (16000 : Int) < (s.size : Int) - (x1.size : Int) then hlV ⟨#[]⟩ 4 else hlV (bs t) 0) = .tuple #[.string (bs t), .int .i64 0]) := box (by rw [if_neg (by omega)]; rfl)
    have hlt : ¬ (16000 < 0 + t.length + 2 ∨ (64 < 0 ∧ t ≠ [])) := by omega
    obtain ⟨a, b, n, e0, hq⟩ : ∃ a b n e0, reqL t = (a, b, n, e0) := ⟨_, _, _, _, rfl⟩
    have HQ := box hq
    have hse : startE true t = e0 := by unfold startE; rw [if_pos rfl]; rw [hq]
    by_cases he : e0 = 0
    · subst he
      have HX : Box (headF 66 true 1 t [] (0 + t.length + 2) x1.data.toList = o) := box (by rw [← HO2.out]; exact (head_first hN hlt hse).symm)
      clear hN hlt hse hq
      go_enter Try.func29, Try.ntmps29
      go_wp2_with fail
      refine (nh_any g s s x1 t _ _ _ _ hs hs hx1 HN C).mono ?_; rintro e w1 ⟨rfl, hc1, hk1⟩; rw [HV.out]
      have C1 := box hc1
      have D1 := box (HD.out.kept hk1)
      have K1 := box hk1.only
      clear hc1 hk1
      go_wp2_with fail
      refine (rslq_any htl HQ D1).mono ?_; rintro e w2 ⟨rfl, hd2, hc2, ho2⟩
      have C2 := box (hc2 _ _ _ _ _ C1.out)
      have D2 := box hd2
      have K2 := box (K1.out.trans ho2)
      clear hd2 hc2 ho2
      go_wp2_with fail
      refine (readFields_any g s x1 true t _ _ _ _ hs hn1 C2 o HX).mono ?_; rintro e w3 ⟨hp, hk3⟩
      have D3 := box (D2.out.kept hk3)
      have K3 := box (K2.out.trans hk3.only)
      have Z2 := box K2.out.size
      have K23 := box hk3.only.size
      clear hk3
      rcases o with c | ⟨st, L, n, r⟩
      · obtain ⟨rfl, hc0⟩ := hp
        have hcn : (c != 0) = true := by rw [bne_iff_ne]; exact fun e => hc0 e
        have HC := box hc0
        clear hc0
        go_wp2
        go_ret
        exact ⟨⟨rfl, HC.out⟩, K3.out⟩
      · obtain ⟨rfl, v, x, hO, hC, hxr, hnx, hL64⟩ := hp
        have hok := headL_ok HO.out
        have S : Box (Sm L) := box (sm_head hok.small hok.few)
        obtain rfl : st = t := by
          have := HX.out
          exact head_st this (by omega)
        obtain ⟨a, cap, rfl, hF, _⟩ := hO.fs
        have C3 := box hC
        have F3 := box hF
        have ZZ := box hnx
        have XR := box hxr
        clear hO hC hF hok hxr hnx hL64
        go_wp2_with fail
        refine (takeFraming_any g _ _ a cap L _ S F3 C3).mono ?_; rintro e w4 ⟨⟨rfl, hp⟩, hk4⟩
        have D4 := box (D3.out.kept hk4)
        have K4 := box (K3.out.trans hk4.only)
        have P4 := box hp
        have Z4 : Box (w.heap.size ≤ w3.heap.size) := box K3.out.size
        clear hp hk4
        go_wp2
        go_ret
        refine ⟨⟨rfl, fun h0 => ?_⟩, K4.out⟩
        obtain ⟨v, fr, ln, hO, hC, hf⟩ := P4.out h0
        exact ⟨v, x, fr, ln, own_le hO Z4.out, hC, hf, XR.out, ZZ.out, by rw [HQ.out]; exact D4.out⟩
    · have HE : Box (o = .inl e0) := box (by rw [← HO2.out, head_start hN hlt (by rw [hse]; exact he), hse])
      have hne : (e0 != 0) = true := by simpa using he
      have HNE := box he
      clear hN hlt hse hq he
      go_enter Try.func29, Try.ntmps29
      go_wp2_with fail
      refine (nh_any g s s x1 t _ _ _ _ hs hs hx1 HN C).mono ?_; rintro e w1 ⟨rfl, hc1, hk1⟩; rw [HV.out]
      have D1 := box (HD.out.kept hk1)
      have K1 := box hk1.only
      clear hc1 hk1
      go_wp2_with fail
      refine (rslq_any htl HQ D1).mono ?_; rintro e w2 ⟨rfl, _, _, ho2⟩
      have K2 := box (K1.out.trans ho2)
      clear ho2
      go_wp2
      go_ret
      rw [HE.out]
      exact ⟨⟨rfl, HNE.out⟩, K2.out⟩
end
section
open Go.RowKit
/-- the cells behind the reader's five -/
def Dp (g : Nat) (d5 d6 d7 d8 d9 d10 d11 : Value) (w : World) : Prop :=
  (w.cell? ⟨g, 5, none⟩ = some d5 ∧ w.cell? ⟨g, 6, none⟩ = some d6 ∧ w.cell? ⟨g, 7, none⟩ = some d7 ∧ w.cell? ⟨g, 8, none⟩ = some d8 ∧ w.cell? ⟨g, 9, none⟩ = some d9 ∧ w.cell? ⟨g, 10, none⟩ = some d10 ∧ w.cell? ⟨g, 11, none⟩ = some d11) ∧
  (w.frozen? ⟨g, 5, none⟩ = false ∧ w.frozen? ⟨g, 6, none⟩ = false ∧ w.frozen? ⟨g, 7, none⟩ = false ∧ w.frozen? ⟨g, 8, none⟩ = false ∧ w.frozen? ⟨g, 9, none⟩ = false ∧ w.frozen? ⟨g, 10, none⟩ = false ∧ w.frozen? ⟨g, 11, none⟩ = false)
section
variable {g : Nat} {d5 d6 d7 d8 d9 d10 d11 : Value} {w w' : World}
theorem Dp.kept (h : Dp g d5 d6 d7 d8 d9 d10 d11 w) (k : Kept g w w') : Dp g d5 d6 d7 d8 d9 d10 d11 w' := by
  obtain ⟨⟨h5, h6, h7, h8, h9, h10, h11⟩, ⟨f5, f6, f7, f8, f9, f10, f11⟩⟩ := h
  exact ⟨⟨(k.tail 5 (by omega)).1.trans h5, (k.tail 6 (by omega)).1.trans h6, (k.tail 7 (by omega)).1.trans h7, (k.tail 8 (by omega)).1.trans h8, (k.tail 9 (by omega)).1.trans h9, (k.tail 10 (by omega)).1.trans h10, (k.tail 11 (by omega)).1.trans h11⟩, ⟨(k.tail 5 (by omega)).2.trans f5, (k.tail 6 (by omega)).2.trans f6, (k.tail 7 (by omega)).2.trans f7, (k.tail 8 (by omega)).2.trans f8, (k.tail 9 (by omega)).2.trans f9, (k.tail 10 (by omega)).2.trans f10, (k.tail 11 (by omega)).2.trans f11⟩⟩
theorem Dp.next (h : Dp g d5 d6 d7 d8 d9 d10 d11 w) (hb : Below w.heap.size w w') : Dp g d5 d6 d7 d8 d9 d10 d11 w' := h.kept (Kept.of hb (cell_lt (p := ⟨g, 5, none⟩) h.1.1))
theorem Dp.drewN {n : Nat} (h : Dp g d5 d6 d7 d8 d9 d10 d11 w) : Dp g d5 d6 d7 d8 d9 d10 d11 (w.drewN n) := h
theorem Dp.set5 (f : Dp g d5 d6 d7 d8 d9 d10 d11 w) (v : Value) : Dp g v d6 d7 d8 d9 d10 d11 (w.setCell ⟨g, 5, none⟩ v) := by
  obtain ⟨⟨h5, h6, h7, h8, h9, h10, h11⟩, f0⟩ := f
  refine ⟨⟨?_, ?_, ?_, ?_, ?_, ?_, ?_⟩, by simpa only [World.frozen?_setCell] using f0⟩
  all_goals first
    | (rw [World.cell?_setCell_same (h := h5)])
    | exact (World.cell?_setCell_other _ _ _ _ (by simp)).trans (by assumption)
theorem Dp.set6 (f : Dp g d5 d6 d7 d8 d9 d10 d11 w) (v : Value) : Dp g d5 v d7 d8 d9 d10 d11 (w.setCell ⟨g, 6, none⟩ v) := by
  obtain ⟨⟨h5, h6, h7, h8, h9, h10, h11⟩, f0⟩ := f
  refine ⟨⟨?_, ?_, ?_, ?_, ?_, ?_, ?_⟩, by simpa only [World.frozen?_setCell] using f0⟩
  all_goals first
    | (rw [World.cell?_setCell_same (h := h6)])
    | exact (World.cell?_setCell_other _ _ _ _ (by simp)).trans (by assumption)
theorem Dp.set7 (f : Dp g d5 d6 d7 d8 d9 d10 d11 w) (v : Value) : Dp g d5 d6 v d8 d9 d10 d11 (w.setCell ⟨g, 7, none⟩ v) := by
  obtain ⟨⟨h5, h6, h7, h8, h9, h10, h11⟩, f0⟩ := f
  refine ⟨⟨?_, ?_, ?_, ?_, ?_, ?_, ?_⟩, by simpa only [World.frozen?_setCell] using f0⟩
  all_goals first
    | (rw [World.cell?_setCell_same (h := h7)])
    | exact (World.cell?_setCell_other _ _ _ _ (by simp)).trans (by assumption)
theorem Dp.set8 (f : Dp g d5 d6 d7 d8 d9 d10 d11 w) (v : Value) : Dp g d5 d6 d7 v d9 d10 d11 (w.setCell ⟨g, 8, none⟩ v) := by
  obtain ⟨⟨h5, h6, h7, h8, h9, h10, h11⟩, f0⟩ := f
  refine ⟨⟨?_, ?_, ?_, ?_, ?_, ?_, ?_⟩, by simpa only [World.frozen?_setCell] using f0⟩
  all_goals first
    | (rw [World.cell?_setCell_same (h := h8)])
    | exact (World.cell?_setCell_other _ _ _ _ (by simp)).trans (by assumption)
theorem Dp.set9 (f : Dp g d5 d6 d7 d8 d9 d10 d11 w) (v : Value) : Dp g d5 d6 d7 d8 v d10 d11 (w.setCell ⟨g, 9, none⟩ v) := by
  obtain ⟨⟨h5, h6, h7, h8, h9, h10, h11⟩, f0⟩ := f
  refine ⟨⟨?_, ?_, ?_, ?_, ?_, ?_, ?_⟩, by simpa only [World.frozen?_setCell] using f0⟩
  all_goals first
    | (rw [World.cell?_setCell_same (h := h9)])
    | exact (World.cell?_setCell_other _ _ _ _ (by simp)).trans (by assumption)
end
end
end Go.Proofs.Ytjabcfabenobiaa.Asc
