/- Merged texts: CtlRef2 LisLaws LstOpen. -/
import Derived.Test.YtlcojfkkeommoaaZs03
import Derived.Test.YtlcojfkkeommoaaZs04
import Derived.Test.YtlcojfkkeommoaaZs05
import Derived.Test.YtlcojfkkeommoaaZs06
import Derived.Test.YtlcojfkkeommoaaZs07
import Derived.BigQuiet
import Derived.Carry
import Derived.Deep.QuietTactic
import Derived.Deep.RegionHeld3
import Derived.Deep.SlicePairs
import Derived.Laws.Externs
import Derived.Laws.IdiomCopy
import Derived.Lib.AppendStr
import Derived.Lib.Builder
import Derived.Lib.MakeNoZero
import Derived.Lib.UnsafeStr
import Derived.ProofKit
set_option linter.unusedVariables false
set_option linter.unusedSimpArgs false
set_option maxRecDepth 100000
namespace Go.Proofs.Ytlcojfkkeommoaa.Asc
section
open Go.RowKit
theorem rAll22_is {a : Option Addr} {cap n : Nat} {L : List F} {nm : ByteArray} {K : List ByteArray} {w : World} (S : Box (Sm L)) (hv : Box (∀ x ∈ getL nm L, x.size ≤ 65000)) (M : nm.size ≤ 65536) (hF : Box (Fs w a L)) (h : Box (allB nm L = K)) (hn : Box (K.length = n)) :
    Calls Try.prog 22 #[.slice a L.length cap, .string nm] w fun e w' => ∃ p c, e = .returned (.slice p n c) ∧ Ss w' p K ∧ Below w.heap.size w w' :=
  (rAll_any a cap L nm w S hv (box M) hF).mono fun e w' ⟨v, h1, h2, h3⟩ => by
    rw [h.out] at h2
    obtain ⟨p, c, rfl, h4, h5⟩ := h2.ss
    rw [hn.out] at h1
    exact ⟨p, c, h1, h4, h3⟩
theorem rDir_b {a : Option Addr} {cap m : Nat} {K : List ByteArray} {n : ByteArray} {b : Bool} {w : World} (hm : Box (K.length = m)) (hl : m ≤ 65536) (hn : n.size ≤ 65536) (HZ : Box (∀ m ∈ K, m.size ≤ 65000)) (hF : Box (Ss w a K)) (h : Box ((dirD n.data.toList (toL K)).isSome = b)) :
    Calls Try.prog 25 #[.slice a m cap, .string n] w fun e w' => ∃ x, e = .returned (.tuple #[.string x, .bool b]) ∧ Below w.heap.size w w' :=
  (rDir_is hm hl hn HZ hF (o := dirD n.data.toList (toL K)) (box rfl)).mono fun e w' ⟨h1, h2⟩ => by
    have hb := h.out
    rcases hd : dirD n.data.toList (toL K) with _ | r
    · rw [hd] at hb h1; cases hb; exact ⟨_, h1, h2⟩
    · rw [hd] at hb h1; cases hb; exact ⟨_, h1, h2⟩
set_option maxHeartbeats 8000000 in
theorem rResp_any (a : Option Addr) (cap : Nat) (L : List F) (w : World) (S : Box (Sm L)) (hv : Box (∀ x ∈ getL ccN L, x.size ≤ 65000)) (hF : Box (Fs w a L)) (c : CT) (HC : Box (respC (allL ccN L) = c)) :
    Calls Try.prog 10 #[.slice a L.length cap] w fun e w' => e = .returned (ctV c) ∧ Below w.heap.size w w' := by
  obtain ⟨K, hK⟩ : ∃ K, allB ccN L = K := ⟨_, rfl⟩
  obtain ⟨n, hn⟩ : ∃ n, K.length = n := ⟨_, rfl⟩
  have HM : Box (allL ccN L = toL K) := box (by rw [← hK, toL_all])
  have HZ : Box (∀ m ∈ K, m.size ≤ 65000) := box (by rw [← hK]; exact allB_small22 hv.out)
  have hn64 : n ≤ 64 := by rw [← hn, ← hK]; unfold allB allL; rw [List.length_map, List.length_take]; omega
  have hn6 : n ≤ 65536 := by omega
  have HK := box hK
  have HNn := box hn
  have hl := S.out.1
  have hcc : ccN.size ≤ 65536 := by decide
  obtain ⟨b0, hb0⟩ : ∃ b, (dirD nsN (toL K)).isSome = b := ⟨_, rfl⟩
  obtain ⟨b1, hb1⟩ : ∃ b, (dirD ncN (toL K)).isSome = b := ⟨_, rfl⟩
  obtain ⟨b2, hb2⟩ : ∃ b, (dirD mrN (toL K)).isSome = b := ⟨_, rfl⟩
  obtain ⟨b3, hb3⟩ : ∃ b, (dirD prN (toL K)).isSome = b := ⟨_, rfl⟩
  obtain ⟨b4, hb4⟩ : ∃ b, (dirD pvN (toL K)).isSome = b := ⟨_, rfl⟩
  obtain ⟨b5, hb5⟩ : ∃ b, (dirD pbN (toL K)).isSome = b := ⟨_, rfl⟩
  obtain ⟨b6, hb6⟩ : ∃ b, (dirD ocN (toL K)).isSome = b := ⟨_, rfl⟩
  obtain ⟨b7, hb7⟩ : ∃ b, secD maN 0 0 (toL K) = b := ⟨_, rfl⟩
  obtain ⟨b8, hb8⟩ : ∃ b, secD smN 0 0 (toL K) = b := ⟨_, rfl⟩
  obtain ⟨b9, hb9⟩ : ∃ b, secD mfN 2147483647 2147483647 (toL K) = b := ⟨_, rfl⟩
  obtain ⟨b10, hb10⟩ : ∃ b, secD msN 2147483647 0 (toL K) = b := ⟨_, rfl⟩
  have HCC : Box (c = ⟨b0 || decide (64 ≤ n), b1, b2, b3, b4, b5, b6, b7, b8, b9, b10⟩) := box (by
    rw [← HC.out, HM.out]; unfold respC ctl0; rw [toL_len, hn, hb0, hb1, hb2, hb3, hb4, hb5, hb6, hb7, hb8, hb9, hb10])
  have H0 := box hb0
  have H1 := box hb1
  have H2 := box hb2
  have H3 := box hb3
  have H4 := box hb4
  have H5 := box hb5
  have H6 := box hb6
  have H7 := box hb7
  have H8 := box hb8
  have H9 := box hb9
  have H10 := box hb10
  clear hK hn hb0 hb1 hb2 hb3 hb4 hb5 hb6 hb7 hb8 hb9 hb10
  have R0 : Box (Ct w.heap.size ct0 (w.alloc (.cells (ctA ct0) 25))) := box (Ct.new ct0 w 25)
  have B0 : Box (Below w.heap.size w (w.alloc (.cells (ctA ct0) 25))) := box (below_new w _)
  have F0 := box (hF.out.below B0.out)
  have z0 : (bs nsN).size ≤ 65536 := by decide
  have z1 : (bs ncN).size ≤ 65536 := by decide
  have z2 : (bs mrN).size ≤ 65536 := by decide
  have z3 : (bs prN).size ≤ 65536 := by decide
  have z4 : (bs pvN).size ≤ 65536 := by decide
  have z5 : (bs pbN).size ≤ 65536 := by decide
  have z6 : (bs ocN).size ≤ 65536 := by decide
  have z7 : (bs maN).size ≤ 65536 := by decide
  have z8 : (bs smN).size ≤ 65536 := by decide
  have z9 : (bs mfN).size ≤ 65536 := by decide
  have z10 : (bs msN).size ≤ 65536 := by decide
  go_enter Try.func10, Try.ntmps10
  go_wp2_with fail
  refine (rAll22_is S hv hcc F0 HK HNn).mono ?_; rintro e w1 ⟨p, cp, rfl, hS1, hb1⟩
  have R1 := box (R0.out.next hb1)
  have B1 := box (B0.out.trans (hb1.mono B0.out.size))
  have S1 := box hS1
  have M0 : Box (Below w1.heap.size w1 (w1.alloc (.cells (ctA ct0) 25))) := box (below_new w1 _)
  have C0 : Box (Ct w1.heap.size ct0 (w1.alloc (.cells (ctA ct0) 25))) := box (Ct.new ct0 w1 25)
  have hg : w.heap.size < w1.heap.size := R1.out.lt
  clear hS1 hb1
  go_wp2_with fail
  refine (rDir_b HNn hn6 z0 HZ (box (S1.out.below M0.out)) H0).mono ?_; rintro e w2 ⟨x0, rfl, hb⟩
  have C0' := C0.out.next hb
  have M1 := box ((M0.out.trans (hb.mono M0.out.size)).setCell (p := ⟨w1.heap.size, 0, none⟩) (Nat.le_refl _) (.bool b0))
  have C1 := box (C0'.set_ns b0)
  obtain ⟨⟨c0, c1, c2, c3, c4, c5, c6, c7, c8, c9, c10⟩, ⟨f0, f1, f2, f3, f4, f5, f6, f7, f8, f9, f10⟩⟩ := C0'
  clear hb C0 M0
  go_wp2_with fail
  clear c0 c1 c2 c3 c4 c5 c6 c7 c8 c9 c10 f0 f1 f2 f3 f4 f5 f6 f7 f8 f9 f10
  refine (rDir_b HNn hn6 z1 HZ (box (S1.out.below M1.out)) H1).mono ?_; rintro e w3 ⟨x1, rfl, hb⟩
  have C1' := C1.out.next hb
  have M2 := box ((M1.out.trans (hb.mono M1.out.size)).setCell (p := ⟨w1.heap.size, 1, none⟩) (Nat.le_refl _) (.bool b1))
  have C2 := box (C1'.set_nc b1)
  obtain ⟨⟨c0, c1, c2, c3, c4, c5, c6, c7, c8, c9, c10⟩, ⟨f0, f1, f2, f3, f4, f5, f6, f7, f8, f9, f10⟩⟩ := C1'
  clear hb C1 M1
  go_wp2_with fail
  clear c0 c1 c2 c3 c4 c5 c6 c7 c8 c9 c10 f0 f1 f2 f3 f4 f5 f6 f7 f8 f9 f10
  refine (rDir_b HNn hn6 z2 HZ (box (S1.out.below M2.out)) H2).mono ?_; rintro e w4 ⟨x2, rfl, hb⟩
  have C2' := C2.out.next hb
  have M3 := box ((M2.out.trans (hb.mono M2.out.size)).setCell (p := ⟨w1.heap.size, 2, none⟩) (Nat.le_refl _) (.bool b2))
  have C3 := box (C2'.set_mr b2)
  obtain ⟨⟨c0, c1, c2, c3, c4, c5, c6, c7, c8, c9, c10⟩, ⟨f0, f1, f2, f3, f4, f5, f6, f7, f8, f9, f10⟩⟩ := C2'
  clear hb C2 M2
  go_wp2_with fail
  clear c0 c1 c2 c3 c4 c5 c6 c7 c8 c9 c10 f0 f1 f2 f3 f4 f5 f6 f7 f8 f9 f10
  refine (rDir_b HNn hn6 z3 HZ (box (S1.out.below M3.out)) H3).mono ?_; rintro e w5 ⟨x3, rfl, hb⟩
  have C3' := C3.out.next hb
  have M4 := box ((M3.out.trans (hb.mono M3.out.size)).setCell (p := ⟨w1.heap.size, 3, none⟩) (Nat.le_refl _) (.bool b3))
  have C4 := box (C3'.set_pr b3)
  obtain ⟨⟨c0, c1, c2, c3, c4, c5, c6, c7, c8, c9, c10⟩, ⟨f0, f1, f2, f3, f4, f5, f6, f7, f8, f9, f10⟩⟩ := C3'
  clear hb C3 M3
  go_wp2_with fail
  clear c0 c1 c2 c3 c4 c5 c6 c7 c8 c9 c10 f0 f1 f2 f3 f4 f5 f6 f7 f8 f9 f10
  refine (rDir_b HNn hn6 z4 HZ (box (S1.out.below M4.out)) H4).mono ?_; rintro e w6 ⟨x4, rfl, hb⟩
  have C4' := C4.out.next hb
  have M5 := box ((M4.out.trans (hb.mono M4.out.size)).setCell (p := ⟨w1.heap.size, 4, none⟩) (Nat.le_refl _) (.bool b4))
  have C5 := box (C4'.set_pv b4)
  obtain ⟨⟨c0, c1, c2, c3, c4, c5, c6, c7, c8, c9, c10⟩, ⟨f0, f1, f2, f3, f4, f5, f6, f7, f8, f9, f10⟩⟩ := C4'
  clear hb C4 M4
  go_wp2_with fail
  clear c0 c1 c2 c3 c4 c5 c6 c7 c8 c9 c10 f0 f1 f2 f3 f4 f5 f6 f7 f8 f9 f10
  refine (rDir_b HNn hn6 z5 HZ (box (S1.out.below M5.out)) H5).mono ?_; rintro e w7 ⟨x5, rfl, hb⟩
  have C5' := C5.out.next hb
  have M6 := box ((M5.out.trans (hb.mono M5.out.size)).setCell (p := ⟨w1.heap.size, 5, none⟩) (Nat.le_refl _) (.bool b5))
  have C6 := box (C5'.set_pb b5)
  obtain ⟨⟨c0, c1, c2, c3, c4, c5, c6, c7, c8, c9, c10⟩, ⟨f0, f1, f2, f3, f4, f5, f6, f7, f8, f9, f10⟩⟩ := C5'
  clear hb C5 M5
  go_wp2_with fail
  clear c0 c1 c2 c3 c4 c5 c6 c7 c8 c9 c10 f0 f1 f2 f3 f4 f5 f6 f7 f8 f9 f10
  refine (rDir_b HNn hn6 z6 HZ (box (S1.out.below M6.out)) H6).mono ?_; rintro e w8 ⟨x6, rfl, hb⟩
  have C6' := C6.out.next hb
  have M7 := box ((M6.out.trans (hb.mono M6.out.size)).setCell (p := ⟨w1.heap.size, 6, none⟩) (Nat.le_refl _) (.bool b6))
  have C7 := box (C6'.set_oc b6)
  obtain ⟨⟨c0, c1, c2, c3, c4, c5, c6, c7, c8, c9, c10⟩, ⟨f0, f1, f2, f3, f4, f5, f6, f7, f8, f9, f10⟩⟩ := C6'
  clear hb C6 M6
  go_wp2_with fail
  clear c0 c1 c2 c3 c4 c5 c6 c7 c8 c9 c10 f0 f1 f2 f3 f4 f5 f6 f7 f8 f9 f10
  refine (rSec_is HNn hn6 z7 HZ (box (S1.out.below M7.out)) H7).mono ?_; rintro e w9 ⟨rfl, hb⟩
  have C7' := C7.out.next hb
  have M8 := box ((M7.out.trans (hb.mono M7.out.size)).setCell (p := ⟨w1.heap.size, 7, none⟩) (Nat.le_refl _) (.int .i64 b7))
  have C8 := box (C7'.set_ma b7)
  obtain ⟨⟨c0, c1, c2, c3, c4, c5, c6, c7, c8, c9, c10⟩, ⟨f0, f1, f2, f3, f4, f5, f6, f7, f8, f9, f10⟩⟩ := C7'
  clear hb C7 M7
  go_wp2_with fail
  clear c0 c1 c2 c3 c4 c5 c6 c7 c8 c9 c10 f0 f1 f2 f3 f4 f5 f6 f7 f8 f9 f10
  refine (rSec_is HNn hn6 z8 HZ (box (S1.out.below M8.out)) H8).mono ?_; rintro e w10 ⟨rfl, hb⟩
  have C8' := C8.out.next hb
  have M9 := box ((M8.out.trans (hb.mono M8.out.size)).setCell (p := ⟨w1.heap.size, 8, none⟩) (Nat.le_refl _) (.int .i64 b8))
  have C9 := box (C8'.set_sm b8)
  obtain ⟨⟨c0, c1, c2, c3, c4, c5, c6, c7, c8, c9, c10⟩, ⟨f0, f1, f2, f3, f4, f5, f6, f7, f8, f9, f10⟩⟩ := C8'
  clear hb C8 M8
  go_wp2_with fail
  clear c0 c1 c2 c3 c4 c5 c6 c7 c8 c9 c10 f0 f1 f2 f3 f4 f5 f6 f7 f8 f9 f10
  refine (rSec_is HNn hn6 z9 HZ (box (S1.out.below M9.out)) H9).mono ?_; rintro e w11 ⟨rfl, hb⟩
  have C9' := C9.out.next hb
  have M10 := box ((M9.out.trans (hb.mono M9.out.size)).setCell (p := ⟨w1.heap.size, 9, none⟩) (Nat.le_refl _) (.int .i64 b9))
  have C10 := box (C9'.set_mf b9)
  obtain ⟨⟨c0, c1, c2, c3, c4, c5, c6, c7, c8, c9, c10⟩, ⟨f0, f1, f2, f3, f4, f5, f6, f7, f8, f9, f10⟩⟩ := C9'
  clear hb C9 M9
  go_wp2_with fail
  clear c0 c1 c2 c3 c4 c5 c6 c7 c8 c9 c10 f0 f1 f2 f3 f4 f5 f6 f7 f8 f9 f10
  refine (rSec_is HNn hn6 z10 HZ (box (S1.out.below M10.out)) H10).mono ?_; rintro e w12 ⟨rfl, hb⟩
  have C10' := C10.out.next hb
  have M11 := box ((M10.out.trans (hb.mono M10.out.size)).setCell (p := ⟨w1.heap.size, 10, none⟩) (Nat.le_refl _) (.int .i64 b10))
  have C11 := box (C10'.set_ms b10)
  have CF : Ct w1.heap.size ⟨b0, b1, b2, b3, b4, b5, b6, b7, b8, b9, 0⟩ w12 := C10'
  have RF := (R1.out.below (M10.out.trans (hb.mono M10.out.size)) hg)
  obtain ⟨⟨c0, c1, c2, c3, c4, c5, c6, c7, c8, c9, c10⟩, ⟨f0, f1, f2, f3, f4, f5, f6, f7, f8, f9, f10⟩⟩ := CF
  obtain ⟨⟨r0, r1, r2, r3, r4, r5, r6, r7, r8, r9, r10⟩, ⟨q0, q1, q2, q3, q4, q5, q6, q7, q8, q9, q10⟩⟩ := RF
  clear hb C10 M10 C10' C11
  rcases b0 with _ | _
  · by_cases h64 : 64 ≤ n
    · have h64i : (64 : Int) ≤ (n : Int) := by omega
      have HC2 : c = ⟨true, b1, b2, b3, b4, b5, b6, b7, b8, b9, b10⟩ := HCC.out.trans (congrArg (fun z => CT.mk (false || z) b1 b2 b3 b4 b5 b6 b7 b8 b9 b10) (decide_eq_true h64))
      clear h64 hn64
      go_wp2
      (try simp only [Exit.inBlock, Exit.then])
      refine bodyPost_ret (v := ctV ⟨true, b1, b2, b3, b4, b5, b6, b7, b8, b9, b10⟩) (by rw [results_cell22 rfl]; go_simp; rfl) rfl ?_
      have B12 := B1.out.trans (M11.out.mono B1.out.size)
      have B13 := B12.setCell (p := ⟨w1.heap.size, 0, none⟩) (Nat.le_of_lt hg) (.bool true)
      have B14 := ct_put_below B13 (Nat.le_refl _) ⟨true, b1, b2, b3, b4, b5, b6, b7, b8, b9, b10⟩
      refine ⟨?_, B14⟩
      exact congrArg (fun z => Ending.returned (ctV z)) HC2.symm
    · have h64i : decide ((64 : Int) ≤ (n : Int)) = false := by rw [decide_eq_false_iff_not]; omega
      have HC2 : c = ⟨false, b1, b2, b3, b4, b5, b6, b7, b8, b9, b10⟩ := HCC.out.trans (congrArg (fun z => CT.mk (false || z) b1 b2 b3 b4 b5 b6 b7 b8 b9 b10) (decide_eq_false h64))
      clear h64 hn64
      go_wp2
      (try simp only [Exit.inBlock, Exit.then])
      refine bodyPost_ret (v := ctV ⟨false, b1, b2, b3, b4, b5, b6, b7, b8, b9, b10⟩) (by rw [results_cell22 rfl]; go_simp; rfl) rfl ?_
      have B12 := B1.out.trans (M11.out.mono B1.out.size)
      have B13 := B12.setCell (p := ⟨w1.heap.size, 0, none⟩) (Nat.le_of_lt hg) (.bool false)
      have B14 := ct_put_below B13 (Nat.le_refl _) ⟨false, b1, b2, b3, b4, b5, b6, b7, b8, b9, b10⟩
      refine ⟨?_, B14⟩
      exact congrArg (fun z => Ending.returned (ctV z)) HC2.symm
  · have HC2 : c = ⟨true, b1, b2, b3, b4, b5, b6, b7, b8, b9, b10⟩ := HCC.out
    go_wp2
    (try simp only [Exit.inBlock, Exit.then])
    refine bodyPost_ret (v := ctV ⟨true, b1, b2, b3, b4, b5, b6, b7, b8, b9, b10⟩) (by rw [results_cell22 rfl]; go_simp; rfl) rfl ?_
    have B12 := B1.out.trans (M11.out.mono B1.out.size)
    have B13 := B12.setCell (p := ⟨w1.heap.size, 0, none⟩) (Nat.le_of_lt hg) (.bool true)
    have B14 := ct_put_below B13 (Nat.le_refl _) ⟨true, b1, b2, b3, b4, b5, b6, b7, b8, b9, b10⟩
    refine ⟨?_, B14⟩
    exact congrArg (fun z => Ending.returned (ctV z)) HC2.symm
theorem rResp_is {a : Option Addr} {cap : Nat} {L : List F} {c : CT} {w : World} (S : Box (Sm L)) (hv : Box (∀ x ∈ getL ccN L, x.size ≤ 65000)) (hF : Box (Fs w a L)) (HC : Box (respC (allL ccN L) = c)) :
    Calls Try.prog 10 #[.slice a L.length cap] w fun e w' => e = .returned (.agg #[.bool c.ns, .bool c.nc, .bool c.mr, .bool c.pr, .bool c.pv, .bool c.pb, .bool c.oc, .int .i64 c.ma, .int .i64 c.sm, .int .i64 c.mf, .int .i64 c.ms]) ∧ Below w.heap.size w w' :=
  rResp_any a cap L w S hv hF c HC
theorem rHas22_is {a : Option Addr} {cap : Nat} {L : List F} {nm : ByteArray} {q : Bool} {w : World} (S : Box (Sm L)) (M : nm.size ≤ 65536) (hF : Box (Fs w a L)) (h : Box (L.any (nmd nm) = q)) :
    Calls Try.prog 21 #[.slice a L.length cap, .string nm] w fun e w' => e = .returned (.bool q) ∧ Below w.heap.size w w' :=
  (rHas_any a cap L nm w S.out.1 S (box M) hF).mono fun e w' ⟨h1, h2⟩ => ⟨by rw [h1, h.out], h2⟩
end
section
open Go.RowKit
theorem rSplit_is {s : ByteArray} {K : List ByteArray} {w : World} (hs : s.size ≤ 65000) (h : Box (splitB s.data.toList = K)) :
    Calls Try.prog 15 #[.string s] w fun e w' => ∃ a cap, e = .returned (.slice a K.length cap) ∧ Ss w' a K ∧ K.length ≤ cap ∧ Below w.heap.size w w' :=
  (rSplit_any s w hs).mono fun e w' ⟨v, h1, h2, h3⟩ => by
    rw [h.out] at h2
    obtain ⟨a, cap, rfl, hS, hc⟩ := h2.ss
    exact ⟨a, cap, h1, hS, hc, h3⟩
theorem keep_get {L : List F} (h : keepF L = true) (nm : ByteArray) : ∀ x ∈ getL nm L, x.size ≤ 65000 := by
  intro x hx
  obtain ⟨_, h2⟩ := keep_parts h
  unfold getL at hx
  obtain ⟨p, hp, rfl⟩ := List.mem_map.mp hx
  obtain ⟨i, hi, e⟩ := List.getElem_of_mem (List.mem_filter.mp hp).1
  rw [← e]; have := (h2 i hi).2; omega
theorem keep_sm7 {L : List F} (h : keepF L = true) : Sm L := by
  obtain ⟨h1, h2⟩ := keep_parts h
  exact ⟨by omega, fun i hi => by have := h2 i hi; omega⟩
end
section
open Go.RowKit Go.ChangeShapes Go.WideShapes Go.Deep
def strOf : Value → ByteArray
  | .string s => s
  | _ => ByteArray.empty
theorem laid : laidOutB Try.prog = true := by kernel_rfl
theorem open_fields {H : Type} {enc : TypeId × Value → H} {W : World} {base : Nat} {sp : Nat → Bool} {held : Bool} {r : Reach} {b0 : Nat} {v : Value} {d : DataW H} {p : List MemPlace}
    (hval : Value.okWide Try.prog W r b0 22 v) (h : DataW.Trod enc Try.prog W base sp held 22 v d p) :
    ∃ (a : Option Addr) (cap : Nat) (L : List F), v = .slice a L.length cap ∧ L.length ≤ maxLen ∧ Fs W a L ∧ L.length ≤ cap := by
  obtain ⟨a0, len, cap, rfl⟩ := okWide_slice Try.underlying22 hval
  obtain ⟨fuel, hf⟩ := h
  rcases open_slice_pairs Try.underlying22 Try.underlying32 (by kernel_rfl) rfl rfl (by kernel_rfl) (by kernel_rfl) hf with ⟨hcs, hx⟩ | ⟨a, len', cap', m, n, V0, V1, D0, D1, P0, P1, hcs, _, hl, hm, hmm, hx, hi⟩
  · simp [Value.cells] at hcs
    obtain ⟨rfl, rfl, rfl⟩ := hcs
    exact ⟨none, 0, [], rfl, Nat.zero_le _, fun i hi => absurd hi (by simp), Nat.le_refl _⟩
  · simp [Value.cells] at hcs
    obtain ⟨rfl, rfl, rfl⟩ := hcs
    have hlm : len ≤ m := by rw [hmm]; split <;> omega
    refine ⟨some a, cap, (List.range len).map fun i => (strOf (V0 i), strOf (V1 i)), by simp, by simp; omega, fun i hi2 => ?_, by simp; omega⟩
    have hil : i < len := by simpa using hi2
    obtain ⟨g, off, spot⟩ := a
    obtain ⟨z0, _, _, _⟩ := hi 0 (by omega)
    have hspot : spot = none := by simpa [Addr.add] using World.cell?_spot z0
    subst hspot
    obtain ⟨k0, k1, t0, t1⟩ := hi i (by omega)
    obtain ⟨s0, e0, _, _⟩ := DataW.trod_string Try.underlying9 t0
    obtain ⟨s1, e1, _, _⟩ := DataW.trod_string Try.underlying9 t1
    rw [add_plain] at k0 k1
    simp at e0 e1
    refine ⟨g, off, rfl, ?_, ?_⟩
    · rw [k0, e0]; simp [strOf, e0]
    · rw [← Nat.add_assoc] at k1
      rw [k1, e1]; simp [strOf, e1]
end
end Go.Proofs.Ytlcojfkkeommoaa.Asc
