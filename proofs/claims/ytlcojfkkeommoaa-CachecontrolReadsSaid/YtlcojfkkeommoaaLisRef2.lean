/- The contracts of the reference's Split and All. -/
import Derived.Test.YtlcojfkkeommoaaLisRef
import Derived.Test.YtlcojfkkeommoaaAscTrim
set_option linter.unusedVariables false
set_option linter.unusedSimpArgs false
set_option maxRecDepth 100000
namespace Go.Proofs.Ytlcojfkkeommoaa.Asc
open Go.RowKit

def splitB (l : List UInt8) : List ByteArray := (splitL l).map bs
theorem rTrim_is {s x : ByteArray} {w : World} (hs : s.size ≤ maxLen) (h : Box (bs (trimL s.data.toList) = x)) :
    Calls Try.prog 30 #[.string s] w fun e w' => e = .returned (.string x) ∧ w = w' :=
  (rTrim_any s w hs).mono fun e w' ⟨h1, h2⟩ => ⟨by rw [h1, ← h.out]; rfl, by first | exact h2 | exact h2.symm⟩
def SplRel (ps : List (List UInt8)) (B : Nat) (w : World) (v i : Value) (wr : World) : Prop :=
  ∃ k : Nat, i = .int .i64 k ∧ k ≤ ps.length ∧ (memL (ps.take k)).length ≤ 64 ∧ OwnS wr B v ((memL (ps.take k)).map bs) ∧ Below w.heap.size w wr
set_option maxHeartbeats 4000000 in
theorem rSplit_any (s : ByteArray) (w : World) (hs : s.size ≤ 65000) :
    Calls Try.prog 15 #[.string s] w fun e w' => ∃ v, e = .returned v ∧ OwnS w' w.heap.size v (splitB s.data.toList) ∧ Below w.heap.size w w' := by
  have hz : s.data.toList.length = s.size := by simp
  obtain ⟨ps, hps⟩ : ∃ ps, cutL 44 s.data.toList = ps := ⟨_, rfl⟩
  have HSP : Box (splitB s.data.toList = ((memL ps).take 64).map bs) := box (by unfold splitB splitL; rw [hps])
  have hcnt : ps.length ≤ 65536 := by
    have := cut_count (sep := 44) s.data.toList.length false s.data.toList []
    rw [← hps]; unfold cutL; omega
  have hsm : Box (∀ p ∈ ps, p.length ≤ 65536) := box (fun p hp => by
    rw [← hps] at hp
    have := cut_small _ _ _ _ p hp
    simp at this; omega)
  have HCB : Box (cutsB 44 s.data.toList = ps.map bs) := box (by unfold cutsB; rw [hps])
  clear hps hz
  go_enter Try.func15, Try.ntmps15
  go_wp2_with fail
  refine (rCut_any s 44 _ hs).mono ?_; rintro e w1 ⟨v1, rfl, hO1, hb1⟩
  rw [HCB.out] at hO1
  obtain ⟨a1, cap1, rfl, hS1, hc1⟩ := hO1.ss
  rw [List.length_map] at hc1 ⊢
  have S1 := box hS1
  have B1 := box hb1
  have hB1 := hb1.size
  clear hO1 hS1 hb1
  go_wp2
  go_loopw [3, 5] (fun v i wr => SplRel ps w1.heap.size w1 v i wr) (fun _ i _ => ps.length - (intOf i).toNat)
  case atStart => exact ⟨0, rfl, Nat.zero_le _, Nat.zero_le _, OwnS.nil _ _, Below.refl _ _⟩
  case round =>
    obtain ⟨k, rfl, hk, h64, hO, hbel⟩ := hrel
    obtain ⟨M, hM⟩ : ∃ M, (memL (ps.take k)) = M := ⟨_, rfl⟩
    rw [hM] at h64 hO
    have HM := box hM
    obtain ⟨av, cv, rfl, _, _⟩ := hO.ss
    rw [List.length_map] at hO ⊢
    have O0 := box hO
    have BL := box hbel
    have hBw := hbel.size
    clear hO hbel hM
    by_cases hlt : k < ps.length
    · by_cases hm : M.length = 64
      · have hmi : ¬ (M.length : Int) < 64 := by omega
        have HF : Box ((memL ps).take 64 = M) := box (by rw [mem_full (by rw [HM.out]; exact hm), HM.out])
        clear hm
        go_wp2
        go_ret
        refine ⟨_, rfl, ?_, B1.out.trans (BL.out.mono hB1)⟩
        rw [HSP.out, HF.out]
        exact Go.Joins.ownsRow_le O0.out hB1
      · have hmi : (M.length : Int) < 64 := by omega
        obtain ⟨q, off, rfl, c0⟩ := (S1.out.below BL.out) k (by rw [List.length_map]; exact hlt)
        rw [List.getElem_map] at c0
        have hpz : (bs ps[k]).size ≤ maxLen := by
          rw [bs_size]; have := hsm.out ps[k] (List.getElem_mem hlt); unfold maxLen; omega
        by_cases ht : trimL ps[k] = []
        · have HT : Box (bs (trimL (bs ps[k]).data.toList) = ⟨#[]⟩) := box (by rw [bs_toList, ht]; rfl)
          have HN : Box (memL (ps.take (k + 1)) = M) := box (by rw [mem_more hlt, if_pos ht, List.append_nil, HM.out])
          go_wp2_with fail
          refine (rTrim_is hpz HT).mono ?_; rintro e w2 ⟨rfl, rfl⟩
          go_wp2
          go_roundw
          case rel => exact ⟨k + 1, by go_num, by omega, by rw [HN.out]; exact h64, by rw [HN.out]; exact O0.out, BL.out⟩
          case measure => simp [intOf]; omega
        · obtain ⟨x, hx⟩ : ∃ x, bs (trimL ps[k]) = x := ⟨_, rfl⟩
          have HT : Box (bs (trimL (bs ps[k]).data.toList) = x) := box (by rw [bs_toList, hx])
          have hxe : x.toList.isEmpty = false := by
            rw [← hx, toList_bs]
            cases h : trimL ps[k] with
            | nil => exact absurd h ht
            | cons c r => rfl
          have HN : Box ((memL (ps.take (k + 1))).map bs = M.map bs ++ [x]) := box (by rw [mem_more hlt, if_neg ht, HM.out, List.map_append, List.map_cons, List.map_nil, hx])
          have HL : Box ((memL (ps.take (k + 1))).length ≤ 64) := box (by rw [mem_more hlt, if_neg ht, HM.out, List.length_append]; simp; omega)
          have hm6 : Box ((M.map bs).length ≤ 65536) := box (by rw [List.length_map]; omega)
          clear hx
          go_wp2_with fail
          refine (rTrim_is hpz HT).mono ?_; rintro e w2 ⟨rfl, rfl⟩
          go_wp2_with (at_builtin; refine wpList_append_str _ rfl (.tmp 27) (.tmp 29) rfl w1.heap.size _ (M.map bs) rfl ?a1 _ _ rfl x ?b1 ?c1 ?d1 ?_)
          case a1 => exact own_below O0.out (below_new _ _)
          case b1 => go_simp
          case c1 => exact hm6.out
          case d1 => simp; omega
          intro v3 w3 hO3 hb3
          have O3 := box hO3
          have B3 := box ((BL.out.alloc BL.out.size _).trans hb3)
          clear hO3 hb3
          go_wp2
          go_roundw
          case rel => exact ⟨k + 1, by go_num, by omega, HL.out, by rw [HN.out]; exact O3.out, B3.out⟩
          case measure => simp [intOf]; omega
    · have HF : Box ((memL ps).take 64 = M) := box (by rw [mem_end (k := k) (by omega) (by rw [HM.out]; exact h64), HM.out])
      go_wp2
      go_ret
      refine ⟨_, rfl, ?_, B1.out.trans (BL.out.mono hB1)⟩
      rw [HSP.out, HF.out]
      exact Go.Joins.ownsRow_le O0.out hB1

end Go.Proofs.Ytlcojfkkeommoaa.Asc
