/- Merged texts: BldMem VarMem VarRef MedLen VarRef2 VarRef3 VarRef4. -/
import Derived.Test.YtcnohcbhnldglaaM01
import Derived.Test.YtcnohcbhnldglaaM02
import Derived.Test.YtcnohcbhnldglaaM03
import Derived.Test.YtcnohcbhnldglaaM04
import Derived.Test.YtcnohcbhnldglaaM05
import Derived.Test.YtcnohcbhnldglaaM06
import Derived.Test.YtcnohcbhnldglaaM07
import Derived.Test.YtcnohcbhnldglaaM08
import Derived.BigQuiet
import Derived.Deep.QuietTactic
import Derived.Deep.RegionHeld3
import Derived.Deep.Slices
import Derived.Laws.Externs
import Derived.Laws.IdiomCopy
import Derived.Lib.AppendStr
import Derived.Lib.Builder
import Derived.Lib.Hide
import Derived.Lib.MakeNoZero
import Derived.Lib.UnsafeStr
import Derived.LoopTactic
set_option linter.unusedVariables false
set_option linter.unusedSimpArgs false
set_option maxRecDepth 100000
namespace Go.Proofs.Ytcnohcbhnldglaa.Asc
section
open Go.RowKit
theorem blk_lt {w : World} {b : Nat} {o : Obj} (h : w.heap[b]? = some o) : b < w.heap.size := by
  rcases Nat.lt_or_ge b w.heap.size with q | q
  · exact q
  · rw [Array.getElem?_eq_none q] at h; cases h
end
section
open Go.RowKit Go.ChangeShapes Go.WideShapes Go.Deep
/-- a value that is the list of strings V -/
def SsV (w : World) (v : Value) (V : List ByteArray) : Prop := ∃ b c, v = .slice b V.length c ∧ Ss w b V ∧ V.length ≤ c
theorem SsV.below {w w' : World} {v : Value} {V : List ByteArray} (h : SsV w v V) (hb : Below w.heap.size w w') : SsV w' v V := by
  obtain ⟨b, c, e, hs, hc⟩ := h
  exact ⟨b, c, e, hs.below hb, hc⟩
def Axs (w : World) (a : Option Addr) (L : List AX) : Prop :=
  ∀ i (h : i < L.length), ∃ g off v, a = some ⟨g, off, none⟩ ∧ w.cell? ⟨g, off + i * 2, none⟩ = some (.string L[i].1) ∧ w.cell? ⟨g, off + i * 2 + 1, none⟩ = some v ∧ SsV w v L[i].2
theorem Axs.below {w w' : World} {a : Option Addr} {L : List AX} (h : Axs w a L) (hb : Below w.heap.size w w') : Axs w' a L := fun i hi => by
  obtain ⟨g, off, v, e, c0, c1, hs⟩ := h i hi
  exact ⟨g, off, v, e, (hb.cell (cell_lt c0)).trans c0, (hb.cell (cell_lt c1)).trans c1, hs.below hb⟩
theorem open_strs {H : Type} {enc : TypeId × Value → H} {W : World} {base : Nat} {sp : Nat → Bool} {held : Bool} {n : Nat} {v : Value} {x : DataW H × List MemPlace}
    (hf : DataW.trod enc Try.prog W base sp held n 31 [v] = some x) : ∃ V, SsV W v V ∧ V.length ≤ maxLen := by
  rcases open_slice1 Try.underlying31 (by kernel_rfl) hf with ⟨hcs, hx⟩ | ⟨a, len', cap', m, n, V, D, Pl, hcs, _, hl, hm, hmm, hx, hi⟩
  · simp at hcs
    subst hcs
    exact ⟨[], ⟨none, 0, rfl, fun i hi => absurd hi (by simp), Nat.le_refl _⟩, Nat.zero_le _⟩
  · simp at hcs
    subst hcs
    have hlm : len' ≤ m := by rw [hmm]; split <;> omega
    refine ⟨(List.range len').map fun i => strOf (V i), ⟨some a, cap', by simp, fun i hi2 => ?_, by simp; omega⟩, by simp; omega⟩
    have hil : i < len' := by simpa using hi2
    obtain ⟨g, off, spot⟩ := a
    obtain ⟨z0, _⟩ := hi 0 (by omega)
    have hspot : spot = none := by simpa [Addr.add] using World.cell?_spot z0
    subst hspot
    obtain ⟨k0, t0⟩ := hi i (by omega)
    obtain ⟨s0, e0, _, _⟩ := DataW.trod_string Try.underlying9 t0
    rw [add_plain] at k0
    simp at e0
    refine ⟨g, off, rfl, ?_⟩
    rw [k0, e0]; simp [strOf, e0]
theorem open_axes {H : Type} {enc : TypeId × Value → H} {W : World} {base : Nat} {sp : Nat → Bool} {held : Bool} {r : Reach} {b0 : Nat} {v : Value} {d : DataW H} {p : List MemPlace}
    (hval : Value.okWide Try.prog W r b0 23 v) (h : DataW.Trod enc Try.prog W base sp held 23 v d p) :
    ∃ (a : Option Addr) (cap : Nat) (L : List AX), v = .slice a L.length cap ∧ L.length ≤ maxLen ∧ (Axs W a L ∧ ∀ i (hi : i < L.length), L[i].2.length ≤ maxLen) ∧ L.length ≤ cap := by
  obtain ⟨a0, len, cap, rfl⟩ := okWide_slice Try.underlying23 hval
  obtain ⟨fuel, hf⟩ := h
  rcases open_slice_pairs Try.underlying23 Try.underlying33 (by kernel_rfl) rfl rfl (by kernel_rfl) (by kernel_rfl) hf with ⟨hcs, hx⟩ | ⟨a, len', cap', m, n, V0, V1, D0, D1, P0, P1, hcs, _, hl, hm, hmm, hx, hi⟩
  · simp [Value.cells] at hcs
    obtain ⟨rfl, rfl, rfl⟩ := hcs
    exact ⟨none, 0, [], rfl, Nat.zero_le _, ⟨fun i hi => absurd hi (by simp), fun i hi => absurd hi (by simp)⟩, Nat.le_refl _⟩
  · simp [Value.cells] at hcs
    obtain ⟨rfl, rfl, rfl⟩ := hcs
    have hlm : len ≤ m := by rw [hmm]; split <;> omega
    obtain ⟨g, off, spot⟩ := a
    obtain ⟨L, hL, hP⟩ := choose_list (P := fun i (x : AX) => W.cell? ((⟨g, off, spot⟩ : Addr).add (i * 2)) = some (.string x.1) ∧ ∃ v, W.cell? ((⟨g, off, spot⟩ : Addr).add (i * 2 + 1)) = some v ∧ SsV W v x.2 ∧ x.2.length ≤ maxLen) len (fun i hil => by
      obtain ⟨k0, k1, t0, t1⟩ := hi i (by omega)
      obtain ⟨s0, e0, _, _⟩ := DataW.trod_string Try.underlying9 t0
      obtain ⟨V, hV, hVm⟩ := open_strs t1
      simp at e0
      exact ⟨(s0, V), by rw [k0, e0], V1 i, k1, hV, hVm⟩)
    refine ⟨some ⟨g, off, spot⟩, cap, L, by rw [hL], by rw [hL]; omega, ⟨fun i hi2 => ?_, fun i hi2 => by obtain ⟨_, v, _, _, p3⟩ := hP i hi2; exact p3⟩, by rw [hL]; omega⟩
    obtain ⟨p0, v, p1, p2, _⟩ := hP i hi2
    obtain ⟨z0, _⟩ := hi 0 (by omega)
    have hspot : spot = none := by simpa [Addr.add] using World.cell?_spot z0
    subst hspot
    rw [add_plain] at p0 p1
    exact ⟨g, off, v, rfl, p0, by rw [← Nat.add_assoc] at p1; exact p1, p2⟩
set_option maxHeartbeats 1000000 in
theorem keepAxes_any (a : Option Addr) (cap : Nat) (L : List AX) (w : World) (hl : L.length ≤ maxLen) (hF : Box (Axs w a L)) (hS : Box (∀ i (hi : i < L.length), L[i].2.length ≤ maxLen)) :
    Calls Try.prog 5 #[.slice a L.length cap] w fun e w' => e = .returned (.bool (keepA L)) ∧ w = w' := by
  unfold maxLen at hl
  go_enter Try.func5, Try.ntmps5
  go_wp2
  go_loop [3] (fun i => ∃ k : Nat, k ≤ L.length ∧ k ≤ 7 ∧ i = .int .i64 k ∧ (L.take k).all okA = true) (fun i => 7 - (intOf i).toNat)
  case atStart => exact ⟨0, Nat.zero_le _, Nat.zero_le _, rfl, rfl⟩
  case round =>
    obtain ⟨k, hk, hk9, rfl, hall⟩ := hrel
    have HA := box hall
    clear hall
    by_cases hlt : k < L.length
    · by_cases h9 : k < 7
      · obtain ⟨g, off, v, rfl, c0, c1, b, c, rfl, hss, hcc⟩ := hF.out k hlt
        have SS := box hss
        have SM := box (hS.out k hlt)
        clear hss hcc
        by_cases e1 : L[k].1.size ≤ 100
        · have ei : ¬ (100 : Int) < (L[k].1.size : Int) := by omega
          rcases e2 : keepS L[k].2 with _ | _
          · have E2 := box e2
            have HN := box (keepA_bad hlt (by unfold okA; rw [e2, Bool.and_false]))
            clear e1 e2
            go_wp2_with fail
            refine (keepStrings_any b c _ _ SM.out SS).mono ?_; rintro e w1 ⟨rfl, rfl⟩; rw [E2.out]
            go_wp2
            go_ret
            exact ⟨ret_bool HN.out.symm, rfl⟩
          · have E2 := box e2
            have HN := box (keepA_more hlt HA.out e1 e2)
            clear e1 e2
            go_wp2_with fail
            refine (keepStrings_any b c _ _ SM.out SS).mono ?_; rintro e w1 ⟨rfl, rfl⟩; rw [E2.out]
            go_wp2
            go_round
            case rel => exact ⟨k + 1, by omega, by omega, by go_num, HN.out⟩
            case measure => simp [intOf]; omega
        · have ei : (100 : Int) < (L[k].1.size : Int) := by omega
          have HN := box (keepA_bad hlt (by unfold okA; rw [decide_eq_false e1]; rfl))
          clear e1
          go_wp2
          go_ret
          exact ⟨ret_bool HN.out.symm, rfl⟩
      · go_wp2
        go_ret
        exact ⟨ret_bool (by rw [keepA_long (by omega)]; simp; omega), rfl⟩
    · have e : k = L.length := by omega
      have E := box e
      clear e
      by_cases h8 : L.length ≤ 6
      · go_wp2
        go_ret
        refine ⟨ret_bool ?_, rfl⟩
        have ha := HA.out
        rw [E.out] at ha
        rw [keepA_end ha h8]
        simp; omega
      · go_wp2
        go_ret
        exact ⟨ret_bool (by rw [keepA_long h8]; simp; omega), rfl⟩
end
section
open Go.RowKit
theorem kind_five (n : ByteArray) : kindN n = 1 ∨ kindN n = 2 ∨ kindN n = 3 ∨ kindN n = 4 ∨ kindN n = 0 := by
  unfold kindN; repeat' split
  all_goals simp
end
section
open Go.RowKit
theorem range_len {s : ByteArray} {a b : ByteArray} {L : List F} (h : ofM (rangeL s.data.toList) = (a, b, L)) : L.length ≤ s.size ∧ (∀ i (hi : i < L.length), L[i].1.size ≤ s.size ∧ L[i].2.size ≤ s.size) ∧ a.size ≤ s.size ∧ b.size ≤ s.size := by
  have hz : s.data.toList.length = s.size := by simp
  cases hr : rangeL s.data.toList with
  | none =>
    rw [hr] at h
    cases h
    exact ⟨Nat.zero_le _, fun i hi => absurd hi (by simp), Nat.zero_le _, Nat.zero_le _⟩
  | some x =>
    obtain ⟨c, d, K⟩ := x
    rw [hr] at h
    cases h
    obtain ⟨_, _, h3, h4⟩ := range_facts hr
    exact ⟨by omega, fun i hi => by have := szF_at hi; omega, by omega, by omega⟩
theorem media_len {s : ByteArray} {a b : ByteArray} {L : List F} (h : ofM (mediaL s.data.toList) = (a, b, L)) : L.length ≤ s.size ∧ (∀ i (hi : i < L.length), L[i].1.size ≤ s.size ∧ L[i].2.size ≤ s.size) ∧ a.size ≤ s.size ∧ b.size ≤ s.size := by
  rw [media_cases] at h
  have no : ∀ {x : M}, ofM (none : Option M) = x → x = (a, b, L) → L.length ≤ s.size ∧ (∀ i (hi : i < L.length), L[i].1.size ≤ s.size ∧ L[i].2.size ≤ s.size) ∧ a.size ≤ s.size ∧ b.size ≤ s.size := by
    intro x h1 h2
    rw [← h1] at h2
    cases h2
    exact ⟨Nat.zero_le _, fun i hi => absurd hi (by simp), Nat.zero_le _, Nat.zero_le _⟩
  split at h
  · split at h
    · exact no rfl h
    · exact range_len h
  · exact no rfl h
end
section
open Go.RowKit
theorem ne_toList (a b : ByteArray) : (!(a.toList == b.toList)) = decide (a ≠ b) := by
  rw [toList_data, toList_data]
  by_cases e : a = b
  · rw [e]; simp
  · rw [decide_eq_true e]
    have : (a.data.toList == b.data.toList) = false := beq_eq_false_iff_ne.2 (fun h => e (by rw [bs_of a, bs_of b, h]))
    rw [this]; rfl
end
section
open Go.RowKit
theorem vals_no {n : ByteArray} {V : List ByteArray} {i m : Nat} (h : i < m) (hf : (valueV n (atS V i) && newV n V i i) = false) : valsV n V m = false := range_no h hf
end
section
open Go.RowKit
theorem axes_no {L : List AX} {i m : Nat} (h : i < m) (hf : (validA (atA L i) && newA L i i) = false) : axesV L m = false := range_no h hf
def smallA (L : List AX) : Prop := ∀ i (hi : i < L.length), L[i].1.size ≤ 65000 ∧ L[i].2.length ≤ 65536 ∧ ∀ j (hj : j < L[i].2.length), L[i].2[j].size ≤ 65000
end
end Go.Proofs.Ytcnohcbhnldglaa.Asc
