/- Merged texts: LstOpen LisOpen LisLaws2 LisLaws3. -/
import Derived.Test.YtlbfadhhejnllaaM03
import Derived.Test.YtlbfadhhejnllaaM06
import Derived.Carry
import Derived.Deep.SlicePairs
import Derived.Deep.Slices
import Derived.ProofKit
set_option linter.unusedVariables false
set_option linter.unusedSimpArgs false
set_option maxRecDepth 100000
namespace Go.Proofs.Ytlbfadhhejnllaa.Asc
section
open Go.RowKit Go.ChangeShapes Go.WideShapes Go.Deep
def strOf : Value → ByteArray
  | .string s => s
  | _ => ByteArray.empty
theorem laid : laidOutB Try.prog = true := by kernel_rfl
theorem open_fields {H : Type} {enc : TypeId × Value → H} {W : World} {base : Nat} {sp : Nat → Bool} {held : Bool} {r : Reach} {b0 : Nat} {v : Value} {d : DataW H} {p : List MemPlace}
    (hval : Value.okWide Try.prog W r b0 29 v) (h : DataW.Trod enc Try.prog W base sp held 29 v d p) :
    ∃ (a : Option Addr) (cap : Nat) (L : List F), v = .slice a L.length cap ∧ L.length ≤ maxLen ∧ Fs W a L ∧ L.length ≤ cap := by
  obtain ⟨a0, len, cap, rfl⟩ := okWide_slice Try.underlying29 hval
  obtain ⟨fuel, hf⟩ := h
  rcases open_slice_pairs Try.underlying29 Try.underlying35 (by kernel_rfl) rfl rfl (by kernel_rfl) (by kernel_rfl) hf with ⟨hcs, hx⟩ | ⟨a, len', cap', m, n, V0, V1, D0, D1, P0, P1, hcs, _, hl, hm, hmm, hx, hi⟩
  · simp [Value.cells] at hcs
    obtain ⟨rfl, rfl, rfl⟩ := hcs
    exact ⟨none, 0, [], rfl, Nat.zero_le _, fun i hi => absurd hi (by simp), Nat.le_refl _⟩
  · simp [Value.cells] at hcs
    obtain ⟨rfl, rfl, rfl⟩ := hcs
    have hlm : len ≤ m := by rw [hmm]; split <;> omega
    refine ⟨some a, cap, (List.range len).map fun i => (strOf (V0 i), strOf (V1 i)), by simp, by simp; omega, fun i hi2 => ?_, by simp; omega⟩
    have hil : i < len := by simpa using hi2
    obtain ⟨g, off, spot⟩ := a
    obtain ⟨z0, _, _, _⟩ := hi 0 (by omega)
    have hspot : spot = none := by simpa [Addr.add] using World.cell?_spot z0
    subst hspot
    obtain ⟨k0, k1, t0, t1⟩ := hi i (by omega)
    obtain ⟨s0, e0, _, _⟩ := DataW.trod_string Try.underlying9 t0
    obtain ⟨s1, e1, _, _⟩ := DataW.trod_string Try.underlying9 t1
    rw [add_plain] at k0 k1
    simp at e0 e1
    refine ⟨g, off, rfl, ?_, ?_⟩
    · rw [k0, e0]; simp [strOf, e0]
    · rw [← Nat.add_assoc] at k1
      rw [k1, e1]; simp [strOf, e1]
end
section
open Go.RowKit Go.ChangeShapes Go.WideShapes Go.Deep
theorem open_strings {H : Type} {enc : TypeId × Value → H} {W : World} {base : Nat} {sp : Nat → Bool} {held : Bool} {r : Reach} {b0 : Nat} {v : Value} {d : DataW H} {p : List MemPlace}
    (hval : Value.okWide Try.prog W r b0 22 v) (h : DataW.Trod enc Try.prog W base sp held 22 v d p) :
    ∃ (a : Option Addr) (cap : Nat) (L : List ByteArray), v = .slice a L.length cap ∧ L.length ≤ maxLen ∧ Ss W a L ∧ L.length ≤ cap := by
  obtain ⟨a0, len, cap, rfl⟩ := okWide_slice Try.underlying22 hval
  obtain ⟨fuel, hf⟩ := h
  rcases open_slice1 Try.underlying22 (by kernel_rfl) hf with ⟨hcs, hx⟩ | ⟨a, len', cap', m, n, V, D, Pl, hcs, _, hl, hm, hmm, hx, hi⟩
  · simp [Value.cells] at hcs
    obtain ⟨rfl, rfl, rfl⟩ := hcs
    exact ⟨none, 0, [], rfl, Nat.zero_le _, fun i hi => absurd hi (by simp), Nat.le_refl _⟩
  · simp [Value.cells] at hcs
    obtain ⟨rfl, rfl, rfl⟩ := hcs
    have hlm : len ≤ m := by rw [hmm]; split <;> omega
    refine ⟨some a, cap, (List.range len).map fun i => strOf (V i), by simp, by simp; omega, fun i hi2 => ?_, by simp; omega⟩
    have hil : i < len := by simpa using hi2
    obtain ⟨g, off, spot⟩ := a
    obtain ⟨z0, _⟩ := hi 0 (by omega)
    have hspot : spot = none := by simpa [Addr.add] using World.cell?_spot z0
    subst hspot
    obtain ⟨k0, t0⟩ := hi i (by omega)
    obtain ⟨s0, e0, _, _⟩ := DataW.trod_string Try.underlying9 t0
    rw [add_plain] at k0
    simp at e0
    refine ⟨g, off, rfl, ?_⟩
    rw [k0, e0]; simp [strOf, e0]
end
section
open Go.RowKit
theorem joinL_le {B : Nat} : ∀ (ms : List (List UInt8)), (∀ m ∈ ms, m.length ≤ B) → (joinC ms).length ≤ (B + 2) * ms.length
  | [], _ => by simp [joinC]
  | [m], h => by have := h m (by simp); simp [joinC]; omega
  | m :: m2 :: ms, h => by
    have h1 := h m (by simp)
    have ih := joinL_le (m2 :: ms) (fun x hx => h x (by simp [hx]))
    show (m ++ [44, 32] ++ joinC (m2 :: ms)).length ≤ _
    simp only [List.length_append, List.length_cons, List.length_nil] at ih ⊢
    rw [Nat.mul_add, Nat.mul_add] at *
    omega
theorem map_data (ms : List (List UInt8)) : ((ms.map bs).map fun x => x.data.toList) = ms := by
  rw [List.map_map]
  exact List.map_id'' (fun x => bs_toList x) ms
theorem joinB_map (ms : List (List UInt8)) : joinB (ms.map bs) = bs (joinC ms) := by unfold joinB; rw [map_data]
theorem rSplit_len {s : ByteArray} {n : Nat} {w : World} (hs : s.size ≤ 65000) (h : Box ((splitL s.data.toList).length = n)) :
    Calls Try.prog 10 #[.string s] w fun e w' => (∃ a cap, e = .returned (.slice a n cap)) ∧ Below w.heap.size w w' :=
  (rSplit_any s w hs).mono fun e w' ⟨v, h1, h2, h3⟩ => by
    obtain ⟨a, cap, rfl, _, _⟩ := h2.ss
    unfold splitB at h1
    rw [List.length_map, h.out] at h1
    exact ⟨⟨a, cap, h1⟩, h3⟩
set_option maxHeartbeats 2000000 in
theorem back7_walk (s : ByteArray) (w : World) (S : s.size ≤ maxLen) :
    Calls Try.prog 5 #[.string s] w fun e w' => e = .returned (.bool true) ∧ Below w.heap.size w w' := by
  unfold maxLen at S
  by_cases h : 1000 < s.size
  · have hi : (1000 : Int) < (s.size : Int) := by omega
    go_enter Try.func5, Try.ntmps5
    go_wp2
    go_ret
    exact ⟨rfl, Below.refl _ _⟩
  · have hi : ¬ (1000 : Int) < (s.size : Int) := by omega
    have hs6 : s.size ≤ 65000 := by omega
    have hsl : s.data.toList.length = s.size := by simp
    obtain ⟨ms, hms⟩ : ∃ ms, splitL s.data.toList = ms := ⟨_, rfl⟩
    have HMS := box hms
    have HSB : Box (splitB s.data.toList = ms.map bs) := box (by unfold splitB; rw [hms])
    have hm64 : ms.length ≤ 64 := by rw [← hms]; exact split_len _
    have HSM : Box (∀ m ∈ ms, m.length ≤ 1000) := box (fun m hm => by rw [← hms] at hm; have := split_small hm; omega)
    clear hms hsl
    go_enter Try.func5, Try.ntmps5
    go_wp2_with fail
    refine (rSplit_is hs6 HSB).mono ?_; rintro e w1 ⟨a1, cap1, rfl, hS1, hc1, hb1⟩
    rw [List.length_map] at hc1 ⊢
    have S1 := box hS1
    have B1 := box hb1
    have hB1 := hb1.size
    clear hS1 hb1
    go_wp2
    go_loopw [4] (fun i wr => ∃ k : Nat, i = .int .i64 k ∧ k ≤ ms.length ∧ (∀ m ∈ ms.take k, (splitL (m ++ [44, 120])).length = 2) ∧ Below w1.heap.size w1 wr) (fun i _ => ms.length - (intOf i).toNat)
    case atStart => exact ⟨0, rfl, Nat.zero_le _, by simp, Below.refl _ _⟩
    case round =>
      obtain ⟨k, rfl, hk, hall, hbel⟩ := hrel
      have HA := box hall
      have BL := box hbel
      have hBw := hbel.size
      clear hall hbel
      by_cases hlt : k < ms.length
      · obtain ⟨q, off, rfl, c0⟩ := (S1.out.below BL.out) k (by rw [List.length_map]; exact hlt)
        rw [List.getElem_map] at c0
        have hmz := HSM.out ms[k] (List.getElem_mem hlt)
        have hbz : (bs ms[k]).size ≤ 1000 := by rw [bs_size]; exact hmz
        have r0 : ∀ w, (Op.stringOp .add (bs ms[k]) ⟨#[44, 120]⟩).run Try.prog w = .ok (.string (bs ms[k] ++ ⟨#[44, 120]⟩)) w := fun w => run_string_add_sum w _ _ (by show (bs ms[k]).size + 2 ≤ 9223372036854775807; omega)
        have hz2 : (bs ms[k] ++ (⟨#[44, 120]⟩ : ByteArray)).size ≤ 65000 := by rw [ByteArray.size_append]; show (bs ms[k]).size + 2 ≤ 65000; omega
        obtain ⟨n2, hn2⟩ : ∃ n, (splitL (ms[k] ++ [44, 120])).length = n := ⟨_, rfl⟩
        have HN : Box ((splitL (bs ms[k] ++ (⟨#[44, 120]⟩ : ByteArray)).data.toList).length = n2) := box (by rw [← hn2]; simp [ByteArray.data_append, bs])
        by_cases h2 : n2 = 2
        · have h2i : ((n2 : Int) != 2) = false := by rw [h2]; rfl
          have HA2 : Box (∀ m ∈ ms.take (k + 1), (splitL (m ++ [44, 120])).length = 2) := box (by
            intro m hm
            rw [List.take_add_one, List.getElem?_eq_getElem hlt] at hm
            rcases List.mem_append.mp hm with hm | hm
            · exact HA.out m hm
            · simp at hm; subst hm; rw [hn2, h2])
          clear h2 hn2 hbz hmz
          go_wp2_with fail
          refine (rSplit_len hz2 HN).mono ?_; rintro e w2 ⟨⟨a2, cap2, rfl⟩, hb2⟩
          have B2 := box (BL.out.trans (hb2.mono BL.out.size))
          clear hb2
          go_wp2
          go_roundw
          case rel => exact ⟨k + 1, by go_num, by omega, HA2.out, B2.out⟩
          case measure => simp [intOf]; omega
        · have h2i : ((n2 : Int) != 2) = true := by rw [bne_iff_ne]; omega
          clear h2 hn2 hbz hmz
          go_wp2_with fail
          refine (rSplit_len hz2 HN).mono ?_; rintro e w2 ⟨⟨a2, cap2, rfl⟩, hb2⟩
          have B2 := box (BL.out.trans (hb2.mono BL.out.size))
          clear hb2
          go_wp2
          go_ret
          exact ⟨rfl, B1.out.trans (B2.out.mono hB1)⟩
      · have hall : ∀ m ∈ ms, (splitL (m ++ [44, 120])).length = 2 := by
          have := HA.out
          rwa [List.take_of_length_le (by omega)] at this
        have HBK : Box (splitL (joinC ms) = ms) := box (by
          have := split_back (s := s.data.toList) (by rw [HMS.out]; exact hall)
          rwa [HMS.out] at this)
        have HSB2 : Box (splitB (joinB (ms.map bs)).data.toList = ms.map bs) := box (by rw [joinB_map, bs_toList]; unfold splitB; rw [HBK.out])
        have hjz : (joinB (ms.map bs)).size ≤ 65000 := by
          rw [joinB_map, bs_size]
          have := joinL_le ms HSM.out
          have h3 : (1000 + 2) * ms.length ≤ 1002 * 64 := Nat.mul_le_mul_left _ hm64
          omega
        have hl6 : Box ((ms.map bs).length ≤ 65536) := box (by rw [List.length_map]; omega)
        have hz6 : Box (∀ x ∈ ms.map bs, x.size ≤ 65536) := box (fun x hx => by
          obtain ⟨m, hm, rfl⟩ := List.mem_map.mp hx
          have := HSM.out m hm; rw [bs_size]; omega)
        have HLM : Box ((ms.map bs).length = ms.length) := box (by rw [List.length_map])
        obtain ⟨jx, hjx⟩ : ∃ jx, joinB (ms.map bs) = jx := ⟨_, rfl⟩
        have HJ := box hjx
        rw [hjx] at HSB2 hjz
        have S2 := box (S1.out.below BL.out)
        clear hall hjx
        go_wp2_with fail
        refine (mSplit_isC hs6 HSB).mono ?_; rintro e w2 ⟨a2, cap2, rfl, hS2, hcp2, hb2⟩
        have HCP2 := box hcp2
        clear hcp2
        rw [HLM.out]
        have T2 := box hS2
        have B2 := box (BL.out.trans (hb2.mono BL.out.size))
        have S3 := box (S2.out.below hb2)
        clear hS2 hb2
        go_wp2_with fail
        refine (mJoin_is HLM hl6 hz6 HCP2 T2.out HJ).mono ?_; rintro e w3 ⟨rfl, hb3⟩
        have B3 := box (B2.out.trans (hb3.mono B2.out.size))
        have S4 := box (S3.out.below hb3)
        clear hb3
        go_wp2_with fail
        refine (mSplit_is hjz HSB2).mono ?_; rintro e w4 ⟨a4, cap4, rfl, hS4, hb4⟩
        rw [HLM.out]
        have T4 := box hS4
        have B4 := box (B3.out.trans (hb4.mono B3.out.size))
        have S5 := box (S4.out.below hb4)
        clear hS4 hb4
        go_wp2_with fail
        refine (same_is (K := ms.map bs) (L := ms.map bs) (q := true) HLM HLM hl6 hl6 T4.out S5.out (box (by simp))).mono ?_; rintro e w5 ⟨rfl, hb5⟩
        have B5 := box (B4.out.trans (hb5.mono B4.out.size))
        clear hb5
        go_wp2_with fail
        refine (awake7_any _).mono ?_; rintro e w7 ⟨rfl, hb7⟩
        have B7 := box (B5.out.trans (hb7.mono B5.out.size))
        clear hb7
        go_wp2
        go_ret
        exact ⟨rfl, B1.out.trans (B7.out.mono hB1)⟩
end
section
open Go.RowKit
def otherN : ByteArray := ⟨#[111, 116, 104, 101, 114]⟩
theorem fs_three (a b c d e f : ByteArray) (w : World) (t : TypeId) : Fs (w.alloc (.cells #[.string a, .string b, .string c, .string d, .string e, .string f] t)) (some ⟨w.heap.size, 0, none⟩) [(a, b), (c, d), (e, f)] := by
  intro i hi
  refine ⟨w.heap.size, 0, rfl, ?_⟩
  rw [Nat.zero_add, World.cell?_alloc_mark, World.cell?_alloc_mark]
  match i, hi with
  | 0, _ => exact ⟨rfl, rfl⟩
  | 1, _ => exact ⟨rfl, rfl⟩
  | 2, _ => exact ⟨rfl, rfl⟩
theorem rLower_is {s x : ByteArray} {w : World} (hs : s.size ≤ 4294967296) (h : Box ((⟨(lowL s.data.toList).toArray⟩ : ByteArray) = x)) :
    Calls Try.prog 17 #[.string s] w fun e w' => e = .returned (.string x) ∧ Below w.heap.size w w' :=
  (rLower_any s w hs).mono fun e w' ⟨h1, h2⟩ => ⟨by rw [h1, h.out], h2⟩
theorem rFold_is7 {a b : ByteArray} {q : Bool} {w : World} (ha : a.size ≤ 4294967296) (hb : b.size ≤ 4294967296) (h : Box (foldL a.data.toList b.data.toList = q)) :
    Calls Try.prog 18 #[.string a, .string b] w fun e w' => e = .returned (.bool q) ∧ Below w.heap.size w w' :=
  (rFold_any a b w ha hb).mono fun e w' ⟨h1, h2⟩ => ⟨by rw [h1, h.out], h2⟩
theorem lines7_long (a b nm : ByteArray) (w : World) (S1 : a.size ≤ 9223372036854775807) (S2 : b.size ≤ 9223372036854775807) (S3 : nm.size ≤ 9223372036854775807) (h : 500 < a.size ∨ (¬ 500 < a.size ∧ 500 < b.size) ∨ (¬ 500 < a.size ∧ ¬ 500 < b.size ∧ 100 < nm.size)) :
    Calls Try.prog 6 #[.string a, .string b, .string nm] w fun e w' => e = .returned (.bool true) ∧ Below w.heap.size w w' := by
  rcases h with h | ⟨h1, h⟩ | ⟨h1, h2, h⟩
  · have i1 : (500 : Int) < (a.size : Int) := by omega
    go_enter Try.func6, Try.ntmps6
    go_wp2
    go_ret
    exact ⟨rfl, Below.refl _ _⟩
  · have i1 : ¬ (500 : Int) < (a.size : Int) := by omega
    have i2 : (500 : Int) < (b.size : Int) := by omega
    go_enter Try.func6, Try.ntmps6
    go_wp2
    go_ret
    exact ⟨rfl, Below.refl _ _⟩
  · have i1 : ¬ (500 : Int) < (a.size : Int) := by omega
    have i2 : ¬ (500 : Int) < (b.size : Int) := by omega
    have i3 : (100 : Int) < (nm.size : Int) := by omega
    go_enter Try.func6, Try.ntmps6
    go_wp2
    go_ret
    exact ⟨rfl, Below.refl _ _⟩
set_option maxHeartbeats 4000000 in
theorem lines7_in (a b nm : ByteArray) (w : World) (h1 : a.size ≤ 500) (h2 : b.size ≤ 500) (h3 : nm.size ≤ 100) (n1 n2 : Nat) (H1 : Box ((splitL (a.data.toList ++ [44, 120])).length = n1)) (H2 : Box ((splitL a.data.toList).length = n2)) (hn2 : n2 ≤ 64) (o : Bool) (HO : Box (foldL nm.data.toList otherN.data.toList = o)) :
    Calls Try.prog 6 #[.string a, .string b, .string nm] w fun e w' => e = .returned (.bool true) ∧ Below w.heap.size w w' := by
  have i1 : ¬ (500 : Int) < (a.size : Int) := by omega
  have i2 : ¬ (500 : Int) < (b.size : Int) := by omega
  have i3 : ¬ (100 : Int) < (nm.size : Int) := by omega
  have hz1 : (a ++ (⟨#[44, 120]⟩ : ByteArray)).size ≤ 65000 := by rw [ByteArray.size_append]; show a.size + 2 ≤ 65000; omega
  have ha6 : a.size ≤ 65000 := by omega
  have r0 : ∀ w, (Op.stringOp .add a ⟨#[44, 120]⟩).run Try.prog w = .ok (.string (a ++ ⟨#[44, 120]⟩)) w := fun w => run_string_add_sum w _ _ (by show a.size + 2 ≤ 9223372036854775807; omega)
  have HD1 : Box ((splitL (a ++ (⟨#[44, 120]⟩ : ByteArray)).data.toList).length = n1) := box (by rw [← H1.out]; simp [ByteArray.data_append])
  by_cases hne : n1 = n2 + 1
  · have hni : ((n1 : Int) != (n2 : Int) + 1) = false := by rw [hne]; simp
    have he := ends_open (a := a.data.toList) (by rw [H1.out, H2.out, hne])
    obtain ⟨lw, hlw⟩ : ∃ lw, (⟨(lowL nm.data.toList).toArray⟩ : ByteArray) = lw := ⟨_, rfl⟩
    have HLW := box hlw
    have hlwz : lw.size ≤ 100 := by
      rw [← hlw]; show (lowL nm.data.toList).toArray.size ≤ 100
      have : nm.data.toList.length = nm.size := by simp
      simp [lowL_length]; exact h3
    obtain ⟨K, hK⟩ : ∃ K, allB nm [(nm, a), (otherN, b), (lw, b)] = K := ⟨_, rfl⟩
    have HK := box hK
    have hkl : Box (K.length ≤ 65536) := box (by rw [← hK]; exact all_count _ _)
    have SM : Box (Sm [(nm, a), (otherN, b), (lw, b)]) := box ⟨by simp, fun i hi => by
      have ho : otherN.size ≤ 65536 := by decide
      match i, hi with
      | 0, _ => exact ⟨by show nm.size ≤ 65536; omega, by show a.size ≤ 65536; omega⟩
      | 1, _ => exact ⟨ho, by show b.size ≤ 65536; omega⟩
      | 2, _ => exact ⟨by show lw.size ≤ 65536; omega, by show b.size ≤ 65536; omega⟩⟩
    have HV : Box (∀ x ∈ getL nm [(nm, a), (otherN, b), (lw, b)], x.size ≤ 65000) := box (fun x hx => by
      unfold getL at hx
      obtain ⟨p, hp, rfl⟩ := List.mem_map.mp hx
      have hp2 := (List.mem_filter.mp hp).1
      simp only [List.mem_cons, List.not_mem_nil, or_false] at hp2
      rcases hp2 with rfl | rfl | rfl
      · show a.size ≤ 65000; omega
      · show b.size ≤ 65000; omega
      · show b.size ≤ 65000; omega)
    have M : Box (nm.size ≤ 65536) := box (by omega)
    have hn4 : nm.size ≤ 4294967296 := by omega
    have ho4 : otherN.size ≤ 4294967296 := by decide
    have e1 : (a ++ (⟨#[44]⟩ : ByteArray)).size ≤ 501 := by rw [ByteArray.size_append]; show a.size + 1 ≤ 501; omega
    have r1 : ∀ w, (Op.stringOp .add a ⟨#[44]⟩).run Try.prog w = .ok (.string (a ++ ⟨#[44]⟩)) w := fun w => run_string_add_sum w _ _ (by show a.size + 1 ≤ 9223372036854775807; omega)
    have r2 : ∀ w, (Op.stringOp .add (a ++ ⟨#[44]⟩) b).run Try.prog w = .ok (.string (a ++ ⟨#[44]⟩ ++ b)) w := fun w => run_string_add_sum w _ _ (by show (a ++ (⟨#[44]⟩ : ByteArray)).size + b.size ≤ 9223372036854775807; omega)
    have hzab : (a ++ (⟨#[44]⟩ : ByteArray) ++ b).size ≤ 65000 := by rw [ByteArray.size_append]; omega
    obtain ⟨Y, hY⟩ : ∃ Y, splitB (a ++ (⟨#[44]⟩ : ByteArray) ++ b).data.toList = Y := ⟨_, rfl⟩
    have HY := box hY
    have hyl : Box (Y.length ≤ 65536) := box (by rw [← hY]; exact split_count _)
    have HYK : Box (o = false → K = Y) := box (fun ho => by
      have := all_lines (nm := nm) (o := otherN) (a := a) (b := b) he (by rw [HO.out, ho])
      rw [hlw] at this
      rw [← hK, ← hY]; unfold allB splitB; rw [this]
      simp [ByteArray.data_append])
    clear hne he hlw hK hY e1 HD1
    have HD1 : Box ((splitL (a ++ (⟨#[44, 120]⟩ : ByteArray)).data.toList).length = n1) := box (by rw [← H1.out]; simp [ByteArray.data_append])
    go_enter Try.func6, Try.ntmps6
    go_wp2_with fail
    refine (rSplit_len hz1 HD1).mono ?_; rintro e w1 ⟨⟨a1, cap1, rfl⟩, hb1⟩
    have B1 := box hb1
    clear hb1
    go_wp2_with fail
    refine (rSplit_len ha6 H2).mono ?_; rintro e w2 ⟨⟨a2, cap2, rfl⟩, hb2⟩
    have B2 := box (B1.out.trans (hb2.mono B1.out.size))
    clear hb2
    go_wp2_with fail
    refine (rLower_is hn4 HLW).mono ?_; rintro e w3 ⟨rfl, hb3⟩
    have B3 := box (B2.out.trans (hb3.mono B2.out.size))
    clear hb3
    go_wp2_with fail
    refine (mAll_is (L := [(nm, a), (otherN, b), (lw, b)]) SM HV M (fs_three _ _ _ _ _ _ _ _) HK).mono ?_; rintro e w4 ⟨a4, cap4, rfl, hS4, hb4⟩
    have S4 := box hS4
    have B4 := box ((B3.out.alloc B3.out.size _).trans (hb4.mono (B3.out.alloc B3.out.size _).size))
    clear hS4 hb4
    go_wp2_with fail
    refine (mSplit_is hzab HY).mono ?_; rintro e w5 ⟨a5, cap5, rfl, hS5, hb5⟩
    have S5 := box hS5
    have T5 := box (S4.out.below hb5)
    have B5 := box (B4.out.trans (hb5.mono B4.out.size))
    clear hS5 hb5
    go_wp2_with fail
    refine (rFold_is7 (b := otherN) hn4 ho4 HO).mono ?_; rintro e w6 ⟨rfl, hb6⟩
    have S6 := box (S5.out.below hb6)
    have T6 := box (T5.out.below hb6)
    have B6 := box (B5.out.trans (hb6.mono B5.out.size))
    clear hb6
    rcases o with _ | _
    · go_wp2_with fail
      refine (same_is (K := K) (L := Y) (q := true) (box rfl) (box rfl) hkl hyl T6.out S6.out (box (by rw [HYK.out (by trivial)]; simp))).mono ?_; rintro e w7 ⟨rfl, hb7⟩
      have B7 := box (B6.out.trans (hb7.mono B6.out.size))
      clear hb7
      go_wp2_with fail
      refine (awake7_any _).mono ?_; rintro e w8 ⟨rfl, hb8⟩
      have B8 := box (B7.out.trans (hb8.mono B7.out.size))
      clear hb8
      go_wp2
      go_ret
      exact ⟨rfl, B8.out⟩
    · go_wp2
      go_ret
      exact ⟨rfl, B6.out⟩
  · have hni : ((n1 : Int) != (n2 : Int) + 1) = true := by rw [bne_iff_ne]; omega
    clear hne
    go_enter Try.func6, Try.ntmps6
    go_wp2_with fail
    refine (rSplit_len hz1 HD1).mono ?_; rintro e w1 ⟨⟨a1, cap1, rfl⟩, hb1⟩
    have B1 := box hb1
    clear hb1
    go_wp2_with fail
    refine (rSplit_len ha6 H2).mono ?_; rintro e w2 ⟨⟨a2, cap2, rfl⟩, hb2⟩
    have B2 := box (B1.out.trans (hb2.mono B1.out.size))
    clear hb2
    go_wp2
    go_ret
    exact ⟨rfl, B2.out⟩
theorem lines7_walk (a b nm : ByteArray) (w : World) (S1 : a.size ≤ maxLen) (S2 : b.size ≤ maxLen) (S3 : nm.size ≤ maxLen) :
    Calls Try.prog 6 #[.string a, .string b, .string nm] w fun e w' => e = .returned (.bool true) ∧ Below w.heap.size w w' := by
  by_cases h1 : 500 < a.size
  · exact lines7_long a b nm w S1 S2 S3 (.inl h1)
  · by_cases h2 : 500 < b.size
    · exact lines7_long a b nm w S1 S2 S3 (.inr (.inl ⟨h1, h2⟩))
    · by_cases h3 : 100 < nm.size
      · exact lines7_long a b nm w S1 S2 S3 (.inr (.inr ⟨h1, h2, h3⟩))
      · exact lines7_in a b nm w (by omega) (by omega) (by omega) _ _ (box rfl) (box rfl) (split_len _) _ (box rfl)
end
end Go.Proofs.Ytlbfadhhejnllaa.Asc
