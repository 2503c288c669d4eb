/- Merged texts: LisKeep LstSame LisLaws LstOpen LisOpen LisLaws2 LisLaws3 ParSpec. -/
import Derived.Test.YtfpeaakdjihajaaM01
import Derived.Test.YtfpeaakdjihajaaM02
import Derived.Test.YtfpeaakdjihajaaM03
import Derived.Test.YtfpeaakdjihajaaM04
import Derived.Test.YtfpeaakdjihajaaM05
import Derived.Carry
import Derived.Deep.SlicePairs
import Derived.Deep.Slices
import Derived.ProofKit
set_option linter.unusedVariables false
set_option linter.unusedSimpArgs false
set_option maxRecDepth 100000
namespace Go.Proofs.Ytfpeaakdjihajaa.Asc
section
open Go.RowKit
def okS (x : ByteArray) : Bool := decide (x.size ≤ 100)
def keepS (L : List ByteArray) : Bool := decide (L.length ≤ 20) && L.all okS
theorem keepS_bad {L : List ByteArray} {k : Nat} (h : k < L.length) (e : ¬ L[k].size ≤ 100) : keepS L = false := by
  unfold keepS
  have : L.all okS = false := by
    rw [List.all_eq_false]
    exact ⟨L[k], List.getElem_mem h, by unfold okS; simpa using e⟩
  rw [this, Bool.and_false]
theorem keepS_long {L : List ByteArray} (h : ¬ L.length ≤ 20) : keepS L = false := by unfold keepS; rw [decide_eq_false h, Bool.false_and]
theorem keepS_more {L : List ByteArray} {k : Nat} (h : k < L.length) (ha : (L.take k).all okS = true) (e : L[k].size ≤ 100) : (L.take (k + 1)).all okS = true := by
  rw [List.take_add_one, List.getElem?_eq_getElem h, List.all_append, ha]
  simp [okS, e]
theorem keepS_end {L : List ByteArray} (ha : (L.take L.length).all okS = true) (h : L.length ≤ 20) : keepS L = true := by
  rw [List.take_length] at ha
  unfold keepS; rw [ha, decide_eq_true h]; rfl
theorem keepS_small {L : List ByteArray} (h : keepS L = true) : L.length ≤ 20 ∧ ∀ x ∈ L, x.size ≤ 100 := by
  unfold keepS at h
  rw [Bool.and_eq_true, decide_eq_true_eq, List.all_eq_true] at h
  exact ⟨h.1, fun x hx => by have := h.2 x hx; unfold okS at this; simpa using this⟩
theorem keepStrings_any (a : Option Addr) (cap : Nat) (L : List ByteArray) (w : World) (hl : L.length ≤ maxLen) (hF : Box (Ss w a L)) :
    Calls Try.prog 11 #[.slice a L.length cap] w fun e w' => e = .returned (.bool (keepS L)) ∧ w = w' := by
  unfold maxLen at hl
  go_enter Try.func11, Try.ntmps11
  go_wp2
  go_loop [3] (fun i => ∃ k : Nat, k ≤ L.length ∧ k ≤ 21 ∧ i = .int .i64 k ∧ (L.take k).all okS = true) (fun i => 21 - (intOf i).toNat)
  case atStart => exact ⟨0, Nat.zero_le _, Nat.zero_le _, rfl, rfl⟩
  case round =>
    obtain ⟨k, hk, hk71, rfl, hall⟩ := hrel
    have HA := box hall
    clear hall
    by_cases hlt : k < L.length
    · by_cases h71 : k < 21
      · obtain ⟨g, off, rfl, c0⟩ := hF.out k hlt
        by_cases e1 : L[k].size ≤ 100
        · have ei : ¬ (100 : Int) < (L[k].size : Int) := by omega
          have HN := box (keepS_more hlt HA.out e1)
          clear e1
          go_wp2
          go_round
          case rel => exact ⟨k + 1, by omega, by omega, by go_num, HN.out⟩
          case measure => simp [intOf]; omega
        · have ei : (100 : Int) < (L[k].size : Int) := by omega
          have HN := box (keepS_bad hlt e1)
          clear e1
          go_wp2
          go_ret
          exact ⟨ret_bool HN.out.symm, rfl⟩
      · go_wp2
        go_ret
        exact ⟨ret_bool (by rw [keepS_long (by omega)]; simp; omega), rfl⟩
    · have e : k = L.length := by omega
      have E := box e
      clear e
      by_cases h70 : L.length ≤ 20
      · go_wp2
        go_ret
        refine ⟨ret_bool ?_, rfl⟩
        have ha := HA.out
        rw [E.out] at ha
        rw [keepS_end ha h70]
        simp; omega
      · go_wp2
        go_ret
        exact ⟨ret_bool (by rw [keepS_long h70]; simp; omega), rfl⟩
end
section
open Go.RowKit
theorem str_eq {a b : ByteArray} (h : (a.toList == b.toList) = true) : a = b := by
  rw [toList_data, toList_data] at h
  rw [bs_of a, bs_of b, eq_of_beq h]
theorem take_same {α : Type} {K L : List α} {k : Nat} (hK : k < K.length) (hL : k < L.length) (h : K.take k = L.take k) (e : K[k] = L[k]) : K.take (k + 1) = L.take (k + 1) := by
  rw [take_next hK, take_next hL, h, e]
theorem not_same {α : Type} {K L : List α} {k : Nat} (hK : k < K.length) (hL : k < L.length) (e : K[k] ≠ L[k]) : K ≠ L := by
  intro h; subst h; exact e rfl
set_option maxHeartbeats 800000 in
theorem SameS_any (a b : Option Addr) (ca cb : Nat) (K L : List ByteArray) (w : World) (hk : K.length ≤ 65536) (hl : L.length ≤ 65536) (hK : Box (Ss w a K)) (hL : Box (Ss w b L)) :
    Calls Try.prog 35 #[.slice a K.length ca, .slice b L.length cb] w fun e w' => e = .returned (.bool (decide (K = L))) ∧ Below w.heap.size w w' := by
  by_cases hn : K.length = L.length
  · have HN := box hn
    have hne : ((K.length : Int) != (L.length : Int)) = false := by simp [hn]
    clear hn
    go_enter Try.func35, Try.ntmps35
    go_wp2
    go_loopw [5] (fun i wr => ∃ k : Nat, k ≤ K.length ∧ i = .int .i64 k ∧ K.take k = L.take k ∧ Below w.heap.size w wr) (fun i _ => K.length - (intOf i).toNat)
    case atStart => exact ⟨0, Nat.zero_le _, rfl, rfl, Below.refl _ _⟩
    case round =>
      obtain ⟨k, hk2, rfl, hall, hbel⟩ := hrel
      have HA := box hall
      clear hall
      by_cases hlt : k < K.length
      · have hlt2 : k < L.length := by rw [← HN.out]; exact hlt
        obtain ⟨q, off, rfl, c0⟩ := (hK.out.below hbel) k hlt
        obtain ⟨r, off2, rfl, d0⟩ := (hL.out.below hbel) k hlt2
        go_wp2
        go_quiet (fail)
        go_wp2
        · have h : (!K[k].toList == L[k].toList) = true := by assumption
          go_ret
          have hne2 : K[k] ≠ L[k] := fun e => by rw [e] at h; simp at h
          exact ⟨ret_bool (decide_eq_false (not_same hlt hlt2 hne2)).symm, hbel.trans ((below_drewN _ _).mono hbel.size)⟩
        · have h : (!K[k].toList == L[k].toList) = false := by assumption
          have e : K[k] = L[k] := str_eq (by simpa using h)
          have E := box e
          clear e h
          go_roundw
          case rel => exact ⟨k + 1, by omega, by go_num, take_same hlt hlt2 HA.out E.out, hbel.trans ((below_drewN _ _).mono hbel.size)⟩
          case measure => simp [intOf]; omega
      · have e : k = K.length := by omega
        have E : Box (K = L) := box (by
          have h := HA.out
          subst e
          rw [List.take_length, HN.out, List.take_length] at h
          exact h)
        clear e
        go_wp2
        go_ret
        exact ⟨ret_bool (decide_eq_true E.out).symm, hbel⟩
  · have hne : ((K.length : Int) != (L.length : Int)) = true := by simp; omega
    have HN := box hn
    clear hn
    go_enter Try.func35, Try.ntmps35
    go_wp2
    go_ret
    exact ⟨ret_bool (decide_eq_false (fun e => HN.out (by rw [e]))).symm, Below.refl _ _⟩
theorem kSameS_any (a b : Option Addr) (ca cb : Nat) (K L : List ByteArray) (w : World) (hk : K.length ≤ 65536) (hl : L.length ≤ 65536) (hK : Box (Ss w a K)) (hL : Box (Ss w b L)) :
    Calls Try.prog 12 #[.slice a K.length ca, .slice b L.length cb] w fun e w' => e = .returned (.bool (decide (K = L))) ∧ Below w.heap.size w w' := by
  go_enter Try.func12, Try.ntmps12
  go_wp2_with fail
  refine (SameS_any a b ca cb K L _ hk hl hK hL).mono ?_; rintro e w1 ⟨rfl, hb⟩
  go_wp2
  go_ret
  exact ⟨rfl, hb⟩
theorem fld_eq {p q : F} (h1 : (p.1.toList == q.1.toList) = true) (h2 : (p.2.toList == q.2.toList) = true) : p = q := by
  obtain ⟨a, b⟩ := p
  obtain ⟨c, d⟩ := q
  rw [show a = c from str_eq h1, show b = d from str_eq h2]
end
section
open Go.RowKit
theorem mSplit_is {s : ByteArray} {K : List ByteArray} {w : World} (hs : s.size ≤ 65000) (h : Box (splitB s.data.toList = K)) :
    Calls Try.prog 13 #[.string s] w fun e w' => ∃ a cap, e = .returned (.slice a K.length cap) ∧ Ss w' a K ∧ Below w.heap.size w w' :=
  (mSplit_any s w hs).mono fun e w' ⟨v, h1, h2, h3⟩ => by
    rw [h.out] at h2
    obtain ⟨a, cap, rfl, hS, _⟩ := h2.ss
    exact ⟨a, cap, h1, hS, h3⟩
theorem mSplit_isC {s : ByteArray} {K : List ByteArray} {w : World} (hs : s.size ≤ 65000) (h : Box (splitB s.data.toList = K)) :
    Calls Try.prog 13 #[.string s] w fun e w' => ∃ a cap, e = .returned (.slice a K.length cap) ∧ Ss w' a K ∧ K.length ≤ cap ∧ Below w.heap.size w w' :=
  (mSplit_any s w hs).mono fun e w' ⟨v, h1, h2, h3⟩ => by
    rw [h.out] at h2
    obtain ⟨a, cap, rfl, hS, hc⟩ := h2.ss
    exact ⟨a, cap, h1, hS, hc, h3⟩
theorem rSplit_is {s : ByteArray} {K : List ByteArray} {w : World} (hs : s.size ≤ 65000) (h : Box (splitB s.data.toList = K)) :
    Calls Try.prog 14 #[.string s] w fun e w' => ∃ a cap, e = .returned (.slice a K.length cap) ∧ Ss w' a K ∧ K.length ≤ cap ∧ Below w.heap.size w w' :=
  (rSplit_any s w hs).mono fun e w' ⟨v, h1, h2, h3⟩ => by
    rw [h.out] at h2
    obtain ⟨a, cap, rfl, hS, hc⟩ := h2.ss
    exact ⟨a, cap, h1, hS, hc, h3⟩
theorem mJoin_is {a : Option Addr} {n cap : Nat} {L : List ByteArray} {x : ByteArray} {w : World} (hn : Box (L.length = n)) (hl : Box (L.length ≤ 65536)) (hz : Box (∀ x ∈ L, x.size ≤ 65536)) (hcp : Box (L.length ≤ cap)) (hF : Ss w a L) (h : Box (joinB L = x)) :
    Calls Try.prog 15 #[.slice a n cap] w fun e w' => e = .returned (.string x) ∧ Below w.heap.size w w' := by
  have := (mJoin_any a cap L w hl.out hcp.out hz (box hF))
  rw [hn.out, h.out] at this; exact this
theorem rJoin_is7 {a : Option Addr} {n cap : Nat} {L : List ByteArray} {x : ByteArray} {w : World} (hn : Box (L.length = n)) (hl : Box (L.length ≤ 65536)) (hz : Box (∀ x ∈ L, x.size ≤ 65536)) (hF : Ss w a L) (h : Box (joinB L = x)) :
    Calls Try.prog 16 #[.slice a n cap] w fun e w' => e = .returned (.string x) ∧ w = w' := by
  have := (rJoin7_any a cap L w hl.out hz (box hF))
  rw [hn.out, h.out] at this; exact this
theorem same_is {a b : Option Addr} {n m ca cb : Nat} {K L : List ByteArray} {q : Bool} {w : World} (hn : Box (K.length = n)) (hm : Box (L.length = m)) (hk : Box (K.length ≤ 65536)) (hl : Box (L.length ≤ 65536)) (hK : Ss w a K) (hL : Ss w b L) (h : Box (decide (K = L) = q)) :
    Calls Try.prog 12 #[.slice a n ca, .slice b m cb] w fun e w' => e = .returned (.bool q) ∧ Below w.heap.size w w' := by
  have := kSameS_any a b ca cb K L w hk.out hl.out (box hK) (box hL)
  rw [hn.out, hm.out, h.out] at this; exact this
theorem split_count (l : List UInt8) : (splitB l).length ≤ 65536 := by unfold splitB; rw [List.length_map]; have := split_len l; omega
theorem ss_three (a b c : ByteArray) (w : World) (t : TypeId) : Ss (w.alloc (.cells #[.string a, .string b, .string c] t)) (some ⟨w.heap.size, 0, none⟩) [a, b, c] := by
  intro i hi
  refine ⟨w.heap.size, 0, rfl, ?_⟩
  rw [Nat.zero_add, World.cell?_alloc_mark]
  match i, hi with
  | 0, _ => rfl
  | 1, _ => rfl
  | 2, _ => rfl
def aw7 : ByteArray := ⟨#[97, 44, 32, 34, 98, 44, 99, 34, 32, 44, 44, 100]⟩
def aw7L : List ByteArray := [⟨#[97]⟩, ⟨#[34, 98, 44, 99, 34]⟩, ⟨#[100]⟩]
theorem aw7_is : splitB aw7.data.toList = aw7L := by decide +kernel
theorem awake7_any (w : World) : Calls Try.prog 17 #[] w fun e w' => e = .returned (.bool true) ∧ Below w.heap.size w w' := by
  have HS := box aw7_is
  have HD : Box (decide (aw7L = aw7L) = true) := box (by simp)
  have hz : aw7.size ≤ 65000 := by decide
  go_enter Try.func17, Try.ntmps17
  go_wp2_with fail
  refine (mSplit_is (s := aw7) hz HS).mono ?_; rintro e w1 ⟨a1, cap1, rfl, hS1, hb1⟩
  have S1 := box hS1
  have B1 := box hb1
  clear hS1 hb1
  go_wp2_with fail
  refine (same_is (K := aw7L) (L := aw7L) (box rfl) (box rfl) (box (by decide)) (box (by decide)) (S1.out.below (below_new _ _)) (ss_three _ _ _ _ _) HD).mono ?_; rintro e w2 ⟨rfl, hb2⟩
  have B2 := box ((B1.out.alloc B1.out.size _).trans (hb2.mono (B1.out.alloc B1.out.size _).size))
  clear hb2
  go_wp2
  go_ret
  exact ⟨rfl, B2.out⟩
set_option maxHeartbeats 1000000 in
theorem splits7_walk (s : ByteArray) (a : Option Addr) (cap : Nat) (L : List ByteArray) (w : World) (S : s.size ≤ maxLen) (hl : L.length ≤ maxLen) (hF : Ss w a L) (hc : L.length ≤ cap) :
    Calls Try.prog 3 #[.string s, .slice a L.length cap] w fun e w' => e = .returned (.bool true) ∧ Below w.heap.size w w' := by
  have F0 := box hF
  have HL := box hl
  unfold maxLen at S hl
  clear hF
  by_cases h : 3000 < s.size
  · have hi : (3000 : Int) < (s.size : Int) := by omega
    go_enter Try.func3, Try.ntmps3
    go_wp2
    go_ret
    exact ⟨rfl, Below.refl _ _⟩
  · have hi : ¬ (3000 : Int) < (s.size : Int) := by omega
    rcases hk : keepS L with _ | _
    · have HK := box hk
      clear hk
      go_enter Try.func3, Try.ntmps3
      go_wp2_with fail
      refine (keepStrings_any a cap L _ HL.out F0).mono ?_; rintro e w1 ⟨rfl, rfl⟩; rw [HK.out]
      go_wp2
      go_ret
      exact ⟨rfl, Below.refl _ _⟩
    · have HK := box hk
      obtain ⟨hl20, hsm⟩ := keepS_small hk
      have hl6 : Box (L.length ≤ 65536) := box (by omega)
      have hz6 : Box (∀ x ∈ L, x.size ≤ 65536) := box (fun x hx => by have := hsm x hx; omega)
      obtain ⟨K, hK⟩ : ∃ K, splitB s.data.toList = K := ⟨_, rfl⟩
      have HKK := box hK
      have hkl : Box (K.length ≤ 65536) := box (by rw [← hK]; exact split_count _)
      obtain ⟨x, hx⟩ : ∃ x, joinB L = x := ⟨_, rfl⟩
      have HX := box hx
      have hs6 : s.size ≤ 65000 := by omega
      clear hk hK hx hsm
      go_enter Try.func3, Try.ntmps3
      go_wp2_with fail
      refine (keepStrings_any a cap L _ HL.out F0).mono ?_; rintro e w1 ⟨rfl, rfl⟩; rw [HK.out]
      go_wp2_with fail
      refine (mSplit_is hs6 HKK).mono ?_; rintro e w2 ⟨a2, cap2, rfl, hS2, hb2⟩
      have S2 := box hS2
      have B2 := box hb2
      have F2 := box (F0.out.below hb2)
      clear hS2 hb2
      go_wp2_with fail
      refine (rSplit_is hs6 HKK).mono ?_; rintro e w3 ⟨a3, cap3, rfl, hS3, _, hb3⟩
      have S3 := box hS3
      have T3 := box (S2.out.below hb3)
      have B3 := box (B2.out.trans (hb3.mono B2.out.size))
      have F3 := box (F2.out.below hb3)
      clear hS3 hb3
      go_wp2_with fail
      refine (same_is (K := K) (L := K) (q := true) (box rfl) (box rfl) hkl hkl T3.out S3.out (box (by simp))).mono ?_; rintro e w4 ⟨rfl, hb4⟩
      have B4 := box (B3.out.trans (hb4.mono B3.out.size))
      have F4 := box (F3.out.below hb4)
      clear hb4
      go_wp2_with fail
      refine (mJoin_is (L := L) (box rfl) hl6 hz6 (box hc) F4.out HX).mono ?_; rintro e w5 ⟨rfl, hb5⟩
      have B5 := box (B4.out.trans (hb5.mono B4.out.size))
      have F5 := box (F4.out.below hb5)
      clear hb5
      go_wp2_with fail
      refine (rJoin_is7 (L := L) (box rfl) hl6 hz6 F5.out HX).mono ?_; rintro e w6 ⟨rfl, rfl⟩
      go_wp2_with fail
      refine (awake7_any _).mono ?_; rintro e w7 ⟨rfl, hb7⟩
      have B7 := box (B5.out.trans (hb7.mono B5.out.size))
      clear hb7
      go_wp2
      go_ret
      exact ⟨rfl, B7.out⟩
theorem mAll_is {a : Option Addr} {cap : Nat} {L : List F} {nm : ByteArray} {K : List ByteArray} {w : World} (S : Box (Sm L)) (hv : Box (∀ x ∈ getL nm L, x.size ≤ 65000)) (M : Box (nm.size ≤ 65536)) (hF : Fs w a L) (h : Box (allB nm L = K)) :
    Calls Try.prog 19 #[.slice a L.length cap, .string nm] w fun e w' => ∃ a2 cap2, e = .returned (.slice a2 K.length cap2) ∧ Ss w' a2 K ∧ Below w.heap.size w w' :=
  (mAll_any a cap L nm w S hv M (box hF)).mono fun e w' ⟨v, h1, h2, h3⟩ => by
    rw [h.out] at h2
    obtain ⟨a2, cap2, rfl, hS, _⟩ := h2.ss
    exact ⟨a2, cap2, h1, hS, h3⟩
theorem rAll_is {a : Option Addr} {cap : Nat} {L : List F} {nm : ByteArray} {K : List ByteArray} {w : World} (S : Box (Sm L)) (hv : Box (∀ x ∈ getL nm L, x.size ≤ 65000)) (M : Box (nm.size ≤ 65536)) (hF : Fs w a L) (h : Box (allB nm L = K)) :
    Calls Try.prog 20 #[.slice a L.length cap, .string nm] w fun e w' => ∃ a2 cap2, e = .returned (.slice a2 K.length cap2) ∧ Ss w' a2 K ∧ Below w.heap.size w w' :=
  (rAll_any a cap L nm w S hv M (box hF)).mono fun e w' ⟨v, h1, h2, h3⟩ => by
    rw [h.out] at h2
    obtain ⟨a2, cap2, rfl, hS, _⟩ := h2.ss
    exact ⟨a2, cap2, h1, hS, h3⟩
theorem all_count (nm : ByteArray) (L : List F) : (allB nm L).length ≤ 65536 := by unfold allB allL; rw [List.length_map, List.length_take]; omega
theorem keep_get {L : List F} (h : keepF L = true) (nm : ByteArray) : ∀ x ∈ getL nm L, x.size ≤ 65000 := by
  intro x hx
  obtain ⟨_, h2⟩ := keep_parts h
  unfold getL at hx
  obtain ⟨p, hp, rfl⟩ := List.mem_map.mp hx
  obtain ⟨i, hi, e⟩ := List.getElem_of_mem (List.mem_filter.mp hp).1
  rw [← e]; have := (h2 i hi).2; omega
theorem keep_sm7 {L : List F} (h : keepF L = true) : Sm L := by
  obtain ⟨h1, h2⟩ := keep_parts h
  exact ⟨by omega, fun i hi => by have := h2 i hi; omega⟩
set_option maxHeartbeats 1000000 in
theorem all7_walk (a : Option Addr) (cap : Nat) (L : List F) (nm : ByteArray) (w : World) (hl : L.length ≤ maxLen) (hF : Fs w a L) (hc : L.length ≤ cap) (S : nm.size ≤ maxLen) :
    Calls Try.prog 4 #[.slice a L.length cap, .string nm] w fun e w' => e = .returned (.bool true) ∧ Below w.heap.size w w' := by
  have F0 := box hF
  have HL := hl
  unfold maxLen at S
  clear hF hl
  rcases hk : keepF L with _ | _
  · have HK := box hk
    clear hk
    go_enter Try.func4, Try.ntmps4
    go_wp2_with fail
    refine (keepFields_any a cap L _ HL F0).mono ?_; rintro e w1 ⟨rfl, rfl⟩; rw [HK.out]
    go_wp2
    go_ret
    exact ⟨rfl, Below.refl _ _⟩
  · have HK := box hk
    by_cases hn : 300 < nm.size
    · have hni : (300 : Int) < (nm.size : Int) := by omega
      clear hk
      go_enter Try.func4, Try.ntmps4
      go_wp2_with fail
      refine (keepFields_any a cap L _ HL F0).mono ?_; rintro e w1 ⟨rfl, rfl⟩; rw [HK.out]
      go_wp2
      go_ret
      exact ⟨rfl, Below.refl _ _⟩
    · have hni : ¬ (300 : Int) < (nm.size : Int) := by omega
      have SM := box (keep_sm7 hk)
      have HV := box (keep_get hk nm)
      have M : Box (nm.size ≤ 65536) := box (by omega)
      obtain ⟨K, hK⟩ : ∃ K, allB nm L = K := ⟨_, rfl⟩
      have HKK := box hK
      have hkl : Box (K.length ≤ 65536) := box (by rw [← hK]; exact all_count _ _)
      clear hk hK
      go_enter Try.func4, Try.ntmps4
      go_wp2_with fail
      refine (keepFields_any a cap L _ HL F0).mono ?_; rintro e w1 ⟨rfl, rfl⟩; rw [HK.out]
      go_wp2_with fail
      refine (mAll_is SM HV M F0.out HKK).mono ?_; rintro e w2 ⟨a2, cap2, rfl, hS2, hb2⟩
      have S2 := box hS2
      have B2 := box hb2
      have F2 := box (F0.out.below hb2)
      clear hS2 hb2
      go_wp2_with fail
      refine (rAll_is SM HV M F2.out HKK).mono ?_; rintro e w3 ⟨a3, cap3, rfl, hS3, hb3⟩
      have S3 := box hS3
      have T3 := box (S2.out.below hb3)
      have B3 := box (B2.out.trans (hb3.mono B2.out.size))
      clear hS3 hb3
      go_wp2_with fail
      refine (same_is (K := K) (L := K) (q := true) (box rfl) (box rfl) hkl hkl T3.out S3.out (box (by simp))).mono ?_; rintro e w4 ⟨rfl, hb4⟩
      have B4 := box (B3.out.trans (hb4.mono B3.out.size))
      clear hb4
      go_wp2_with fail
      refine (awake7_any _).mono ?_; rintro e w7 ⟨rfl, hb7⟩
      have B7 := box (B4.out.trans (hb7.mono B4.out.size))
      clear hb7
      go_wp2
      go_ret
      exact ⟨rfl, B7.out⟩
end
section
open Go.RowKit Go.ChangeShapes Go.WideShapes Go.Deep
def strOf : Value → ByteArray
  | .string s => s
  | _ => ByteArray.empty
theorem laid : laidOutB Try.prog = true := by kernel_rfl
theorem open_fields {H : Type} {enc : TypeId × Value → H} {W : World} {base : Nat} {sp : Nat → Bool} {held : Bool} {r : Reach} {b0 : Nat} {v : Value} {d : DataW H} {p : List MemPlace}
    (hval : Value.okWide Try.prog W r b0 29 v) (h : DataW.Trod enc Try.prog W base sp held 29 v d p) :
    ∃ (a : Option Addr) (cap : Nat) (L : List F), v = .slice a L.length cap ∧ L.length ≤ maxLen ∧ Fs W a L ∧ L.length ≤ cap := by
  obtain ⟨a0, len, cap, rfl⟩ := okWide_slice Try.underlying29 hval
  obtain ⟨fuel, hf⟩ := h
  rcases open_slice_pairs Try.underlying29 Try.underlying35 (by kernel_rfl) rfl rfl (by kernel_rfl) (by kernel_rfl) hf with ⟨hcs, hx⟩ | ⟨a, len', cap', m, n, V0, V1, D0, D1, P0, P1, hcs, _, hl, hm, hmm, hx, hi⟩
  · simp [Value.cells] at hcs
    obtain ⟨rfl, rfl, rfl⟩ := hcs
    exact ⟨none, 0, [], rfl, Nat.zero_le _, fun i hi => absurd hi (by simp), Nat.le_refl _⟩
  · simp [Value.cells] at hcs
    obtain ⟨rfl, rfl, rfl⟩ := hcs
    have hlm : len ≤ m := by rw [hmm]; split <;> omega
    refine ⟨some a, cap, (List.range len).map fun i => (strOf (V0 i), strOf (V1 i)), by simp, by simp; omega, fun i hi2 => ?_, by simp; omega⟩
    have hil : i < len := by simpa using hi2
    obtain ⟨g, off, spot⟩ := a
    obtain ⟨z0, _, _, _⟩ := hi 0 (by omega)
    have hspot : spot = none := by simpa [Addr.add] using World.cell?_spot z0
    subst hspot
    obtain ⟨k0, k1, t0, t1⟩ := hi i (by omega)
    obtain ⟨s0, e0, _, _⟩ := DataW.trod_string Try.underlying9 t0
    obtain ⟨s1, e1, _, _⟩ := DataW.trod_string Try.underlying9 t1
    rw [add_plain] at k0 k1
    simp at e0 e1
    refine ⟨g, off, rfl, ?_, ?_⟩
    · rw [k0, e0]; simp [strOf, e0]
    · rw [← Nat.add_assoc] at k1
      rw [k1, e1]; simp [strOf, e1]
end
section
open Go.RowKit Go.ChangeShapes Go.WideShapes Go.Deep
theorem open_strings {H : Type} {enc : TypeId × Value → H} {W : World} {base : Nat} {sp : Nat → Bool} {held : Bool} {r : Reach} {b0 : Nat} {v : Value} {d : DataW H} {p : List MemPlace}
    (hval : Value.okWide Try.prog W r b0 22 v) (h : DataW.Trod enc Try.prog W base sp held 22 v d p) :
    ∃ (a : Option Addr) (cap : Nat) (L : List ByteArray), v = .slice a L.length cap ∧ L.length ≤ maxLen ∧ Ss W a L ∧ L.length ≤ cap := by
  obtain ⟨a0, len, cap, rfl⟩ := okWide_slice Try.underlying22 hval
  obtain ⟨fuel, hf⟩ := h
  rcases open_slice1 Try.underlying22 (by kernel_rfl) hf with ⟨hcs, hx⟩ | ⟨a, len', cap', m, n, V, D, Pl, hcs, _, hl, hm, hmm, hx, hi⟩
  · simp [Value.cells] at hcs
    obtain ⟨rfl, rfl, rfl⟩ := hcs
    exact ⟨none, 0, [], rfl, Nat.zero_le _, fun i hi => absurd hi (by simp), Nat.le_refl _⟩
  · simp [Value.cells] at hcs
    obtain ⟨rfl, rfl, rfl⟩ := hcs
    have hlm : len ≤ m := by rw [hmm]; split <;> omega
    refine ⟨some a, cap, (List.range len).map fun i => strOf (V i), by simp, by simp; omega, fun i hi2 => ?_, by simp; omega⟩
    have hil : i < len := by simpa using hi2
    obtain ⟨g, off, spot⟩ := a
    obtain ⟨z0, _⟩ := hi 0 (by omega)
    have hspot : spot = none := by simpa [Addr.add] using World.cell?_spot z0
    subst hspot
    obtain ⟨k0, t0⟩ := hi i (by omega)
    obtain ⟨s0, e0, _, _⟩ := DataW.trod_string Try.underlying9 t0
    rw [add_plain] at k0
    simp at e0
    refine ⟨g, off, rfl, ?_⟩
    rw [k0, e0]; simp [strOf, e0]
end
section
open Go.RowKit
theorem joinL_le {B : Nat} : ∀ (ms : List (List UInt8)), (∀ m ∈ ms, m.length ≤ B) → (joinC ms).length ≤ (B + 2) * ms.length
  | [], _ => by simp [joinC]
  | [m], h => by have := h m (by simp); simp [joinC]; omega
  | m :: m2 :: ms, h => by
    have h1 := h m (by simp)
    have ih := joinL_le (m2 :: ms) (fun x hx => h x (by simp [hx]))
    show (m ++ [44, 32] ++ joinC (m2 :: ms)).length ≤ _
    simp only [List.length_append, List.length_cons, List.length_nil] at ih ⊢
    rw [Nat.mul_add, Nat.mul_add] at *
    omega
theorem map_data (ms : List (List UInt8)) : ((ms.map bs).map fun x => x.data.toList) = ms := by
  rw [List.map_map]
  exact List.map_id'' (fun x => bs_toList x) ms
theorem joinB_map (ms : List (List UInt8)) : joinB (ms.map bs) = bs (joinC ms) := by unfold joinB; rw [map_data]
theorem rSplit_len {s : ByteArray} {n : Nat} {w : World} (hs : s.size ≤ 65000) (h : Box ((splitL s.data.toList).length = n)) :
    Calls Try.prog 14 #[.string s] w fun e w' => (∃ a cap, e = .returned (.slice a n cap)) ∧ Below w.heap.size w w' :=
  (rSplit_any s w hs).mono fun e w' ⟨v, h1, h2, h3⟩ => by
    obtain ⟨a, cap, rfl, _, _⟩ := h2.ss
    unfold splitB at h1
    rw [List.length_map, h.out] at h1
    exact ⟨⟨a, cap, h1⟩, h3⟩
set_option maxHeartbeats 2000000 in
theorem back7_walk (s : ByteArray) (w : World) (S : s.size ≤ maxLen) :
    Calls Try.prog 5 #[.string s] w fun e w' => e = .returned (.bool true) ∧ Below w.heap.size w w' := by
  unfold maxLen at S
  by_cases h : 1000 < s.size
  · have hi : (1000 : Int) < (s.size : Int) := by omega
    go_enter Try.func5, Try.ntmps5
    go_wp2
    go_ret
    exact ⟨rfl, Below.refl _ _⟩
  · have hi : ¬ (1000 : Int) < (s.size : Int) := by omega
    have hs6 : s.size ≤ 65000 := by omega
    have hsl : s.data.toList.length = s.size := by simp
    obtain ⟨ms, hms⟩ : ∃ ms, splitL s.data.toList = ms := ⟨_, rfl⟩
    have HMS := box hms
    have HSB : Box (splitB s.data.toList = ms.map bs) := box (by unfold splitB; rw [hms])
    have hm64 : ms.length ≤ 64 := by rw [← hms]; exact split_len _
    have HSM : Box (∀ m ∈ ms, m.length ≤ 1000) := box (fun m hm => by rw [← hms] at hm; have := split_small hm; omega)
    clear hms hsl
    go_enter Try.func5, Try.ntmps5
    go_wp2_with fail
    refine (rSplit_is hs6 HSB).mono ?_; rintro e w1 ⟨a1, cap1, rfl, hS1, hc1, hb1⟩
    rw [List.length_map] at hc1 ⊢
    have S1 := box hS1
    have B1 := box hb1
    have hB1 := hb1.size
    clear hS1 hb1
    go_wp2
    go_loopw [4] (fun i wr => ∃ k : Nat, i = .int .i64 k ∧ k ≤ ms.length ∧ (∀ m ∈ ms.take k, (splitL (m ++ [44, 120])).length = 2) ∧ Below w1.heap.size w1 wr) (fun i _ => ms.length - (intOf i).toNat)
    case atStart => exact ⟨0, rfl, Nat.zero_le _, by simp, Below.refl _ _⟩
    case round =>
      obtain ⟨k, rfl, hk, hall, hbel⟩ := hrel
      have HA := box hall
      have BL := box hbel
      have hBw := hbel.size
      clear hall hbel
      by_cases hlt : k < ms.length
      · obtain ⟨q, off, rfl, c0⟩ := (S1.out.below BL.out) k (by rw [List.length_map]; exact hlt)
        rw [List.getElem_map] at c0
        have hmz := HSM.out ms[k] (List.getElem_mem hlt)
        have hbz : (bs ms[k]).size ≤ 1000 := by rw [bs_size]; exact hmz
        have r0 : ∀ w, (Op.stringOp .add (bs ms[k]) ⟨#[44, 120]⟩).run Try.prog w = .ok (.string (bs ms[k] ++ ⟨#[44, 120]⟩)) w := fun w => run_string_add_sum w _ _ (by show (bs ms[k]).size + 2 ≤ 9223372036854775807; omega)
        have hz2 : (bs ms[k] ++ (⟨#[44, 120]⟩ : ByteArray)).size ≤ 65000 := by rw [ByteArray.size_append]; show (bs ms[k]).size + 2 ≤ 65000; omega
        obtain ⟨n2, hn2⟩ : ∃ n, (splitL (ms[k] ++ [44, 120])).length = n := ⟨_, rfl⟩
        have HN : Box ((splitL (bs ms[k] ++ (⟨#[44, 120]⟩ : ByteArray)).data.toList).length = n2) := box (by rw [← hn2]; simp [ByteArray.data_append, bs])
        by_cases h2 : n2 = 2
        · have h2i : ((n2 : Int) != 2) = false := by rw [h2]; rfl
          have HA2 : Box (∀ m ∈ ms.take (k + 1), (splitL (m ++ [44, 120])).length = 2) := box (by
            intro m hm
            rw [List.take_add_one, List.getElem?_eq_getElem hlt] at hm
            rcases List.mem_append.mp hm with hm | hm
            · exact HA.out m hm
            · simp at hm; subst hm; rw [hn2, h2])
          clear h2 hn2 hbz hmz
          go_wp2_with fail
          refine (rSplit_len hz2 HN).mono ?_; rintro e w2 ⟨⟨a2, cap2, rfl⟩, hb2⟩
          have B2 := box (BL.out.trans (hb2.mono BL.out.size))
          clear hb2
          go_wp2
          go_roundw
          case rel => exact ⟨k + 1, by go_num, by omega, HA2.out, B2.out⟩
          case measure => simp [intOf]; omega
        · have h2i : ((n2 : Int) != 2) = true := by rw [bne_iff_ne]; omega
          clear h2 hn2 hbz hmz
          go_wp2_with fail
          refine (rSplit_len hz2 HN).mono ?_; rintro e w2 ⟨⟨a2, cap2, rfl⟩, hb2⟩
          have B2 := box (BL.out.trans (hb2.mono BL.out.size))
          clear hb2
          go_wp2
          go_ret
          exact ⟨rfl, B1.out.trans (B2.out.mono hB1)⟩
      · have hall : ∀ m ∈ ms, (splitL (m ++ [44, 120])).length = 2 := by
          have := HA.out
          rwa [List.take_of_length_le (by omega)] at this
        have HBK : Box (splitL (joinC ms) = ms) := box (by
          have := split_back (s := s.data.toList) (by rw [HMS.out]; exact hall)
          rwa [HMS.out] at this)
        have HSB2 : Box (splitB (joinB (ms.map bs)).data.toList = ms.map bs) := box (by rw [joinB_map, bs_toList]; unfold splitB; rw [HBK.out])
        have hjz : (joinB (ms.map bs)).size ≤ 65000 := by
          rw [joinB_map, bs_size]
          have := joinL_le ms HSM.out
          have h3 : (1000 + 2) * ms.length ≤ 1002 * 64 := Nat.mul_le_mul_left _ hm64
          omega
        have hl6 : Box ((ms.map bs).length ≤ 65536) := box (by rw [List.length_map]; omega)
        have hz6 : Box (∀ x ∈ ms.map bs, x.size ≤ 65536) := box (fun x hx => by
          obtain ⟨m, hm, rfl⟩ := List.mem_map.mp hx
          have := HSM.out m hm; rw [bs_size]; omega)
        have HLM : Box ((ms.map bs).length = ms.length) := box (by rw [List.length_map])
        obtain ⟨jx, hjx⟩ : ∃ jx, joinB (ms.map bs) = jx := ⟨_, rfl⟩
        have HJ := box hjx
        rw [hjx] at HSB2 hjz
        have S2 := box (S1.out.below BL.out)
        clear hall hjx
        go_wp2_with fail
        refine (mSplit_isC hs6 HSB).mono ?_; rintro e w2 ⟨a2, cap2, rfl, hS2, hcp2, hb2⟩
        have HCP2 := box hcp2
        clear hcp2
        rw [HLM.out]
        have T2 := box hS2
        have B2 := box (BL.out.trans (hb2.mono BL.out.size))
        have S3 := box (S2.out.below hb2)
        clear hS2 hb2
        go_wp2_with fail
        refine (mJoin_is HLM hl6 hz6 HCP2 T2.out HJ).mono ?_; rintro e w3 ⟨rfl, hb3⟩
        have B3 := box (B2.out.trans (hb3.mono B2.out.size))
        have S4 := box (S3.out.below hb3)
        clear hb3
        go_wp2_with fail
        refine (mSplit_is hjz HSB2).mono ?_; rintro e w4 ⟨a4, cap4, rfl, hS4, hb4⟩
        rw [HLM.out]
        have T4 := box hS4
        have B4 := box (B3.out.trans (hb4.mono B3.out.size))
        have S5 := box (S4.out.below hb4)
        clear hS4 hb4
        go_wp2_with fail
        refine (same_is (K := ms.map bs) (L := ms.map bs) (q := true) HLM HLM hl6 hl6 T4.out S5.out (box (by simp))).mono ?_; rintro e w5 ⟨rfl, hb5⟩
        have B5 := box (B4.out.trans (hb5.mono B4.out.size))
        clear hb5
        go_wp2_with fail
        refine (awake7_any _).mono ?_; rintro e w7 ⟨rfl, hb7⟩
        have B7 := box (B5.out.trans (hb7.mono B5.out.size))
        clear hb7
        go_wp2
        go_ret
        exact ⟨rfl, B1.out.trans (B7.out.mono hB1)⟩
end
section
open Go.RowKit
def otherN : ByteArray := ⟨#[111, 116, 104, 101, 114]⟩
theorem fs_three (a b c d e f : ByteArray) (w : World) (t : TypeId) : Fs (w.alloc (.cells #[.string a, .string b, .string c, .string d, .string e, .string f] t)) (some ⟨w.heap.size, 0, none⟩) [(a, b), (c, d), (e, f)] := by
  intro i hi
  refine ⟨w.heap.size, 0, rfl, ?_⟩
  rw [Nat.zero_add, World.cell?_alloc_mark, World.cell?_alloc_mark]
  match i, hi with
  | 0, _ => exact ⟨rfl, rfl⟩
  | 1, _ => exact ⟨rfl, rfl⟩
  | 2, _ => exact ⟨rfl, rfl⟩
theorem rLower_is {s x : ByteArray} {w : World} (hs : s.size ≤ 4294967296) (h : Box ((⟨(lowL s.data.toList).toArray⟩ : ByteArray) = x)) :
    Calls Try.prog 21 #[.string s] w fun e w' => e = .returned (.string x) ∧ Below w.heap.size w w' :=
  (rLower_any s w hs).mono fun e w' ⟨h1, h2⟩ => ⟨by rw [h1, h.out], h2⟩
theorem rFold_is7 {a b : ByteArray} {q : Bool} {w : World} (ha : a.size ≤ 4294967296) (hb : b.size ≤ 4294967296) (h : Box (foldL a.data.toList b.data.toList = q)) :
    Calls Try.prog 22 #[.string a, .string b] w fun e w' => e = .returned (.bool q) ∧ Below w.heap.size w w' :=
  (rFold_any a b w ha hb).mono fun e w' ⟨h1, h2⟩ => ⟨by rw [h1, h.out], h2⟩
theorem lines7_long (a b nm : ByteArray) (w : World) (S1 : a.size ≤ 9223372036854775807) (S2 : b.size ≤ 9223372036854775807) (S3 : nm.size ≤ 9223372036854775807) (h : 500 < a.size ∨ (¬ 500 < a.size ∧ 500 < b.size) ∨ (¬ 500 < a.size ∧ ¬ 500 < b.size ∧ 100 < nm.size)) :
    Calls Try.prog 6 #[.string a, .string b, .string nm] w fun e w' => e = .returned (.bool true) ∧ Below w.heap.size w w' := by
  rcases h with h | ⟨h1, h⟩ | ⟨h1, h2, h⟩
  · have i1 : (500 : Int) < (a.size : Int) := by omega
    go_enter Try.func6, Try.ntmps6
    go_wp2
    go_ret
    exact ⟨rfl, Below.refl _ _⟩
  · have i1 : ¬ (500 : Int) < (a.size : Int) := by omega
    have i2 : (500 : Int) < (b.size : Int) := by omega
    go_enter Try.func6, Try.ntmps6
    go_wp2
    go_ret
    exact ⟨rfl, Below.refl _ _⟩
  · have i1 : ¬ (500 : Int) < (a.size : Int) := by omega
    have i2 : ¬ (500 : Int) < (b.size : Int) := by omega
    have i3 : (100 : Int) < (nm.size : Int) := by omega
    go_enter Try.func6, Try.ntmps6
    go_wp2
    go_ret
    exact ⟨rfl, Below.refl _ _⟩
set_option maxHeartbeats 4000000 in
theorem lines7_in (a b nm : ByteArray) (w : World) (h1 : a.size ≤ 500) (h2 : b.size ≤ 500) (h3 : nm.size ≤ 100) (n1 n2 : Nat) (H1 : Box ((splitL (a.data.toList ++ [44, 120])).length = n1)) (H2 : Box ((splitL a.data.toList).length = n2)) (hn2 : n2 ≤ 64) (o : Bool) (HO : Box (foldL nm.data.toList otherN.data.toList = o)) :
    Calls Try.prog 6 #[.string a, .string b, .string nm] w fun e w' => e = .returned (.bool true) ∧ Below w.heap.size w w' := by
  have i1 : ¬ (500 : Int) < (a.size : Int) := by omega
  have i2 : ¬ (500 : Int) < (b.size : Int) := by omega
  have i3 : ¬ (100 : Int) < (nm.size : Int) := by omega
  have hz1 : (a ++ (⟨#[44, 120]⟩ : ByteArray)).size ≤ 65000 := by rw [ByteArray.size_append]; show a.size + 2 ≤ 65000; omega
  have ha6 : a.size ≤ 65000 := by omega
  have r0 : ∀ w, (Op.stringOp .add a ⟨#[44, 120]⟩).run Try.prog w = .ok (.string (a ++ ⟨#[44, 120]⟩)) w := fun w => run_string_add_sum w _ _ (by show a.size + 2 ≤ 9223372036854775807; omega)
  have HD1 : Box ((splitL (a ++ (⟨#[44, 120]⟩ : ByteArray)).data.toList).length = n1) := box (by rw [← H1.out]; simp [ByteArray.data_append])
  by_cases hne : n1 = n2 + 1
  · have hni : ((n1 : Int) != (n2 : Int) + 1) = false := by rw [hne]; simp
    have he := ends_open (a := a.data.toList) (by rw [H1.out, H2.out, hne])
    obtain ⟨lw, hlw⟩ : ∃ lw, (⟨(lowL nm.data.toList).toArray⟩ : ByteArray) = lw := ⟨_, rfl⟩
    have HLW := box hlw
    have hlwz : lw.size ≤ 100 := by
      rw [← hlw]; show (lowL nm.data.toList).toArray.size ≤ 100
      have : nm.data.toList.length = nm.size := by simp
      simp [lowL_length]; exact h3
    obtain ⟨K, hK⟩ : ∃ K, allB nm [(nm, a), (otherN, b), (lw, b)] = K := ⟨_, rfl⟩
    have HK := box hK
    have hkl : Box (K.length ≤ 65536) := box (by rw [← hK]; exact all_count _ _)
    have SM : Box (Sm [(nm, a), (otherN, b), (lw, b)]) := box ⟨by simp, fun i hi => by
      have ho : otherN.size ≤ 65536 := by decide
      match i, hi with
      | 0, _ => exact ⟨by show nm.size ≤ 65536; omega, by show a.size ≤ 65536; omega⟩
      | 1, _ => exact ⟨ho, by show b.size ≤ 65536; omega⟩
      | 2, _ => exact ⟨by show lw.size ≤ 65536; omega, by show b.size ≤ 65536; omega⟩⟩
    have HV : Box (∀ x ∈ getL nm [(nm, a), (otherN, b), (lw, b)], x.size ≤ 65000) := box (fun x hx => by
      unfold getL at hx
      obtain ⟨p, hp, rfl⟩ := List.mem_map.mp hx
      have hp2 := (List.mem_filter.mp hp).1
      simp only [List.mem_cons, List.not_mem_nil, or_false] at hp2
      rcases hp2 with rfl | rfl | rfl
      · show a.size ≤ 65000; omega
      · show b.size ≤ 65000; omega
      · show b.size ≤ 65000; omega)
    have M : Box (nm.size ≤ 65536) := box (by omega)
    have hn4 : nm.size ≤ 4294967296 := by omega
    have ho4 : otherN.size ≤ 4294967296 := by decide
    have e1 : (a ++ (⟨#[44]⟩ : ByteArray)).size ≤ 501 := by rw [ByteArray.size_append]; show a.size + 1 ≤ 501; omega
    have r1 : ∀ w, (Op.stringOp .add a ⟨#[44]⟩).run Try.prog w = .ok (.string (a ++ ⟨#[44]⟩)) w := fun w => run_string_add_sum w _ _ (by show a.size + 1 ≤ 9223372036854775807; omega)
    have r2 : ∀ w, (Op.stringOp .add (a ++ ⟨#[44]⟩) b).run Try.prog w = .ok (.string (a ++ ⟨#[44]⟩ ++ b)) w := fun w => run_string_add_sum w _ _ (by show (a ++ (⟨#[44]⟩ : ByteArray)).size + b.size ≤ 9223372036854775807; omega)
    have hzab : (a ++ (⟨#[44]⟩ : ByteArray) ++ b).size ≤ 65000 := by rw [ByteArray.size_append]; omega
    obtain ⟨Y, hY⟩ : ∃ Y, splitB (a ++ (⟨#[44]⟩ : ByteArray) ++ b).data.toList = Y := ⟨_, rfl⟩
    have HY := box hY
    have hyl : Box (Y.length ≤ 65536) := box (by rw [← hY]; exact split_count _)
    have HYK : Box (o = false → K = Y) := box (fun ho => by
      have := all_lines (nm := nm) (o := otherN) (a := a) (b := b) he (by rw [HO.out, ho])
      rw [hlw] at this
      rw [← hK, ← hY]; unfold allB splitB; rw [this]
      simp [ByteArray.data_append])
    clear hne he hlw hK hY e1 HD1
    have HD1 : Box ((splitL (a ++ (⟨#[44, 120]⟩ : ByteArray)).data.toList).length = n1) := box (by rw [← H1.out]; simp [ByteArray.data_append])
    go_enter Try.func6, Try.ntmps6
    go_wp2_with fail
    refine (rSplit_len hz1 HD1).mono ?_; rintro e w1 ⟨⟨a1, cap1, rfl⟩, hb1⟩
    have B1 := box hb1
    clear hb1
    go_wp2_with fail
    refine (rSplit_len ha6 H2).mono ?_; rintro e w2 ⟨⟨a2, cap2, rfl⟩, hb2⟩
    have B2 := box (B1.out.trans (hb2.mono B1.out.size))
    clear hb2
    go_wp2_with fail
    refine (rLower_is hn4 HLW).mono ?_; rintro e w3 ⟨rfl, hb3⟩
    have B3 := box (B2.out.trans (hb3.mono B2.out.size))
    clear hb3
    go_wp2_with fail
    refine (mAll_is (L := [(nm, a), (otherN, b), (lw, b)]) SM HV M (fs_three _ _ _ _ _ _ _ _) HK).mono ?_; rintro e w4 ⟨a4, cap4, rfl, hS4, hb4⟩
    have S4 := box hS4
    have B4 := box ((B3.out.alloc B3.out.size _).trans (hb4.mono (B3.out.alloc B3.out.size _).size))
    clear hS4 hb4
    go_wp2_with fail
    refine (mSplit_is hzab HY).mono ?_; rintro e w5 ⟨a5, cap5, rfl, hS5, hb5⟩
    have S5 := box hS5
    have T5 := box (S4.out.below hb5)
    have B5 := box (B4.out.trans (hb5.mono B4.out.size))
    clear hS5 hb5
    go_wp2_with fail
    refine (rFold_is7 (b := otherN) hn4 ho4 HO).mono ?_; rintro e w6 ⟨rfl, hb6⟩
    have S6 := box (S5.out.below hb6)
    have T6 := box (T5.out.below hb6)
    have B6 := box (B5.out.trans (hb6.mono B5.out.size))
    clear hb6
    rcases o with _ | _
    · go_wp2_with fail
      refine (same_is (K := K) (L := Y) (q := true) (box rfl) (box rfl) hkl hyl T6.out S6.out (box (by rw [HYK.out (by trivial)]; simp))).mono ?_; rintro e w7 ⟨rfl, hb7⟩
      have B7 := box (B6.out.trans (hb7.mono B6.out.size))
      clear hb7
      go_wp2_with fail
      refine (awake7_any _).mono ?_; rintro e w8 ⟨rfl, hb8⟩
      have B8 := box (B7.out.trans (hb8.mono B7.out.size))
      clear hb8
      go_wp2
      go_ret
      exact ⟨rfl, B8.out⟩
    · go_wp2
      go_ret
      exact ⟨rfl, B6.out⟩
  · have hni : ((n1 : Int) != (n2 : Int) + 1) = true := by rw [bne_iff_ne]; omega
    clear hne
    go_enter Try.func6, Try.ntmps6
    go_wp2_with fail
    refine (rSplit_len hz1 HD1).mono ?_; rintro e w1 ⟨⟨a1, cap1, rfl⟩, hb1⟩
    have B1 := box hb1
    clear hb1
    go_wp2_with fail
    refine (rSplit_len ha6 H2).mono ?_; rintro e w2 ⟨⟨a2, cap2, rfl⟩, hb2⟩
    have B2 := box (B1.out.trans (hb2.mono B1.out.size))
    clear hb2
    go_wp2
    go_ret
    exact ⟨rfl, B2.out⟩
theorem lines7_walk (a b nm : ByteArray) (w : World) (S1 : a.size ≤ maxLen) (S2 : b.size ≤ maxLen) (S3 : nm.size ≤ maxLen) :
    Calls Try.prog 6 #[.string a, .string b, .string nm] w fun e w' => e = .returned (.bool true) ∧ Below w.heap.size w w' := by
  by_cases h1 : 500 < a.size
  · exact lines7_long a b nm w S1 S2 S3 (.inl h1)
  · by_cases h2 : 500 < b.size
    · exact lines7_long a b nm w S1 S2 S3 (.inr (.inl ⟨h1, h2⟩))
    · by_cases h3 : 100 < nm.size
      · exact lines7_long a b nm w S1 S2 S3 (.inr (.inr ⟨h1, h2, h3⟩))
      · exact lines7_in a b nm w (by omega) (by omega) (by omega) _ _ (box rfl) (box rfl) (split_len _) _ (box rfl)
end
section
/-- a parameter: name, '=', a token or a quoted string -/
def paramL (x : List UInt8) : Option F :=
  if cutB 61 x = false ∨ tokL (cut1 61 x) = false then none
  else if tokL (cut2 61 x) = true then some (bs (lowL (cut1 61 x)), bs (cut2 61 x))
  else match unqL (cut2 61 x) with
    | some u => some (bs (lowL (cut1 61 x)), bs u)
    | none => none
/-- the parameters of pieces; those before them -/
def parF : List (List UInt8) → List F → Option (List F)
  | [], acc => some acc
  | p :: ps, acc => if trimL p = [] then parF ps acc else match paramL (trimL p) with
    | some f => parF ps (acc ++ [f])
    | none => none
def parL (s : List UInt8) : Option (List UInt8 × List F) := match cutL 59 s with
  | [] => none
  | v :: ps => if trimL v = [] then none else match parF ps [] with
    | some L => some (trimL v, L)
    | none => none
def valP (v : List UInt8) : List UInt8 := if tokL v = true then v else quoteL v
def oneP (p : F) : List UInt8 := p.1.data.toList ++ 61 :: valP p.2.data.toList
def fmtPL (v : List UInt8) (L : List F) : List UInt8 := v ++ L.flatMap fun p => 59 :: oneP p
def findP (nm : ByteArray) (L : List F) : Option ByteArray := (L.find? fun p => decide (p.1 = nm)).map (·.2)
/-- is a byte behind the list within a quoted string? (as endF, with its own length) -/
def endQ (q : Bool) (l : List UInt8) : Bool := endF l.length q l
theorem endF_fuel : ∀ (f g : Nat) (q : Bool) (l : List UInt8), l.length ≤ f → l.length ≤ g → endF f q l = endF g q l := by
  intro f
  induction f with
  | zero => intro g q l hf hg; have : l = [] := List.eq_nil_of_length_eq_zero (by omega); subst this; rw [endF_nil, endF_nil]
  | succ f ih =>
    intro g q l hf hg
    match l, g with
    | [], g => rw [endF_nil, endF_nil]
    | c :: r, 0 => simp at hg
    | c :: r, g + 1 =>
      simp only [List.length_cons] at hf hg
      rw [endF_cons, endF_cons]
      split
      · match r, hf, hg with
        | [], _, _ => rfl
        | d :: r2, hf, hg =>
          simp only [List.length_cons] at hf hg
          exact ih g q r2 (by omega) (by omega)
      · split
        · exact ih g (!q) r (by omega) (by omega)
        · exact ih g q r (by omega) (by omega)
theorem endL_esc (d : UInt8) (r : List UInt8) : endQ true (92 :: d :: r) = endQ true r := by
  unfold endQ
  show endF (r.length + 1 + 1) true (92 :: d :: r) = _
  rw [endF_cons, if_pos ⟨rfl, rfl⟩]
  exact endF_fuel _ _ _ _ (by omega) (by omega)
theorem endL_quo {q : Bool} {c : UInt8} {r : List UInt8} (h1 : ¬ (q = true ∧ c = 92)) (h : c = 34) : endQ q (c :: r) = endQ (!q) r := by
  unfold endQ
  show endF (r.length + 1) q (c :: r) = _
  rw [endF_cons, if_neg h1, if_pos h]
theorem endL_any {q : Bool} {c : UInt8} {r : List UInt8} (h1 : ¬ (q = true ∧ c = 92)) (h : c ≠ 34) : endQ q (c :: r) = endQ q r := by
  unfold endQ
  show endF (r.length + 1) q (c :: r) = _
  rw [endF_cons, if_neg h1, if_neg h]
/-- what has been escaped, a quote behind it, leads out of the quoted string -/
theorem end_quoted (y : List UInt8) : ∀ l : List UInt8, endQ true (escL l ++ 34 :: y) = endQ false y
  | [] => endL_quo (by simp) rfl
  | c :: r => by
    have e : escL (c :: r) = escB c ++ escL r := rfl
    rw [e]
    unfold escB
    by_cases h : c = 34 ∨ c = 92
    · rw [if_pos h]
      show endQ true (92 :: c :: (escL r ++ 34 :: y)) = _
      rw [endL_esc]; exact end_quoted y r
    · rw [if_neg h]
      show endQ true (c :: (escL r ++ 34 :: y)) = _
      rw [endL_any (fun q => h (.inr q.2)) (fun q => h (.inl q))]; exact end_quoted y r
theorem nc_quoted (sep : UInt8) (y : List UInt8) : ∀ l : List UInt8, ncL sep true (escL l ++ 34 :: y) = ncL sep false y
  | [] => nc_quo (by simp) rfl
  | c :: r => by
    have e : escL (c :: r) = escB c ++ escL r := rfl
    rw [e]
    unfold escB
    by_cases h : c = 34 ∨ c = 92
    · rw [if_pos h]
      show ncL sep true (92 :: c :: (escL r ++ 34 :: y)) = _
      rw [nc_esc ⟨rfl, rfl⟩]; exact nc_quoted sep y r
    · rw [if_neg h]
      show ncL sep true (c :: (escL r ++ 34 :: y)) = _
      rw [nc_any (fun q => h (.inr q.2)) (fun q => h (.inl q)) (by simp)]; exact nc_quoted sep y r
/-- a piece: no separator outside quoted strings, none of which is open at its end -/
def Piece (sep : UInt8) (p : List UInt8) : Prop := ncL sep false p = true ∧ endQ false p = false
theorem Piece.nil (sep : UInt8) : Piece sep [] := ⟨rfl, rfl⟩
theorem Piece.cons {sep c : UInt8} {p : List UInt8} (h1 : c ≠ 34) (h2 : c ≠ sep) (h : Piece sep p) : Piece sep (c :: p) :=
  ⟨by rw [nc_any (by simp) h1 (fun q => h2 q.1)]; exact h.1, by rw [endL_any (by simp) h1]; exact h.2⟩
theorem Piece.plain {sep : UInt8} : ∀ {a p : List UInt8}, (∀ c ∈ a, c ≠ 34 ∧ c ≠ sep) → Piece sep p → Piece sep (a ++ p)
  | [], p, _, h => h
  | c :: r, p, ha, h => Piece.cons (ha c (by simp)).1 (ha c (by simp)).2 (Piece.plain (fun d hd => ha d (by simp [hd])) h)
theorem Piece.quote (sep : UInt8) (l : List UInt8) {p : List UInt8} (h : Piece sep p) : Piece sep (quoteL l ++ p) := by
  have e : quoteL l ++ p = 34 :: (escL l ++ 34 :: p) := by unfold quoteL; simp
  rw [e]
  exact ⟨by rw [nc_quo (by simp) rfl]; exact (nc_quoted sep p l).trans h.1, by rw [endL_quo (by simp) rfl]; exact (end_quoted p l).trans h.2⟩
theorem cut_piece {sep : UInt8} {a : List UInt8} (h : Piece sep a) : cutL sep a = [a] := by
  unfold cutL; rw [nc_cut _ false _ [] (Nat.le_refl _) h.1]; rfl
theorem cut_pieces {sep : UInt8} (hs : sep ≠ 34 ∧ sep ≠ 92) {a : List UInt8} (b : List UInt8) (h : Piece sep a) : cutL sep (a ++ sep :: b) = a :: cutL sep b := by
  have e := cutF_app hs a.length false a b [] (Nat.le_refl _) h.2
  have h1 := cut_piece h
  unfold cutL at h1 ⊢
  rw [h1] at e
  rw [List.length_append, List.length_cons, show a.length + (b.length + 1) = a.length + 1 + b.length from by omega, e]; rfl
theorem tok_byte {l : List UInt8} (h : tokL l = true) : ∀ c ∈ l, tokI c.toNat = true := by
  unfold tokL at h
  rw [Bool.and_eq_true] at h
  exact fun c hc => List.all_eq_true.mp h.2 c hc
theorem tok_ne {l : List UInt8} (h : tokL l = true) : l ≠ [] := by
  unfold tokL at h
  intro e; rw [e] at h; simp at h
def tokChk (n : Nat) : Bool := !tokI (n : Int) || (UInt8.ofNat n != 34 && UInt8.ofNat n != 59 && UInt8.ofNat n != 61 && UInt8.ofNat n != 44 && !blankB (UInt8.ofNat n))
theorem tok_chk : ∀ x : Fin 256, tokChk x.1 = true := by decide +kernel
theorem tok_chk2 (c : UInt8) : tokChk c.toNat = true := by
  have hc : c.toNat < 256 := c.toNat_lt
  generalize c.toNat = n at hc ⊢
  exact tok_chk ⟨n, hc⟩
theorem tok_not {c : UInt8} (h : tokI c.toNat = true) : c ≠ 34 ∧ c ≠ 59 ∧ c ≠ 61 ∧ c ≠ 44 ∧ blankB c = false := by
  have k := tok_chk2 c
  unfold tokChk at k
  rw [h, UInt8.ofNat_toNat] at k
  simp only [Bool.not_true, Bool.false_or, Bool.and_eq_true, bne_iff_ne, Bool.not_eq_true'] at k
  obtain ⟨⟨⟨⟨k1, k2⟩, k3⟩, k4⟩, k5⟩ := k
  exact ⟨k1, k2, k3, k4, k5⟩
theorem quote_tok (l : List UInt8) : tokL (quoteL l) = false := by
  rcases h : tokL (quoteL l) with _ | _
  · rfl
  · exfalso
    have := tok_byte h 34 (by unfold quoteL; simp)
    exact absurd this (by decide)
theorem val_tok {v : List UInt8} (h : tokL v = true) : valP v = v := by unfold valP; rw [if_pos h]
theorem val_not {v : List UInt8} (h : tokL v = false) : valP v = quoteL v := by unfold valP; rw [h]; rfl
theorem Piece.val (v : List UInt8) {p : List UInt8} (h : Piece 59 p) : Piece 59 (valP v ++ p) := by
  rcases hv : tokL v with _ | _
  · rw [val_not hv]; exact Piece.quote 59 v h
  · rw [val_tok hv]
    exact Piece.plain (fun c hc => ⟨(tok_not (tok_byte hv c hc)).1, (tok_not (tok_byte hv c hc)).2.1⟩) h
theorem Piece.tok {v : List UInt8} (hv : tokL v = true) {p : List UInt8} (h : Piece 59 p) : Piece 59 (v ++ p) :=
  Piece.plain (fun c hc => ⟨(tok_not (tok_byte hv c hc)).1, (tok_not (tok_byte hv c hc)).2.1⟩) h
theorem piece_one {n v : List UInt8} (hn : tokL n = true) : Piece 59 (n ++ 61 :: valP v) := by
  have h := Piece.val v (Piece.nil 59)
  rw [List.append_nil] at h
  exact Piece.tok hn (Piece.cons (by decide) (by decide) h)
/-- a parameter as it is written is read -/
theorem param_read {n v : List UInt8} (hn : tokL n = true) (ht : textL v = true) : paramL (n ++ 61 :: valP v) = some (bs (lowL n), bs v) := by
  obtain ⟨h1, h2, h3⟩ := cut_app (c := 61) (a := n) (b := valP v) (fun hc => (tok_not (tok_byte hn 61 hc)).2.2.1 rfl)
  unfold paramL
  rw [h1, h2, h3, if_neg (by rintro (q | q) <;> simp_all)]
  rcases hv : tokL v with _ | _
  · rw [val_not hv, if_neg (by rw [quote_tok]; simp), unq_quote_text ht]
  · rw [val_tok hv, if_pos hv]
theorem last_val (v : List UInt8) : ∀ c r, valP v = r ++ [c] → blankB c = false := by
  intro c r h
  rcases hv : tokL v with _ | _
  · rw [val_not hv] at h
    unfold quoteL at h
    have e : (34 :: (escL v ++ [34])).getLast? = (r ++ [c]).getLast? := by rw [h]
    rw [show (34 :: (escL v ++ [34])) = (34 :: escL v) ++ [34] from rfl, List.getLast?_append, List.getLast?_append] at e
    simp at e
    subst e; decide
  · rw [val_tok hv] at h
    exact (tok_not (tok_byte hv c (by rw [h]; simp))).2.2.2.2
theorem val_ne (v : List UInt8) : valP v ≠ [] := by
  rcases hv : tokL v with _ | _
  · rw [val_not hv]; unfold quoteL; simp
  · rw [val_tok hv]; exact tok_ne hv
/-- .. and is its own Trim, blanks around it or not -/
theorem trim_one {n v a b : List UInt8} (hn : tokL n = true) (ha : ∀ c ∈ a, blankB c = true) (hb : ∀ c ∈ b, blankB c = true) : trimL (a ++ ((n ++ 61 :: valP v) ++ b)) = n ++ 61 :: valP v := by
  refine trim_char a (n ++ 61 :: valP v) b ha hb ?_ ?_
  · intro c r h
    match n, hn, h with
    | d :: n', hn, h =>
      simp only [List.cons_append, List.cons.injEq] at h
      obtain ⟨rfl, _⟩ := h
      exact (tok_not (tok_byte hn _ (by simp))).2.2.2.2
    | [], hn, _ => exact absurd rfl (tok_ne hn)
  · intro c r h
    have e : (n ++ 61 :: valP v).getLast? = (r ++ [c]).getLast? := by rw [h]
    have e2 : (valP v).getLast? = some c := by
      rw [show n ++ 61 :: valP v = (n ++ [61]) ++ valP v from by simp, List.getLast?_append, List.getLast?_append] at e
      cases hl : (valP v).getLast? with
      | none => exact absurd (List.getLast?_eq_none_iff.mp hl) (val_ne v)
      | some d => rw [hl] at e; simpa using e
    obtain ⟨r2, hr2⟩ := List.getLast?_eq_some_iff.mp e2
    exact last_val v c r2 hr2
theorem trim_tok {v a b : List UInt8} (hv : tokL v = true) (ha : ∀ c ∈ a, blankB c = true) (hb : ∀ c ∈ b, blankB c = true) : trimL (a ++ (v ++ b)) = v :=
  trim_char a v b ha hb (fun c r h => (tok_not (tok_byte hv c (by rw [h]; simp))).2.2.2.2) (fun c r h => (tok_not (tok_byte hv c (by rw [h]; simp))).2.2.2.2)
end
end Go.Proofs.Ytfpeaakdjihajaa.Asc
