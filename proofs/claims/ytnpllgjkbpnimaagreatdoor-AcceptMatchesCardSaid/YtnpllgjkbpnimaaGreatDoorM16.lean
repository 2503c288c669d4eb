/- Merged texts: AccLaws. -/
import Derived.Test.YtnpllgjkbpnimaaGreatDoorM02
import Derived.Test.YtnpllgjkbpnimaaGreatDoorM14
import Derived.Test.YtnpllgjkbpnimaaGreatDoorM15
set_option linter.unusedVariables false
set_option linter.unusedSimpArgs false
set_option maxRecDepth 100000
namespace Go.Proofs.YtnpllgjkbpnimaaGreatDoor.Asc
section
open Go.RowKit
theorem vals_of {nm : ByteArray} {L : List F} (hv : Box (∀ x ∈ getL nm L, x.size ≤ 20000)) : Box (∀ x ∈ getL nm L, x.size ≤ 65000) := box (fun x hx => by have := hv.out x hx; omega)
theorem mems_of {nm : ByteArray} {L : List F} (hv : Box (∀ x ∈ getL nm L, x.size ≤ 20000)) : Box (∀ m ∈ allL nm L, m.length ≤ 20000) := box (fun m hm => by obtain ⟨x, hx, hle⟩ := all_mem hm; have := hv.out x hx; omega)
theorem mPrefs_is {k : Int} {a : Option Addr} {cap n : Nat} {L : List F} {X : List QP} {o : Bool} {w : World} (hk : InI64 k) (S : Box (Sm L)) (hv : Box (∀ x ∈ getL (nameK k) L, x.size ≤ 20000)) (hF : Fs w a L) (hW : Wts w) (h : Box (prefsV k L = X ∧ prefsO k L = o)) (hn : Box (L.length = n) := by exact box rfl) :
    Calls Tryz.prog 23 #[.int .i64 k, .slice a n cap] w fun e w' => ∃ p c, e = .returned (.tuple #[.slice p X.length c, .bool o]) ∧ Qs w' p X ∧ Below w.heap.size w w' := by
  have := mPrefs_any k a cap L w hk S (vals_of hv) (mems_of hv) (box hF) hW
  rw [h.out.1, h.out.2, hn.out] at this; exact this
theorem mMatch13_is {k i : Int} {r v : ByteArray} {w : World} (hk : InI64 k) (hr : r.size ≤ 20000) (hv : v.size ≤ 20000) (h : Box (matchP k r.data.toList v.data.toList = i)) :
    Calls Tryz.prog 5 #[.int .i64 k, .string r, .string v] w fun e w' => e = .returned (.int .i64 i) ∧ Below w.heap.size w w' :=
  (mMatch13_any k r v w hk hr hv).mono fun e w' ⟨h1, h2⟩ => ⟨by rw [h1, h.out], h2⟩
theorem rMatch13_is {k i : Int} {r v : ByteArray} {w : World} (hk : InI64 k) (hr : r.size ≤ 20000) (hv : v.size ≤ 20000) (h : Box (matchP k r.data.toList v.data.toList = i)) :
    Calls Tryz.prog 6 #[.int .i64 k, .string r, .string v] w fun e w' => e = .returned (.int .i64 i) ∧ Below w.heap.size w w' :=
  (rMatch13_any k r v w hk hr hv).mono fun e w' ⟨h1, h2⟩ => ⟨by rw [h1, h.out], h2⟩
theorem mFmtPf_is {a : Option Addr} {cap : Nat} {L : List QP} {x : ByteArray} {w : World} (hl : L.length ≤ 65536) (hz : Box (∀ i (hi : i < L.length), L[i].1.size ≤ 65000)) (hq : Box (∀ i (hi : i < L.length), InI64 L[i].2)) (hF : Qs w a L) (hW : Wts w) (h : Box (fmtPf L = x)) :
    Calls Tryz.prog 7 #[.slice a L.length cap] w fun e w' => e = .returned (.string x) ∧ Below w.heap.size w w' :=
  (mFmtPrefs_any a cap L w hl hz hq (box hF) hW).mono fun e w' ⟨h1, h2⟩ => ⟨by rw [h1, h.out], h2⟩
theorem rFmtPf_is {a : Option Addr} {cap : Nat} {L : List QP} {x : ByteArray} {w : World} (hl : L.length ≤ 65536) (hz : Box (∀ i (hi : i < L.length), L[i].1.size ≤ 65000)) (hq : Box (∀ i (hi : i < L.length), InI64 L[i].2)) (hF : Qs w a L) (h : Box (fmtPf L = x)) :
    Calls Tryz.prog 8 #[.slice a L.length cap] w fun e w' => e = .returned (.string x) ∧ Below w.heap.size w w' :=
  (rFmtPrefs_any a cap L w hl hz hq (box hF)).mono fun e w' ⟨h1, h2⟩ => ⟨by rw [h1, h.out], h2⟩
theorem fs_one13 (a b : ByteArray) (w : World) (t : TypeId) : Fs (w.alloc (.cells #[.string a, .string b] t)) (some ⟨w.heap.size, 0, none⟩) [(a, b)] := by
  intro i hi
  refine ⟨w.heap.size, 0, rfl, ?_, ?_⟩
  all_goals
    rw [World.cell?_alloc_mark]
    match i, hi with
    | 0, _ => rfl
def aw13N : ByteArray := ⟨#[97, 99, 99, 101, 112, 116, 45, 108, 97, 110, 103, 117, 97, 103, 101]⟩
def aw13V : ByteArray := ⟨#[100, 97, 44, 32, 101, 110, 45, 103, 98, 59, 113, 61, 48, 46, 56, 44, 32, 101, 110, 59, 113, 61, 120]⟩
def aw13X : List QP := [(⟨#[100, 97]⟩, 1000), (⟨#[101, 110, 45, 103, 98]⟩, 800)]
theorem aw13_is : prefsV 2 [(aw13N, aw13V)] = aw13X ∧ prefsO 2 [(aw13N, aw13V)] = true := by decide +kernel
theorem one_sm13 {n v : ByteArray} (h1 : n.size ≤ 65536) (h2 : v.size ≤ 65536) : Sm [(n, v)] := by
  refine ⟨by simp, fun i hi => ?_⟩
  match i, hi with
  | 0, _ => exact ⟨h1, h2⟩
theorem get_small13 {nm n v : ByteArray} (h : v.size ≤ 20000) : ∀ x ∈ getL nm [(n, v)], x.size ≤ 20000 := by
  intro x hx
  unfold getL at hx
  obtain ⟨p, hp, rfl⟩ := List.mem_map.1 hx
  have := (List.mem_filter.1 hp).1
  rw [List.mem_singleton] at this
  rw [this]; exact h
theorem awake13_any (w : World) (hW : Wts w) : Calls Tryz.prog 9 #[] w fun e w' => e = .returned (.bool true) ∧ Below w.heap.size w w' := by
  have HT := box hW
  have HX := box aw13_is
  have S := box (one_sm13 (n := aw13N) (v := aw13V) (by decide) (by decide))
  have hv := box (get_small13 (nm := nameK 2) (n := aw13N) (v := aw13V) (by decide))
  clear hW
  go_enter Tryz.func9, Tryz.ntmps9
  go_wp2_with fail
  refine (mPrefs_is (L := [(aw13N, aw13V)]) (X := aw13X) ⟨by omega, by omega⟩ S hv (fs_one13 _ _ _ _) (HT.out.below (below_new _ _)) HX).mono ?_; rintro e w1 ⟨p1, c1, rfl, hQ1, hb1⟩
  have B1 := box ((below_new w _).trans (hb1.mono (below_new w _).size))
  obtain ⟨g, off, rfl, q0, q1⟩ := hQ1 1 (by decide)
  have q0' : w1.cell? ⟨g, off + 2, none⟩ = some (.string ⟨#[101, 110, 45, 103, 98]⟩) := q0
  have q1' : w1.cell? ⟨g, off + 2 + 1, none⟩ = some (.int .i64 800) := q1
  have hlen : aw13X.length = 2 := rfl
  clear hQ1 hb1 q0 q1
  rw [hlen]
  go_wp2
  go_ret
  exact ⟨rfl, B1.out⟩
theorem in13 {n : Int} (h : (Lit.int .i64 n).wf = true) : InI64 n := by
  unfold InI64
  simp [Lit.wf, IntKind.min, IntKind.max, IntKind.bits, IntKind.signed] at h
  omega
set_option maxHeartbeats 1000000 in
theorem matches13_walk (k : Int) (r v : ByteArray) (a : Option Addr) (cap : Nat) (L : List QP) (w : World) (hk0 : (Lit.int .i64 k).wf = true) (S1 : r.size ≤ maxLen) (S2 : v.size ≤ maxLen) (hl : L.length ≤ maxLen) (hF : Qs w a L ∧ ∀ i (h : i < L.length), InI64 L[i].2) (hc : L.length ≤ cap) (hW : Wts w) :
    Calls Tryz.prog 3 #[.int .i64 k, .string r, .string v, .slice a L.length cap] w fun e w' => e = .returned (.bool true) ∧ Below w.heap.size w w' := by
  have HT := box hW
  have hki := in13 hk0
  have F0 := box hF.1
  have hq := box hF.2
  have HL := box hl
  clear hW hk0 hF hl hc
  unfold maxLen at S1 S2
  by_cases h1 : 300 < r.size
  · have i1 : (300 : Int) < (r.size : Int) := by omega
    go_enter Tryz.func3, Tryz.ntmps3
    go_wp2
    go_ret
    exact ⟨rfl, Below.refl _ _⟩
  · have i1 : ¬ (300 : Int) < (r.size : Int) := by omega
    by_cases h2 : 300 < v.size
    · have i2 : (300 : Int) < (v.size : Int) := by omega
      go_enter Tryz.func3, Tryz.ntmps3
      go_wp2
      go_ret
      exact ⟨rfl, Below.refl _ _⟩
    · have i2 : ¬ (300 : Int) < (v.size : Int) := by omega
      rcases hk : keepQ L with _ | _
      · have HK := box hk
        clear hk
        go_enter Tryz.func3, Tryz.ntmps3
        go_wp2_with fail
        refine (keepPrefs_any a cap L _ HL.out F0).mono ?_; rintro e w1 ⟨rfl, rfl⟩; rw [HK.out]
        go_wp2
        go_ret
        exact ⟨rfl, Below.refl _ _⟩
      · have HK := box hk
        obtain ⟨b1, b2⟩ := keepQ_bounds hk
        have hl6 : L.length ≤ 65536 := by omega
        have zL : Box (∀ i (hi : i < L.length), L[i].1.size ≤ 65000) := box (fun i hi => by have := b2 i hi; omega)
        have hr : r.size ≤ 20000 := by omega
        have hv : v.size ≤ 20000 := by omega
        obtain ⟨i, hi⟩ : ∃ i, matchP k r.data.toList v.data.toList = i := ⟨_, rfl⟩
        obtain ⟨x, hx⟩ : ∃ x, fmtPf L = x := ⟨_, rfl⟩
        have HI := box hi
        have HX := box hx
        have e1 : (i == i) = true := by simp
        have e2 : (x.toList == x.toList) = true := by simp
        clear hk b2 hi hx
        go_enter Tryz.func3, Tryz.ntmps3
        go_wp2_with fail
        refine (keepPrefs_any a cap L _ HL.out F0).mono ?_; rintro e w1 ⟨rfl, rfl⟩; rw [HK.out]
        go_wp2_with fail
        refine (mMatch13_is hki hr hv HI).mono ?_; rintro e w1 ⟨rfl, hb1⟩
        have B1 := box hb1
        have F1 := box (F0.out.below hb1)
        clear hb1
        go_wp2_with fail
        refine (rMatch13_is hki hr hv HI).mono ?_; rintro e w2 ⟨rfl, hb2⟩
        have B2 := box (B1.out.trans (hb2.mono B1.out.size))
        have F2 := box (F1.out.below hb2)
        clear hb2
        go_wp2_with fail
        refine (mFmtPf_is hl6 zL hq F2.out (HT.out.below B2.out) HX).mono ?_; rintro e w3 ⟨rfl, hb3⟩
        have B3 := box (B2.out.trans (hb3.mono B2.out.size))
        have F3 := box (F2.out.below hb3)
        clear hb3
        go_wp2_with fail
        refine (rFmtPf_is hl6 zL hq F3.out HX).mono ?_; rintro e w4 ⟨rfl, hb4⟩
        have B4 := box (B3.out.trans (hb4.mono B3.out.size))
        clear hb4
        go_wp2_with fail
        refine (awake13_any _ (HT.out.below B4.out)).mono ?_; rintro e w5 ⟨rfl, hb5⟩
        have B5 := box (B4.out.trans (hb5.mono B4.out.size))
        clear hb5
        go_wp2
        go_ret
        exact ⟨rfl, B5.out⟩
end
end Go.Proofs.YtnpllgjkbpnimaaGreatDoor.Asc
