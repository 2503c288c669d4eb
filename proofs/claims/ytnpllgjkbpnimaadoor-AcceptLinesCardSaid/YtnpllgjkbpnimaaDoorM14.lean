/- Merged texts: AccKeep AccLaws AccSpec2 AccLaws2 AccSpec3 AccSpec4. -/
import Derived.Test.YtnpllgjkbpnimaaDoorM01
import Derived.Test.YtnpllgjkbpnimaaDoorM03
import Derived.Test.YtnpllgjkbpnimaaDoorM04
import Derived.Test.YtnpllgjkbpnimaaDoorM05
import Derived.Test.YtnpllgjkbpnimaaDoorM06
import Derived.Test.YtnpllgjkbpnimaaDoorM08
import Derived.Test.YtnpllgjkbpnimaaDoorM09
import Derived.Test.YtnpllgjkbpnimaaDoorM10
import Derived.Test.YtnpllgjkbpnimaaDoorM11
import Derived.Test.YtnpllgjkbpnimaaDoorM12
import Derived.Test.YtnpllgjkbpnimaaDoorM13
set_option linter.unusedVariables false
set_option linter.unusedSimpArgs false
set_option maxRecDepth 100000
namespace Go.Proofs.YtnpllgjkbpnimaaDoor.Asc
section
open Go.RowKit
theorem samePrefs_any (a b : Option Addr) (ca cb : Nat) (L : List QP) (w : World) (hl : L.length ≤ 65536) (hA : Box (Qs w a L)) (hB : Box (Qs w b L)) :
    Calls Tryd.prog 15 #[.slice a L.length ca, .slice b L.length cb] w fun e w' => e = .returned (.bool true) ∧ Below w.heap.size w w' := by
  have hne : ((L.length : Int) != (L.length : Int)) = false := by simp
  go_enter Tryd.func15, Tryd.ntmps15
  go_wp2
  go_loopw [5] (fun i wr => ∃ k : Nat, i = .int .i64 k ∧ k ≤ L.length ∧ Below w.heap.size w wr) (fun i _ => L.length - (intOf i).toNat)
  case atStart => exact ⟨0, rfl, Nat.zero_le _, Below.refl _ _⟩
  case round =>
    obtain ⟨k, rfl, hk, hb⟩ := hrel
    have BL := box hb
    by_cases hlt : k < L.length
    · have hki : (k : Int) < (L.length : Int) := by omega
      obtain ⟨g, off, rfl, c0, c1⟩ := hA.out.below hb k hlt
      obtain ⟨g', off', rfl, d0, d1⟩ := hB.out.below hb k hlt
      obtain ⟨⟨x, q⟩, hp⟩ : ∃ p, L[k] = p := ⟨_, rfl⟩
      rw [hp] at c0 c1 d0 d1
      have e1 : (x.toList == x.toList) = true := by simp
      have e2 : (q == q) = true := by simp
      clear hb hp
      go_wp2
      go_quiet (fail)
      go_wp2
      go_roundw
      case rel => exact ⟨k + 1, by go_num, hlt, BL.out.trans ((below_drewN _ _).mono BL.out.size)⟩
      case measure => simp [intOf]; omega
    · have hki : ¬ (k : Int) < (L.length : Int) := by omega
      go_wp2
      go_ret
      exact ⟨rfl, BL.out⟩
end
section
open Go.RowKit
theorem mKind_is {n : ByteArray} {k : Int} {w : World} (hn : n.size ≤ 65536) (h : Box (kindN n = k)) :
    Calls Tryd.prog 7 #[.string n] w fun e w' => e = .returned (.int .i64 k) ∧ Below w.heap.size w w' :=
  (mKind_any n w hn).mono fun e w' ⟨h1, h2⟩ => ⟨by rw [h1, h.out], h2⟩
theorem rKind_is {n : ByteArray} {k : Int} {w : World} (hn : n.size ≤ 4294967296) (h : Box (kindN n = k)) :
    Calls Tryd.prog 8 #[.string n] w fun e w' => e = .returned (.int .i64 k) ∧ Below w.heap.size w w' :=
  (rKind_any n w hn).mono fun e w' ⟨h1, h2⟩ => ⟨by rw [h1, h.out], h2⟩
theorem mName_is {k : Int} {x : ByteArray} {w : World} (hk : InI64 k) (h : Box (nameK k = x)) :
    Calls Tryd.prog 9 #[.int .i64 k] w fun e w' => e = .returned (.string x) ∧ Below w.heap.size w w' :=
  (mName_any k w hk).mono fun e w' ⟨h1, h2⟩ => ⟨by rw [h1, h.out], h2⟩
theorem vals_of {nm : ByteArray} {L : List F} (hv : Box (∀ x ∈ getL nm L, x.size ≤ 20000)) : Box (∀ x ∈ getL nm L, x.size ≤ 65000) := box (fun x hx => by have := hv.out x hx; omega)
theorem mems_of {nm : ByteArray} {L : List F} (hv : Box (∀ x ∈ getL nm L, x.size ≤ 20000)) : Box (∀ m ∈ allL nm L, m.length ≤ 20000) := box (fun m hm => by obtain ⟨x, hx, hle⟩ := all_mem hm; have := hv.out x hx; omega)
theorem mPrefs_is2 {k : Int} {a : Option Addr} {cap n : Nat} {L : List F} {X : List QP} {o : Bool} {w : World} (hk : InI64 k) (S : Box (Sm L)) (hv : Box (∀ x ∈ getL (nameK k) L, x.size ≤ 65000)) (hmz : Box (∀ m ∈ allL (nameK k) L, m.length ≤ 20000)) (hF : Fs w a L) (hW : Wts w) (h : Box (prefsV k L = X ∧ prefsO k L = o)) (hn : Box (L.length = n) := by exact box rfl) :
    Calls Tryd.prog 13 #[.int .i64 k, .slice a n cap] w fun e w' => ∃ p c, e = .returned (.tuple #[.slice p X.length c, .bool o]) ∧ Qs w' p X ∧ Below w.heap.size w w' := by
  have := mPrefs_any k a cap L w hk S hv hmz (box hF) hW
  rw [h.out.1, h.out.2, hn.out] at this; exact this
theorem mPrefs_is {k : Int} {a : Option Addr} {cap n : Nat} {L : List F} {X : List QP} {o : Bool} {w : World} (hk : InI64 k) (S : Box (Sm L)) (hv : Box (∀ x ∈ getL (nameK k) L, x.size ≤ 20000)) (hF : Fs w a L) (hW : Wts w) (h : Box (prefsV k L = X ∧ prefsO k L = o)) (hn : Box (L.length = n) := by exact box rfl) :
    Calls Tryd.prog 13 #[.int .i64 k, .slice a n cap] w fun e w' => ∃ p c, e = .returned (.tuple #[.slice p X.length c, .bool o]) ∧ Qs w' p X ∧ Below w.heap.size w w' := by
  have := mPrefs_any k a cap L w hk S (vals_of hv) (mems_of hv) (box hF) hW
  rw [h.out.1, h.out.2, hn.out] at this; exact this
theorem rPrefs_is {k : Int} {a : Option Addr} {cap n : Nat} {L : List F} {X : List QP} {o : Bool} {w : World} (hk : InI64 k) (S : Box (Sm L)) (hv : Box (∀ x ∈ getL (nameK k) L, x.size ≤ 20000)) (hF : Fs w a L) (h : Box (prefsV k L = X ∧ prefsO k L = o)) (hn : Box (L.length = n) := by exact box rfl) :
    Calls Tryd.prog 14 #[.int .i64 k, .slice a n cap] w fun e w' => ∃ p c, e = .returned (.tuple #[.slice p X.length c, .bool o]) ∧ Qs w' p X ∧ Below w.heap.size w w' := by
  have := rPrefs_any k a cap L w hk S (vals_of hv) (mems_of hv) (box hF)
  rw [h.out.1, h.out.2, hn.out] at this
  refine this.mono fun e w' ⟨v, h1, h2, h3⟩ => ?_
  obtain ⟨p, c, rfl, hQ, _⟩ := h2.qs
  exact ⟨p, c, h1, hQ, h3⟩
theorem mFmtPf_is {a : Option Addr} {cap : Nat} {L : List QP} {x : ByteArray} {w : World} (hl : L.length ≤ 65536) (hz : Box (∀ i (hi : i < L.length), L[i].1.size ≤ 65000)) (hq : Box (∀ i (hi : i < L.length), InI64 L[i].2)) (hF : Qs w a L) (hW : Wts w) (h : Box (fmtPf L = x)) :
    Calls Tryd.prog 17 #[.slice a L.length cap] w fun e w' => e = .returned (.string x) ∧ Below w.heap.size w w' :=
  (mFmtPrefs_any a cap L w hl hz hq (box hF) hW).mono fun e w' ⟨h1, h2⟩ => ⟨by rw [h1, h.out], h2⟩
theorem fs_one13 (a b : ByteArray) (w : World) (t : TypeId) : Fs (w.alloc (.cells #[.string a, .string b] t)) (some ⟨w.heap.size, 0, none⟩) [(a, b)] := by
  intro i hi
  refine ⟨w.heap.size, 0, rfl, ?_, ?_⟩
  all_goals
    rw [World.cell?_alloc_mark]
    match i, hi with
    | 0, _ => rfl
def aw13N : ByteArray := ⟨#[97, 99, 99, 101, 112, 116, 45, 108, 97, 110, 103, 117, 97, 103, 101]⟩
def aw13V : ByteArray := ⟨#[100, 97, 44, 32, 101, 110, 45, 103, 98, 59, 113, 61, 48, 46, 56, 44, 32, 101, 110, 59, 113, 61, 120]⟩
def aw13X : List QP := [(⟨#[100, 97]⟩, 1000), (⟨#[101, 110, 45, 103, 98]⟩, 800)]
theorem aw13_is : prefsV 2 [(aw13N, aw13V)] = aw13X ∧ prefsO 2 [(aw13N, aw13V)] = true := by decide +kernel
theorem one_sm13 {n v : ByteArray} (h1 : n.size ≤ 65536) (h2 : v.size ≤ 65536) : Sm [(n, v)] := by
  refine ⟨by simp, fun i hi => ?_⟩
  match i, hi with
  | 0, _ => exact ⟨h1, h2⟩
theorem get_small13 {nm n v : ByteArray} (h : v.size ≤ 20000) : ∀ x ∈ getL nm [(n, v)], x.size ≤ 20000 := by
  intro x hx
  unfold getL at hx
  obtain ⟨p, hp, rfl⟩ := List.mem_map.1 hx
  have := (List.mem_filter.1 hp).1
  rw [List.mem_singleton] at this
  rw [this]; exact h
theorem awake13_any (w : World) (hW : Wts w) : Calls Tryd.prog 11 #[] w fun e w' => e = .returned (.bool true) ∧ Below w.heap.size w w' := by
  have HT := box hW
  have HX := box aw13_is
  have S := box (one_sm13 (n := aw13N) (v := aw13V) (by decide) (by decide))
  have hv := box (get_small13 (nm := nameK 2) (n := aw13N) (v := aw13V) (by decide))
  clear hW
  go_enter Tryd.func11, Tryd.ntmps11
  go_wp2_with fail
  refine (mPrefs_is (L := [(aw13N, aw13V)]) (X := aw13X) ⟨by omega, by omega⟩ S hv (fs_one13 _ _ _ _) (HT.out.below (below_new _ _)) HX).mono ?_; rintro e w1 ⟨p1, c1, rfl, hQ1, hb1⟩
  have B1 := box ((below_new w _).trans (hb1.mono (below_new w _).size))
  obtain ⟨g, off, rfl, q0, q1⟩ := hQ1 1 (by decide)
  have q0' : w1.cell? ⟨g, off + 2, none⟩ = some (.string ⟨#[101, 110, 45, 103, 98]⟩) := q0
  have q1' : w1.cell? ⟨g, off + 2 + 1, none⟩ = some (.int .i64 800) := q1
  have hlen : aw13X.length = 2 := rfl
  clear hQ1 hb1 q0 q1
  rw [hlen]
  go_wp2
  go_ret
  exact ⟨rfl, B1.out⟩
theorem in13 {n : Int} (h : (Lit.int .i64 n).wf = true) : InI64 n := by
  unfold InI64
  simp [Lit.wf, IntKind.min, IntKind.max, IntKind.bits, IntKind.signed] at h
  omega
theorem kinds13_walk (n : ByteArray) (k : Int) (w : World) (S : n.size ≤ maxLen) (hk0 : (Lit.int .i64 k).wf = true) (hW : Wts w) :
    Calls Tryd.prog 3 #[.string n, .int .i64 k] w fun e w' => e = .returned (.bool true) ∧ Below w.heap.size w w' := by
  have HT := box hW
  have hk := in13 hk0
  clear hW hk0
  unfold maxLen at S
  by_cases h : 300 < n.size
  · have hi : (300 : Int) < (n.size : Int) := by omega
    go_enter Tryd.func3, Tryd.ntmps3
    go_wp2
    go_ret
    exact ⟨rfl, Below.refl _ _⟩
  · have hi : ¬ (300 : Int) < (n.size : Int) := by omega
    have hn : n.size ≤ 65536 := by omega
    have hn4 : n.size ≤ 4294967296 := by omega
    obtain ⟨i, h1⟩ : ∃ i, kindN n = i := ⟨_, rfl⟩
    obtain ⟨x, h2⟩ : ∃ x, nameK k = x := ⟨_, rfl⟩
    have HK := box h1
    have HN := box h2
    have e1 : (i == i) = true := by simp
    have e2 : (x.toList == x.toList) = true := by simp
    clear h1 h2
    go_enter Tryd.func3, Tryd.ntmps3
    go_wp2_with fail
    refine (mKind_is hn HK).mono ?_; rintro e w1 ⟨rfl, hb1⟩
    have B1 := box hb1
    clear hb1
    go_wp2_with fail
    refine (rKind_is hn4 HK).mono ?_; rintro e w2 ⟨rfl, hb2⟩
    have B2 := box (B1.out.trans (hb2.mono B1.out.size))
    clear hb2
    go_wp2_with fail
    refine (mName_is hk HN).mono ?_; rintro e w3 ⟨rfl, hb3⟩
    have B3 := box (B2.out.trans (hb3.mono B2.out.size))
    clear hb3
    go_wp2_with fail
    refine (rName_is hk HN).mono ?_; rintro e w4 ⟨rfl, rfl⟩
    go_wp2_with fail
    refine (awake13_any _ (HT.out.below B3.out)).mono ?_; rintro e w4 ⟨rfl, hb4⟩
    have B4 := box (B3.out.trans (hb4.mono B3.out.size))
    clear hb4
    go_wp2
    go_ret
    exact ⟨rfl, B4.out⟩
theorem prefs13_len (k : Int) (L : List F) : (prefsV k L).length ≤ 64 := by
  unfold prefsV
  split
  · unfold prefsL
    refine Nat.le_trans (List.length_filterMap_le _ _) ?_
    unfold allL; rw [List.length_take]; omega
  · simp
theorem keep_sm13 {L : List F} (h : keepF L = true) (nm : ByteArray) : Sm L ∧ ∀ x ∈ getL nm L, x.size ≤ 20000 := by
  obtain ⟨h1, h2⟩ := keep_parts h
  refine ⟨⟨by omega, fun i hi => by have := h2 i hi; omega⟩, fun x hx => ?_⟩
  unfold getL at hx
  obtain ⟨p, hp, rfl⟩ := List.mem_map.1 hx
  obtain ⟨i, hi, rfl⟩ := List.getElem_of_mem (List.mem_filter.1 hp).1
  have := h2 i hi; omega
set_option maxHeartbeats 1000000 in
theorem prefs13_walk (k : Int) (a : Option Addr) (cap : Nat) (L : List F) (w : World) (hk0 : (Lit.int .i64 k).wf = true) (hl : L.length ≤ maxLen) (hF : Fs w a L) (hc : L.length ≤ cap) (hW : Wts w) :
    Calls Tryd.prog 4 #[.int .i64 k, .slice a L.length cap] w fun e w' => e = .returned (.bool true) ∧ Below w.heap.size w w' := by
  have HT := box hW
  have hki := in13 hk0
  have F0 := box hF
  have HL := box hl
  clear hW hk0 hF hl hc
  rcases hk : keepF L with _ | _
  · have HK := box hk
    clear hk
    go_enter Tryd.func4, Tryd.ntmps4
    go_wp2_with fail
    refine (keepFields_any a cap L _ HL.out F0).mono ?_; rintro e w1 ⟨rfl, rfl⟩; rw [HK.out]
    go_wp2
    go_ret
    exact ⟨rfl, Below.refl _ _⟩
  · have HK := box hk
    obtain ⟨s1, s2⟩ := keep_sm13 hk (nameK k)
    have S := box s1
    have hv := box s2
    obtain ⟨X, h1⟩ : ∃ X, prefsV k L = X := ⟨_, rfl⟩
    obtain ⟨o, h2⟩ : ∃ o, prefsO k L = o := ⟨_, rfl⟩
    have hX6 : X.length ≤ 65536 := by rw [← h1]; have := prefs13_len k L; omega
    have HX := box (And.intro h1 h2)
    have e1 : (o == o) = true := by simp
    clear hk s1 s2 h1 h2
    go_enter Tryd.func4, Tryd.ntmps4
    go_wp2_with fail
    refine (keepFields_any a cap L _ HL.out F0).mono ?_; rintro e w1 ⟨rfl, rfl⟩; rw [HK.out]
    go_wp2_with fail
    refine (mPrefs_is hki S hv F0.out HT.out HX).mono ?_; rintro e w1 ⟨p1, c1, rfl, hQ1, hb1⟩
    have B1 := box hb1
    have F1 := box (F0.out.below hb1)
    have Q1 := box hQ1
    clear hb1 hQ1
    go_wp2_with fail
    refine (rPrefs_is hki S hv F1.out HX).mono ?_; rintro e w2 ⟨p2, c2, rfl, hQ2, hb2⟩
    have B2 := box (B1.out.trans (hb2.mono B1.out.size))
    have Q2 := box hQ2
    have R1 := box (Q1.out.below hb2)
    clear hb2 hQ2
    go_wp2_with fail
    refine (samePrefs_any p1 p2 c1 c2 X _ hX6 R1 Q2).mono ?_; rintro e w3 ⟨rfl, hb3⟩
    have B3 := box (B2.out.trans (hb3.mono B2.out.size))
    clear hb3
    go_wp2_with fail
    refine (awake13_any _ (HT.out.below B3.out)).mono ?_; rintro e w4 ⟨rfl, hb4⟩
    have B4 := box (B3.out.trans (hb4.mono B3.out.size))
    clear hb4
    go_wp2
    go_ret
    exact ⟨rfl, B4.out⟩
end
section
theorem cut_last {sep c : UInt8} (h34 : c ≠ 34) (h92 : c ≠ 92) (hs : c ≠ sep) : ∀ (f : Nat) (q : Bool) (l acc : List UInt8), l.length ≤ f → ∃ ps p, cutF sep f q l acc = ps ++ [p] ∧ cutF sep (f + 1) q (l ++ [c]) acc = ps ++ [p ++ [c]]
  | f, q, [], acc, _ => by
    refine ⟨[], acc, by rw [cutF_nil]; rfl, ?_⟩
    rw [List.nil_append, cutF_cons, if_neg (fun h => h92 h.2), if_neg h34, if_neg (fun h => hs h.1), cutF_nil]; rfl
  | 0, q, d :: r, acc, h => by simp at h
  | f + 1, q, d :: r, acc, h => by
    simp only [List.length_cons] at h
    rw [List.cons_append, cutF_cons, cutF_cons]
    by_cases h1 : q = true ∧ d = 92
    · rw [if_pos h1, if_pos h1]
      match r, h with
      | [], _ => exact ⟨[], acc ++ [d], rfl, by show cutF sep (f + 1) q [] (acc ++ [d, c]) = _; rw [cutF_nil]; simp⟩
      | e :: r2, h =>
        simp only [List.length_cons] at h
        exact cut_last h34 h92 hs f q r2 (acc ++ [d, e]) (by omega)
    · rw [if_neg h1, if_neg h1]
      by_cases h2 : d = 34
      · rw [if_pos h2, if_pos h2]; exact cut_last h34 h92 hs f (!q) r (acc ++ [d]) (by omega)
      · rw [if_neg h2, if_neg h2]
        by_cases h3 : d = sep ∧ q = false
        · rw [if_pos h3, if_pos h3]
          obtain ⟨ps, p, e1, e2⟩ := cut_last h34 h92 hs f q r [] (by omega)
          exact ⟨acc :: ps, p, by rw [e1]; rfl, by rw [e2]; rfl⟩
        · rw [if_neg h3, if_neg h3]; exact cut_last h34 h92 hs f q r (acc ++ [d]) (by omega)
theorem end_last {c : UInt8} (h34 : c ≠ 34) (h92 : c ≠ 92) : ∀ (f : Nat) (q : Bool) (l : List UInt8), l.length ≤ f → endF f q l = false → endF (f + 1) q (l ++ [c]) = false
  | f, q, [], _, h => by
    rw [endF_nil] at h
    rw [List.nil_append, endF_cons, if_neg (fun q => h92 q.2), if_neg h34, endF_nil]; exact h
  | 0, q, d :: r, hl, _ => by simp at hl
  | f + 1, q, d :: r, hl, h => by
    simp only [List.length_cons] at hl
    rw [endF_cons] at h
    rw [List.cons_append, endF_cons]
    by_cases h1 : q = true ∧ d = 92
    · rw [if_pos h1] at h ⊢
      match r, hl, h with
      | [], _, h => cases h
      | e :: r2, hl, h =>
        simp only [List.length_cons] at hl
        exact end_last h34 h92 f q r2 (by omega) h
    · rw [if_neg h1] at h ⊢
      by_cases h2 : d = 34
      · rw [if_pos h2] at h ⊢; exact end_last h34 h92 f (!q) r (by omega) h
      · rw [if_neg h2] at h ⊢; exact end_last h34 h92 f q r (by omega) h
theorem blank_chars {c : UInt8} (h : blankB c = true) : c ≠ 34 ∧ c ≠ 92 ∧ c ≠ 44 := by
  have key : ∀ n : Fin 256, blankB (UInt8.ofNat n.1) = true → UInt8.ofNat n.1 ≠ 34 ∧ UInt8.ofNat n.1 ≠ 92 ∧ UInt8.ofNat n.1 ≠ 44 := by decide +kernel
  have := key ⟨c.toNat, c.toNat_lt⟩
  simp only [UInt8.ofNat_toNat] at this
  exact this h
theorem trim_back {c : UInt8} (h : blankB c = true) (p : List UInt8) : trimL (p ++ [c]) = trimL p := by
  have := trim_around [] [c] p (by simp) (by simpa using h)
  simpa using this
theorem trim_front {c : UInt8} (h : blankB c = true) (p : List UInt8) : trimL (c :: p) = trimL p := by
  have := trim_around [c] [] p (by simpa using h) (by simp)
  simpa using this
theorem mem_back {c : UInt8} (h : blankB c = true) (l : List UInt8) : memL (cutL 44 (l ++ [c])) = memL (cutL 44 l) := by
  obtain ⟨h34, h92, h44⟩ := blank_chars h
  obtain ⟨ps, p, e1, e2⟩ := cut_last (sep := 44) h34 h92 h44 l.length false l [] (Nat.le_refl _)
  have hl : (l ++ [c]).length = l.length + 1 := by simp
  unfold cutL
  rw [hl, e1, e2, memL_append, memL_append]
  congr 1
  unfold memL
  simp only [List.map_cons, List.map_nil, trim_back h]
theorem mem_front {c : UInt8} (h : blankB c = true) (l : List UInt8) : memL (cutL 44 (c :: l)) = memL (cutL 44 l) := by
  obtain ⟨h34, h92, h44⟩ := blank_chars h
  unfold cutL
  show memL (cutF 44 (l.length + 1) false (c :: l) []) = _
  rw [cutF_cons, if_neg (by simp), if_neg h34, if_neg (fun q => h44 q.1)]
  obtain ⟨p, ps, e1, e2⟩ := cut_head (sep := 44) [c] l.length false l [] (Nat.le_refl _)
  show memL (cutF 44 l.length false l ([c] ++ [])) = _
  rw [e1, e2]
  unfold memL
  simp only [List.map_cons, List.singleton_append, trim_front h]
theorem end_blanks {a : List UInt8} (h : endF a.length false a = false) : endF (32 :: (a ++ [32])).length false (32 :: (a ++ [32])) = false := by
  show endF ((a ++ [32]).length + 1) false (32 :: (a ++ [32])) = false
  have e : (a ++ [(32 : UInt8)]).length = a.length + 1 := by simp
  rw [endF_cons, if_neg (by simp), if_neg (by decide), e]
  exact end_last (by decide) (by decide) a.length false a (Nat.le_refl _) h
def textAB (a b : List UInt8) : List UInt8 := 32 :: (a ++ [32]) ++ 44 :: (9 :: (b ++ [9]))
theorem split_lines {a b : List UInt8} (h : endF a.length false a = false) : splitL (textAB a b) = (splitL a ++ splitL b).take 64 := by
  unfold textAB
  rw [split_two (end_blanks h), mem_front (by decide), mem_back (by decide), mem_front (by decide), mem_back (by decide)]
  unfold splitL
  exact (take_two _ _ 64).symm
theorem prefs_lines {k : Int} {a b t : ByteArray} (h0 : nameK k ≠ ⟨#[]⟩) (h : endF a.data.toList.length false a.data.toList = false) (ht : t.data.toList = textAB a.data.toList b.data.toList) :
    prefsV k [(nameK k, t)] = prefsV k [(nameK k, a), (bs (lowL (nameK k).data.toList), b)] ∧ prefsO k [(nameK k, t)] = true ∧ prefsO k [(nameK k, a), (bs (lowL (nameK k).data.toList), b)] = true := by
  have m1 : ∀ x : ByteArray, nmd (nameK k) (nameK k, x) = true := fun x => fold_refl _
  have m2 : ∀ x : ByteArray, nmd (nameK k) (bs (lowL (nameK k).data.toList), x) = true := fun x => by
    show foldL (lowL (nameK k).data.toList) (nameK k).data.toList = true
    rw [fold_symm]; exact fold_low _
  have o1 : prefsO k [(nameK k, t)] = true := by unfold prefsO; rw [decide_eq_true h0]; simp [m1]
  have o2 : prefsO k [(nameK k, a), (bs (lowL (nameK k).data.toList), b)] = true := by unfold prefsO; rw [decide_eq_true h0]; simp [m1]
  refine ⟨?_, o1, o2⟩
  have g1 : getL (nameK k) [(nameK k, t)] = [t] := by unfold getL; simp [m1]
  have g2 : getL (nameK k) [(nameK k, a), (bs (lowL (nameK k).data.toList), b)] = [a, b] := by unfold getL; simp [m1, m2]
  unfold prefsV
  rw [o1, o2, if_pos rfl, if_pos rfl]
  unfold prefsL allL allF
  rw [g1, g2]
  simp only [List.flatMap_cons, List.flatMap_nil, List.append_nil]
  rw [ht, split_lines h, List.take_take, Nat.min_self]
end
section
open Go.RowKit
theorem rLow13_is {s x : ByteArray} {w : World} (hs : s.size ≤ 4294967296) (h : Box (bs (lowL s.data.toList) = x)) :
    Calls Tryd.prog 19 #[.string s] w fun e w' => e = .returned (.string x) ∧ Below w.heap.size w w' :=
  (rLower_any s w hs).mono fun e w' ⟨h1, h2⟩ => ⟨by rw [h1, ← h.out]; rfl, h2⟩
theorem rSplitLen_is {s : ByteArray} {n : Nat} {w : World} (hs : s.size ≤ 65000) (h : Box ((splitL s.data.toList).length = n)) :
    Calls Tryd.prog 18 #[.string s] w fun e w' => ∃ p c, e = .returned (.slice p n c) ∧ Below w.heap.size w w' :=
  (rSplit_any s w hs).mono fun e w' ⟨v, h1, h2, h3⟩ => by
    obtain ⟨p, c, rfl, _, _⟩ := h2.ss
    have hl : (splitB s.data.toList).length = n := by unfold splitB; rw [List.length_map]; exact h.out
    rw [hl] at h1
    exact ⟨p, c, h1, h3⟩
theorem fs_two13 (a b c d : ByteArray) (w : World) (t : TypeId) : Fs (w.alloc (.cells #[.string a, .string b, .string c, .string d] t)) (some ⟨w.heap.size, 0, none⟩) [(a, b), (c, d)] := by
  intro i hi
  refine ⟨w.heap.size, 0, rfl, ?_, ?_⟩
  all_goals
    rw [World.cell?_alloc_mark]
    match i, hi with
    | 0, _ => rfl
    | 1, _ => rfl
theorem two_sm13 {n v m u : ByteArray} (h1 : n.size ≤ 65536) (h2 : v.size ≤ 65536) (h3 : m.size ≤ 65536) (h4 : u.size ≤ 65536) : Sm [(n, v), (m, u)] := by
  refine ⟨by simp, fun i hi => ?_⟩
  match i, hi with
  | 0, _ => exact ⟨h1, h2⟩
  | 1, _ => exact ⟨h3, h4⟩
theorem two_small13 {nm n v m u : ByteArray} (h : v.size ≤ 20000) (h2 : u.size ≤ 20000) : ∀ x ∈ getL nm [(n, v), (m, u)], x.size ≤ 20000 := by
  intro x hx
  unfold getL at hx
  obtain ⟨p, hp, rfl⟩ := List.mem_map.1 hx
  have := (List.mem_filter.1 hp).1
  simp only [List.mem_cons, List.not_mem_nil, or_false] at this
  rcases this with rfl | rfl
  · exact h
  · exact h2
theorem name_ne {k : Int} (h1 : 1 ≤ k) (h4 : k ≤ 4) : nameK k ≠ ⟨#[]⟩ := by
  obtain rfl | rfl | rfl | rfl : k = 1 ∨ k = 2 ∨ k = 3 ∨ k = 4 := by omega
  all_goals decide
set_option maxHeartbeats 2000000 in
theorem lines13_in (k : Int) (a b : ByteArray) (w : World) (h1 : a.size ≤ 200) (h2 : b.size ≤ 200) (hk1 : 1 ≤ k) (hk4 : k ≤ 4) (HT : Box (Wts w)) :
    Calls Tryd.prog 6 #[.int .i64 k, .string a, .string b] w fun e w' => e = .returned (.bool true) ∧ Below w.heap.size w w' := by
  have i1 : ¬ (200 : Int) < (a.size : Int) := by omega
  have i2 : ¬ (200 : Int) < (b.size : Int) := by omega
  have j1 : ¬ k < 1 := by omega
  have j4 : ¬ 4 < k := by omega
  have hki : InI64 k := ⟨by omega, by omega⟩
  have ha6 : a.size ≤ 65000 := by omega
  obtain ⟨n1, hn1⟩ : ∃ n, (splitL (a.data.toList ++ [44, 120])).length = n := ⟨_, rfl⟩
  obtain ⟨n2, hn2⟩ : ∃ n, (splitL a.data.toList).length = n := ⟨_, rfl⟩
  obtain ⟨ax, hax⟩ : ∃ ax, a ++ (⟨#[44, 120]⟩ : ByteArray) = ax := ⟨_, rfl⟩
  have hz1 : ax.size ≤ 65000 := by rw [← hax, ByteArray.size_append]; show a.size + 2 ≤ 65000; omega
  have r0 : ∀ w, (Op.stringOp .add a ⟨#[44, 120]⟩).run Tryd.prog w = .ok (.string ax) w := fun w => by
    have := run_string_add_sum (P := Tryd.prog) w a ⟨#[44, 120]⟩ (by show a.size + 2 ≤ 9223372036854775807; omega)
    rw [hax] at this; exact this
  have H1 : Box ((splitL ax.data.toList).length = n1) := box (by rw [← hax, ← hn1]; simp [ByteArray.data_append])
  have H2 := box hn2
  have hn2l : n2 ≤ 64 := by rw [← hn2]; exact split_len _
  have hwr : IntKind.i64.wrap ((n2 : Int) + 1) = (n2 : Int) + 1 := by simp [IntKind.wrap, IntKind.bits, IntKind.signed]; omega
  by_cases hne : n1 = n2 + 1
  · have hni : ((n1 : Int) != (n2 : Int) + 1) = false := by rw [hne]; simp
    have he := ends_open (a := a.data.toList) (by rw [hn1, hn2, hne])
    obtain ⟨nm, hnm⟩ : ∃ nm, nameK k = nm := ⟨_, rfl⟩
    obtain ⟨lw, hlw⟩ : ∃ lw, bs (lowL nm.data.toList) = lw := ⟨_, rfl⟩
    have hnz : nm.size ≤ 15 := by rw [← hnm]; exact name_size k
    have hlz : lw.size ≤ 15 := by rw [← hlw, bs_size]; simp [lowL]; exact hnz
    have hn4 : nm.size ≤ 4294967296 := by omega
    obtain ⟨t1, ht1⟩ : ∃ t, (⟨#[32]⟩ : ByteArray) ++ a = t := ⟨_, rfl⟩
    obtain ⟨t2, ht2⟩ : ∃ t, t1 ++ (⟨#[32, 44, 9]⟩ : ByteArray) = t := ⟨_, rfl⟩
    obtain ⟨t3, ht3⟩ : ∃ t, t2 ++ b = t := ⟨_, rfl⟩
    obtain ⟨t, ht⟩ : ∃ t, t3 ++ (⟨#[9]⟩ : ByteArray) = t := ⟨_, rfl⟩
    have z1 : t1.size = 1 + a.size := by rw [← ht1, ByteArray.size_append]; rfl
    have z2 : t2.size = 4 + a.size := by rw [← ht2, ByteArray.size_append, z1]; show 1 + a.size + 3 = _; omega
    have z3 : t3.size = 4 + a.size + b.size := by rw [← ht3, ByteArray.size_append, z2]
    have z4 : t.size = 5 + a.size + b.size := by rw [← ht, ByteArray.size_append, z3]; show 4 + a.size + b.size + 1 = _; omega
    have r1 : ∀ w, (Op.stringOp .add ⟨#[32]⟩ a).run Tryd.prog w = .ok (.string t1) w := fun w => by
      have := run_string_add_sum (P := Tryd.prog) w ⟨#[32]⟩ a (by show 1 + a.size ≤ 9223372036854775807; omega)
      rw [ht1] at this; exact this
    have r2 : ∀ w, (Op.stringOp .add t1 ⟨#[32, 44, 9]⟩).run Tryd.prog w = .ok (.string t2) w := fun w => by
      have := run_string_add_sum (P := Tryd.prog) w t1 ⟨#[32, 44, 9]⟩ (by show t1.size + 3 ≤ 9223372036854775807; omega)
      rw [ht2] at this; exact this
    have r3 : ∀ w, (Op.stringOp .add t2 b).run Tryd.prog w = .ok (.string t3) w := fun w => by
      have := run_string_add_sum (P := Tryd.prog) w t2 b (by omega)
      rw [ht3] at this; exact this
    have r4 : ∀ w, (Op.stringOp .add t3 ⟨#[9]⟩).run Tryd.prog w = .ok (.string t) w := fun w => by
      have := run_string_add_sum (P := Tryd.prog) w t3 ⟨#[9]⟩ (by show t3.size + 1 ≤ 9223372036854775807; omega)
      rw [ht] at this; exact this
    have htl : t.data.toList = textAB a.data.toList b.data.toList := by
      rw [← ht, ← ht3, ← ht2, ← ht1]; unfold textAB; simp [ByteArray.data_append]
    obtain ⟨f1, f2, f3⟩ := prefs_lines (k := k) (a := a) (b := b) (name_ne hk1 hk4) he htl
    rw [hnm] at f1 f2 f3
    rw [hlw] at f1 f3
    obtain ⟨X, hX⟩ : ∃ X, prefsV k [(nm, a), (lw, b)] = X := ⟨_, rfl⟩
    have hX6 : X.length ≤ 65536 := by rw [← hX]; have := prefs13_len k [(nm, a), (lw, b)]; omega
    have HX := box (And.intro hX f3)
    have HY := box (And.intro (f1.trans hX) f2)
    have HN := box hnm
    have HLW := box hlw
    have S1 := box (one_sm13 (n := nm) (v := t) (by omega) (by omega))
    have S2 := box (two_sm13 (n := nm) (v := a) (m := lw) (u := b) (by omega) (by omega) (by omega) (by omega))
    have hv1 := box (get_small13 (nm := nameK k) (n := nm) (v := t) (by omega))
    have hv2 := box (two_small13 (nm := nameK k) (n := nm) (v := a) (m := lw) (u := b) (by omega) (by omega))
    clear hn1 hn2 hax hne he hnm hlw ht1 ht2 ht3 ht htl f1 f2 f3 hX
    go_enter Tryd.func6, Tryd.ntmps6
    go_wp2_with fail
    refine (rSplitLen_is hz1 H1).mono ?_; rintro e w1 ⟨p1, c1, rfl, hb1⟩
    have B1 := box hb1
    clear hb1
    go_wp2_with fail
    refine (rSplitLen_is ha6 H2).mono ?_; rintro e w2 ⟨p2, c2, rfl, hb2⟩
    have B2 := box (B1.out.trans (hb2.mono B1.out.size))
    clear hb2
    go_wp2_with fail
    refine (mName_is hki HN).mono ?_; rintro e w3 ⟨rfl, hb3⟩
    have B3 := box (B2.out.trans (hb3.mono B2.out.size))
    clear hb3
    go_wp2_with fail
    refine (rLow13_is hn4 HLW).mono ?_; rintro e w4 ⟨rfl, hb4⟩
    have B4 := box (B3.out.trans (hb4.mono B3.out.size))
    clear hb4
    go_wp2_with fail
    refine (mPrefs_is (L := [(nm, a), (lw, b)]) hki S2 hv2 (fs_two13 _ _ _ _ _ _) (HT.out.below (B4.out.alloc B4.out.size _)) HX).mono ?_; rintro e w5 ⟨p5, c5, rfl, hQ5, hb5⟩
    have B5 := box ((B4.out.alloc B4.out.size (.cells #[.string nm, .string a, .string lw, .string b] 36)).trans (hb5.mono (B4.out.alloc B4.out.size (.cells #[.string nm, .string a, .string lw, .string b] 36)).size))
    have Q5 := box hQ5
    clear hb5 hQ5
    go_wp2_with fail
    refine (mPrefs_is (L := [(nm, t)]) hki S1 hv1 (fs_one13 _ _ _ _) (HT.out.below (B5.out.alloc B5.out.size _)) HY).mono ?_; rintro e w6 ⟨p6, c6, rfl, hQ6, hb6⟩
    have R5 := box ((Q5.out.below (below_new _ (.cells #[.string nm, .string t] 36))).below hb6)
    have B6 := box ((B5.out.alloc B5.out.size (.cells #[.string nm, .string t] 36)).trans (hb6.mono (B5.out.alloc B5.out.size (.cells #[.string nm, .string t] 36)).size))
    have Q6 := box hQ6
    clear hb6 hQ6
    go_wp2_with fail
    refine (samePrefs_any p5 p6 c5 c6 X _ hX6 R5 Q6).mono ?_; rintro e w7 ⟨rfl, hb7⟩
    have B7 := box (B6.out.trans (hb7.mono B6.out.size))
    clear hb7
    go_wp2_with fail
    refine (awake13_any _ (HT.out.below B7.out)).mono ?_; rintro e w8 ⟨rfl, hb8⟩
    have B8 := box (B7.out.trans (hb8.mono B7.out.size))
    clear hb8
    go_wp2
    go_ret
    exact ⟨rfl, B8.out⟩
  · have hni : ((n1 : Int) != (n2 : Int) + 1) = true := by rw [bne_iff_ne]; omega
    clear hn1 hn2 hax hne
    go_enter Tryd.func6, Tryd.ntmps6
    go_wp2_with fail
    refine (rSplitLen_is hz1 H1).mono ?_; rintro e w1 ⟨p1, c1, rfl, hb1⟩
    have B1 := box hb1
    clear hb1
    go_wp2_with fail
    refine (rSplitLen_is ha6 H2).mono ?_; rintro e w2 ⟨p2, c2, rfl, hb2⟩
    have B2 := box (B1.out.trans (hb2.mono B1.out.size))
    clear hb2
    go_wp2
    go_ret
    exact ⟨rfl, B2.out⟩
theorem lines13_walk (k : Int) (a b : ByteArray) (w : World) (hk0 : (Lit.int .i64 k).wf = true) (S1 : a.size ≤ maxLen) (S2 : b.size ≤ maxLen) (hW : Wts w) :
    Calls Tryd.prog 6 #[.int .i64 k, .string a, .string b] w fun e w' => e = .returned (.bool true) ∧ Below w.heap.size w w' := by
  have HT := box hW
  have hki := in13 hk0
  clear hW hk0
  unfold maxLen at S1 S2
  by_cases h1 : 200 < a.size
  · have i1 : (200 : Int) < (a.size : Int) := by omega
    go_enter Tryd.func6, Tryd.ntmps6
    go_wp2
    go_ret
    exact ⟨rfl, Below.refl _ _⟩
  · have i1 : ¬ (200 : Int) < (a.size : Int) := by omega
    by_cases h2 : 200 < b.size
    · have i2 : (200 : Int) < (b.size : Int) := by omega
      go_enter Tryd.func6, Tryd.ntmps6
      go_wp2
      go_ret
      exact ⟨rfl, Below.refl _ _⟩
    · have i2 : ¬ (200 : Int) < (b.size : Int) := by omega
      by_cases h3 : k < 1
      · go_enter Tryd.func6, Tryd.ntmps6
        go_wp2
        go_ret
        exact ⟨rfl, Below.refl _ _⟩
      · by_cases h4 : 4 < k
        · go_enter Tryd.func6, Tryd.ntmps6
          go_wp2
          go_ret
          exact ⟨rfl, Below.refl _ _⟩
        · exact lines13_in k a b w (by omega) (by omega) (by omega) (by omega) HT
end
section
theorem pc_tok {v p : List UInt8} (hv : tokL v = true) (h : Piece 44 p) : Piece 44 (v ++ p) :=
  Piece.plain (fun c hc => ⟨(tok_not (tok_byte hv c hc)).1, (tok_not (tok_byte hv c hc)).2.2.2.1⟩) h
theorem pc_val (v : List UInt8) {p : List UInt8} (h : Piece 44 p) : Piece 44 (valP v ++ p) := by
  unfold valP
  split
  · rename_i ht; exact pc_tok ht h
  · exact Piece.quote 44 v h
theorem pc_fmt : ∀ (L : List F) {v : List UInt8}, (∀ q, Piece 44 q → Piece 44 (v ++ q)) → (∀ p ∈ L, GoodP p) → Piece 44 (fmtPL v L)
  | [], v, hv, _ => by
    have := hv [] (Piece.nil 44)
    unfold fmtPL; simpa using this
  | p :: L, v, hv, h => by
    have ih := pc_fmt L (v := v ++ 59 :: oneP p) (fun q hq => by
      rw [List.append_assoc, List.cons_append]
      refine hv _ (Piece.cons (by decide) (by decide) ?_)
      unfold oneP
      rw [List.append_assoc, List.cons_append]
      exact pc_tok (h p (by simp)).1 (Piece.cons (by decide) (by decide) (pc_val _ hq))) (fun q hq => h q (by simp [hq]))
    unfold fmtPL at ih ⊢
    rw [List.flatMap_cons, ← List.append_assoc]
    exact ih
theorem first_ok {v r : List UInt8} (hv : tokL v = true) : ∀ c r', v ++ r = c :: r' → blankB c = false := by
  intro c r' h
  match v, hv, h with
  | d :: v', hv, h =>
    simp only [List.cons_append, List.cons.injEq] at h
    obtain ⟨rfl, _⟩ := h
    exact (tok_more (tok_byte hv _ (by simp))).2.2.2.2
  | [], hv, _ => exact absurd rfl (tok_ne hv)
theorem last_tok {v : List UInt8} (hv : tokL v = true) : ∀ c r, v = r ++ [c] → blankB c = false := by
  intro c r h
  exact (tok_more (tok_byte hv c (by rw [h]; simp))).2.2.2.2
theorem last_app13 {x y : List UInt8} (hy : y ≠ []) (h : ∀ c r, y = r ++ [c] → blankB c = false) : ∀ c r, x ++ y = r ++ [c] → blankB c = false := by
  intro c r e
  obtain ⟨y', d, rfl⟩ : ∃ y' d, y = y' ++ [d] := ⟨y.dropLast, y.getLast hy, (List.dropLast_concat_getLast hy).symm⟩
  have e2 : (x ++ (y' ++ [d])).getLast? = (r ++ [c]).getLast? := by rw [e]
  rw [← List.append_assoc, List.getLast?_append, List.getLast?_append] at e2
  simp at e2
  subst e2
  exact h d y' rfl
theorem fmt_last {v : List UInt8} (hv : v ≠ []) (hl : ∀ c r, v = r ++ [c] → blankB c = false) : ∀ (L : List F), ∀ c r, fmtPL v L = r ++ [c] → blankB c = false
  | [] => by unfold fmtPL; simpa using hl
  | p :: L => by
    have ih := fmt_last (v := v ++ 59 :: oneP p) (by simp [hv]) (by
      have e : v ++ 59 :: oneP p = (v ++ 59 :: (p.1.data.toList ++ [61])) ++ valP p.2.data.toList := by unfold oneP; simp
      rw [e]
      exact last_app13 (val_ne _) (last_val _)) L
    unfold fmtPL at ih ⊢
    rw [List.flatMap_cons, ← List.append_assoc]
    exact ih
/-- a text that is a member -/
def IsMem (m : List UInt8) : Prop := m ≠ [] ∧ trimL m = m ∧ cutL 44 m = [m] ∧ endF m.length false m = false
theorem fmt_mem {v : List UInt8} {L : List F} (hp : ∀ q, Piece 44 q → Piece 44 (v ++ q)) (hne : v ≠ []) (hf : ∀ r, ∀ c r', v ++ r = c :: r' → blankB c = false) (hl : ∀ c r, v = r ++ [c] → blankB c = false) (hL : ∀ p ∈ L, GoodP p) : IsMem (fmtPL v L) := by
  have hP := pc_fmt L hp hL
  refine ⟨by unfold fmtPL; simp [hne], ?_, cut_piece hP, hP.2⟩
  have := trim_char [] (fmtPL v L) [] (by simp) (by simp) (fun c r h => hf _ c r h) (fmt_last hne hl L)
  simpa using this
def qPar (q : Int) : F := (⟨#[113]⟩, bs (fmtQ q))
theorem fmtQ_tok {q : Int} (h0 : 0 ≤ q) (h1 : q ≤ 1000) : tokL (fmtQ q) = true := by
  have key : ∀ n : Fin 1001, tokL (fmtQ (n.1 : Int)) = true := by decide +kernel
  have := key ⟨q.toNat, by omega⟩
  simp only at this
  rwa [show ((q.toNat : Nat) : Int) = q from by omega] at this
theorem qPar_good {q : Int} (h0 : 0 ≤ q) (h1 : q ≤ 1000) : GoodP (qPar q) := by
  refine ⟨by show tokL [113] = true; decide +kernel, by show lowL [113] = [113]; decide +kernel, ?_⟩
  show textL (fmtQ q) = true
  exact tok_text (fmtQ_tok h0 h1)
theorem qPar_is (q : Int) : isQ (qPar q) = true := by unfold isQ qPar; simp
theorem qPar_one {q : Int} (h0 : 0 ≤ q) (h1 : q ≤ 1000) : 59 :: oneP (qPar q) = 59 :: 113 :: 61 :: fmtQ q := by
  unfold oneP qPar
  show 59 :: ([113] ++ 61 :: valP (fmtQ q)) = _
  rw [val_tok (fmtQ_tok h0 h1)]; rfl
theorem fmt_snoc (v : List UInt8) (L : List F) (p : F) : fmtPL v (L ++ [p]) = fmtPL v L ++ 59 :: oneP p := by unfold fmtPL; simp
/-- the parameters that are written: those before q, and q unless it is 1000 -/
def withQ (P : List F) (q : Int) : List F := if q = 1000 then P else P ++ [qPar q]
theorem one_with {v : List UInt8} {P : List F} {q : Int} {r : ByteArray} (hr : r.data.toList = fmtPL v P) (h0 : 0 ≤ q) (h1 : q ≤ 1000) : onePref (r, q) = fmtPL v (withQ P q) := by
  unfold onePref withQ
  simp only
  by_cases h : q = 1000
  · rw [if_pos h, if_pos h, List.append_nil, hr]
  · rw [if_neg h, if_neg h, fmt_snoc, qPar_one h0 h1, hr]
theorem with_good {P : List F} {q : Int} (hP : ∀ p ∈ P, GoodP p) (h0 : 0 ≤ q) (h1 : q ≤ 1000) : ∀ p ∈ withQ P q, GoodP p := by
  unfold withQ
  split
  · exact hP
  · intro p hp
    rcases List.mem_append.1 hp with h | h
    · exact hP p h
    · rw [List.mem_singleton.1 h]; exact qPar_good h0 h1
theorem with_at {P : List F} {q : Int} (hP : ∀ p ∈ P, isQ p = false) : atQ (withQ P q) = P.length := by
  refine atQ_is (fun j hj hjk => ?_) ?_
  · have e : (withQ P q)[j] = P[j] := by
      unfold withQ at hj ⊢
      split
      · rfl
      · rw [List.getElem_append_left hjk]
    rw [e]; exact hP _ (List.getElem_mem _)
  · unfold withQ
    split
    · exact .inl rfl
    · refine .inr ⟨by simp, ?_⟩
      rw [List.getElem_append_right (by omega)]
      simp [qPar_is]
theorem with_qual {P : List F} {q : Int} (hP : ∀ p ∈ P, isQ p = false) (h0 : 0 ≤ q) (h1 : q ≤ 1000) : qualP (withQ P q) = some q := by
  have ha := with_at (q := q) hP
  unfold qualP
  by_cases h : q = 1000
  · have e : withQ P q = P := by unfold withQ; rw [if_pos h]
    rw [dif_neg (by rw [ha, e]; omega), h]
  · have e : withQ P q = P ++ [qPar q] := by unfold withQ; rw [if_neg h]
    have hlt : atQ (withQ P q) < (withQ P q).length := by rw [ha, e]; simp
    rw [dif_pos hlt]
    have e2 : ((withQ P q)[atQ (withQ P q)]'hlt) = qPar q := by
      have : ∀ (M : List F) (n : Nat) (hn : n < M.length), M = P ++ [qPar q] → n = P.length → M[n] = qPar q := by
        intro M n hn hM hnn
        subst hM; subst hnn
        rw [List.getElem_append_right (by omega)]; simp
      exact this _ _ hlt e ha
    rw [e2]
    exact qv_read q h0 h1
theorem with_take {P : List F} {q : Int} : (withQ P q).take P.length = P := by
  unfold withQ
  split
  · rw [List.take_length]
  · rw [List.take_left']; rfl
theorem qv_bounds {l : List UInt8} {q : Int} (h : qvL l = some q) : 0 ≤ q ∧ q ≤ 1000 := by
  rw [← sel_cut] at h
  cases hf : fracO (cutQ l).2 with
  | none => rw [hf] at h; cases h
  | some t =>
    have hb := frac_bd hf
    rw [hf] at h
    have h' : (if (cutQ l).1 = [48] then some t else if (cutQ l).1 = [49] ∧ t = 0 then some 1000 else none) = some q := h
    split at h'
    · cases h'; omega
    · split at h'
      · cases h'; omega
      · cases h'
end
section
theorem atQ_before : ∀ {L : List F} {j : Nat} (hj : j < L.length), j < atQ L → isQ L[j] = false
  | p :: L, j, hj, h => by
    unfold atQ at h
    rw [List.takeWhile_cons] at h
    by_cases hp : isQ p = true
    · rw [if_neg (by rw [hp]; simp)] at h; simp at h
    · have hp' : isQ p = false := by simpa using hp
      rw [if_pos (by rw [hp']; rfl), List.length_cons] at h
      match j, hj, h with
      | 0, _, _ => exact hp'
      | j + 1, hj, h => exact atQ_before (L := L) (by simpa using hj) (by unfold atQ; omega)
theorem cut_sum2 {sep : UInt8} : ∀ (f : Nat) (q : Bool) (l acc : List UInt8), ((cutF sep f q l acc).map List.length).sum + (cutF sep f q l acc).length ≤ acc.length + l.length + 1
  | f, q, [], acc => by rw [cutF_nil]; simp
  | 0, q, c :: r, acc => by unfold cutF; simp
  | f + 1, q, c :: r, acc => by
    rw [cutF_cons]
    split
    · match r with
      | [] => simp
      | d :: r2 =>
        have := cut_sum2 (sep := sep) f q r2 (acc ++ [c, d])
        simp only [List.length_append, List.length_cons, List.length_nil] at this ⊢; omega
    · split
      · have := cut_sum2 (sep := sep) f (!q) r (acc ++ [c])
        simp only [List.length_append, List.length_cons, List.length_nil] at this ⊢; omega
      · split
        · have := cut_sum2 (sep := sep) f q r []
          simp only [List.map_cons, List.sum_cons, List.length_cons, List.length_nil] at this ⊢; omega
        · have := cut_sum2 (sep := sep) f q r (acc ++ [c])
          simp only [List.length_append, List.length_cons, List.length_nil] at this ⊢; omega
theorem cut_sizes2 {c : UInt8} {l : List UInt8} (h : cutB c l = true) : (cut1 c l).length + 1 + (cut2 c l).length ≤ l.length := by
  have := congrArg List.length (cut_join h)
  rw [List.length_append, List.length_cons] at this; omega
theorem param_size2 {x : List UInt8} {p : F} (h : paramL x = some p) : p.1.size + p.2.size + 1 ≤ x.length := by
  have hlow : (lowL (cut1 61 x)).length = (cut1 61 x).length := lowL_len _
  unfold paramL at h
  split at h
  · cases h
  · rename_i hc
    have hb : cutB 61 x = true := by
      cases hh : cutB 61 x with
      | true => rfl
      | false => exact absurd (.inl hh) hc
    have hs := cut_sizes2 hb
    split at h
    · cases h; rw [bs_size, bs_size]; omega
    · cases hu : unqL (cut2 61 x) with
      | none => rw [hu] at h; cases h
      | some u => rw [hu] at h; cases h; have := (unq_facts hu).1; rw [bs_size, bs_size]; omega
theorem parF_size2 : ∀ (ps : List (List UInt8)) (acc L : List F), parF ps acc = some L → szF L + L.length + L.length ≤ szF acc + acc.length + acc.length + (ps.map List.length).sum + ps.length
  | [], acc, L, h => by unfold parF at h; cases h; simp
  | p :: ps, acc, L, h => by
    unfold parF at h
    split at h
    · have := parF_size2 ps acc L h
      simp only [List.map_cons, List.sum_cons, List.length_cons]; omega
    · cases hp : paramL (trimL p) with
      | none => rw [hp] at h; cases h
      | some f =>
        rw [hp] at h
        have g := param_size2 hp
        have ht := trim_le p
        have i := parF_size2 ps (acc ++ [f]) L h
        have e : szF (acc ++ [f]) = szF acc + (f.1.size + f.2.size) := by simp [szF]
        rw [e, List.length_append] at i
        simp only [List.map_cons, List.sum_cons, List.length_cons, List.length_nil] at i ⊢; omega
theorem par_size2 {s v : List UInt8} {L : List F} (h : parL s = some (v, L)) : v.length + szF L + 2 * L.length ≤ s.length := by
  unfold parL at h
  cases hc : cutL 59 s with
  | nil => rw [hc] at h; cases h
  | cons x ps =>
    rw [hc] at h
    simp only at h
    split at h
    · cases h
    · cases hp : parF ps [] with
      | none => rw [hp] at h; cases h
      | some K =>
        rw [hp] at h
        cases h
        have i := parF_size2 ps [] L hp
        have hsum := cut_sum2 (sep := 59) s.length false s []
        rw [show cutF 59 s.length false s [] = x :: ps from hc] at hsum
        simp only [List.map_cons, List.sum_cons, List.length_nil, List.length_cons] at hsum i
        have ht := trim_le x
        have e : szF [] = 0 := rfl
        rw [e] at i
        omega
theorem szF_take (L : List F) (n : Nat) : szF (L.take n) ≤ szF L := by
  have e : szF L = szF (L.take n) + szF (L.drop n) := by
    conv => lhs; rw [← List.take_append_drop n L]
    unfold szF; rw [List.map_append, List.sum_append]
  omega
theorem one_len (p : QP) : (onePref p).length ≤ p.1.size + 8 := by
  unfold onePref
  have hz : p.1.data.toList.length = p.1.size := by simp
  have := fmtQ_le5 p.2
  rw [List.length_append]
  split
  · simp
  · simp only [List.length_cons]; omega
def chkR (n : Nat) : Bool := !(lettI (n : Int) || digitI (n : Int) || n == 45) || tokI (n : Int)
theorem chkR_all : ∀ x : Fin 256, chkR x.1 = true := by decide +kernel
theorem let_tok {c : UInt8} (h : lettI c.toNat = true ∨ digitI c.toNat = true ∨ c = 45) : tokI c.toNat = true := by
  have k := chkR_all ⟨c.toNat, c.toNat_lt⟩
  unfold chkR at k
  simp only at k
  rcases h with h | h | h
  · rw [h] at k; simpa using k
  · rw [h] at k; simpa using k
  · subst h; decide
theorem sub_char : ∀ (l : List UInt8), ∀ c ∈ l, c = 45 ∨ ∃ x ∈ subL l, c ∈ x
  | d :: r, c, hc => by
    obtain ⟨y, ys, e⟩ := subL_cons r
    have ih := sub_char r
    by_cases hd : d = 45
    · subst hd
      rw [subL_hyp]
      rcases List.mem_cons.1 hc with rfl | hc
      · exact .inl rfl
      · rcases ih c hc with q | ⟨x, hx, hcx⟩
        · exact .inl q
        · exact .inr ⟨x, by simp [hx], hcx⟩
    · rw [subL_chr hd e]
      rcases List.mem_cons.1 hc with rfl | hc
      · exact .inr ⟨_, List.mem_cons_self, by simp⟩
      · rcases ih c hc with q | ⟨x, hx, hcx⟩
        · exact .inl q
        · rw [e] at hx
          rcases List.mem_cons.1 hx with rfl | hx
          · exact .inr ⟨_, List.mem_cons_self, by simp [hcx]⟩
          · exact .inr ⟨x, by simp [hx], hcx⟩
theorem subOk_char {f : Bool} {x : List UInt8} (h : subOk f x = true) : ∀ c ∈ x, lettI c.toNat = true ∨ digitI c.toNat = true := by
  unfold subOk at h
  rw [Bool.and_eq_true, List.all_eq_true] at h
  intro c hc
  have := h.2 c hc
  rw [Bool.or_eq_true, Bool.and_eq_true] at this
  rcases this with q | ⟨_, q⟩
  · exact .inl q
  · exact .inr q
theorem subs_each {L : List (List UInt8)} (h : subsOk L = true) : ∀ x ∈ L, ∃ f, subOk f x = true := by
  match L, h with
  | [], _ => intro x hx; cases hx
  | y :: ys, h =>
    have h' : (subOk true y && ys.all (subOk false)) = true := h
    rw [Bool.and_eq_true, List.all_eq_true] at h'
    intro x hx
    rcases List.mem_cons.1 hx with rfl | hx
    · exact ⟨true, h'.1⟩
    · exact ⟨false, h'.2 x hx⟩
theorem range_tok {l : List UInt8} (h : rangeT l = true) : tokL l = true := by
  unfold rangeT at h
  rw [Bool.or_eq_true, decide_eq_true_eq] at h
  rcases h with rfl | h
  · decide +kernel
  · unfold tagL at h
    refine tok_mk ?_ fun c hc => ?_
    · intro e; subst e
      have : subsOk (subL []) = false := by decide +kernel
      rw [this] at h; cases h
    · rcases sub_char l c hc with q | ⟨x, hx, hcx⟩
      · exact let_tok (.inr (.inr q))
      · obtain ⟨f, hf⟩ := subs_each h x hx
        rcases subOk_char hf c hcx with q | q
        · exact let_tok (.inl q)
        · exact let_tok (.inr (.inl q))
theorem can_tok {k : Int} {v : List UInt8} (h : tokL v = true) : tokL (canL k v) = true := by
  unfold canL
  split
  · decide +kernel
  · split
    · decide +kernel
    · exact tok_low h
theorem can_two (v : List UInt8) : canL 2 v = lowL v := by unfold canL; rw [if_neg (by omega), if_neg (by omega)]
theorem again_acc {m : List UInt8} {r : ByteArray} {q : Int} (h : memP 1 m = some (r, q)) : memP 1 (onePref (r, q)) = some (r, q) ∧ IsMem (onePref (r, q)) ∧ r.size ≤ 2 * m.length + 1 := by
  unfold memP at h
  cases hp : parL m with
  | none => rw [hp] at h; cases h
  | some y =>
    obtain ⟨v, L⟩ := y
    rw [hp] at h; simp only at h
    cases hq : qualP L with
    | none => rw [hq] at h; cases h
    | some q' =>
      rw [hq] at h; simp only at h
      rw [if_pos trivial] at h
      cases hr : rangeL v with
      | none => rw [hr] at h; cases h
      | some z =>
        obtain ⟨a, b, M⟩ := z
        rw [hr] at h
        simp only [Option.some.injEq, Prod.mk.injEq] at h
        obtain ⟨hr1, rfl⟩ := h
        obtain ⟨⟨t1, t2, t3, t4, t5⟩, _, hab, _⟩ := range_facts hr
        obtain ⟨gL, _, _, _, _⟩ := par_facts hp
        have hsz := par_size2 hp
        have qb : 0 ≤ q' ∧ q' ≤ 1000 := by
          unfold qualP at hq
          split at hq
          · exact qv_bounds hq
          · cases hq; omega
        obtain ⟨P, hP⟩ : ∃ P, L.take (atQ L) = P := ⟨_, rfl⟩
        have gP : ∀ p ∈ P, GoodP p := fun p hp => gL p (by rw [← hP] at hp; exact List.mem_of_mem_take hp)
        have nP : ∀ p ∈ P, isQ p = false := fun p hp => by
          rw [← hP] at hp
          obtain ⟨i, hi, rfl⟩ := List.getElem_of_mem hp
          rw [List.length_take] at hi
          rw [List.getElem_take]
          exact atQ_before (by omega) (by omega)
        rw [hP] at hr1
        have hrl : r.data.toList = fmtPL (a.data.toList ++ 47 :: b.data.toList) P := by
          rw [← hr1]
          show fmtPL (a ++ (⟨#[47]⟩ : ByteArray) ++ b).data.toList P = _
          congr 1
          simp [ByteArray.data_append]
        have ht := one_with hrl qb.1 qb.2
        have hpar := par_back2 (media_piece t1 t2) (media_trim t1 t2) (by simp) (with_good gP qb.1 qb.2)
        have hrv : rangeL (a.data.toList ++ 47 :: b.data.toList) = some (a, b, []) := by
          have h0 := par_back2 (L := []) (media_piece t1 t2) (media_trim t1 t2) (by simp) (fun p hp => by cases hp)
          have e0 : fmtPL (a.data.toList ++ 47 :: b.data.toList) [] = a.data.toList ++ 47 :: b.data.toList := by unfold fmtPL; simp
          rw [e0] at h0
          unfold rangeL
          rw [h0]; simp only
          rw [type_back t1 t2 t3 t4 t5]
        refine ⟨?_, ?_, ?_⟩
        · rw [ht, mem_acc hpar (with_qual nP qb.1 qb.2), hrv, with_at nP, with_take]
          show some (fmtPB (a ++ (⟨#[47]⟩ : ByteArray) ++ b) P, q') = _
          rw [hr1]
        · rw [ht]
          refine fmt_mem (fun q hq => ?_) (by simp) (fun r c r' h => ?_) ?_ (with_good gP qb.1 qb.2)
          · rw [List.append_assoc, List.cons_append]
            exact pc_tok t1 (Piece.cons (by decide) (by decide) (pc_tok t2 hq))
          · rw [List.append_assoc] at h; exact first_ok t1 c r' h
          · have e : a.data.toList ++ 47 :: b.data.toList = (a.data.toList ++ [47]) ++ b.data.toList := by simp
            rw [e]; exact last_app13 (tok_ne t2) (last_tok t2)
        · have hl := fmt_len (a.data.toList ++ 47 :: b.data.toList) P
          have hz : r.data.toList.length = r.size := by simp
          have za : a.data.toList.length = a.size := by simp
          have zb : b.data.toList.length = b.size := by simp
          have h1 : szF P ≤ szF L := by rw [← hP]; exact szF_take _ _
          have h2 : P.length ≤ L.length := by rw [← hP, List.length_take]; omega
          rw [← hrl, hz, List.length_append, List.length_cons] at hl
          omega
theorem again_oth {k : Int} {m : List UInt8} {r : ByteArray} {q : Int} (hk1 : k ≠ 1) (h : memP k m = some (r, q)) : memP k (onePref (r, q)) = some (r, q) ∧ IsMem (onePref (r, q)) ∧ r.size ≤ 2 * m.length + 1 := by
  cases hp : parL m with
  | none => rw [mem_none hp] at h; cases h
  | some y =>
    obtain ⟨v, L⟩ := y
    cases hq : qualP L with
    | none => rw [mem_noq hp hq] at h; cases h
    | some q' =>
      rw [mem_oth hk1 hp hq] at h
      by_cases ht : ((if k = 2 then rangeT v else tokL v) && decide (atQ L = 0)) = true
      · rw [if_pos ht] at h
        cases h
        rw [Bool.and_eq_true, decide_eq_true_eq] at ht
        have hsz := par_size2 hp
        have qb : 0 ≤ q ∧ q ≤ 1000 := by
          unfold qualP at hq
          split at hq
          · exact qv_bounds hq
          · cases hq; omega
        have hv : tokL v = true := by
          by_cases h2 : k = 2
          · rw [if_pos h2] at ht; exact range_tok ht.1
          · rw [if_neg h2] at ht; exact ht.1
        have hr := can_tok (k := k) hv
        have hone := one_with (r := bs (canL k v)) (v := canL k v) (P := []) (q := q) (by rw [bs_toList]; unfold fmtPL; simp) qb.1 qb.2
        have gP := with_good (P := []) (q := q) (fun p hp => by cases hp) qb.1 qb.2
        have nP : ∀ p ∈ ([] : List F), isQ p = false := fun p hp => by cases hp
        have hpar := par_back2 (v := canL k v) (by have := Piece.tok hr (Piece.nil 59); rwa [List.append_nil] at this) (by have := trim_tok (v := canL k v) (a := []) (b := []) hr (by simp) (by simp); rwa [List.nil_append, List.append_nil] at this) (tok_ne hr) gP
        refine ⟨?_, ?_, ?_⟩
        · rw [hone, mem_oth hk1 hpar (with_qual nP qb.1 qb.2), with_at nP]
          have hc : (if k = 2 then rangeT (canL k v) else tokL (canL k v)) = true := by
            by_cases h2 : k = 2
            · rw [if_pos h2]; rw [if_pos h2] at ht; subst h2; rw [can_two, range_low]; exact ht.1
            · rw [if_neg h2]; exact hr
          rw [hc, if_pos (by simp), can_can]
        · rw [hone]
          exact fmt_mem (fun q hq => pc_tok hr hq) (tok_ne hr) (fun r c r' h => first_ok hr c r' h) (last_tok hr) gP
        · have := can_len k v
          rw [bs_size]; omega
      · rw [if_neg ht] at h; cases h
theorem again {k : Int} {m : List UInt8} {p : QP} (h : memP k m = some p) : memP k (onePref p) = some p ∧ IsMem (onePref p) ∧ p.1.size ≤ 2 * m.length + 1 := by
  obtain ⟨r, q⟩ := p
  by_cases h1 : k = 1
  · subst h1; exact again_acc h
  · exact again_oth h1 h
theorem joinC_len13 : ∀ (ms : List (List UInt8)) (n : Nat), (∀ m ∈ ms, m.length ≤ n) → (joinC ms).length ≤ ms.length * (n + 2)
  | [], n, _ => Nat.zero_le _
  | [m], n, h => by have := h m (by simp); show m.length ≤ 1 * (n + 2); omega
  | m :: y :: r, n, h => by
    have ih := joinC_len13 (y :: r) n (fun x hx => h x (by simp [hx]))
    have h1 := h m (by simp)
    have e : (joinC (m :: y :: r)).length = m.length + 2 + (joinC (y :: r)).length := by
      show (m ++ [44, 32] ++ joinC (y :: r)).length = _
      rw [List.length_append, List.length_append]; rfl
    have e2 : (m :: y :: r).length * (n + 2) = (y :: r).length * (n + 2) + (n + 2) := by
      rw [List.length_cons, Nat.add_mul, Nat.one_mul]
    rw [e, e2]; omega
theorem prefs_back {k : Int} {L : List F} {x : ByteArray} (h0 : nameK k ≠ ⟨#[]⟩) (ho : prefsO k L = true) (hm : ∀ m ∈ allL (nameK k) L, m.length ≤ 300) (hx : fmtPf (prefsV k L) = x) :
    prefsV k [(nameK k, x)] = prefsV k L ∧ prefsO k [(nameK k, x)] = true ∧ x.size ≤ 65000 ∧ (∀ m ∈ allL (nameK k) [(nameK k, x)], m.length ≤ 20000) ∧ (∀ i (hi : i < (prefsV k L).length), (prefsV k L)[i].1.size ≤ 601) := by
  have m1 : nmd (nameK k) (nameK k, x) = true := fold_refl _
  have o1 : prefsO k [(nameK k, x)] = true := by unfold prefsO; rw [decide_eq_true h0]; simp [m1]
  have g1 : getL (nameK k) [(nameK k, x)] = [x] := by unfold getL; simp [m1]
  obtain ⟨X, hX⟩ : ∃ X, prefsV k L = X := ⟨_, rfl⟩
  have hXL : X = (allL (nameK k) L).filterMap (memP k) := by rw [← hX]; unfold prefsV prefsL; rw [ho, if_pos rfl]
  have each : ∀ p ∈ X, memP k (onePref p) = some p ∧ IsMem (onePref p) ∧ p.1.size ≤ 601 := fun p hp => by
    rw [hXL] at hp
    obtain ⟨m, hmm, hpm⟩ := List.mem_filterMap.1 hp
    obtain ⟨a1, a2, a3⟩ := again hpm
    have := hm m hmm
    exact ⟨a1, a2, by omega⟩
  have hlen : X.length ≤ 64 := by
    rw [hXL]
    refine Nat.le_trans (List.length_filterMap_le _ _) ?_
    unfold allL; rw [List.length_take]; omega
  rw [hX] at hx ⊢
  have hxl : x.data.toList = joinC (X.map onePref) := by
    rw [← hx]
    unfold fmtPf joinB
    rw [bs_toList, List.map_map]
    rfl
  have hmem : memL (cutL 44 x.data.toList) = X.map onePref := by
    rw [hxl]
    refine join_mem _ fun m hmm => ?_
    obtain ⟨p, hp, rfl⟩ := List.mem_map.1 hmm
    exact (each p hp).2.1
  have hall : allL (nameK k) [(nameK k, x)] = X.map onePref := by
    unfold allL allF
    rw [g1]
    simp only [List.flatMap_cons, List.flatMap_nil, List.append_nil]
    unfold splitL
    rw [hmem, List.take_take, List.take_of_length_le (by rw [List.length_map]; omega)]
  have hol : ∀ p ∈ X, (onePref p).length ≤ 609 := fun p hp => by have := (each p hp).2.2; have := one_len p; omega
  refine ⟨?_, o1, ?_, ?_, fun i hi => (each _ (List.getElem_mem hi)).2.2⟩
  · unfold prefsV prefsL
    rw [o1, if_pos rfl, hall, List.filterMap_map]
    have : ∀ (Y : List QP), (∀ p ∈ Y, memP k (onePref p) = some p) → Y.filterMap (memP k ∘ onePref) = Y := by
      intro Y
      induction Y with
      | nil => intro _; rfl
      | cons p Y ih =>
        intro h
        rw [List.filterMap_cons]
        have h1 : (memP k ∘ onePref) p = some p := h p (by simp)
        rw [h1]
        simp only
        rw [ih (fun q hq => h q (by simp [hq]))]
    exact this X (fun p hp => (each p hp).1)
  · have h1 := joinC_len13 (X.map onePref) 609 (fun m hmm => by obtain ⟨p, hp, rfl⟩ := List.mem_map.1 hmm; exact hol p hp)
    rw [← hxl, List.length_map] at h1
    have hz : x.data.toList.length = x.size := by simp
    have h2 : X.length * (609 + 2) ≤ 64 * 611 := Nat.mul_le_mul hlen (Nat.le_refl _)
    omega
  · rw [hall]
    intro m hmm
    obtain ⟨p, hp, rfl⟩ := List.mem_map.1 hmm
    have := hol p hp; omega
theorem qual_bounds {L : List F} {q : Int} (hq : qualP L = some q) : 0 ≤ q ∧ q ≤ 1000 := by
  unfold qualP at hq
  split at hq
  · exact qv_bounds hq
  · cases hq; omega
theorem mem_q {k : Int} {m : List UInt8} {p : QP} (h : memP k m = some p) : 0 ≤ p.2 ∧ p.2 ≤ 1000 := by
  cases hp : parL m with
  | none => rw [mem_none hp] at h; cases h
  | some y =>
    obtain ⟨v, L⟩ := y
    cases hq : qualP L with
    | none => rw [mem_noq hp hq] at h; cases h
    | some q =>
      have hb := qual_bounds hq
      by_cases h1 : k = 1
      · subst h1
        rw [mem_acc hp hq] at h
        cases hr : rangeL v with
        | none => rw [hr] at h; cases h
        | some z => rw [hr] at h; cases h; exact hb
      · rw [mem_oth h1 hp hq] at h
        by_cases ht : ((if k = 2 then rangeT v else tokL v) && decide (atQ L = 0)) = true
        · rw [if_pos ht] at h; cases h; exact hb
        · rw [if_neg ht] at h; cases h
theorem prefs_q {k : Int} {L : List F} : ∀ p ∈ prefsV k L, 0 ≤ p.2 ∧ p.2 ≤ 1000 := by
  intro p hp
  unfold prefsV at hp
  split at hp
  · unfold prefsL at hp
    obtain ⟨m, _, hm⟩ := List.mem_filterMap.1 hp
    exact mem_q hm
  · cases hp
end
end Go.Proofs.YtnpllgjkbpnimaaDoor.Asc
