/- Merged texts: KeyLaws KeySpec4. -/
import Derived.Test.YtcnohcbhnldglaaGreatM19
set_option linter.unusedVariables false
set_option linter.unusedSimpArgs false
set_option maxRecDepth 100000
namespace Go.Proofs.YtcnohcbhnldglaaGreat.Asc
section
open Go.RowKit
theorem vParseK_is {a p : Option Addr} {cap n cp : Nat} {L : List F} {X : List AX} {K : List KY} {k : Int} {w : World} (S : Box (Sm L)) (hv : Box (∀ x ∈ getL nmKey L, x.size ≤ 65000)) (hx : X.length ≤ 65536) (zx : Box (smallA X)) (hF : Fs w a L) (hX : Axs w p X) (h : Box (keysR L X = (k, K))) (hn : Box (L.length = n) := by exact box rfl) :
    Calls Tryz.prog 8 #[.slice a n cap, .slice p X.length cp] w fun e w' => ∃ q c, e = .returned (.tuple #[.slice q K.length c, .int .i64 k]) ∧ Kss w' q K ∧ Below w.heap.size w w' := by
  have := mParseK_any a cap L p cp X w S hv hx zx (box hF) (box hX)
  rw [hn.out] at this
  refine this.mono fun e w' ⟨v, h1, h2, h3⟩ => ?_
  rw [h.out] at h1 h2
  obtain ⟨q, c, rfl, hA, _⟩ := h2.kss
  exact ⟨q, c, h1, hA, h3⟩
theorem rParseK_is {a p : Option Addr} {cap n cp : Nat} {L : List F} {X : List AX} {K : List KY} {k : Int} {w : World} (S : Box (Sm L)) (hv : Box (∀ x ∈ getL nmKey L, x.size ≤ 65000)) (hx : X.length ≤ 65536) (zx : Box (smallA X)) (hF : Fs w a L) (hX : Axs w p X) (h : Box (keysR L X = (k, K))) (hn : Box (L.length = n) := by exact box rfl) :
    Calls Tryz.prog 9 #[.slice a n cap, .slice p X.length cp] w fun e w' => ∃ q c, e = .returned (.tuple #[.slice q K.length c, .int .i64 k]) ∧ Kss w' q K ∧ Below w.heap.size w w' := by
  have := rParseK_any a cap L p cp X w S hv hx zx (box hF) (box hX)
  rw [hn.out] at this
  refine this.mono fun e w' ⟨v, h1, h2, h3⟩ => ?_
  rw [h.out] at h1 h2
  obtain ⟨q, c, rfl, hA, _⟩ := h2.kss
  exact ⟨q, c, h1, hA, h3⟩
theorem vFmtK_is {a : Option Addr} {cap : Nat} {K : List KY} {x : ByteArray} {w : World} (hl : K.length ≤ 65536) (hz : Box (fitK K)) (hF : Kss w a K) (h : Box (keysT K = x)) :
    Calls Tryz.prog 14 #[.slice a K.length cap] w fun e w' => e = .returned (.string x) ∧ Below w.heap.size w w' :=
  (mFmtKeys_any a cap K w hl hz (box hF)).mono fun e w' ⟨h1, h2⟩ => ⟨by rw [h1, h.out], h2⟩
theorem rFmtK_is {a : Option Addr} {cap : Nat} {K : List KY} {x : ByteArray} {w : World} (hl : K.length ≤ 65536) (hz : Box (fitK K)) (hF : Kss w a K) (h : Box (keysT K = x)) :
    Calls Tryz.prog 15 #[.slice a K.length cap] w fun e w' => e = .returned (.string x) ∧ Below w.heap.size w w' :=
  (rFmtKeys_any a cap K w hl hz (box hF)).mono fun e w' ⟨h1, h2⟩ => ⟨by rw [h1, h.out], h2⟩
theorem vSameK_is {p pa pb : Option Addr} {cp ca cb : Nat} {X : List AX} {a b : KY} {q : Bool} {w : World} (hx : X.length ≤ 65536) (ha : a.length ≤ 65536) (hb : b.length ≤ 65536) (zx : Box (smallA X)) (za : Box (∀ v ∈ a, v.size ≤ 65000)) (zb : Box (∀ v ∈ b, v.size ≤ 65000)) (hX : Axs w p X) (hA : Ss w pa a) (hB : Ss w pb b) (h : Box (sameK X a b = q)) :
    Calls Tryz.prog 16 #[.slice p X.length cp, .slice pa a.length ca, .slice pb b.length cb] w fun e w' => e = .returned (.bool q) ∧ Below w.heap.size w w' :=
  (mSameKey_any p cp X pa pb ca cb a b w hx ha hb zx za zb (box hX) (box hA) (box hB)).mono fun e w' ⟨h1, h2⟩ => ⟨by rw [h1, h.out], h2⟩
theorem rSameK_is {p pa pb : Option Addr} {cp ca cb : Nat} {X : List AX} {a b : KY} {q : Bool} {w : World} (hx : X.length ≤ 65536) (ha : a.length ≤ 65536) (hb : b.length ≤ 65536) (zx : Box (smallA X)) (za : Box (∀ v ∈ a, v.size ≤ 65000)) (zb : Box (∀ v ∈ b, v.size ≤ 65000)) (hX : Axs w p X) (hA : Ss w pa a) (hB : Ss w pb b) (h : Box (sameK X a b = q)) :
    Calls Tryz.prog 17 #[.slice p X.length cp, .slice pa a.length ca, .slice pb b.length cb] w fun e w' => e = .returned (.bool q) ∧ Below w.heap.size w w' :=
  (rSameKey_any p cp X pa pb ca cb a b w hx ha hb zx za zb (box hX) (box hA) (box hB)).mono fun e w' ⟨h1, h2⟩ => ⟨by rw [h1, h.out], h2⟩
def aw16V : ByteArray := ⟨#[40, 70, 82, 32, 103, 122, 105, 112, 41, 44, 32, 40, 101, 110, 32, 103, 122, 105, 112, 41, 44, 32, 40, 102, 114, 32, 71, 90, 73, 80, 41]⟩
def aw16K : List KY := [[⟨#[102, 114]⟩, ⟨#[103, 122, 105, 112]⟩], [⟨#[101, 110]⟩, ⟨#[103, 122, 105, 112]⟩]]
theorem aw16_is : keysR [(nmKey, aw16V)] aw15X = (0, aw16K) := by decide +kernel
theorem aw16_small : smallK aw16K := by
  intro k hk
  have : ∀ k ∈ aw16K, k.length ≤ 65000 ∧ ∀ v ∈ k, v.size ≤ 65000 := by decide
  exact this k hk
theorem axes16_any (w : World) : Calls Tryz.prog 28 #[] w fun e w' => ∃ p c, e = .returned (.slice p aw15X.length c) ∧ Axs w' p aw15X ∧ Below w.heap.size w w' := by
  have S1 := ss_two15 ⟨#[101, 110]⟩ ⟨#[102, 114]⟩ w 9
  have b1 := below_new w (.cells #[.string ⟨#[101, 110]⟩, .string ⟨#[102, 114]⟩] 9)
  have S2 := ss_two15 ⟨#[103, 122, 105, 112]⟩ ⟨#[105, 100, 101, 110, 116, 105, 116, 121]⟩ (w.alloc (.cells #[.string ⟨#[101, 110]⟩, .string ⟨#[102, 114]⟩] 9)) 9
  have b2 := below_new (w.alloc (.cells #[.string ⟨#[101, 110]⟩, .string ⟨#[102, 114]⟩] 9)) (.cells #[.string ⟨#[103, 122, 105, 112]⟩, .string ⟨#[105, 100, 101, 110, 116, 105, 116, 121]⟩] 9)
  have HS := box (And.intro S1 (And.intro b1 (And.intro S2 b2)))
  clear S1 b1 S2 b2
  go_enter Tryz.func28, Tryz.ntmps28
  go_wp2
  go_ret
  obtain ⟨S1, b1, S2, b2⟩ := HS.out
  obtain ⟨W2, hW2⟩ : ∃ W2, (w.alloc (.cells #[.string ⟨#[101, 110]⟩, .string ⟨#[102, 114]⟩] 9)).alloc (.cells #[.string ⟨#[103, 122, 105, 112]⟩, .string ⟨#[105, 100, 101, 110, 116, 105, 116, 121]⟩] 9) = W2 := ⟨_, rfl⟩
  have hsz : (w.alloc (.cells #[.string ⟨#[101, 110]⟩, .string ⟨#[102, 114]⟩] 9)).heap.size = w.heap.size + 1 := by simp
  have hsz2 : W2.heap.size = w.heap.size + 1 + 1 := by rw [← hW2]; simp
  have S1' := S1.below b2
  rw [hsz] at S2
  rw [hW2] at S1' S2
  have b3 := below_new W2 (.cells #[.string aw15A, .slice (some ⟨w.heap.size, 0, none⟩) 2 2, .string aw15B, .slice (some ⟨w.heap.size + 1, 0, none⟩) 2 2] 42)
  refine ⟨some ⟨W2.heap.size, 0, none⟩, 2, by rw [hsz2]; rfl, ?_, (by
    have h := (b1.trans (b2.mono b1.size))
    rw [hW2] at h
    have h2 := h.trans (b3.mono h.size)
    rw [← hW2] at h2
    exact h2)⟩
  show Axs ((((w.alloc (.cells #[.string ⟨#[101, 110]⟩, .string ⟨#[102, 114]⟩] 9)).alloc (.cells #[.string ⟨#[103, 122, 105, 112]⟩, .string ⟨#[105, 100, 101, 110, 116, 105, 116, 121]⟩] 9))).alloc (.cells #[.string aw15A, .slice (some ⟨w.heap.size, 0, none⟩) 2 2, .string aw15B, .slice (some ⟨w.heap.size + 1, 0, none⟩) 2 2] 42)) _ _
  rw [hW2]
  intro i hi
  match i, hi with
  | 0, _ => exact ⟨W2.heap.size, 0, _, rfl, by rw [World.cell?_alloc_mark]; rfl, by rw [World.cell?_alloc_mark]; rfl, some ⟨w.heap.size, 0, none⟩, 2, rfl, S1'.below b3, Nat.le_refl 2⟩
  | 1, _ => exact ⟨W2.heap.size, 0, _, rfl, by rw [World.cell?_alloc_mark]; rfl, by rw [World.cell?_alloc_mark]; rfl, some ⟨w.heap.size + 1, 0, none⟩, 2, rfl, S2.below b3, Nat.le_refl 2⟩
/-- two lists of two strings and the list of these -/
theorem kss_two16 (a b c d : ByteArray) (w : World) : Kss (((w.alloc (.cells #[.string a, .string b] 9)).alloc (.cells #[.string c, .string d] 9)).alloc (.cells #[.slice (some ⟨w.heap.size, 0, none⟩) 2 2, .slice (some ⟨w.heap.size + 1, 0, none⟩) 2 2] 33)) (some ⟨w.heap.size + 1 + 1, 0, none⟩) [[a, b], [c, d]]
    ∧ Below w.heap.size w (((w.alloc (.cells #[.string a, .string b] 9)).alloc (.cells #[.string c, .string d] 9)).alloc (.cells #[.slice (some ⟨w.heap.size, 0, none⟩) 2 2, .slice (some ⟨w.heap.size + 1, 0, none⟩) 2 2] 33)) := by
  have S1 := ss_two15 a b w 9
  have b1 := below_new w (.cells #[.string a, .string b] 9)
  have S2 := ss_two15 c d (w.alloc (.cells #[.string a, .string b] 9)) 9
  have b2 := below_new (w.alloc (.cells #[.string a, .string b] 9)) (.cells #[.string c, .string d] 9)
  obtain ⟨W2, hW2⟩ : ∃ W2, (w.alloc (.cells #[.string a, .string b] 9)).alloc (.cells #[.string c, .string d] 9) = W2 := ⟨_, rfl⟩
  have hsz : (w.alloc (.cells #[.string a, .string b] 9)).heap.size = w.heap.size + 1 := by simp
  have hsz2 : w.heap.size + 1 + 1 = W2.heap.size := by rw [← hW2]; simp
  have S1' := S1.below b2
  rw [hsz] at S2
  rw [hW2] at S1' S2 ⊢
  have b3 := below_new W2 (.cells #[.slice (some ⟨w.heap.size, 0, none⟩) 2 2, .slice (some ⟨w.heap.size + 1, 0, none⟩) 2 2] 33)
  refine ⟨?_, ?_⟩
  · intro i hi
    match i, hi with
    | 0, _ => exact ⟨_, 0, _, rfl, by rw [World.cell?_alloc_at (hn := hsz2)]; rfl, some ⟨w.heap.size, 0, none⟩, 2, rfl, S1'.below b3, Nat.le_refl 2⟩
    | 1, _ => exact ⟨_, 0, _, rfl, by rw [World.cell?_alloc_at (hn := hsz2)]; rfl, some ⟨w.heap.size + 1, 0, none⟩, 2, rfl, S2.below b3, Nat.le_refl 2⟩
  · have h := (b1.trans (b2.mono b1.size))
    rw [hW2] at h
    exact h.trans (b3.mono h.size)
set_option maxHeartbeats 1000000 in
theorem awake16_any (w : World) : Calls Tryz.prog 11 #[] w fun e w' => e = .returned (.bool true) ∧ Below w.heap.size w w' := by
  have HX := box aw16_is
  have HSM : Box (smallA aw15X) := box aw15_fit.small
  have HSK := box aw16_small
  have HE : Box (decide (aw16K = aw16K) = true) := box (decide_eq_true rfl)
  have S := box (one_sm15 (n := nmKey) (v := aw16V) (by decide) (by decide))
  have hv := box (get_small15 (nm := nmKey) (n := nmKey) (v := aw16V) (by decide))
  have hl : aw15X.length ≤ 65536 := by decide
  have hk : aw16K.length ≤ 65536 := by decide
  have BN := box (below_new w (.cells #[.string nmKey, .string aw16V] 45))
  have FN := box (fs_one15 nmKey aw16V w 45)
  go_enter Tryz.func11, Tryz.ntmps11
  go_wp2_with fail
  refine (axes16_any _).mono ?_; rintro e w1 ⟨p1, c1, rfl, hA1, hb1⟩
  have B1 := box (BN.out.trans (hb1.mono BN.out.size))
  have A1 := box hA1
  have F1 := box (FN.out.below hb1)
  clear hb1 hA1
  go_wp2_with fail
  refine (vParseK_is (L := [(nmKey, aw16V)]) (X := aw15X) S hv hl HSM F1.out A1.out HX).mono ?_; rintro e w2 ⟨p2, c2, rfl, hK2, hb2⟩
  have B2 := box (B1.out.trans (hb2.mono B1.out.size))
  have KB := box (kss_two16 ⟨#[102, 114]⟩ ⟨#[103, 122, 105, 112]⟩ ⟨#[101, 110]⟩ ⟨#[103, 122, 105, 112]⟩ w2)
  have K2 := box (hK2.below KB.out.2)
  clear hb2 hK2
  go_wp2_with fail
  refine (rSameKeys_is (K := aw16K) (L := aw16K) (cb := 2) hk hk HSK HSK K2.out KB.out.1 HE).mono ?_; rintro e w3 ⟨rfl, hb3⟩
  have B3 := box (B2.out.trans ((KB.out.2.trans (hb3.mono KB.out.2.size)).mono B2.out.size))
  clear hb3
  go_wp2
  go_ret
  exact ⟨rfl, B3.out⟩
set_option maxHeartbeats 1000000 in
theorem parses16_walk (a : Option Addr) (cap : Nat) (L : List F) (p : Option Addr) (cp : Nat) (X : List AX) (w : World) (hl0 : L.length ≤ maxLen) (hF0 : Fs w a L) (hc : L.length ≤ cap)
    (hx0 : X.length ≤ maxLen) (hX0 : Axs w p X ∧ ∀ i (hi : i < X.length), X[i].2.length ≤ maxLen) (hcx : X.length ≤ cp) :
    Calls Tryz.prog 3 #[.slice a L.length cap, .slice p X.length cp] w fun e w' => e = .returned (.bool true) ∧ Below w.heap.size w w' := by
  have HF := box hF0
  have HL0 := box hl0
  have HX := box hX0
  have HX0 := box hx0
  clear hF0 hl0 hX0 hx0
  cases hkk : keepF L with
  | false =>
    have HKK := box hkk
    clear hkk
    go_enter Tryz.func3, Tryz.ntmps3
    go_wp2_with fail
    refine (keepF15_is HL0.out HF.out HKK).mono ?_; rintro e w1 ⟨rfl, rfl⟩
    go_wp2
    go_ret
    exact ⟨rfl, Below.refl _ _⟩
  | true =>
    have HKK := box hkk
    cases hka : keepA X with
    | false =>
      have HKA := box hka
      clear hkk hka
      go_enter Tryz.func3, Tryz.ntmps3
      go_wp2_with fail
      refine (keepF15_is HL0.out HF.out HKK).mono ?_; rintro e w1 ⟨rfl, rfl⟩
      go_wp2_with fail
      refine (keepAx_is HX0.out HX.out HKA).mono ?_; rintro e w1 ⟨rfl, rfl⟩
      go_wp2
      go_ret
      exact ⟨rfl, Below.refl _ _⟩
    | true =>
      have HKA := box hka
      obtain ⟨hs, hv⟩ := keep_sm15 hkk nmKey
      obtain ⟨x1, x2⟩ := keep_fit hka
      have ZX : Box (smallA X) := box (fitX.small x2)
      have S := box hs
      have HV := box hv
      have x6 : X.length ≤ 65536 := by omega
      obtain ⟨k, K, hK⟩ : ∃ k K, keysR L X = (k, K) := ⟨_, _, rfl⟩
      have H := box hK
      have ZK := box (keys_small hK hv (by omega) ZX.out)
      have k6 : K.length ≤ 65536 := by have := (keys_facts hK hv).1; omega
      clear hkk hka hs hv x2 hK
      go_enter Tryz.func3, Tryz.ntmps3
      go_wp2_with fail
      refine (keepF15_is HL0.out HF.out HKK).mono ?_; rintro e w1 ⟨rfl, rfl⟩
      go_wp2_with fail
      refine (keepAx_is HX0.out HX.out HKA).mono ?_; rintro e w1 ⟨rfl, rfl⟩
      go_wp2_with fail
      refine (vParseK_is S HV x6 ZX HF.out HX.out.1 H).mono ?_; rintro e w1 ⟨p1, c1, rfl, hK1, hb1⟩
      have B1 := box hb1
      have K1 := box hK1
      clear hb1 hK1
      go_wp2_with fail
      refine (rParseK_is S HV x6 ZX (HF.out.below B1.out) (HX.out.1.below B1.out) H).mono ?_; rintro e w2 ⟨p2, c2, rfl, hK2, hb2⟩
      have K3 := box (K1.out.below hb2)
      have K2 := box hK2
      have B2 := box (B1.out.trans (hb2.mono B1.out.size))
      clear hb2 hK2
      go_wp2_with fail
      refine (rSameKeys_is (q := true) k6 k6 ZK ZK K3.out K2.out (box (decide_eq_true rfl))).mono ?_; rintro e w3 ⟨rfl, hb3⟩
      have B3 := box (B2.out.trans (hb3.mono B2.out.size))
      clear hb3
      go_wp2_with fail
      refine (awake16_any _).mono ?_; rintro e w5 ⟨rfl, hb5⟩
      have B5 := box (B3.out.trans (hb5.mono B3.out.size))
      clear hb5
      go_wp2
      go_ret
      exact ⟨rfl, B5.out⟩
theorem keepKy_is {a : Option Addr} {cap : Nat} {L : List KY} {q : Bool} {w : World} (hl : L.length ≤ maxLen) (hF : Kss w a L ∧ ∀ i (hi : i < L.length), L[i].length ≤ maxLen) (h : Box (keepK L = q)) :
    Calls Tryz.prog 12 #[.slice a L.length cap] w fun e w' => e = .returned (.bool q) ∧ w = w' :=
  (keepKeys_any a cap L w hl (box hF.1) (box hF.2)).mono fun e w' ⟨h1, h2⟩ => ⟨by rw [h1, h.out], h2⟩
theorem keepSs_is {a : Option Addr} {cap : Nat} {L : List ByteArray} {q : Bool} {w : World} (hl : L.length ≤ maxLen) (hF : Ss w a L) (h : Box (keepS L = q)) :
    Calls Tryz.prog 13 #[.slice a L.length cap] w fun e w' => e = .returned (.bool q) ∧ w = w' :=
  (keepStrings_any a cap L w hl (box hF)).mono fun e w' ⟨h1, h2⟩ => ⟨by rw [h1, h.out], h2⟩
set_option maxHeartbeats 2000000 in
theorem formats16_walk (pk : Option Addr) (ck : Nat) (K : List KY) (p : Option Addr) (cp : Nat) (X : List AX) (pa : Option Addr) (ca : Nat) (a : KY) (pb : Option Addr) (cb : Nat) (b : KY) (w : World)
    (hk0 : K.length ≤ maxLen) (hK0 : Kss w pk K ∧ ∀ i (hi : i < K.length), K[i].length ≤ maxLen) (hck : K.length ≤ ck)
    (hx0 : X.length ≤ maxLen) (hX0 : Axs w p X ∧ ∀ i (hi : i < X.length), X[i].2.length ≤ maxLen) (hcx : X.length ≤ cp)
    (ha0 : a.length ≤ maxLen) (hA0 : Ss w pa a) (hca : a.length ≤ ca) (hb0 : b.length ≤ maxLen) (hB0 : Ss w pb b) (hcb : b.length ≤ cb) :
    Calls Tryz.prog 4 #[.slice pk K.length ck, .slice p X.length cp, .slice pa a.length ca, .slice pb b.length cb] w fun e w' => e = .returned (.bool true) ∧ Below w.heap.size w w' := by
  have HK := box hK0
  have HK0 := box hk0
  have HX := box hX0
  have HX0 := box hx0
  have HA := box hA0
  have HA0 := box ha0
  have HB := box hB0
  have HB0 := box hb0
  clear hK0 hk0 hX0 hx0 hA0 ha0 hB0 hb0
  obtain ⟨q1, hq1⟩ : ∃ q, keepK K = q := ⟨_, rfl⟩
  obtain ⟨q2, hq2⟩ : ∃ q, keepA X = q := ⟨_, rfl⟩
  obtain ⟨q3, hq3⟩ : ∃ q, keepS a = q := ⟨_, rfl⟩
  obtain ⟨q4, hq4⟩ : ∃ q, keepS b = q := ⟨_, rfl⟩
  have Q1 := box hq1
  have Q2 := box hq2
  have Q3 := box hq3
  have Q4 := box hq4
  cases q1 with
  | false =>
    clear hq1 hq2 hq3 hq4
    go_enter Tryz.func4, Tryz.ntmps4
    go_wp2_with fail
    refine (keepKy_is HK0.out HK.out Q1).mono ?_; rintro e w1 ⟨rfl, rfl⟩
    go_wp2
    go_ret
    exact ⟨rfl, Below.refl _ _⟩
  | true =>
    cases q2 with
    | false =>
      clear hq1 hq2 hq3 hq4
      go_enter Tryz.func4, Tryz.ntmps4
      go_wp2_with fail
      refine (keepKy_is HK0.out HK.out Q1).mono ?_; rintro e w1 ⟨rfl, rfl⟩
      go_wp2_with fail
      refine (keepAx_is HX0.out HX.out Q2).mono ?_; rintro e w1 ⟨rfl, rfl⟩
      go_wp2
      go_ret
      exact ⟨rfl, Below.refl _ _⟩
    | true =>
      cases q3 with
      | false =>
        clear hq1 hq2 hq3 hq4
        go_enter Tryz.func4, Tryz.ntmps4
        go_wp2_with fail
        refine (keepKy_is HK0.out HK.out Q1).mono ?_; rintro e w1 ⟨rfl, rfl⟩
        go_wp2_with fail
        refine (keepAx_is HX0.out HX.out Q2).mono ?_; rintro e w1 ⟨rfl, rfl⟩
        go_wp2_with fail
        refine (keepSs_is HA0.out HA.out Q3).mono ?_; rintro e w1 ⟨rfl, rfl⟩
        go_wp2
        go_ret
        exact ⟨rfl, Below.refl _ _⟩
      | true =>
        cases q4 with
        | false =>
          clear hq1 hq2 hq3 hq4
          go_enter Tryz.func4, Tryz.ntmps4
          go_wp2_with fail
          refine (keepKy_is HK0.out HK.out Q1).mono ?_; rintro e w1 ⟨rfl, rfl⟩
          go_wp2_with fail
          refine (keepAx_is HX0.out HX.out Q2).mono ?_; rintro e w1 ⟨rfl, rfl⟩
          go_wp2_with fail
          refine (keepSs_is HA0.out HA.out Q3).mono ?_; rintro e w1 ⟨rfl, rfl⟩
          go_wp2_with fail
          refine (keepSs_is HB0.out HB.out Q4).mono ?_; rintro e w1 ⟨rfl, rfl⟩
          go_wp2
          go_ret
          exact ⟨rfl, Below.refl _ _⟩
        | true =>
          obtain ⟨k1, k2⟩ := keepK_parts hq1
          obtain ⟨x1, x2⟩ := keep_fit hq2
          obtain ⟨a1, a2⟩ := keepS_small hq3
          obtain ⟨b1, b2⟩ := keepS_small hq4
          have ZX : Box (smallA X) := box (fitX.small x2)
          have ZK : Box (fitK K) := box (fun k hk => ⟨(k2 k hk).1, fun v hv => by have := (k2 k hk).2 v hv; omega⟩)
          have ZA : Box (∀ v ∈ a, v.size ≤ 65000) := box (fun v hv => by have := a2 v hv; omega)
          have ZB : Box (∀ v ∈ b, v.size ≤ 65000) := box (fun v hv => by have := b2 v hv; omega)
          have k6 : K.length ≤ 65536 := by omega
          have x6 : X.length ≤ 65536 := by omega
          have a6 : a.length ≤ 65536 := by omega
          have b6 : b.length ≤ 65536 := by omega
          obtain ⟨x, hx⟩ : ∃ x, keysT K = x := ⟨_, rfl⟩
          obtain ⟨s, hs⟩ : ∃ s, sameK X a b = s := ⟨_, rfl⟩
          have HT := box hx
          have HS := box hs
          clear hq1 hq2 hq3 hq4 k2 x2 a2 b2 k1 x1 a1 b1 hx hs
          go_enter Tryz.func4, Tryz.ntmps4
          go_wp2_with fail
          refine (keepKy_is HK0.out HK.out Q1).mono ?_; rintro e w1 ⟨rfl, rfl⟩
          go_wp2_with fail
          refine (keepAx_is HX0.out HX.out Q2).mono ?_; rintro e w1 ⟨rfl, rfl⟩
          go_wp2_with fail
          refine (keepSs_is HA0.out HA.out Q3).mono ?_; rintro e w1 ⟨rfl, rfl⟩
          go_wp2_with fail
          refine (keepSs_is HB0.out HB.out Q4).mono ?_; rintro e w1 ⟨rfl, rfl⟩
          go_wp2_with fail
          refine (vFmtK_is k6 ZK HK.out.1 HT).mono ?_; rintro e w1 ⟨rfl, hb1⟩
          have B1 := box hb1
          clear hb1
          go_wp2_with fail
          refine (rFmtK_is k6 ZK (HK.out.1.below B1.out) HT).mono ?_; rintro e w2 ⟨rfl, hb2⟩
          have B2 := box (B1.out.trans (hb2.mono B1.out.size))
          clear hb2
          go_wp2_with fail
          refine (vSameK_is x6 a6 b6 ZX ZA ZB (HX.out.1.below B2.out) (HA.out.below B2.out) (HB.out.below B2.out) HS).mono ?_; rintro e w3 ⟨rfl, hb3⟩
          have B3 := box (B2.out.trans (hb3.mono B2.out.size))
          clear hb3
          go_wp2_with fail
          refine (rSameK_is x6 a6 b6 ZX ZA ZB (HX.out.1.below B3.out) (HA.out.below B3.out) (HB.out.below B3.out) HS).mono ?_; rintro e w4 ⟨rfl, hb4⟩
          have B4 := box (B3.out.trans (hb4.mono B3.out.size))
          clear hb4
          go_wp2_with fail
          refine (awake16_any _).mono ?_; rintro e w5 ⟨rfl, hb5⟩
          have B5 := box (B4.out.trans (hb5.mono B4.out.size))
          clear hb5
          go_wp2
          go_ret
          exact ⟨rfl, B5.out⟩
end
section
/-- the different ones of the keys -/
def distK : List KY → List KY → List KY
  | [], out => out
  | k :: K, out => distK K (if inKy out k = true then out else out ++ [k])
theorem distK_app : ∀ (K M out : List KY), distK (K ++ M) out = distK M (distK K out)
  | [], M, out => rfl
  | k :: K, M, out => distK_app K M _
theorem distK_more {K : List KY} {j : Nat} (h : j < K.length) : distK (K.take (j + 1)) [] = if inKy (distK (K.take j) []) K[j] = true then distK (K.take j) [] else distK (K.take j) [] ++ [K[j]] := by
  rw [take_next h, distK_app]; rfl
theorem distK_len : ∀ (K out : List KY), (distK K out).length ≤ out.length + K.length
  | [], out => Nat.le_refl _
  | k :: K, out => by
    have := distK_len K (if inKy out k = true then out else out ++ [k])
    show (distK K (if inKy out k = true then out else out ++ [k])).length ≤ _
    rw [List.length_cons]
    split at this
    · rename_i h; rw [if_pos h]; omega
    · rename_i h; rw [if_neg h]; rw [List.length_append] at this; simp only [List.length_cons, List.length_nil] at this; omega
theorem distK_mem : ∀ (K out : List KY), ∀ k ∈ distK K out, k ∈ out ∨ k ∈ K
  | [], out, k, h => .inl h
  | x :: K, out, k, h => by
    rcases distK_mem K _ k h with q | q
    · split at q
      · exact .inl q
      · rcases List.mem_append.1 q with q | q
        · exact .inl q
        · exact .inr (by rw [List.mem_singleton.1 q]; simp)
    · exact .inr (by simp [q])
/-- a key that has a value of each axis -/
def OfX (X : List AX) (k : KY) : Prop := k.length = X.length ∧ ∀ i (h1 : i < X.length) (h2 : i < k.length), k[i] ∈ X[i].2
theorem one_self {x : AX} {v : ByteArray} (hu : validA x = true) (h : v ∈ x.2) : oneK x v = some v := by
  obtain ⟨i, hi, e⟩ := List.mem_iff_getElem.1 h
  have hat : atS x.2 i = v := by rw [atS_is hi]; exact e
  have hs : sameV x.1 v (atS x.2 i) = true := by rw [hat]; exact sameV_refl _ _
  rw [oneK_hit]
  cases hh : hitK x v x.2.length with
  | none =>
    exfalso
    unfold hitK at hh
    have := List.find?_eq_none.1 hh i (List.mem_range.2 hi)
    exact this hs
  | some j =>
    obtain ⟨h1, h2⟩ := hitK_lt hh
    have hji : j = i := by
      rcases Nat.lt_trichotomy j i with q | q | q
      · rw [valid_uni hu v j i q hi h2] at hs; cases hs
      · exact q
      · rw [valid_uni hu v i j q h1 hs] at h2; cases h2
    subst hji
    show some (atS x.2 j) = some v
    rw [hat]
theorem keyA_self : ∀ (X : List AX) (k acc : KY), (∀ x ∈ X, validA x = true) → OfX X k → keyA X k acc = some (acc ++ k)
  | [], k, acc, _, h => by
    have : k = [] := List.eq_nil_of_length_eq_zero h.1
    subst this; rw [List.append_nil]; rfl
  | x :: X, [], acc, _, h => by have := h.1; simp at this
  | x :: X, v :: k, acc, hv, h => by
    have h0 : v ∈ x.2 := h.2 0 (by simp) (by simp)
    rw [keyA_some (one_self (hv x (by simp)) h0), keyA_self X k _ (fun y hy => hv y (by simp [hy])) ⟨by simpa using h.1, fun i h1 h2 => h.2 (i + 1) (by simpa using h1) (by simpa using h2)⟩]
    simp
theorem keysA_self {X : List AX} : ∀ (K out : List KY), (∀ x ∈ X, validA x = true) → (∀ k ∈ K, OfX X k) → keysA X K out = some (distK K out)
  | [], out, _, _ => rfl
  | k :: K, out, hv, h => by
    have hk := keyA_self X k [] hv (h k (by simp))
    rw [List.nil_append] at hk
    show keysA X (k :: K) out = some (distK K (if inKy out k = true then out else out ++ [k]))
    cases hin : inKy out k with
    | true => rw [keysA_old hk hin, keysA_self K out hv (fun y hy => h y (by simp [hy]))]; rfl
    | false => rw [keysA_new hk hin, keysA_self K _ hv (fun y hy => h y (by simp [hy]))]; rfl
def listsK (k : KY) : List (List UInt8) := k.map fun v => v.data.toList
theorem key_mem {k : KY} (h : ∀ v ∈ k, textL v.data.toList = true) : IsMem (writL (listsK k)) := by
  have hP : Piece 44 (writL (listsK k)) := by
    unfold writL
    exact Piece.cons (by decide) (by decide) (join_piece _ (Piece.cons (by decide) (by decide) (Piece.nil 44)))
  refine ⟨by unfold writL; simp, ?_, cut_piece hP, hP.2⟩
  have := trim_char [] (writL (listsK k)) [] (by simp) (by simp) (fun c r e => by
    unfold writL at e
    have := (List.cons.inj e).1
    rw [← this]; decide) (fun c r e => by
    have e2 : writL (listsK k) = (40 :: joinW (listsK k)) ++ [41] := rfl
    rw [e2] at e
    have := (List.append_inj' e rfl).2
    have : c = 41 := by simpa using this.symm
    rw [this]; decide)
  simpa using this
theorem bs_listsK (k : KY) : (listsK k).map bs = k := by
  unfold listsK
  rw [List.map_map]
  conv => rhs; rw [← List.map_id k]
  exact List.map_congr_left fun v _ => (bs_of v).symm
theorem raws_back : ∀ (K acc : List KY), (∀ k ∈ K, (∀ v ∈ k, textL v.data.toList = true) ∧ k ≠ []) → rawsA (K.map fun k => writL (listsK k)) acc = some (acc ++ K)
  | [], acc, _ => by simp [rawsA]
  | k :: K, acc, h => by
    obtain ⟨h1, h2⟩ := h k (by simp)
    have hv := values_back (V := listsK k) (fun v hv => by
      obtain ⟨y, hy, rfl⟩ := List.mem_map.1 hv
      exact h1 y hy) (fun e => h2 (by unfold listsK at e; exact List.map_eq_nil_iff.1 e))
    rw [List.map_cons, rawsA_some hv, bs_listsK, raws_back K _ (fun y hy => h y (by simp [hy]))]
    simp
theorem keys_back {X : List AX} {K : List KY} {n x : ByteArray} (hv : validX X = true) (hk : keepA X = true) (hK : ∀ k ∈ K, OfX X k) (hl : K.length ≤ 20) (hne : K ≠ []) (hn : nmd nmKey (n, x) = true) (hx : keysT K = x) :
    keysR [(n, x)] X = (0, distK K []) ∧ x.size ≤ 65000 ∧ fitK K := by
  obtain ⟨hx1, hx4⟩ := validX_len hv
  obtain ⟨_, hp⟩ := keepA_parts hk
  have hva : ∀ y ∈ X, validA y = true := fun y hy => by
    obtain ⟨i, hi, rfl⟩ := List.mem_iff_getElem.1 hy
    exact validX_at hv i hi
  have hval : ∀ k ∈ K, ∀ v ∈ k, textL v.data.toList = true ∧ v.size ≤ 100 := fun k hkk v hvk => by
    obtain ⟨i, hi, rfl⟩ := List.mem_iff_getElem.1 hvk
    obtain ⟨q1, q2⟩ := hK k hkk
    have hi2 : i < X.length := by omega
    have hm := q2 i hi2 hi
    exact ⟨(valid_parts15 (validX_at hv i hi2)).2.2.2.2 _ hm, (hp i hi2).2.2 _ hm⟩
  have hxl : x.data.toList = joinC (K.map fun k => writL (listsK k)) := by
    rw [← hx]
    unfold keysT joinB
    rw [bs_toList, List.map_map]
    rfl
  have hmem : memL (cutL 44 x.data.toList) = K.map fun k => writL (listsK k) := by
    rw [hxl]
    refine join_mem _ fun m hm => ?_
    obtain ⟨k, hkk, rfl⟩ := List.mem_map.1 hm
    exact key_mem (fun v hvk => (hval k hkk v hvk).1)
  have hall : allL nmKey [(n, x)] = K.map fun k => writL (listsK k) := by
    unfold allL allF getL
    rw [List.filter_cons, if_pos hn]
    simp only [List.filter_nil, List.map_cons, List.map_nil, List.flatMap_cons, List.flatMap_nil, List.append_nil]
    unfold splitL
    rw [hmem, List.take_take, List.take_of_length_le (by rw [List.length_map]; omega)]
  have hraw := raws_back K [] (fun k hkk => ⟨fun v hvk => (hval k hkk v hvk).1, fun e => by
    have := (hK k hkk).1
    rw [e] at this; simp at this; omega⟩)
  rw [List.nil_append] at hraw
  refine ⟨keysR_ok hv (by rw [hall]; intro e; exact hne (List.map_eq_nil_iff.1 e)) (by rw [hall]; exact hraw) (keysA_self K [] hva hK), ?_, fun k hkk => ⟨by have := (hK k hkk).1; omega, fun v hvk => by have := (hval k hkk v hvk).2; omega⟩⟩
  have h1 := joinC_len13 (K.map fun k => writL (listsK k)) 2000 (fun m hm => by
    obtain ⟨k, hkk, rfl⟩ := List.mem_map.1 hm
    have h4 := (hK k hkk).1
    have := joinW_len (V := listsK k) (n := 100) (fun v hvk => by
      obtain ⟨y, hy, rfl⟩ := List.mem_map.1 hvk
      have := (hval k hkk y hy).2
      simpa using this) (listsK k).length
    rw [List.take_of_length_le (Nat.le_refl _)] at this
    unfold writL
    rw [List.length_cons, List.length_append]
    simp only [List.length_cons, List.length_nil]
    have hll : (listsK k).length ≤ 4 := by unfold listsK; rw [List.length_map]; omega
    have h5 : (listsK k).length * (2 * 100 + 3) ≤ 4 * 203 := Nat.mul_le_mul hll (by omega)
    omega)
  rw [← hxl, List.length_map] at h1
  have hz : x.data.toList.length = x.size := by simp
  have h2 : K.length * (2000 + 2) ≤ 20 * 2002 := Nat.mul_le_mul hl (by omega)
  omega
/-- the place that a number picks among n -/
def placeP (z : Int) (n : Nat) : Nat := ((z.tmod (n : Int) + (n : Int)).tmod (n : Int)).toNat
def pickP (P : List Int) (m n : Nat) : Nat := if m < P.length then placeP (P.getD m 0) n else 0
def pickK (X : List AX) (P : List Int) : KY := (List.range X.length).map fun m => atS (atA X m).2 (pickP P m (atA X m).2.length)
theorem placeP_int {z : Int} {n : Nat} (hn : 0 < n) : (placeP z n : Int) = (z.tmod (n : Int) + (n : Int)).tmod (n : Int) ∧ placeP z n < n ∧ -(n : Int) < z.tmod (n : Int) ∧ z.tmod (n : Int) < (n : Int) := by
  have h1 : z.tmod (n : Int) < (n : Int) := Int.tmod_lt_of_pos _ (by omega)
  have h2 : -(n : Int) < z.tmod (n : Int) := by
    have h3 : (-z).tmod (n : Int) < (n : Int) := Int.tmod_lt_of_pos _ (by omega)
    rw [Int.neg_tmod] at h3; omega
  have h4 : 0 ≤ z.tmod (n : Int) + (n : Int) := by omega
  have h5 : 0 ≤ (z.tmod (n : Int) + (n : Int)).tmod (n : Int) := Int.tmod_nonneg _ h4
  have h6 : (z.tmod (n : Int) + (n : Int)).tmod (n : Int) < (n : Int) := Int.tmod_lt_of_pos _ (by omega)
  unfold placeP
  exact ⟨by omega, by omega, h2, h1⟩
theorem pickP_lt {P : List Int} {m n : Nat} (hn : 0 < n) : pickP P m n < n := by
  unfold pickP
  split
  · exact (placeP_int hn).2.1
  · exact hn
theorem pickK_at {X : List AX} {P : List Int} {m : Nat} (h : m < X.length) (h2 : m < (pickK X P).length) : (pickK X P)[m] = atS X[m].2 (pickP P m X[m].2.length) := by
  have e : (pickK X P)[m]? = some (atS X[m].2 (pickP P m X[m].2.length)) := by
    unfold pickK
    rw [List.getElem?_map, List.getElem?_range h]
    simp [atA_is h]
  rw [List.getElem?_eq_getElem h2] at e
  exact Option.some.inj e
theorem pickK_of {X : List AX} (hv : validX X = true) (P : List Int) : OfX X (pickK X P) := by
  refine ⟨by unfold pickK; simp, fun i h1 h2 => ?_⟩
  have hp := (valid_parts15 (validX_at hv i h1)).2.2.1
  rw [pickK_at h1 h2, atS_is (pickP_lt (by omega))]
  exact List.getElem_mem _
theorem pickK_more {X : List AX} {P : List Int} {m : Nat} (h : m < X.length) : (pickK X P).take (m + 1) = (pickK X P).take m ++ [atS X[m].2 (pickP P m X[m].2.length)] := by
  have hl : m < (pickK X P).length := by unfold pickK; simpa using h
  rw [take_next hl, pickK_at h hl]
theorem pickK_len (X : List AX) (P : List Int) : (pickK X P).length = X.length := by unfold pickK; simp
end
end Go.Proofs.YtcnohcbhnldglaaGreat.Asc
