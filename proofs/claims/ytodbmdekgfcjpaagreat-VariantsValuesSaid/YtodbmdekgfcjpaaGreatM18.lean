/- Merged texts: VarLaws VarLaws2. -/
import Derived.Test.YtodbmdekgfcjpaaGreatM08
import Derived.Test.YtodbmdekgfcjpaaGreatM10
import Derived.Test.YtodbmdekgfcjpaaGreatM11
import Derived.Test.YtodbmdekgfcjpaaGreatM13
import Derived.Test.YtodbmdekgfcjpaaGreatM14
import Derived.Test.YtodbmdekgfcjpaaGreatM17
set_option linter.unusedVariables false
set_option linter.unusedSimpArgs false
set_option maxRecDepth 100000
namespace Go.Proofs.YtodbmdekgfcjpaaGreat.Asc
section
open Go.RowKit
theorem vEqual_is {a b : Option Addr} {ca cb : Nat} {K L : List AX} {q : Bool} {w : World} (hk : K.length ≤ 65536) (hl : L.length ≤ 65536) (zk : Box (smallA K)) (zl : Box (smallA L)) (hK : Axs w a K) (hL : Axs w b L) (h : Box (decide (K = L) = q)) :
    Calls Tryz.prog 16 #[.slice a K.length ca, .slice b L.length cb] w fun e w' => e = .returned (.bool q) ∧ Below w.heap.size w w' :=
  (mEqual_any a b ca cb K L w hk hl zk zl (box hK) (box hL)).mono fun e w' ⟨h1, h2⟩ => ⟨by rw [h1, h.out], h2⟩
theorem rEqual_is {a b : Option Addr} {ca cb : Nat} {K L : List AX} {q : Bool} {w : World} (hk : K.length ≤ 65536) (hl : L.length ≤ 65536) (zk : Box (smallA K)) (zl : Box (smallA L)) (hK : Axs w a K) (hL : Axs w b L) (h : Box (decide (K = L) = q)) :
    Calls Tryz.prog 17 #[.slice a K.length ca, .slice b L.length cb] w fun e w' => e = .returned (.bool q) ∧ Below w.heap.size w w' :=
  (rEqual_any a b ca cb K L w hk hl zk zl (box hK) (box hL)).mono fun e w' ⟨h1, h2⟩ => ⟨by rw [h1, h.out], h2⟩
theorem vValidL_is {a : Option Addr} {cap : Nat} {L : List AX} {q : Bool} {w : World} (hl : L.length ≤ 65536) (hz : Box (smallA L)) (hF : Axs w a L) (h : Box (validX L = q)) :
    Calls Tryz.prog 14 #[.slice a L.length cap] w fun e w' => e = .returned (.bool q) ∧ Below w.heap.size w w' :=
  (mValid_any a cap L w hl hz (box hF)).mono fun e w' ⟨h1, h2⟩ => ⟨by rw [h1, h.out], h2⟩
theorem rValidL_is {a : Option Addr} {cap : Nat} {L : List AX} {q : Bool} {w : World} (hl : L.length ≤ 65536) (hz : Box (smallA L)) (hF : Axs w a L) (h : Box (validX L = q)) :
    Calls Tryz.prog 15 #[.slice a L.length cap] w fun e w' => e = .returned (.bool q) ∧ Below w.heap.size w w' :=
  (rValid_any a cap L w hl hz (box hF)).mono fun e w' ⟨h1, h2⟩ => ⟨by rw [h1, h.out], h2⟩
theorem vFmt_is {a : Option Addr} {cap : Nat} {L : List AX} {x : ByteArray} {w : World} (hl : L.length ≤ 65536) (hz : Box (fitX L)) (hF : Axs w a L) (h : Box (fmtV L = x)) :
    Calls Tryz.prog 21 #[.slice a L.length cap] w fun e w' => e = .returned (.string x) ∧ Below w.heap.size w w' :=
  (mFmtV_any a cap L w hl hz (box hF)).mono fun e w' ⟨h1, h2⟩ => ⟨by rw [h1, h.out], h2⟩
theorem rFmt_is {a : Option Addr} {cap : Nat} {L : List AX} {x : ByteArray} {w : World} (hl : L.length ≤ 65536) (hz : Box (fitX L)) (hF : Axs w a L) (h : Box (fmtV L = x)) :
    Calls Tryz.prog 22 #[.slice a L.length cap] w fun e w' => e = .returned (.string x) ∧ Below w.heap.size w w' :=
  (rFmtV_any a cap L w hl hz (box hF)).mono fun e w' ⟨h1, h2⟩ => ⟨by rw [h1, h.out], h2⟩
theorem vParse_is {a : Option Addr} {cap n : Nat} {L : List F} {X : List AX} {k : Int} {w : World} (S : Box (Sm L)) (hv : Box (∀ x ∈ getL nmVar L, x.size ≤ 65000)) (hF : Fs w a L) (h : Box (varsX L = X ∧ varsE L = k)) (hn : Box (L.length = n) := by exact box rfl) :
    Calls Tryz.prog 19 #[.slice a n cap] w fun e w' => ∃ p c, e = .returned (.tuple #[.slice p X.length c, .int .i64 k]) ∧ Axs w' p X ∧ Below w.heap.size w w' := by
  have := mParseV_any a cap L w S hv (box hF)
  rw [hn.out] at this
  refine this.mono fun e w' ⟨v, h1, h2, h3⟩ => ?_
  rw [h.out.1] at h2
  rw [h.out.2] at h1
  obtain ⟨p, c, rfl, hA, _⟩ := h2.axs
  exact ⟨p, c, h1, hA, h3⟩
theorem rParse_is {a : Option Addr} {cap n : Nat} {L : List F} {X : List AX} {k : Int} {w : World} (S : Box (Sm L)) (hv : Box (∀ x ∈ getL nmVar L, x.size ≤ 65000)) (hF : Fs w a L) (h : Box (varsX L = X ∧ varsE L = k)) (hn : Box (L.length = n) := by exact box rfl) :
    Calls Tryz.prog 20 #[.slice a n cap] w fun e w' => ∃ p c, e = .returned (.tuple #[.slice p X.length c, .int .i64 k]) ∧ Axs w' p X ∧ Below w.heap.size w w' := by
  have := rParseV_any a cap L w S hv (box hF)
  rw [hn.out] at this
  refine this.mono fun e w' ⟨v, h1, h2, h3⟩ => ?_
  rw [h.out.1] at h2
  rw [h.out.2] at h1
  obtain ⟨p, c, rfl, hA, _⟩ := h2.axs
  exact ⟨p, c, h1, hA, h3⟩
theorem vValue_is {n x : ByteArray} {q : Bool} {w : World} (hn : n.size ≤ 65000) (hx : x.size ≤ 65000) (h : Box (valueV n x = q)) :
    Calls Tryz.prog 8 #[.string n, .string x] w fun e w' => e = .returned (.bool q) ∧ Below w.heap.size w w' :=
  (mValue_any n x w hn hx).mono fun e w' ⟨h1, h2⟩ => ⟨by rw [h1, h.out], h2⟩
theorem vSame_is {n x y : ByteArray} {q : Bool} {w : World} (hn : n.size ≤ 65000) (hx : x.size ≤ 65000) (hy : y.size ≤ 65000) (h : Box (sameV n x y = q)) :
    Calls Tryz.prog 10 #[.string n, .string x, .string y] w fun e w' => e = .returned (.bool q) ∧ Below w.heap.size w w' :=
  (mSame_any n x y w hn hx hy).mono fun e w' ⟨h1, h2⟩ => ⟨by rw [h1, h.out], h2⟩
theorem fs_one15 (a b : ByteArray) (w : World) (t : TypeId) : Fs (w.alloc (.cells #[.string a, .string b] t)) (some ⟨w.heap.size, 0, none⟩) [(a, b)] := by
  intro i hi
  refine ⟨w.heap.size, 0, rfl, ?_, ?_⟩
  all_goals
    rw [World.cell?_alloc_mark]
    match i, hi with
    | 0, _ => rfl
theorem one_sm15 {n v : ByteArray} (h1 : n.size ≤ 65536) (h2 : v.size ≤ 65536) : Sm [(n, v)] := by
  refine ⟨by simp, fun i hi => ?_⟩
  match i, hi with
  | 0, _ => exact ⟨h1, h2⟩
theorem get_small15 {nm n v : ByteArray} (h : v.size ≤ 65000) : ∀ x ∈ getL nm [(n, v)], x.size ≤ 65000 := by
  intro x hx
  unfold getL at hx
  obtain ⟨p, hp, rfl⟩ := List.mem_map.1 hx
  have := (List.mem_filter.1 hp).1
  rw [List.mem_singleton] at this
  rw [this]; exact h
def aw15V : ByteArray := ⟨#[65, 99, 99, 101, 112, 116, 45, 76, 97, 110, 103, 117, 97, 103, 101, 61, 40, 101, 110, 32, 102, 114, 41, 44, 32, 65, 99, 99, 101, 112, 116, 45, 69, 110, 99, 111, 100, 105, 110, 103, 61, 40, 32, 103, 122, 105, 112, 32, 32, 105, 100, 101, 110, 116, 105, 116, 121, 32, 41]⟩
def aw15A : ByteArray := ⟨#[97, 99, 99, 101, 112, 116, 45, 108, 97, 110, 103, 117, 97, 103, 101]⟩
def aw15B : ByteArray := ⟨#[97, 99, 99, 101, 112, 116, 45, 101, 110, 99, 111, 100, 105, 110, 103]⟩
def aw15X : List AX := [(aw15A, [⟨#[101, 110]⟩, ⟨#[102, 114]⟩]), (aw15B, [⟨#[103, 122, 105, 112]⟩, ⟨#[105, 100, 101, 110, 116, 105, 116, 121]⟩])]
def aw15T : ByteArray := ⟨#[97, 99, 99, 101, 112, 116, 45, 108, 97, 110, 103, 117, 97, 103, 101, 61, 40, 101, 110, 32, 102, 114, 41, 44, 32, 97, 99, 99, 101, 112, 116, 45, 101, 110, 99, 111, 100, 105, 110, 103, 61, 40, 103, 122, 105, 112, 32, 105, 100, 101, 110, 116, 105, 116, 121, 41]⟩
theorem aw15_is : varsX [(nmVar, aw15V)] = aw15X ∧ varsE [(nmVar, aw15V)] = 0 := by decide +kernel
theorem aw15_fmt : fmtV aw15X = aw15T := by decide +kernel
theorem aw15_fit : fitX aw15X := by
  intro i hi
  match i, hi with
  | 0, _ => exact (show fitA (aw15A, [⟨#[101, 110]⟩, ⟨#[102, 114]⟩]) from ⟨by decide, by decide, by decide⟩)
  | 1, _ => exact (show fitA (aw15B, [⟨#[103, 122, 105, 112]⟩, ⟨#[105, 100, 101, 110, 116, 105, 116, 121]⟩]) from ⟨by decide, by decide, by decide⟩)
theorem ss_two15 (x y : ByteArray) (w : World) (t : TypeId) : Ss (w.alloc (.cells #[.string x, .string y] t)) (some ⟨w.heap.size, 0, none⟩) [x, y] := by
  intro i hi
  refine ⟨w.heap.size, 0, rfl, ?_⟩
  rw [World.cell?_alloc_mark]
  match i, hi with
  | 0, _ => rfl
  | 1, _ => rfl
theorem axes15_any (w : World) : Calls Tryz.prog 32 #[] w fun e w' => ∃ p c, e = .returned (.slice p aw15X.length c) ∧ Axs w' p aw15X ∧ Below w.heap.size w w' := by
  have S1 := ss_two15 ⟨#[101, 110]⟩ ⟨#[102, 114]⟩ w 9
  have b1 := below_new w (.cells #[.string ⟨#[101, 110]⟩, .string ⟨#[102, 114]⟩] 9)
  have S2 := ss_two15 ⟨#[103, 122, 105, 112]⟩ ⟨#[105, 100, 101, 110, 116, 105, 116, 121]⟩ (w.alloc (.cells #[.string ⟨#[101, 110]⟩, .string ⟨#[102, 114]⟩] 9)) 9
  have b2 := below_new (w.alloc (.cells #[.string ⟨#[101, 110]⟩, .string ⟨#[102, 114]⟩] 9)) (.cells #[.string ⟨#[103, 122, 105, 112]⟩, .string ⟨#[105, 100, 101, 110, 116, 105, 116, 121]⟩] 9)
  have HS := box (And.intro S1 (And.intro b1 (And.intro S2 b2)))
  clear S1 b1 S2 b2
  go_enter Tryz.func32, Tryz.ntmps32
  go_wp2
  go_ret
  obtain ⟨S1, b1, S2, b2⟩ := HS.out
  obtain ⟨W2, hW2⟩ : ∃ W2, (w.alloc (.cells #[.string ⟨#[101, 110]⟩, .string ⟨#[102, 114]⟩] 9)).alloc (.cells #[.string ⟨#[103, 122, 105, 112]⟩, .string ⟨#[105, 100, 101, 110, 116, 105, 116, 121]⟩] 9) = W2 := ⟨_, rfl⟩
  have hsz : (w.alloc (.cells #[.string ⟨#[101, 110]⟩, .string ⟨#[102, 114]⟩] 9)).heap.size = w.heap.size + 1 := by simp
  have hsz2 : W2.heap.size = w.heap.size + 1 + 1 := by rw [← hW2]; simp
  have S1' := S1.below b2
  rw [hsz] at S2
  rw [hW2] at S1' S2
  have b3 := below_new W2 (.cells #[.string aw15A, .slice (some ⟨w.heap.size, 0, none⟩) 2 2, .string aw15B, .slice (some ⟨w.heap.size + 1, 0, none⟩) 2 2] 54)
  refine ⟨some ⟨W2.heap.size, 0, none⟩, 2, by rw [hsz2]; rfl, ?_, (by
    have h := (b1.trans (b2.mono b1.size))
    rw [hW2] at h
    have h2 := h.trans (b3.mono h.size)
    rw [← hW2] at h2
    exact h2)⟩
  show Axs ((((w.alloc (.cells #[.string ⟨#[101, 110]⟩, .string ⟨#[102, 114]⟩] 9)).alloc (.cells #[.string ⟨#[103, 122, 105, 112]⟩, .string ⟨#[105, 100, 101, 110, 116, 105, 116, 121]⟩] 9))).alloc (.cells #[.string aw15A, .slice (some ⟨w.heap.size, 0, none⟩) 2 2, .string aw15B, .slice (some ⟨w.heap.size + 1, 0, none⟩) 2 2] 54)) _ _
  rw [hW2]
  intro i hi
  match i, hi with
  | 0, _ => exact ⟨W2.heap.size, 0, _, rfl, by rw [World.cell?_alloc_mark]; rfl, by rw [World.cell?_alloc_mark]; rfl, some ⟨w.heap.size, 0, none⟩, 2, rfl, S1'.below b3, Nat.le_refl 2⟩
  | 1, _ => exact ⟨W2.heap.size, 0, _, rfl, by rw [World.cell?_alloc_mark]; rfl, by rw [World.cell?_alloc_mark]; rfl, some ⟨w.heap.size + 1, 0, none⟩, 2, rfl, S2.below b3, Nat.le_refl 2⟩
theorem awake15_any (w : World) : Calls Tryz.prog 12 #[] w fun e w' => e = .returned (.bool true) ∧ Below w.heap.size w w' := by
  have HX := box aw15_is
  have HT := box aw15_fmt
  have HFT := box aw15_fit
  have HSM : Box (smallA aw15X) := box aw15_fit.small
  have HE : Box (decide (aw15X = aw15X) = true) := box (decide_eq_true rfl)
  have S := box (one_sm15 (n := nmVar) (v := aw15V) (by decide) (by decide))
  have hv := box (get_small15 (nm := nmVar) (n := nmVar) (v := aw15V) (by decide))
  have hl : aw15X.length ≤ 65536 := by decide
  have HTL : Box (aw15T.toList = aw15T.data.toList) := box (toList_data _)
  go_enter Tryz.func12, Tryz.ntmps12
  go_wp2_with fail
  refine (vParse_is (L := [(nmVar, aw15V)]) (X := aw15X) S hv (fs_one15 _ _ _ _) HX).mono ?_; rintro e w1 ⟨p1, c1, rfl, hA1, hb1⟩
  have B1 := box ((below_new w _).trans (hb1.mono (below_new w _).size))
  have A1 := box hA1
  clear hb1 hA1
  go_wp2_with fail
  refine (axes15_any _).mono ?_; rintro e w2 ⟨p2, c2, rfl, hA2, hb2⟩
  have A2 := box (A1.out.below hb2)
  have A3 := box hA2
  have B2 := box (B1.out.trans (hb2.mono B1.out.size))
  clear hb2 hA2
  go_wp2_with fail
  refine (vEqual_is hl hl HSM HSM A2.out A3.out HE).mono ?_; rintro e w3 ⟨rfl, hb3⟩
  have A4 := box (A2.out.below hb3)
  have B3 := box (B2.out.trans (hb3.mono B2.out.size))
  clear hb3
  go_wp2_with fail
  refine (vFmt_is hl HFT A4.out HT).mono ?_; rintro e w4 ⟨rfl, hb4⟩
  have B4 := box (B3.out.trans (hb4.mono B3.out.size))
  clear hb4
  rw [show aw15T = (⟨#[97, 99, 99, 101, 112, 116, 45, 108, 97, 110, 103, 117, 97, 103, 101, 61, 40, 101, 110, 32, 102, 114, 41, 44, 32, 97, 99, 99, 101, 112, 116, 45, 101, 110, 99, 111, 100, 105, 110, 103, 61, 40, 103, 122, 105, 112, 32, 105, 100, 101, 110, 116, 105, 116, 121, 41]⟩ : ByteArray) from rfl]
  go_wp2
  go_ret
  exact ⟨rfl, B4.out⟩
end
section
open Go.RowKit
set_option maxHeartbeats 1000000 in
theorem values15_in (n x y : ByteArray) (w : World) (hn : n.size ≤ 100) (hx : x.size ≤ 300) (hy : y.size ≤ 300) :
    Calls Tryz.prog 3 #[.string n, .string x, .string y] w fun e w' => e = .returned (.bool true) ∧ Below w.heap.size w w' := by
  have hn6 : n.size ≤ 65000 := by omega
  have hx6 : x.size ≤ 65000 := by omega
  have hy6 : y.size ≤ 65000 := by omega
  obtain ⟨q, hq⟩ : ∃ q, valueV n x = q := ⟨_, rfl⟩
  obtain ⟨p, hp⟩ : ∃ p, sameV n x y = p := ⟨_, rfl⟩
  have HQ := box hq
  have HP := box hp
  clear hq hp
  go_enter Tryz.func3, Tryz.ntmps3
  go_wp2_with fail
  refine (vValue_is hn6 hx6 HQ).mono ?_; rintro e w1 ⟨rfl, hb1⟩
  have B1 := box hb1
  clear hb1
  go_wp2_with fail
  refine (rValue_is hn6 hx6 HQ).mono ?_; rintro e w2 ⟨rfl, hb2⟩
  have B2 := box (B1.out.trans (hb2.mono B1.out.size))
  clear hb2
  go_wp2_with fail
  refine (vSame_is hn6 hx6 hy6 HP).mono ?_; rintro e w3 ⟨rfl, hb3⟩
  have B3 := box (B2.out.trans (hb3.mono B2.out.size))
  clear hb3
  go_wp2_with fail
  refine (rSame15_is hn6 hx6 hy6 HP).mono ?_; rintro e w4 ⟨rfl, hb4⟩
  have B4 := box (B3.out.trans (hb4.mono B3.out.size))
  clear hb4
  go_wp2_with fail
  refine (awake15_any _).mono ?_; rintro e w5 ⟨rfl, hb5⟩
  have B5 := box (B4.out.trans (hb5.mono B4.out.size))
  clear hb5
  go_wp2
  go_ret
  exact ⟨rfl, B5.out⟩
theorem values15_walk (n x y : ByteArray) (w : World) (hn : n.size ≤ maxLen) (hx : x.size ≤ maxLen) (hy : y.size ≤ maxLen) :
    Calls Tryz.prog 3 #[.string n, .string x, .string y] w fun e w' => e = .returned (.bool true) ∧ Below w.heap.size w w' := by
  by_cases h1 : 100 < n.size
  · unfold maxLen at hn hx hy
    go_enter Tryz.func3, Tryz.ntmps3
    go_wp2
    go_ret
    exact ⟨rfl, Below.refl _ _⟩
  · by_cases h2 : 300 < x.size
    · unfold maxLen at hn hx hy
      go_enter Tryz.func3, Tryz.ntmps3
      go_wp2
      go_ret
      exact ⟨rfl, Below.refl _ _⟩
    · by_cases h3 : 300 < y.size
      · unfold maxLen at hn hx hy
        go_enter Tryz.func3, Tryz.ntmps3
        go_wp2
        go_ret
        exact ⟨rfl, Below.refl _ _⟩
      · exact values15_in n x y w (by omega) (by omega) (by omega)
theorem keepAx_is {a : Option Addr} {cap : Nat} {L : List AX} {q : Bool} {w : World} (hl : L.length ≤ maxLen) (hF : Axs w a L ∧ ∀ i (hi : i < L.length), L[i].2.length ≤ maxLen) (h : Box (keepA L = q)) :
    Calls Tryz.prog 13 #[.slice a L.length cap] w fun e w' => e = .returned (.bool q) ∧ w = w' :=
  (keepAxes_any a cap L w hl (box hF.1) (box hF.2)).mono fun e w' ⟨h1, h2⟩ => ⟨by rw [h1, h.out], h2⟩
set_option maxHeartbeats 1000000 in
theorem validity15_walk (a : Option Addr) (ca : Nat) (K : List AX) (b : Option Addr) (cb : Nat) (L : List AX) (w : World)
    (hk0 : K.length ≤ maxLen) (hK : Axs w a K ∧ ∀ i (hi : i < K.length), K[i].2.length ≤ maxLen) (hca : K.length ≤ ca) (hl0 : L.length ≤ maxLen) (hL : Axs w b L ∧ ∀ i (hi : i < L.length), L[i].2.length ≤ maxLen) (hcb : L.length ≤ cb) :
    Calls Tryz.prog 4 #[.slice a K.length ca, .slice b L.length cb] w fun e w' => e = .returned (.bool true) ∧ Below w.heap.size w w' := by
  have HK := box hK
  have HL := box hL
  have HK0 := box hk0
  have HL0 := box hl0
  clear hK hL hk0 hl0
  cases hkk : keepA K with
  | false =>
    have HKK := box hkk
    clear hkk
    go_enter Tryz.func4, Tryz.ntmps4
    go_wp2_with fail
    refine (keepAx_is HK0.out HK.out HKK).mono ?_; rintro e w1 ⟨rfl, rfl⟩
    go_wp2
    go_ret
    exact ⟨rfl, Below.refl _ _⟩
  | true =>
    cases hkl : keepA L with
    | false =>
      have HKK := box hkk
      have HKL := box hkl
      clear hkk hkl
      go_enter Tryz.func4, Tryz.ntmps4
      go_wp2_with fail
      refine (keepAx_is HK0.out HK.out HKK).mono ?_; rintro e w1 ⟨rfl, rfl⟩
      go_wp2_with fail
      refine (keepAx_is HL0.out HL.out HKL).mono ?_; rintro e w1 ⟨rfl, rfl⟩
      go_wp2
      go_ret
      exact ⟨rfl, Below.refl _ _⟩
    | true =>
      have HKK := box hkk
      have HKL := box hkl
      obtain ⟨k1, k2⟩ := keep_fit hkk
      obtain ⟨l1, l2⟩ := keep_fit hkl
      have ZK : Box (smallA K) := box (fitX.small k2)
      have ZL : Box (smallA L) := box (fitX.small l2)
      have k6 : K.length ≤ 65536 := by omega
      have l6 : L.length ≤ 65536 := by omega
      obtain ⟨q, hq⟩ : ∃ q, validX K = q := ⟨_, rfl⟩
      obtain ⟨p, hp⟩ : ∃ p, decide (K = L) = p := ⟨_, rfl⟩
      have HQ := box hq
      have HP := box hp
      clear hkk hkl k2 l2 hq hp k1 l1
      go_enter Tryz.func4, Tryz.ntmps4
      go_wp2_with fail
      refine (keepAx_is HK0.out HK.out HKK).mono ?_; rintro e w1 ⟨rfl, rfl⟩
      go_wp2_with fail
      refine (keepAx_is HL0.out HL.out HKL).mono ?_; rintro e w1 ⟨rfl, rfl⟩
      go_wp2_with fail
      refine (vValidL_is k6 ZK HK.out.1 HQ).mono ?_; rintro e w1 ⟨rfl, hb1⟩
      have B1 := box hb1
      clear hb1
      go_wp2_with fail
      refine (rValidL_is k6 ZK (HK.out.1.below B1.out) HQ).mono ?_; rintro e w2 ⟨rfl, hb2⟩
      have B2 := box (B1.out.trans (hb2.mono B1.out.size))
      clear hb2
      go_wp2_with fail
      refine (vEqual_is k6 l6 ZK ZL (HK.out.1.below B2.out) (HL.out.1.below B2.out) HP).mono ?_; rintro e w3 ⟨rfl, hb3⟩
      have B3 := box (B2.out.trans (hb3.mono B2.out.size))
      clear hb3
      go_wp2_with fail
      refine (rEqual_is k6 l6 ZK ZL (HK.out.1.below B3.out) (HL.out.1.below B3.out) HP).mono ?_; rintro e w4 ⟨rfl, hb4⟩
      have B4 := box (B3.out.trans (hb4.mono B3.out.size))
      clear hb4
      go_wp2_with fail
      refine (awake15_any _).mono ?_; rintro e w5 ⟨rfl, hb5⟩
      have B5 := box (B4.out.trans (hb5.mono B4.out.size))
      clear hb5
      go_wp2
      go_ret
      exact ⟨rfl, B5.out⟩
theorem keepF15_is {a : Option Addr} {cap : Nat} {L : List F} {q : Bool} {w : World} (hl : L.length ≤ maxLen) (hF : Fs w a L) (h : Box (keepF L = q)) :
    Calls Tryz.prog 18 #[.slice a L.length cap] w fun e w' => e = .returned (.bool q) ∧ w = w' :=
  (keepFields_any a cap L w hl (box hF)).mono fun e w' ⟨h1, h2⟩ => ⟨by rw [h1, h.out], h2⟩
theorem keep_sm15 {L : List F} (h : keepF L = true) (nm : ByteArray) : Sm L ∧ ∀ x ∈ getL nm L, x.size ≤ 65000 := by
  obtain ⟨h1, h2⟩ := keep_parts h
  refine ⟨⟨by omega, fun i hi => by have := h2 i hi; omega⟩, fun x hx => ?_⟩
  unfold getL at hx
  obtain ⟨p, hp, rfl⟩ := List.mem_map.1 hx
  obtain ⟨i, hi, rfl⟩ := List.getElem_of_mem (List.mem_filter.1 hp).1
  have := h2 i hi; omega
set_option maxHeartbeats 1000000 in
theorem parses15_walk (a : Option Addr) (cap : Nat) (L : List F) (w : World) (hl0 : L.length ≤ maxLen) (hF0 : Fs w a L) (hc : L.length ≤ cap) :
    Calls Tryz.prog 5 #[.slice a L.length cap] w fun e w' => e = .returned (.bool true) ∧ Below w.heap.size w w' := by
  have HF := box hF0
  have HL0 := box hl0
  clear hF0 hl0
  cases hkk : keepF L with
  | false =>
    have HKK := box hkk
    clear hkk
    go_enter Tryz.func5, Tryz.ntmps5
    go_wp2_with fail
    refine (keepF15_is HL0.out HF.out HKK).mono ?_; rintro e w1 ⟨rfl, rfl⟩
    go_wp2
    go_ret
    exact ⟨rfl, Below.refl _ _⟩
  | true =>
    have HKK := box hkk
    obtain ⟨hs, hv⟩ := keep_sm15 hkk nmVar
    obtain ⟨v1, v2⟩ := vars_small hv
    have S := box hs
    have HV := box hv
    obtain ⟨X, hX⟩ : ∃ X, varsX L = X := ⟨_, rfl⟩
    obtain ⟨k, hk⟩ : ∃ k, varsE L = k := ⟨_, rfl⟩
    have H := box (And.intro hX hk)
    rw [hX] at v1 v2
    have ZX := box v1
    have x6 : X.length ≤ 65536 := by omega
    clear hkk hs hv v1 v2 hX hk
    go_enter Tryz.func5, Tryz.ntmps5
    go_wp2_with fail
    refine (keepF15_is HL0.out HF.out HKK).mono ?_; rintro e w1 ⟨rfl, rfl⟩
    go_wp2_with fail
    refine (vParse_is S HV HF.out H).mono ?_; rintro e w1 ⟨p1, c1, rfl, hA1, hb1⟩
    have B1 := box hb1
    have A1 := box hA1
    clear hb1 hA1
    go_wp2_with fail
    refine (rParse_is S HV (HF.out.below B1.out) H).mono ?_; rintro e w2 ⟨p2, c2, rfl, hA2, hb2⟩
    have A3 := box (A1.out.below hb2)
    have A2 := box hA2
    have B2 := box (B1.out.trans (hb2.mono B1.out.size))
    clear hb2 hA2
    go_wp2_with fail
    refine (rEqual_is (q := true) x6 x6 ZX ZX A3.out A2.out (box (decide_eq_true rfl))).mono ?_; rintro e w3 ⟨rfl, hb3⟩
    have B3 := box (B2.out.trans (hb3.mono B2.out.size))
    clear hb3
    go_wp2_with fail
    refine (awake15_any _).mono ?_; rintro e w5 ⟨rfl, hb5⟩
    have B5 := box (B3.out.trans (hb5.mono B3.out.size))
    clear hb5
    go_wp2
    go_ret
    exact ⟨rfl, B5.out⟩
set_option maxHeartbeats 1000000 in
theorem formats15_walk (a : Option Addr) (cap : Nat) (L : List AX) (w : World) (hl0 : L.length ≤ maxLen) (hF0 : Axs w a L ∧ ∀ i (hi : i < L.length), L[i].2.length ≤ maxLen) (hc : L.length ≤ cap) :
    Calls Tryz.prog 6 #[.slice a L.length cap] w fun e w' => e = .returned (.bool true) ∧ Below w.heap.size w w' := by
  have HF := box hF0
  have HL0 := box hl0
  clear hF0 hl0
  cases hkk : keepA L with
  | false =>
    have HKK := box hkk
    clear hkk
    go_enter Tryz.func6, Tryz.ntmps6
    go_wp2_with fail
    refine (keepAx_is HL0.out HF.out HKK).mono ?_; rintro e w1 ⟨rfl, rfl⟩
    go_wp2
    go_ret
    exact ⟨rfl, Below.refl _ _⟩
  | true =>
    have HKK := box hkk
    obtain ⟨k1, k2⟩ := keep_fit hkk
    have ZF : Box (fitX L) := box k2
    have k6 : L.length ≤ 65536 := by omega
    obtain ⟨x, hx⟩ : ∃ x, fmtV L = x := ⟨_, rfl⟩
    have HX := box hx
    clear hkk k2 k1 hx
    go_enter Tryz.func6, Tryz.ntmps6
    go_wp2_with fail
    refine (keepAx_is HL0.out HF.out HKK).mono ?_; rintro e w1 ⟨rfl, rfl⟩
    go_wp2_with fail
    refine (vFmt_is k6 ZF HF.out.1 HX).mono ?_; rintro e w1 ⟨rfl, hb1⟩
    have B1 := box hb1
    clear hb1
    go_wp2_with fail
    refine (rFmt_is k6 ZF (HF.out.1.below B1.out) HX).mono ?_; rintro e w2 ⟨rfl, hb2⟩
    have B2 := box (B1.out.trans (hb2.mono B1.out.size))
    clear hb2
    go_wp2_with fail
    refine (awake15_any _).mono ?_; rintro e w5 ⟨rfl, hb5⟩
    have B5 := box (B2.out.trans (hb5.mono B2.out.size))
    clear hb5
    go_wp2
    go_ret
    exact ⟨rfl, B5.out⟩
def nmV15 : ByteArray := ⟨#[118, 97, 114, 105, 97, 110, 116, 115]⟩
theorem nmV15_is (x : ByteArray) : nmd nmVar (nmV15, x) = true := by
  show foldL nmV15.data.toList nmVar.data.toList = true
  decide +kernel
set_option maxHeartbeats 1000000 in
theorem back15_walk (a : Option Addr) (cap : Nat) (L : List AX) (w : World) (hl0 : L.length ≤ maxLen) (hF0 : Axs w a L ∧ ∀ i (hi : i < L.length), L[i].2.length ≤ maxLen) (hc : L.length ≤ cap) :
    Calls Tryz.prog 7 #[.slice a L.length cap] w fun e w' => e = .returned (.bool true) ∧ Below w.heap.size w w' := by
  have HF := box hF0
  have HL0 := box hl0
  clear hF0 hl0
  cases hkk : keepA L with
  | false =>
    have HKK := box hkk
    clear hkk
    go_enter Tryz.func7, Tryz.ntmps7
    go_wp2_with fail
    refine (keepAx_is HL0.out HF.out HKK).mono ?_; rintro e w1 ⟨rfl, rfl⟩
    go_wp2
    go_ret
    exact ⟨rfl, Below.refl _ _⟩
  | true =>
    have HKK := box hkk
    obtain ⟨k1, k2⟩ := keep_fit hkk
    have ZF : Box (fitX L) := box k2
    have ZL : Box (smallA L) := box (fitX.small k2)
    have k6 : L.length ≤ 65536 := by omega
    cases hv : validX L with
    | false =>
      have HV := box hv
      clear hkk k2 k1 hv
      go_enter Tryz.func7, Tryz.ntmps7
      go_wp2_with fail
      refine (keepAx_is HL0.out HF.out HKK).mono ?_; rintro e w1 ⟨rfl, rfl⟩
      go_wp2_with fail
      refine (rValidL_is k6 ZL HF.out.1 HV).mono ?_; rintro e w1 ⟨rfl, hb1⟩
      have B1 := box hb1
      clear hb1
      go_wp2
      go_ret
      exact ⟨rfl, B1.out⟩
    | true =>
      have HV := box hv
      obtain ⟨x, hx⟩ : ∃ x, fmtV L = x := ⟨_, rfl⟩
      obtain ⟨b1, b2, b3, _⟩ := vars_back (n := nmV15) hv hkk (nmV15_is x) hx
      have HX := box hx
      have HP := box (And.intro b2 b1)
      have S := box (one_sm15 (n := nmV15) (v := x) (by decide) (by omega))
      have hg := box (get_small15 (nm := nmVar) (n := nmV15) (v := x) b3)
      clear hkk k2 k1 hv hx b1 b2 b3
      go_enter Tryz.func7, Tryz.ntmps7
      go_wp2_with fail
      refine (keepAx_is HL0.out HF.out HKK).mono ?_; rintro e w1 ⟨rfl, rfl⟩
      go_wp2_with fail
      refine (rValidL_is k6 ZL HF.out.1 HV).mono ?_; rintro e w1 ⟨rfl, hb1⟩
      have B1 := box hb1
      clear hb1
      go_wp2_with fail
      refine (vFmt_is k6 ZF (HF.out.1.below B1.out) HX).mono ?_; rintro e w2 ⟨rfl, hb2⟩
      have B2 := box (B1.out.trans (hb2.mono B1.out.size))
      clear hb2
      go_wp2_with fail
      refine (vParse_is (L := [(nmV15, x)]) (X := L) S hg (fs_one15 _ _ _ _) HP).mono ?_; rintro e w3 ⟨p3, c3, rfl, hA3, hb3⟩
      have B3 := box (B2.out.trans (((below_new w2 _).trans (hb3.mono (below_new w2 _).size)).mono B2.out.size))
      have A3 := box hA3
      clear hb3 hA3
      go_wp2_with fail
      refine (rEqual_is (q := true) k6 k6 ZL ZL (HF.out.1.below B3.out) A3.out (box (decide_eq_true rfl))).mono ?_; rintro e w4 ⟨rfl, hb4⟩
      have B4 := box (B3.out.trans (hb4.mono B3.out.size))
      clear hb4
      go_wp2_with fail
      refine (awake15_any _).mono ?_; rintro e w5 ⟨rfl, hb5⟩
      have B5 := box (B4.out.trans (hb5.mono B4.out.size))
      clear hb5
      go_wp2
      go_ret
      exact ⟨rfl, B5.out⟩
end
end Go.Proofs.YtodbmdekgfcjpaaGreat.Asc
