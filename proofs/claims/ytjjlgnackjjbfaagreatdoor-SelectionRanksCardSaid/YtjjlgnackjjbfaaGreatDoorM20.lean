/- Merged texts: KeyRef VarLaws VarLaws2 SelOpen SelLaws SelSpec3 SelLaws2 SelLaws3. -/
import Derived.Test.YtjjlgnackjjbfaaGreatDoorM01
import Derived.Test.YtjjlgnackjjbfaaGreatDoorM04
import Derived.Test.YtjjlgnackjjbfaaGreatDoorM05
import Derived.Test.YtjjlgnackjjbfaaGreatDoorM06
import Derived.Test.YtjjlgnackjjbfaaGreatDoorM07
import Derived.Test.YtjjlgnackjjbfaaGreatDoorM08
import Derived.Test.YtjjlgnackjjbfaaGreatDoorM09
import Derived.Test.YtjjlgnackjjbfaaGreatDoorM11
import Derived.Test.YtjjlgnackjjbfaaGreatDoorM12
import Derived.Test.YtjjlgnackjjbfaaGreatDoorM13
import Derived.Test.YtjjlgnackjjbfaaGreatDoorM14
import Derived.Test.YtjjlgnackjjbfaaGreatDoorM15
import Derived.Test.YtjjlgnackjjbfaaGreatDoorM16
import Derived.Test.YtjjlgnackjjbfaaGreatDoorM17
import Derived.Test.YtjjlgnackjjbfaaGreatDoorM19
set_option linter.unusedVariables false
set_option linter.unusedSimpArgs false
set_option maxRecDepth 100000
namespace Go.Proofs.YtjjlgnackjjbfaaGreatDoor.Asc
section
open Go.RowKit
def SkRel (K L : List KY) (w : World) (i : Value) (wr : World) : Prop := ∃ j : Nat, i = .int .i64 j ∧ j ≤ K.length ∧ K.take j = L.take j ∧ Box (Below w.heap.size w wr)
set_option maxHeartbeats 2000000 in
theorem rSameKeys_any (a b : Option Addr) (ca cb : Nat) (K L : List KY) (w : World) (hk : K.length ≤ 65536) (hl : L.length ≤ 65536) (zk : Box (smallK K)) (zl : Box (smallK L)) (hK : Box (Kss w a K)) (hL : Box (Kss w b L)) :
    Calls Tryz.prog 17 #[.slice a K.length ca, .slice b L.length cb] w fun e w' => e = .returned (.bool (decide (K = L))) ∧ Below w.heap.size w w' := by
  by_cases hn : K.length = L.length
  · have HN := box hn
    have hne : ((K.length : Int) != (L.length : Int)) = false := by simp [hn]
    clear hn
    go_enter Tryz.func17, Tryz.ntmps17
    go_wp2
    go_loopw [5] (fun i wr => SkRel K L w i wr) (fun i _ => K.length - (intOf i).toNat)
    case atStart => exact ⟨0, rfl, Nat.zero_le _, rfl, box (Below.refl _ _)⟩
    case round =>
      obtain ⟨j, rfl, hj, htk, B0⟩ := hrel
      have HTK := box htk
      have hs0 := B0.out.size
      clear htk
      by_cases hlt : j < K.length
      · have hlt2 : j < L.length := by rw [← HN.out]; exact hlt
        have i1 : (0 : Int) ≤ (j : Int) := by omega
        have i2 : (j : Int) < (K.length : Int) := by omega
        have i3 : (j : Int) < (L.length : Int) := by omega
        obtain ⟨g, off, v, rfl, c0, ba, ca2, rfl, hss, _⟩ := (hK.out.below B0.out) j hlt
        obtain ⟨h, of2, v, rfl, d0, bb, cb2, rfl, hst, _⟩ := (hL.out.below B0.out) j hlt2
        obtain ⟨z2, _⟩ := zk.out _ (List.getElem_mem hlt)
        obtain ⟨y2, _⟩ := zl.out _ (List.getElem_mem hlt2)
        obtain ⟨A, hA⟩ : ∃ A, K[j] = A := ⟨_, rfl⟩
        obtain ⟨B, hB⟩ : ∃ B, L[j] = B := ⟨_, rfl⟩
        rw [hA] at c0 hss z2
        rw [hB] at d0 hst y2
        have z6 : A.length ≤ 65536 := by omega
        have y6 : B.length ≤ 65536 := by omega
        have SA := box hss
        have SB := box hst
        clear hss hst z2 y2
        obtain ⟨q, hq⟩ : ∃ q, decide (A = B) = q := ⟨_, rfl⟩
        have HQ := box hq
        cases q with
        | false =>
          have HX : Box (decide (K = L) = false) := box (decide_eq_false (not_same hlt hlt2 (fun e => by rw [hA, hB] at e; exact absurd e (of_decide_eq_false hq))))
          clear hq hA hB
          go_wp2
          go_region_held3 (fun w' => w'.cell? ⟨g, off + j, none⟩ = some (.slice ba A.length ca2) ∧ w'.cell? ⟨h, of2 + j, none⟩ = some (.slice bb B.length cb2)) (first | exact ⟨(hb5.cell (cell_lt c0)).trans c0, (hb5.cell (cell_lt d0)).trans d0⟩ | exact ⟨c0, d0⟩) (first | (go_at_call 26; refine (sameS15_is z6 y6 (SA.out.below (below_drewN _ _)) (SB.out.below (below_drewN _ _)) HQ).mono ?_; rintro e w5 ⟨rfl, hb5⟩))
          all_goals
            have B5 := box (B0.out.trans (((below_drewN _ _).trans hb5).mono B0.out.size))
            clear hb5
            go_wp2
            go_ret
            exact ⟨by rw [HX.out]; rfl, B5.out⟩
        | true =>
          have HX := box (take_same hlt hlt2 HTK.out (by rw [hA, hB]; exact of_decide_eq_true hq))
          clear hq hA hB
          go_wp2
          go_region_held3 (fun w' => w'.cell? ⟨g, off + j, none⟩ = some (.slice ba A.length ca2) ∧ w'.cell? ⟨h, of2 + j, none⟩ = some (.slice bb B.length cb2)) (first | exact ⟨(hb5.cell (cell_lt c0)).trans c0, (hb5.cell (cell_lt d0)).trans d0⟩ | exact ⟨c0, d0⟩) (first | (go_at_call 26; refine (sameS15_is z6 y6 (SA.out.below (below_drewN _ _)) (SB.out.below (below_drewN _ _)) HQ).mono ?_; rintro e w5 ⟨rfl, hb5⟩))
          all_goals
            have B5 := box (B0.out.trans (((below_drewN _ _).trans hb5).mono B0.out.size))
            clear hb5
            go_wp2
            go_roundw
            case rel => exact ⟨j + 1, by go_num, by omega, HX.out, B5⟩
            case measure => simp [intOf]; omega
      · have e : j = K.length := by omega
        have E : Box (decide (K = L) = true) := box (decide_eq_true (by
          have h := HTK.out
          subst e
          rw [List.take_length, HN.out, List.take_length] at h
          exact h))
        clear e
        go_wp2
        go_ret
        exact ⟨by rw [E.out]; rfl, B0.out⟩
  · have hne : ((K.length : Int) != (L.length : Int)) = true := by simp; omega
    have HN : Box (decide (K = L) = false) := box (decide_eq_false (fun e => hn (by rw [e])))
    clear hn
    go_enter Tryz.func17, Tryz.ntmps17
    go_wp2
    go_ret
    exact ⟨by rw [HN.out]; rfl, Below.refl _ _⟩
theorem rSameKeys_is {a b : Option Addr} {ca cb : Nat} {K L : List KY} {q : Bool} {w : World} (hk : K.length ≤ 65536) (hl : L.length ≤ 65536) (zk : Box (smallK K)) (zl : Box (smallK L)) (hK : Kss w a K) (hL : Kss w b L) (h : Box (decide (K = L) = q)) :
    Calls Tryz.prog 17 #[.slice a K.length ca, .slice b L.length cb] w fun e w' => e = .returned (.bool q) ∧ Below w.heap.size w w' :=
  (rSameKeys_any a b ca cb K L w hk hl zk zl (box hK) (box hL)).mono fun e w' ⟨h1, h2⟩ => ⟨by rw [h1, h.out], h2⟩
end
section
open Go.RowKit
theorem fs_one15 (a b : ByteArray) (w : World) (t : TypeId) : Fs (w.alloc (.cells #[.string a, .string b] t)) (some ⟨w.heap.size, 0, none⟩) [(a, b)] := by
  intro i hi
  refine ⟨w.heap.size, 0, rfl, ?_, ?_⟩
  all_goals
    rw [World.cell?_alloc_mark]
    match i, hi with
    | 0, _ => rfl
def aw15A : ByteArray := ⟨#[97, 99, 99, 101, 112, 116, 45, 108, 97, 110, 103, 117, 97, 103, 101]⟩
def aw15B : ByteArray := ⟨#[97, 99, 99, 101, 112, 116, 45, 101, 110, 99, 111, 100, 105, 110, 103]⟩
def aw15X : List AX := [(aw15A, [⟨#[101, 110]⟩, ⟨#[102, 114]⟩]), (aw15B, [⟨#[103, 122, 105, 112]⟩, ⟨#[105, 100, 101, 110, 116, 105, 116, 121]⟩])]
theorem aw15_fit : fitX aw15X := by
  intro i hi
  match i, hi with
  | 0, _ => exact (show fitA (aw15A, [⟨#[101, 110]⟩, ⟨#[102, 114]⟩]) from ⟨by decide, by decide, by decide⟩)
  | 1, _ => exact (show fitA (aw15B, [⟨#[103, 122, 105, 112]⟩, ⟨#[105, 100, 101, 110, 116, 105, 116, 121]⟩]) from ⟨by decide, by decide, by decide⟩)
theorem ss_two15 (x y : ByteArray) (w : World) (t : TypeId) : Ss (w.alloc (.cells #[.string x, .string y] t)) (some ⟨w.heap.size, 0, none⟩) [x, y] := by
  intro i hi
  refine ⟨w.heap.size, 0, rfl, ?_⟩
  rw [World.cell?_alloc_mark]
  match i, hi with
  | 0, _ => rfl
  | 1, _ => rfl
end
section
open Go.RowKit
theorem keepAx_is {a : Option Addr} {cap : Nat} {L : List AX} {q : Bool} {w : World} (hl : L.length ≤ maxLen) (hF : Axs w a L ∧ ∀ i (hi : i < L.length), L[i].2.length ≤ maxLen) (h : Box (keepA L = q)) :
    Calls Tryz.prog 9 #[.slice a L.length cap] w fun e w' => e = .returned (.bool q) ∧ w = w' :=
  (keepAxes_any a cap L w hl (box hF.1) (box hF.2)).mono fun e w' ⟨h1, h2⟩ => ⟨by rw [h1, h.out], h2⟩
theorem keepF15_is {a : Option Addr} {cap : Nat} {L : List F} {q : Bool} {w : World} (hl : L.length ≤ maxLen) (hF : Fs w a L) (h : Box (keepF L = q)) :
    Calls Tryz.prog 10 #[.slice a L.length cap] w fun e w' => e = .returned (.bool q) ∧ w = w' :=
  (keepFields_any a cap L w hl (box hF)).mono fun e w' ⟨h1, h2⟩ => ⟨by rw [h1, h.out], h2⟩
end
section
open Go.RowKit Go.ChangeShapes Go.WideShapes Go.Deep
theorem two17 {α : Type} {l : Array α} (h : l.size = 2) : ∃ a b, l = #[a, b] := by
  obtain ⟨l⟩ := l
  match l, h with
  | [a, b], _ => exact ⟨a, b, rfl⟩
theorem open_axis {H : Type} {enc : TypeId × Value → H} {W : World} {base : Nat} {sp : Nat → Bool} {held : Bool} {r : Reach} {b0 : Nat} {v : Value} {d : DataW H} {ps : List MemPlace}
    (hval : Value.okWide Tryz.prog W r b0 24 v) (h : DataW.Trod enc Tryz.prog W base sp held 24 v d ps) :
    ∃ (x : ByteArray) (a : Option Addr) (cap : Nat) (L : List ByteArray), v = .agg #[.string x, .slice a L.length cap] ∧ x.size ≤ maxLen ∧ L.length ≤ maxLen ∧ Ss W a L ∧ L.length ≤ cap := by
  obtain ⟨cs, rfl, hsz⟩ := okWide_struct Tryz.underlying24 hval
  rw [show Tryz.prog.cellsOf 24 = 2 from by kernel_rfl] at hsz
  obtain ⟨c0, c1, rfl⟩ := two17 hsz
  obtain ⟨fuel, hf⟩ := h
  obtain ⟨xs, m, _, _, _, hlen, hg⟩ := DataW.trod_struct Tryz.underlying24 hf
  have cS : Tryz.prog.cellsOf 9 = 1 := by kernel_rfl
  have cP : Tryz.prog.cellsOf 22 = 1 := by kernel_rfl
  have g0 := hg 0 _ rfl
  have g1 := hg 1 _ rfl
  have hl : xs.length = 2 := hlen
  match xs, hl with
  | [y0, y1], _ =>
    simp [Value.cells, cS, cP] at g0 g1
    obtain ⟨x, e0, _, w0⟩ := DataW.trod_string Tryz.underlying9 g0
    obtain ⟨V, ⟨b, c, e1, hs, hc⟩, hm⟩ := open_strs g1
    simp at e0
    subst e0 e1
    exact ⟨x, b, c, V, rfl, w0, hm, hs, hc⟩
end
section
open Go.RowKit
theorem kSame17_is {a b : Option Addr} {ca cb : Nat} {K L : List ByteArray} {q : Bool} {w : World} (hk : K.length ≤ 65536) (hl : L.length ≤ 65536) (hK : Ss w a K) (hL : Ss w b L) (h : Box (decide (K = L) = q)) :
    Calls Tryz.prog 11 #[.slice a K.length ca, .slice b L.length cb] w fun e w' => e = .returned (.bool q) ∧ Below w.heap.size w w' := by
  have HS := box (sameS15_is (ca := ca) (cb := cb) hk hl hK hL h)
  clear hK hL
  go_enter Tryz.func11, Tryz.ntmps11
  go_wp2_with fail
  refine HS.out.mono ?_; rintro e w1 ⟨rfl, hb1⟩
  have B1 := box hb1
  clear hb1
  go_wp2
  go_ret
  exact ⟨rfl, B1.out⟩
theorem fit_small {L : List F} {m : Nat} (h0 : L.length ≤ 65536) (h : ∀ i (hi : i < L.length), L[i].1.size ≤ 9000 ∧ L[i].2.size ≤ 9000) : FitL L := by
  refine ⟨⟨h0, fun i hi => by have := h i hi; omega⟩, fun nm x hx => ?_⟩
  unfold getL at hx
  obtain ⟨p, hp, rfl⟩ := List.mem_map.1 hx
  obtain ⟨i, hi, rfl⟩ := List.getElem_of_mem (List.mem_filter.1 hp).1
  have := h i hi; omega
theorem fit_keepF {L : List F} (h : keepF L = true) : FitL L := by
  obtain ⟨h1, h2⟩ := keep_parts h
  exact fit_small (m := 0) (by omega) (fun i hi => by have := h2 i hi; omega)
theorem fit_keepA {X : List AX} (h : keepA X = true) : FitX X := fun i hi => by
  obtain ⟨h1, h2⟩ := keep_fit h
  obtain ⟨h3, h4, h5⟩ := h2 i hi
  exact ⟨by omega, by omega, fun j hj => by have := h5 _ (List.getElem_mem hj); omega⟩
theorem keys_small17 {X : List AX} {L : List F} {st : Bool} (hZ : FitX X) : smallK (keysS X L st) ∧ (keysS X L st).length ≤ 64 ∧ ∀ k ∈ keysS X L st, k.length ≤ 4 := by
  unfold keysS
  cases hv : validX X with
  | false => exact ⟨fun k hk => (by cases hk), Nat.zero_le _, fun k hk => (by cases hk)⟩
  | true =>
    have hx := (validX_len hv).2
    simp only [Bool.true_eq_false, if_false]
    have hl : (rowsS X L st).length = X.length := by unfold rowsS; rw [List.length_map]
    have hk4 : ∀ k ∈ (prodK (rowsS X L st)).take 64, k.length ≤ 4 := fun k hk => by
      have := (prodK_mem _ _ (List.mem_of_mem_take hk)).1
      omega
    refine ⟨fun k hk => ⟨by have := hk4 k hk; omega, fun v hv2 => ?_⟩, by rw [List.length_take]; omega, hk4⟩
    obtain ⟨h1, h2⟩ := prodK_mem _ _ (List.mem_of_mem_take hk)
    obtain ⟨i, hi, rfl⟩ := List.getElem_of_mem hv2
    have hiX : i < X.length := by omega
    have hm := h2 i (by omega) hi
    have he : (rowsS X L st)[i]'(by omega) = rankS X[i] L st := List.getElem_map _
    rw [he] at hm
    have hm2 := rankS_mem hm
    obtain ⟨j, hj, e⟩ := List.getElem_of_mem hm2
    have := (hZ i hiX).2.2 j hj
    rw [← e]; omega
def aw17V : ByteArray := ⟨#[102, 114, 59, 113, 61, 48, 46, 53, 44, 32, 101, 110]⟩
def aw17N : ByteArray := ⟨#[65, 99, 99, 101, 112, 116, 45, 76, 97, 110, 103, 117, 97, 103, 101]⟩
def aw17K : List KY := [[⟨#[101, 110]⟩, ⟨#[103, 122, 105, 112]⟩], [⟨#[101, 110]⟩, ⟨#[105, 100, 101, 110, 116, 105, 116, 121]⟩], [⟨#[102, 114]⟩, ⟨#[103, 122, 105, 112]⟩], [⟨#[102, 114]⟩, ⟨#[105, 100, 101, 110, 116, 105, 116, 121]⟩]]
theorem aw17_is : keysS aw15X [(aw17N, aw17V)] false = aw17K := by decide +kernel
theorem aw17_small : smallK aw17K := by
  intro k hk
  have : ∀ k ∈ aw17K, k.length ≤ 65000 ∧ ∀ v ∈ k, v.size ≤ 65000 := by decide
  exact this k hk
theorem aw17_fitX : FitX aw15X := fun i hi => by
  obtain ⟨h1, h2, h3⟩ := aw15_fit i hi
  exact ⟨by omega, by omega, fun j hj => by have := h3 _ (List.getElem_mem hj); omega⟩
theorem aw17_fitL : FitL [(aw17N, aw17V)] := fit_small (m := 0) (by simp) (fun i hi => by
  match i, hi with
  | 0, _ => exact (show aw17N.size ≤ 9000 ∧ aw17V.size ≤ 9000 from by decide))
theorem axes17_any (w : World) : Calls Tryz.prog 33 #[] w fun e w' => ∃ p c, e = .returned (.slice p aw15X.length c) ∧ Axs w' p aw15X ∧ Below w.heap.size w w' := by
  have S1 := ss_two15 ⟨#[101, 110]⟩ ⟨#[102, 114]⟩ w 9
  have b1 := below_new w (.cells #[.string ⟨#[101, 110]⟩, .string ⟨#[102, 114]⟩] 9)
  have S2 := ss_two15 ⟨#[103, 122, 105, 112]⟩ ⟨#[105, 100, 101, 110, 116, 105, 116, 121]⟩ (w.alloc (.cells #[.string ⟨#[101, 110]⟩, .string ⟨#[102, 114]⟩] 9)) 9
  have b2 := below_new (w.alloc (.cells #[.string ⟨#[101, 110]⟩, .string ⟨#[102, 114]⟩] 9)) (.cells #[.string ⟨#[103, 122, 105, 112]⟩, .string ⟨#[105, 100, 101, 110, 116, 105, 116, 121]⟩] 9)
  have HS := box (And.intro S1 (And.intro b1 (And.intro S2 b2)))
  clear S1 b1 S2 b2
  go_enter Tryz.func33, Tryz.ntmps33
  go_wp2
  go_ret
  obtain ⟨S1, b1, S2, b2⟩ := HS.out
  obtain ⟨W2, hW2⟩ : ∃ W2, (w.alloc (.cells #[.string ⟨#[101, 110]⟩, .string ⟨#[102, 114]⟩] 9)).alloc (.cells #[.string ⟨#[103, 122, 105, 112]⟩, .string ⟨#[105, 100, 101, 110, 116, 105, 116, 121]⟩] 9) = W2 := ⟨_, rfl⟩
  have hsz : (w.alloc (.cells #[.string ⟨#[101, 110]⟩, .string ⟨#[102, 114]⟩] 9)).heap.size = w.heap.size + 1 := by simp
  have hsz2 : W2.heap.size = w.heap.size + 1 + 1 := by rw [← hW2]; simp
  have S1' := S1.below b2
  rw [hsz] at S2
  rw [hW2] at S1' S2
  have b3 := below_new W2 (.cells #[.string aw15A, .slice (some ⟨w.heap.size, 0, none⟩) 2 2, .string aw15B, .slice (some ⟨w.heap.size + 1, 0, none⟩) 2 2] 24)
  refine ⟨some ⟨W2.heap.size, 0, none⟩, 2, by rw [hsz2]; rfl, ?_, (by
    have h := (b1.trans (b2.mono b1.size))
    rw [hW2] at h
    have h2 := h.trans (b3.mono h.size)
    rw [← hW2] at h2
    exact h2)⟩
  show Axs ((((w.alloc (.cells #[.string ⟨#[101, 110]⟩, .string ⟨#[102, 114]⟩] 9)).alloc (.cells #[.string ⟨#[103, 122, 105, 112]⟩, .string ⟨#[105, 100, 101, 110, 116, 105, 116, 121]⟩] 9))).alloc (.cells #[.string aw15A, .slice (some ⟨w.heap.size, 0, none⟩) 2 2, .string aw15B, .slice (some ⟨w.heap.size + 1, 0, none⟩) 2 2] 24)) _ _
  rw [hW2]
  intro i hi
  match i, hi with
  | 0, _ => exact ⟨W2.heap.size, 0, _, rfl, by rw [World.cell?_alloc_mark]; rfl, by rw [World.cell?_alloc_mark]; rfl, some ⟨w.heap.size, 0, none⟩, 2, rfl, S1'.below b3, Nat.le_refl 2⟩
  | 1, _ => exact ⟨W2.heap.size, 0, _, rfl, by rw [World.cell?_alloc_mark]; rfl, by rw [World.cell?_alloc_mark]; rfl, some ⟨w.heap.size + 1, 0, none⟩, 2, rfl, S2.below b3, Nat.le_refl 2⟩
/-- four lists of two strings and the list of these -/
def w4_17 (a1 b1 a2 b2 a3 b3 a4 b4 : ByteArray) (w : World) : World :=
  (((w.alloc (.cells #[.string a1, .string b1] 9)).alloc (.cells #[.string a2, .string b2] 9)).alloc (.cells #[.string a3, .string b3] 9)).alloc (.cells #[.string a4, .string b4] 9)
theorem kss_four17 (a1 b1 a2 b2 a3 b3 a4 b4 : ByteArray) (w : World) : Kss ((w4_17 a1 b1 a2 b2 a3 b3 a4 b4 w).alloc (.cells #[.slice (some ⟨w.heap.size, 0, none⟩) 2 2, .slice (some ⟨w.heap.size + 1, 0, none⟩) 2 2, .slice (some ⟨w.heap.size + 1 + 1, 0, none⟩) 2 2, .slice (some ⟨w.heap.size + 1 + 1 + 1, 0, none⟩) 2 2] 22)) (some ⟨w.heap.size + 1 + 1 + 1 + 1, 0, none⟩) [[a1, b1], [a2, b2], [a3, b3], [a4, b4]]
    ∧ Below w.heap.size w ((w4_17 a1 b1 a2 b2 a3 b3 a4 b4 w).alloc (.cells #[.slice (some ⟨w.heap.size, 0, none⟩) 2 2, .slice (some ⟨w.heap.size + 1, 0, none⟩) 2 2, .slice (some ⟨w.heap.size + 1 + 1, 0, none⟩) 2 2, .slice (some ⟨w.heap.size + 1 + 1 + 1, 0, none⟩) 2 2] 22)) := by
  obtain ⟨x1, h1⟩ : ∃ x, w.alloc (.cells #[.string a1, .string b1] 9) = x := ⟨_, rfl⟩
  obtain ⟨x2, h2⟩ : ∃ x, x1.alloc (.cells #[.string a2, .string b2] 9) = x := ⟨_, rfl⟩
  obtain ⟨x3, h3⟩ : ∃ x, x2.alloc (.cells #[.string a3, .string b3] 9) = x := ⟨_, rfl⟩
  obtain ⟨x4, h4⟩ : ∃ x, x3.alloc (.cells #[.string a4, .string b4] 9) = x := ⟨_, rfl⟩
  have hw : w4_17 a1 b1 a2 b2 a3 b3 a4 b4 w = x4 := by unfold w4_17; rw [h1, h2, h3, h4]
  rw [hw]
  have S1 := ss_two15 a1 b1 w 9
  have S2 := ss_two15 a2 b2 x1 9
  have S3 := ss_two15 a3 b3 x2 9
  have S4 := ss_two15 a4 b4 x3 9
  have e1 := below_new w (.cells #[.string a1, .string b1] 9)
  have e2 := below_new x1 (.cells #[.string a2, .string b2] 9)
  have e3 := below_new x2 (.cells #[.string a3, .string b3] 9)
  have e4 := below_new x3 (.cells #[.string a4, .string b4] 9)
  rw [h1] at S1 e1
  rw [h2] at S2 e2
  rw [h3] at S3 e3
  rw [h4] at S4 e4
  have z1 : x1.heap.size = w.heap.size + 1 := by rw [← h1]; simp
  have z2 : x2.heap.size = w.heap.size + 1 + 1 := by rw [← h2]; simp [z1]
  have z3 : x3.heap.size = w.heap.size + 1 + 1 + 1 := by rw [← h3]; simp [z2]
  have z4 : w.heap.size + 1 + 1 + 1 + 1 = x4.heap.size := by rw [← h4]; simp [z3]
  rw [z1] at S2
  rw [z2] at S3
  rw [z3] at S4
  have b5 := below_new x4 (.cells #[.slice (some ⟨w.heap.size, 0, none⟩) 2 2, .slice (some ⟨w.heap.size + 1, 0, none⟩) 2 2, .slice (some ⟨w.heap.size + 1 + 1, 0, none⟩) 2 2, .slice (some ⟨w.heap.size + 1 + 1 + 1, 0, none⟩) 2 2] 22)
  refine ⟨?_, ?_⟩
  · intro i hi
    match i, hi with
    | 0, _ => exact ⟨_, 0, _, rfl, by rw [World.cell?_alloc_at (hn := z4)]; rfl, some ⟨w.heap.size, 0, none⟩, 2, rfl, (((S1.below e2).below e3).below e4).below b5, Nat.le_refl 2⟩
    | 1, _ => exact ⟨_, 0, _, rfl, by rw [World.cell?_alloc_at (hn := z4)]; rfl, some ⟨w.heap.size + 1, 0, none⟩, 2, rfl, ((S2.below e3).below e4).below b5, Nat.le_refl 2⟩
    | 2, _ => exact ⟨_, 0, _, rfl, by rw [World.cell?_alloc_at (hn := z4)]; rfl, some ⟨w.heap.size + 1 + 1, 0, none⟩, 2, rfl, (S3.below e4).below b5, Nat.le_refl 2⟩
    | 3, _ => exact ⟨_, 0, _, rfl, by rw [World.cell?_alloc_at (hn := z4)]; rfl, some ⟨w.heap.size + 1 + 1 + 1, 0, none⟩, 2, rfl, S4.below b5, Nat.le_refl 2⟩
  · have h12 := e1.trans (e2.mono e1.size)
    have h13 := h12.trans (e3.mono h12.size)
    have h14 := h13.trans (e4.mono h13.size)
    exact h14.trans (b5.mono h14.size)
set_option maxHeartbeats 2000000 in
theorem awake17_any (w : World) (hW : Wts w) : Calls Tryz.prog 14 #[] w fun e w' => e = .returned (.bool true) ∧ Below w.heap.size w w' := by
  have HT := box hW
  have HX := box aw17_is
  have FX := box aw17_fitX
  have FL := box aw17_fitL
  have HSK := box aw17_small
  have HE : Box (decide (aw17K = aw17K) = true) := box (decide_eq_true rfl)
  have hl : aw15X.length ≤ 65536 := by decide
  have hl1 : [(aw17N, aw17V)].length ≤ 65536 := by decide
  have hk : aw17K.length ≤ 65536 := by decide
  have hn1 : Box (aw15X.length = 2) := box rfl
  have hn2 : Box ([(aw17N, aw17V)].length = 1) := box rfl
  clear hW
  go_enter Tryz.func14, Tryz.ntmps14
  go_wp2_with fail
  refine (axes17_any _).mono ?_; rintro e w1 ⟨p1, c1, rfl, hA1, hb1⟩
  have B1 := box hb1
  have BN := box (below_new w1 (.cells #[.string aw17N, .string aw17V] 46))
  have FN := box (fs_one15 aw17N aw17V w1 46)
  have B2 := box (B1.out.trans (BN.out.mono B1.out.size))
  have A1 := box (hA1.below BN.out)
  have T1 := HT.out.below B2.out
  clear hb1 hA1
  rw [hn1.out]
  go_wp2_with fail
  refine (mKeys17_is (X := aw15X) (L := [(aw17N, aw17V)]) hl FX FL hl1 A1.out FN.out T1 HX hn1 hn2).mono ?_; rintro e w2 ⟨v2, rfl, hK2, hb2⟩
  obtain ⟨p2, c2, rfl, hS2, _⟩ := hK2.kss
  have B3 := box (B2.out.trans (hb2.mono B2.out.size))
  have KB := box (kss_four17 ⟨#[101, 110]⟩ ⟨#[103, 122, 105, 112]⟩ ⟨#[101, 110]⟩ ⟨#[105, 100, 101, 110, 116, 105, 116, 121]⟩ ⟨#[102, 114]⟩ ⟨#[103, 122, 105, 112]⟩ ⟨#[102, 114]⟩ ⟨#[105, 100, 101, 110, 116, 105, 116, 121]⟩ w2)
  have K2 := box (hS2.below KB.out.2)
  clear hb2 hK2 hS2 T1
  go_wp2_with fail
  refine (rSameKeys_is (K := aw17K) (L := aw17K) (cb := 4) hk hk HSK HSK K2.out KB.out.1 HE).mono ?_; rintro e w3 ⟨rfl, hb3⟩
  have B4 := box (B3.out.trans ((KB.out.2.trans (hb3.mono KB.out.2.size)).mono B3.out.size))
  clear hb3
  go_wp2
  go_ret
  exact ⟨rfl, B4.out⟩
theorem keepAxOne_is {n : ByteArray} {V : List ByteArray} {g : Nat} {q : Bool} {w : World} (hl : V.length ≤ maxLen) (hF : Axs w (some ⟨g, 0, none⟩) [(n, V)]) (h : Box (keepA [(n, V)] = q)) :
    Calls Tryz.prog 9 #[.slice (some ⟨g, 0, none⟩) 1 1] w fun e w' => e = .returned (.bool q) ∧ w = w' :=
  keepAx_is (L := [(n, V)]) (by unfold maxLen; simp) ⟨hF, fun i hi => by
    match i, hi with
    | 0, _ => exact hl⟩ h
theorem keepF17_is {a : Option Addr} {cap n : Nat} {L : List F} {q : Bool} {w : World} (hl : L.length ≤ maxLen) (hF : Fs w a L) (h : Box (keepF L = q)) (hn : Box (L.length = n)) :
    Calls Tryz.prog 10 #[.slice a n cap] w fun e w' => e = .returned (.bool q) ∧ w = w' := by
  have := keepF15_is (cap := cap) hl hF h
  rw [hn.out] at this; exact this
set_option maxHeartbeats 4000000 in
theorem ranks17_in (n : ByteArray) (b : Option Addr) (c nv : Nat) (V : List ByteArray) (a : Option Addr) (cap nl : Nat) (L : List F) (st : Bool) (w : World) (S : Box (n.size ≤ maxLen)) (hv0 : Box (V.length ≤ maxLen)) (hV : Box (Ss w b V)) (hcv : V.length ≤ c) (hl0 : Box (L.length ≤ maxLen)) (hF : Box (Fs w a L)) (hW : Wts w) (HNV : Box (V.length = nv)) (HNL : Box (L.length = nl)) :
    Calls Tryz.prog 3 #[.agg #[.string n, .slice b nv c], .slice a nl cap, .bool st] w fun e w' => e = .returned (.bool true) ∧ Below w.heap.size w w' := by
  have hAX : Box (SsV w (.slice b nv c) V) := box ⟨b, c, by rw [HNV.out], hV.out, hcv⟩
  have C0 := box (C2.new (.string n) (.slice b nv c) w 24)
  have B0 := box (below_new w (.cells #[.string n, .slice b nv c] 24))
  have A0 := box (hAX.out.below B0.out)
  obtain ⟨w0, hw0⟩ : ∃ w0, w.alloc (.cells #[.string n, .slice b nv c] 24) = w0 := ⟨_, rfl⟩
  have HW0 := box hw0
  rw [hw0] at C0 B0 A0
  have HS0 : Box (w0.heap.size = w.heap.size + 1) := box (by rw [← hw0]; simp)
  have hs0 := B0.out.size
  have V0 := box (hV.out.below B0.out)
  have F0 := box (hF.out.below B0.out)
  have T0 := box (hW.below B0.out)
  have AX0 : Box (Axs (w0.alloc (.cells #[.string n, .slice b nv c] 24)) (some ⟨w.heap.size + 1, 0, none⟩) [(n, V)]) := box (by rw [← HS0.out]; exact axs_one (n := n) w0 A0.out)
  have BX := box (below_new w0 (.cells #[.string n, .slice b nv c] 24))
  have F1 := box (F0.out.below BX.out)
  have BR := box (B0.out.trans (BX.out.mono hs0))
  have c00 := C0.out.1.1
  have c01 := C0.out.1.2
  obtain ⟨q1, hq1⟩ : ∃ q, keepA [(n, V)] = q := ⟨_, rfl⟩
  obtain ⟨q2, hq2⟩ : ∃ q, keepF L = q := ⟨_, rfl⟩
  have Q1 := box hq1
  have Q2 := box hq2
  cases q1 with
  | false =>
    clear hq1 hq2 hw0 hW hcv
    go_enter Tryz.func3, Tryz.ntmps3
    go_wp2_with fail
    rw [HW0.out]
    refine (keepAxOne_is hv0.out AX0.out Q1).mono ?_; rintro e w1 ⟨rfl, rfl⟩
    go_wp2
    go_ret
    exact ⟨rfl, BR.out⟩
  | true =>
    cases q2 with
    | false =>
      clear hq1 hq2 hw0 hW hcv
      go_enter Tryz.func3, Tryz.ntmps3
      go_wp2_with fail
      rw [HW0.out]
      refine (keepAxOne_is hv0.out AX0.out Q1).mono ?_; rintro e w1 ⟨rfl, rfl⟩
      go_wp2_with fail
      refine (keepF17_is hl0.out F1.out Q2 HNL).mono ?_; rintro e w1 ⟨rfl, rfl⟩
      go_wp2
      go_ret
      exact ⟨rfl, BR.out⟩
    | true =>
      have hfx := fit_keepA hq1
      have FL := box (fit_keepF hq2)
      obtain ⟨z1, z2, z3⟩ := hfx 0 (by simp)
      have hn2 : n.size ≤ 20000 := z1
      have hv65 : V.length ≤ 65000 := z2
      have hv6 : V.length ≤ 65536 := by omega
      have HZ : Box (∀ i (hi : i < V.length), V[i].size ≤ 20000) := box z3
      obtain ⟨R, hR⟩ : ∃ R, rankS (n, V) L st = R := ⟨_, rfl⟩
      have HR := box hR
      have hr6 : R.length ≤ 65536 := by rw [← hR]; have := rankS_len (n, V) L st; omega
      clear hq1 hq2 hw0 hW hfx z1 z2 z3 hR
      go_enter Tryz.func3, Tryz.ntmps3
      go_wp2_with fail
      rw [HW0.out]
      refine (keepAxOne_is hv0.out AX0.out Q1).mono ?_; rintro e w1 ⟨rfl, rfl⟩
      go_wp2_with fail
      refine (keepF17_is hl0.out F1.out Q2 HNL).mono ?_; rintro e w1 ⟨rfl, rfl⟩
      clear c00 c01
      go_wp2
      refine wp_region_held_drew (S := (fun w' : World => (w'.cell? ⟨w.heap.size, 0, none⟩ = some (.string n) ∧ w'.cell? ⟨w.heap.size, 1, none⟩ = some (.slice b nv c)) ∧ Box (Below w0.heap.size w0 w'))) (by kernel_rfl) ⟨⟨(C0.out.below BX.out C0.out.lt).1.1, (C0.out.below BX.out C0.out.lt).1.2⟩, box BX.out.drew⟩ (fun hHeld => ?_)
      refine wpAnyH_take (i := 0) (oi := { dst := some 16, op := Op.load 24 (Operand.tmp 3), type := 24, pos := "law.go:30", after := #[], guard := none }) (v := ?v0z) rfl (by kernel_rfl) (by kernel_rfl) (by kernel_rfl) (fun _ _ _ h => h) (Or.inl ⟨by rfl, ?y0z⟩) (by assumption) ?r0z
      case y0z => (intro w hSw; (try dsimp only at hSw); go_simp; first | done | with_reducible rfl)
      try simp only [Act.put, List.setIfInBounds_toArray, List.set_cons_zero, List.set_cons_succ]
      refine wpAnyH_take (i := 1) (oi := { dst := some 17, op := Op.move (Operand.tmp 1), type := 25, pos := "law.go:30", after := #[], guard := none }) (v := ?v1z) rfl (by kernel_rfl) (by kernel_rfl) (by kernel_rfl) (fun _ _ _ h => h) (Or.inl ⟨by rfl, ?y1z⟩) (by assumption) ?r1z
      case y1z => (intro w hSw; (try dsimp only at hSw); go_simp; first | done | with_reducible rfl)
      try simp only [Act.put, List.setIfInBounds_toArray, List.set_cons_zero, List.set_cons_succ]
      refine wpAnyH_take (i := 2) (oi := { dst := some 18, op := Op.move (Operand.tmp 2), type := 4, pos := "law.go:30", after := #[], guard := none }) (v := ?v2z) rfl (by kernel_rfl) (by kernel_rfl) (by kernel_rfl) (fun _ _ _ h => h) (Or.inl ⟨by rfl, ?y2z⟩) (by assumption) ?r2z
      case y2z => (intro w hSw; (try dsimp only at hSw); go_simp; first | done | with_reducible rfl)
      try simp only [Act.put, List.setIfInBounds_toArray, List.set_cons_zero, List.set_cons_succ]
      refine wpAnyH_take (i := 4) (oi := { dst := some 20, op := Op.load 24 (Operand.tmp 3), type := 24, pos := "law.go:30", after := #[], guard := none }) (v := ?v4z) rfl (by kernel_rfl) (by kernel_rfl) (by kernel_rfl) (fun _ _ _ h => h) (Or.inl ⟨by rfl, ?y4z⟩) (by assumption) ?r4z
      case y4z => (intro w hSw; (try dsimp only at hSw); go_simp; first | done | with_reducible rfl)
      try simp only [Act.put, List.setIfInBounds_toArray, List.set_cons_zero, List.set_cons_succ]
      refine wpAnyH_take (i := 5) (oi := { dst := some 21, op := Op.move (Operand.tmp 1), type := 25, pos := "law.go:30", after := #[], guard := none }) (v := ?v5z) rfl (by kernel_rfl) (by kernel_rfl) (by kernel_rfl) (fun _ _ _ h => h) (Or.inl ⟨by rfl, ?y5z⟩) (by assumption) ?r5z
      case y5z => (intro w hSw; (try dsimp only at hSw); go_simp; first | done | with_reducible rfl)
      try simp only [Act.put, List.setIfInBounds_toArray, List.set_cons_zero, List.set_cons_succ]
      refine wpAnyH_take (i := 6) (oi := { dst := some 22, op := Op.move (Operand.tmp 2), type := 4, pos := "law.go:30", after := #[], guard := none }) (v := ?v6z) rfl (by kernel_rfl) (by kernel_rfl) (by kernel_rfl) (fun _ _ _ h => h) (Or.inl ⟨by rfl, ?y6z⟩) (by assumption) ?r6z
      case y6z => (intro w hSw; (try dsimp only at hSw); go_simp; first | done | with_reducible rfl)
      try simp only [Act.put, List.setIfInBounds_toArray, List.set_cons_zero, List.set_cons_succ]
      refine wpAnyH_ready (rs := [3]) (by kernel_rfl) (by simp) ?_
      refine AllReadyH.cons (o := { dst := some 19, op := Op.call { callee := Callee.value (Operand.func 12), args := #[Operand.tmp 16, Operand.tmp 17, Operand.tmp 18], argTypes := #[24, 25, 4] }, type := 22, pos := "law.go:30", after := #[{ on := 0, ground := Ground.data }, { on := 1, ground := Ground.data }, { on := 2, ground := Ground.data }], guard := none }) rfl (fun K hK => ?_) AllReadyH.nil
      go_simp
      refine (mRanked17_is hn2 hv65 hcv HZ FL (V0.out.below hHeld.2.out) (F0.out.below hHeld.2.out) (T0.out.below hHeld.2.out) HR HNV HNL).mono ?_; rintro e w2 ⟨v2, rfl, hO2, hb2⟩
      obtain ⟨a2, c2, rfl, hS2, _⟩ := hO2.ss
      have B2 := box (hHeld.2.out.trans (hb2.mono hHeld.2.out.size))
      have S2 := box hS2
      clear hO2 hb2 hS2
      go_wp2_with fail
      refine hK.out _ _ ⟨⟨(C0.out.below B2.out C0.out.lt).1.1, (C0.out.below B2.out C0.out.lt).1.2⟩, B2⟩ (fun hHeld => ?_)
      clear hK K
      try simp only [Act.put, List.setIfInBounds_toArray, List.set_cons_zero, List.set_cons_succ]
      refine wpAnyH_ready (rs := [7]) (by kernel_rfl) (by simp) ?_
      refine AllReadyH.cons (o := { dst := some 23, op := Op.call { callee := Callee.value (Operand.func 13), args := #[Operand.tmp 20, Operand.tmp 21, Operand.tmp 22], argTypes := #[24, 25, 4] }, type := 22, pos := "law.go:30", after := #[{ on := 4, ground := Ground.data }, { on := 5, ground := Ground.data }, { on := 6, ground := Ground.data }, { on := 3, ground := Ground.chain }], guard := none }) rfl (fun K hK => ?_) AllReadyH.nil
      go_simp
      refine (rRanked17_is hn2 hv6 HZ FL (V0.out.below B2.out) (F0.out.below B2.out) HR HNV HNL).mono ?_; rintro e w3 ⟨v3, rfl, hO3, hb3⟩
      obtain ⟨a3, c3, rfl, hS3, _⟩ := hO3.ss
      have B3 := box (B2.out.trans (hb3.mono B2.out.size))
      have S3 := box hS3
      have S2b := box (S2.out.below hb3)
      clear hO3 hb3 hS3
      go_wp2_with fail
      refine hK.out _ _ ⟨⟨(C0.out.below B3.out C0.out.lt).1.1, (C0.out.below B3.out C0.out.lt).1.2⟩, B3⟩ (fun hHeld => ?_)
      clear hK K
      try simp only [Act.put, List.setIfInBounds_toArray, List.set_cons_zero, List.set_cons_succ]
      refine wpAnyH_ready (rs := [8]) (by kernel_rfl) (by simp) ?_
      refine AllReadyH.cons (o := { dst := some 24, op := Op.call { callee := Callee.value (Operand.func 11), args := #[Operand.tmp 19, Operand.tmp 23], argTypes := #[22, 22] }, type := 4, pos := "law.go:30", after := #[{ on := 3, ground := Ground.data }, { on := 7, ground := Ground.data }, { on := 7, ground := Ground.chain }], guard := none }) rfl (fun K hK => ?_) AllReadyH.nil
      go_simp
      refine (kSame17_is (q := true) hr6 hr6 S2b.out S3.out (box (decide_eq_true rfl))).mono ?_; rintro e w4 ⟨rfl, hb4⟩
      have B4 := box (B3.out.trans (hb4.mono B3.out.size))
      clear hb4
      go_wp2_with fail
      refine hK.out _ _ ⟨⟨(C0.out.below B4.out C0.out.lt).1.1, (C0.out.below B4.out C0.out.lt).1.2⟩, B4⟩ (fun hHeld => ?_)
      clear hK K
      try simp only [Act.put, List.setIfInBounds_toArray, List.set_cons_zero, List.set_cons_succ]
      refine wpAnyH_take (i := 9) (oi := { dst := some 25, op := Op.move (Operand.tmp 24), type := 4, pos := "law.go:30", after := #[{ on := 8, ground := Ground.data }, { on := 8, ground := Ground.chain }], guard := none }) (v := ?v9z) rfl (by kernel_rfl) (by kernel_rfl) (by kernel_rfl) (fun _ _ _ h => h) (Or.inl ⟨by rfl, ?y9z⟩) (by assumption) ?r9z
      case y9z => (intro w hSw; (try dsimp only at hSw); go_simp; first | done | with_reducible rfl)
      try simp only [Act.put, List.setIfInBounds_toArray, List.set_cons_zero, List.set_cons_succ]
      refine wpAnyH_ready (rs := [10]) (by kernel_rfl) (by simp) ?_
      refine AllReadyH.cons (o := { dst := some 26, op := Op.call { callee := Callee.value (Operand.func 14), args := #[], argTypes := #[] }, type := 4, pos := "law.go:30", after := #[{ on := 9, ground := Ground.chain }, { on := 9, ground := Ground.guard }], guard := some (9, true) }) rfl (fun K hK => ?_) AllReadyH.nil
      go_simp
      refine (awake17_any _ (T0.out.below B4.out)).mono ?_; rintro e w5 ⟨rfl, hb5⟩
      have B5 := box (B4.out.trans (hb5.mono B4.out.size))
      clear hb5
      go_wp2_with fail
      refine hK.out _ _ ⟨⟨(C0.out.below B5.out C0.out.lt).1.1, (C0.out.below B5.out C0.out.lt).1.2⟩, B5⟩ (fun hHeld => ?_)
      clear hK K
      try simp only [Act.put, List.setIfInBounds_toArray, List.set_cons_zero, List.set_cons_succ]
      refine wpAnyH_take (i := 11) (oi := { dst := some 27, op := Op.pick (Operand.tmp 25) (Operand.tmp 26) (Operand.const (Value.bool false)), type := 4, pos := "law.go:30", after := #[{ on := 9, ground := Ground.data }, { on := 10, ground := Ground.data }], guard := none }) (v := ?v11z) rfl (by kernel_rfl) (by kernel_rfl) (by kernel_rfl) (fun _ _ _ h => h) (Or.inl ⟨by rfl, ?y11z⟩) (by assumption) ?r11z
      case y11z => (intro w hSw; (try dsimp only at hSw); go_simp; first | done | with_reducible rfl)
      try simp only [Act.put, List.setIfInBounds_toArray, List.set_cons_zero, List.set_cons_succ]
      refine wpAnyH_take (i := 12) (oi := { dst := some 6, op := Op.assign (Operand.tmp 27), type := 4, pos := "law.go:30", after := #[{ on := 11, ground := Ground.data }, { on := 10, ground := Ground.chain }, { on := 0, ground := Ground.phase }, { on := 1, ground := Ground.phase }, { on := 2, ground := Ground.phase }, { on := 3, ground := Ground.phase }, { on := 4, ground := Ground.phase }, { on := 5, ground := Ground.phase }, { on := 6, ground := Ground.phase }, { on := 7, ground := Ground.phase }, { on := 8, ground := Ground.phase }, { on := 9, ground := Ground.phase }, { on := 10, ground := Ground.phase }, { on := 11, ground := Ground.phase }], guard := none }) (v := ?v12z) rfl (by kernel_rfl) (by kernel_rfl) (by kernel_rfl) (fun _ _ _ h => h) (Or.inl ⟨by rfl, ?y12z⟩) (by assumption) ?r12z
      case y12z => (intro w hSw; (try dsimp only at hSw); go_simp; first | done | with_reducible rfl)
      try simp only [Act.put, List.setIfInBounds_toArray, List.set_cons_zero, List.set_cons_succ]
      refine wpAnyH_done (by kernel_rfl) ?_ _
      go_wp2
      go_ret
      exact ⟨rfl, B0.out.trans (B5.out.mono hs0)⟩
theorem ranks17_walk (n : ByteArray) (b : Option Addr) (c : Nat) (V : List ByteArray) (a : Option Addr) (cap : Nat) (L : List F) (st : Bool) (w : World) (S : n.size ≤ maxLen) (hv0 : V.length ≤ maxLen) (hV : Ss w b V) (hcv : V.length ≤ c) (hl0 : L.length ≤ maxLen) (hF : Fs w a L) (hcl : L.length ≤ cap) (hW : Wts w) :
    Calls Tryz.prog 3 #[.agg #[.string n, .slice b V.length c], .slice a L.length cap, .bool st] w fun e w' => e = .returned (.bool true) ∧ Below w.heap.size w w' :=
  ranks17_in n b c _ V a cap _ L st w (box S) (box hv0) (box hV) hcv (box hl0) (box hF) hW (box rfl) (box rfl)
theorem keepA17_is {a : Option Addr} {cap n : Nat} {X : List AX} {q : Bool} {w : World} (hl : X.length ≤ maxLen) (hF : Axs w a X ∧ ∀ i (hi : i < X.length), X[i].2.length ≤ maxLen) (h : Box (keepA X = q)) (hn : Box (X.length = n)) :
    Calls Tryz.prog 9 #[.slice a n cap] w fun e w' => e = .returned (.bool q) ∧ w = w' := by
  have := keepAx_is (cap := cap) hl hF h
  rw [hn.out] at this; exact this
set_option maxHeartbeats 4000000 in
theorem keys17_in (p : Option Addr) (cp nx : Nat) (X : List AX) (a : Option Addr) (cap nl : Nat) (L : List F) (st : Bool) (w : World) (hx0 : Box (X.length ≤ maxLen)) (hX : Box (Axs w p X ∧ ∀ i (hi : i < X.length), X[i].2.length ≤ maxLen)) (hl0 : Box (L.length ≤ maxLen)) (hF : Box (Fs w a L)) (hW : Wts w) (HNX : Box (X.length = nx)) (HNL : Box (L.length = nl)) :
    Calls Tryz.prog 4 #[.slice p nx cp, .slice a nl cap, .bool st] w fun e w' => e = .returned (.bool true) ∧ Below w.heap.size w w' := by
  have HT := box hW
  obtain ⟨q1, hq1⟩ : ∃ q, keepA X = q := ⟨_, rfl⟩
  obtain ⟨q2, hq2⟩ : ∃ q, keepF L = q := ⟨_, rfl⟩
  have Q1 := box hq1
  have Q2 := box hq2
  cases q1 with
  | false =>
    clear hq1 hq2 hW
    go_enter Tryz.func4, Tryz.ntmps4
    go_wp2_with fail
    refine (keepA17_is hx0.out hX.out Q1 HNX).mono ?_; rintro e w1 ⟨rfl, rfl⟩
    go_wp2
    go_ret
    exact ⟨rfl, Below.refl _ _⟩
  | true =>
    cases q2 with
    | false =>
      clear hq1 hq2 hW
      go_enter Tryz.func4, Tryz.ntmps4
      go_wp2_with fail
      refine (keepA17_is hx0.out hX.out Q1 HNX).mono ?_; rintro e w1 ⟨rfl, rfl⟩
      go_wp2_with fail
      refine (keepF17_is hl0.out hF.out Q2 HNL).mono ?_; rintro e w1 ⟨rfl, rfl⟩
      go_wp2
      go_ret
      exact ⟨rfl, Below.refl _ _⟩
    | true =>
      have FX := box (fit_keepA hq1)
      have FL := box (fit_keepF hq2)
      have x6 : X.length ≤ 65536 := by have := (keep_fit hq1).1; omega
      have l6 : L.length ≤ 65536 := by have := (keep_parts hq2).1; omega
      obtain ⟨K, hK⟩ : ∃ K, keysS X L st = K := ⟨_, rfl⟩
      have HK := box hK
      obtain ⟨k1, k2, k3⟩ := keys_small17 (L := L) (st := st) FX.out
      rw [hK] at k1 k2 k3
      have k6 : K.length ≤ 65536 := by omega
      have ZK := box k1
      have hb4 : (bestS K).length ≤ 65536 := by
        unfold bestS
        cases K with
        | nil => simp
        | cons x K => have := k3 x (by simp); show x.length ≤ _; omega
      obtain ⟨y, hy⟩ : ∃ y, bestS K = y := ⟨_, rfl⟩
      obtain ⟨o, ho⟩ : ∃ o, decide (K ≠ []) = o := ⟨_, rfl⟩
      have HY := box hy
      have HO := box ho
      have hbb : (o == o) = true := by simp
      rw [hy] at hb4
      clear hq1 hq2 hW hK k1 k2 k3 hy ho
      go_enter Tryz.func4, Tryz.ntmps4
      go_wp2_with fail
      refine (keepA17_is hx0.out hX.out Q1 HNX).mono ?_; rintro e w1 ⟨rfl, rfl⟩
      go_wp2_with fail
      refine (keepF17_is hl0.out hF.out Q2 HNL).mono ?_; rintro e w1 ⟨rfl, rfl⟩
      go_wp2_with fail
      refine (mBest17_is x6 FX FL l6 hX.out.1 hF.out HT.out HK HNX HNL).mono ?_; rintro e w1 ⟨v1, rfl, hO1, hb1⟩
      rw [HY.out] at hO1
      rw [HO.out]
      obtain ⟨a1, c1, rfl, hS1, _⟩ := hO1.ss
      have B1 := box hb1
      have S1 := box hS1
      clear hO1 hb1 hS1
      go_wp2_with fail
      refine (rBest17_is x6 FX FL l6 (hX.out.1.below B1.out) (hF.out.below B1.out) HK HNX HNL).mono ?_; rintro e w2 ⟨v2, rfl, hO2, hb2⟩
      rw [HY.out] at hO2
      rw [HO.out]
      obtain ⟨a2, c2, rfl, hS2, _⟩ := hO2.ss
      have B2 := box (B1.out.trans (hb2.mono B1.out.size))
      have S1b := box (S1.out.below hb2)
      have S2 := box hS2
      clear hO2 hb2 hS2
      go_wp2_with fail
      refine (mKeys17_is x6 FX FL l6 (hX.out.1.below B2.out) (hF.out.below B2.out) (HT.out.below B2.out) HK HNX HNL).mono ?_; rintro e w3 ⟨v3, rfl, hO3, hb3⟩
      obtain ⟨a3, c3, rfl, hS3, _⟩ := hO3.kss
      have B3 := box (B2.out.trans (hb3.mono B2.out.size))
      have S3 := box hS3
      have S1c := box (S1b.out.below hb3)
      have S2b := box (S2.out.below hb3)
      clear hO3 hb3 hS3
      go_wp2_with fail
      refine (rKeys17_is x6 FX FL l6 (hX.out.1.below B3.out) (hF.out.below B3.out) HK HNX HNL).mono ?_; rintro e w4 ⟨v4, rfl, hO4, hb4'⟩
      obtain ⟨a4, c4, rfl, hS4, _⟩ := hO4.kss
      have B4 := box (B3.out.trans (hb4'.mono B3.out.size))
      have S4 := box hS4
      have S3b := box (S3.out.below hb4')
      have S1d := box (S1c.out.below hb4')
      have S2c := box (S2b.out.below hb4')
      clear hO4 hb4' hS4
      go_wp2_with fail
      refine (rSameKeys_is (q := true) k6 k6 ZK ZK S3b.out S4.out (box (decide_eq_true rfl))).mono ?_; rintro e w5 ⟨rfl, hb5⟩
      have B5 := box (B4.out.trans (hb5.mono B4.out.size))
      have S1e := box (S1d.out.below hb5)
      have S2d := box (S2c.out.below hb5)
      clear hb5
      go_wp2_with fail
      refine (kSame17_is (q := true) hb4 hb4 S1e.out S2d.out (box (decide_eq_true rfl))).mono ?_; rintro e w6 ⟨rfl, hb6⟩
      have B6 := box (B5.out.trans (hb6.mono B5.out.size))
      clear hb6
      go_wp2_with fail
      refine (awake17_any _ (HT.out.below B6.out)).mono ?_; rintro e w7 ⟨rfl, hb7⟩
      have B7 := box (B6.out.trans (hb7.mono B6.out.size))
      clear hb7
      go_wp2
      go_ret
      exact ⟨rfl, B7.out⟩
theorem keys17_walk (p : Option Addr) (cp : Nat) (X : List AX) (a : Option Addr) (cap : Nat) (L : List F) (st : Bool) (w : World) (hx0 : X.length ≤ maxLen) (hX : Axs w p X ∧ ∀ i (hi : i < X.length), X[i].2.length ≤ maxLen) (hcx : X.length ≤ cp) (hl0 : L.length ≤ maxLen) (hF : Fs w a L) (hcl : L.length ≤ cap) (hW : Wts w) :
    Calls Tryz.prog 4 #[.slice p X.length cp, .slice a L.length cap, .bool st] w fun e w' => e = .returned (.bool true) ∧ Below w.heap.size w w' :=
  keys17_in p cp _ X a cap _ L st w (box hx0) (box hX) (box hl0) (box hF) hW (box rfl) (box rfl)
end
section
def allS (X : List AX) (L : List F) : Bool := X.all fun x => decide (rankS x L true ≠ [])
theorem allS_more {X : List AX} {L : List F} {i : Nat} (h : i < X.length) : allS (X.take (i + 1)) L = (allS (X.take i) L && decide (rankS X[i] L true ≠ [])) := by
  unfold allS
  rw [List.take_succ_eq_append_getElem h, List.all_append]
  simp
theorem rows_mem {X : List AX} {L : List F} {st : Bool} {r : List ByteArray} (h : r ∈ rowsS X L st) : ∃ x ∈ X, rankS x L st = r := by
  unfold rowsS at h
  obtain ⟨x, h1, h2⟩ := List.mem_map.1 h
  exact ⟨x, h1, h2⟩
theorem keysS_ne {X : List AX} {L : List F} {st : Bool} (hv : validX X = true) (h : ∀ x ∈ X, rankS x L st ≠ []) : keysS X L st ≠ [] := by
  have hp : 0 < numK (rowsS X L st) := numK_pos _ (fun r hr => by obtain ⟨x, h1, rfl⟩ := rows_mem hr; exact h x h1)
  have hl : 0 < (prodK (rowsS X L st)).length := by rw [prodK_len]; exact hp
  unfold keysS
  rw [if_neg (by rw [hv]; simp)]
  intro e
  have := congrArg List.length e
  rw [List.length_take, List.length_nil] at this
  omega
theorem keysS_none {X : List AX} {L : List F} {st : Bool} {x : AX} (hx : x ∈ X) (h : rankS x L st = []) : keysS X L st = [] := by
  unfold keysS
  split
  · rfl
  · rw [prodK_empty (rowsS X L st) (by rw [← h]; exact List.mem_map.2 ⟨x, hx, rfl⟩)]; rfl
theorem validX_mem {X : List AX} (hv : validX X = true) {x : AX} (hx : x ∈ X) : validA x = true := by
  obtain ⟨i, hi, rfl⟩ := List.getElem_of_mem hx
  exact validX_at hv i hi
theorem keysS_dflt {X : List AX} {L : List F} (hv : validX X = true) : decide (keysS X L false ≠ []) = true :=
  decide_eq_true (keysS_ne hv (fun x hx => rankS_some (validX_mem hv hx)))
theorem keysS_all {X : List AX} {L : List F} (hv : validX X = true) : decide (keysS X L true ≠ []) = allS X L := by
  cases h : allS X L with
  | true =>
    unfold allS at h
    exact decide_eq_true (keysS_ne hv (fun x hx => by have := List.all_eq_true.1 h x hx; exact of_decide_eq_true this))
  | false =>
    unfold allS at h
    rw [List.all_eq_false] at h
    obtain ⟨x, hx, h2⟩ := h
    have h3 : rankS x L true = [] := by
      by_cases e : rankS x L true = []
      · exact e
      · exact absurd (decide_eq_true e) h2
    rw [keysS_none hx h3]
    rfl
def BestIs (X : List AX) (L : List F) (y : KY) : Prop :=
  y.length = X.length ∧ ∀ i (h : i < X.length) (h2 : i < y.length), kindN X[i].1 ≠ 0 → 0 < qlS X[i] L y[i] ∧ ∀ v ∈ X[i].2, qlS X[i] L v ≤ qlS X[i] L y[i]
theorem prodK_head : ∀ (R : List (List ByteArray)), (∀ r ∈ R, r ≠ []) → (prodK R).headD [] = R.map fun r => atS r 0
  | [], _ => rfl
  | r :: R, h => by
    have ih := prodK_head R (fun s hs => h s (by simp [hs]))
    cases r with
    | nil => exact absurd rfl (h [] (by simp))
    | cons v r =>
      show (((v :: r).flatMap fun v => (prodK R).map (v :: ·))).headD [] = atS (v :: r) 0 :: R.map fun r => atS r 0
      rw [List.flatMap_cons, ← ih]
      have hp : 0 < (prodK R).length := by rw [prodK_len]; exact numK_pos R (fun s hs => h s (by simp [hs]))
      cases hK : prodK R with
      | nil => rw [hK] at hp; exact absurd hp (by simp)
      | cons k K => rfl
theorem desc_first {q : ByteArray → Int} {S : List ByteArray} (hd : DescR q S) (h : S ≠ []) : ∀ v ∈ S, q v ≤ q (atS S 0) := by
  cases S with
  | nil => exact absurd rfl h
  | cons y S =>
    intro v hv
    show q v ≤ q y
    rcases List.mem_cons.1 hv with rfl | hv
    · exact Int.le_refl _
    · exact hd.1 v hv
theorem rank_first {q : ByteArray → Int} {V : List ByteArray} (h : rankQ q V ≠ []) : 0 < q (atS (rankQ q V) 0) ∧ ∀ v ∈ V, q v ≤ q (atS (rankQ q V) 0) := by
  have hl : 0 < (rankQ q V).length := List.length_pos_iff.2 h
  have h0 : 0 < q (atS (rankQ q V) 0) := by
    rw [atS_is hl]
    exact (rankQ_mem (List.getElem_mem hl)).2
  refine ⟨h0, fun v hv => ?_⟩
  rcases Int.lt_or_le 0 (q v) with hp | hp
  · obtain ⟨i, hi, rfl⟩ := List.getElem_of_mem hv
    have := rank_at hi hp
    exact desc_first (desc_rank V) h _ (List.mem_of_getElem? this)
  · omega
theorem best_is17 {X : List AX} {L : List F} (hv : validX X = true) (h : keysS X L true ≠ []) : BestIs X L (bestS (keysS X L true)) := by
  have hne : ∀ x ∈ X, rankS x L true ≠ [] := fun x hx e => h (keysS_none hx e)
  have hr : ∀ r ∈ rowsS X L true, r ≠ [] := fun r hr => by obtain ⟨x, h1, rfl⟩ := rows_mem hr; exact hne x h1
  have hb : bestS (keysS X L true) = (rowsS X L true).map fun r => atS r 0 := by
    rw [← prodK_head _ hr]
    unfold bestS keysS
    rw [if_neg (by rw [hv]; simp)]
    cases prodK (rowsS X L true) with
    | nil => rfl
    | cons k K => rfl
  rw [hb]
  refine ⟨by unfold rowsS; rw [List.length_map, List.length_map], fun i hi h2 hk => ?_⟩
  have he : ((rowsS X L true).map fun r => atS r 0)[i] = atS (rankS X[i] L true) 0 := by
    unfold rowsS; simp
  rw [he]
  have hva := validX_at hv i hi
  have hx := hne X[i] (List.getElem_mem hi)
  rw [rankS_acc hva (.inr rfl)] at hx ⊢
  have ha : accS X[i] L = rankQ (qlS X[i] L) X[i].2 := by unfold accS; rw [if_neg hk]
  rw [ha] at hx ⊢
  exact rank_first hx
theorem numK_snoc : ∀ (R : List (List ByteArray)) (r : List ByteArray), numK (R ++ [r]) = numK R * r.length
  | [], r => by show r.length * 1 = 1 * r.length; omega
  | a :: R, r => by
    show a.length * numK (R ++ [r]) = a.length * numK R * r.length
    rw [numK_snoc R r, Nat.mul_assoc]
theorem numK_take {R : List (List ByteArray)} {i : Nat} (h : i < R.length) : numK (R.take (i + 1)) = numK (R.take i) * R[i].length := by
  rw [List.take_succ_eq_append_getElem h, numK_snoc]
theorem ins_nodup {q : ByteArray → Int} {x : ByteArray} : ∀ {l : List ByteArray}, x ∉ l → l.Nodup → (insR q x l).Nodup
  | [], _, _ => by unfold insR; simp
  | y :: ys, hx, hn => by
    unfold insR
    split
    · exact List.nodup_cons.2 ⟨hx, hn⟩
    · rw [List.nodup_cons] at hn ⊢
      refine ⟨fun hm => ?_, ins_nodup (fun h => hx (by simp [h])) hn.2⟩
      rcases ins_mem hm with h | h
      · exact hx (by simp [h])
      · exact hn.1 h
theorem rankQ_nodup {q : ByteArray → Int} : ∀ (n : Nat) (V : List ByteArray), V.length = n → V.Nodup → (rankQ q V).Nodup
  | 0, V, hV, _ => by
    obtain rfl := List.length_eq_zero_iff.1 hV
    show ([] : List ByteArray).Nodup
    simp
  | n + 1, V, hV, hn => by
    obtain ⟨W, x, rfl⟩ : ∃ W x, V = W ++ [x] := by
      have hne : V ≠ [] := by intro e; subst e; simp at hV
      exact ⟨V.dropLast, V.getLast hne, (List.dropLast_concat_getLast hne).symm⟩
    have hW : W.length = n := by simpa using hV
    rw [List.nodup_append] at hn
    have ih := rankQ_nodup (q := q) n W hW hn.1
    rw [rank_snoc]
    unfold stepR
    split
    · refine ins_nodup (fun h => ?_) ih
      exact hn.2.2 x (rankQ_mem h).1 x (by simp) rfl
    · exact ih
theorem valid_nodup {x : AX} (h : validA x = true) : x.2.Nodup := by
  exact List.pairwise_iff_getElem.2 (fun i j hi hj hij => valid_ne h hij hj)
theorem rankS_nodup {x : AX} {L : List F} {st : Bool} : (rankS x L st).Nodup := by
  unfold rankS
  split
  · simp
  · rename_i hv
    have hv2 : validA x = true := by cases e : validA x with
      | true => rfl
      | false => exact absurd e hv
    have hn := valid_nodup hv2
    split
    · simp
    · unfold accS
      split
      · exact hn.sublist List.filter_sublist
      · exact rankQ_nodup _ _ rfl hn
theorem keysS_nodup {X : List AX} {L : List F} {st : Bool} : (keysS X L st).Nodup := by
  unfold keysS
  split
  · simp
  · exact (prodK_nodup _ (fun r hr => by obtain ⟨x, _, rfl⟩ := rows_mem hr; exact rankS_nodup)).sublist (List.take_sublist _ _)
theorem keysS_ne_at {X : List AX} {L : List F} {st : Bool} {K : List KY} (h : keysS X L st = K) {i j : Nat} (hij : j < i) (hi : i < K.length) : K[i] ≠ K[j]'(by omega) := by
  have hn := keysS_nodup (X := X) (L := L) (st := st)
  rw [h] at hn
  have h2 := List.pairwise_iff_getElem.1 hn j i (by omega) hi hij
  exact fun e => h2 e.symm
theorem keysS_len {X : List AX} {L : List F} {st : Bool} (hv : validX X = true) : (keysS X L st).length = min (numK (rowsS X L st)) 64 := by
  unfold keysS
  rw [if_neg (by rw [hv]; simp), List.length_take, prodK_len, Nat.min_comm]
def midF (L : List F) (f : F) (k : Nat) : List F := L.take k ++ f :: L.drop k
theorem mid_filter {L : List F} {f : F} {k : Nat} {p : F → Bool} (h : p f = false) : (midF L f k).filter p = L.filter p := by
  unfold midF
  rw [List.filter_append, List.filter_cons, h]
  simp only [Bool.false_eq_true, if_false]
  rw [← List.filter_append, List.take_append_drop]
theorem mid_any {L : List F} {f : F} {k : Nat} {p : F → Bool} (h : p f = false) : (midF L f k).any p = L.any p := by
  unfold midF
  rw [List.any_append, List.any_cons, h, Bool.false_or, ← List.any_append, List.take_append_drop]
theorem mid_all {L : List F} {f : F} {k : Nat} {nm : ByteArray} (h : nmd nm f = false) : allL nm (midF L f k) = allL nm L := by
  unfold allL getL
  rw [mid_filter h]
theorem kind_fold {n : ByteArray} (h : kindN n ≠ 0) : foldL n.data.toList (nameK (kindN n)).data.toList = true := by
  unfold kindN at h ⊢
  split
  · rename_i h1; exact h1
  · split
    · rename_i h1; exact h1
    · split
      · rename_i h1; exact h1
      · split
        · rename_i h1; exact h1
        · rename_i h1 h2 h3 h4
          rw [if_neg h1, if_neg h2, if_neg h3, if_neg h4] at h
          exact absurd rfl h
theorem nmd_other {n : ByteArray} {f : F} (h : foldL n.data.toList f.1.data.toList = false) {m : ByteArray} (hm : foldL n.data.toList m.data.toList = true) : nmd m f = false := by
  unfold nmd
  cases e : foldL f.1.data.toList m.data.toList with
  | false => rfl
  | true =>
    have h1 := fold_trans hm (by rw [fold_symm]; exact e)
    rw [h] at h1; cases h1
theorem fold_self (a : List UInt8) : foldL a a = true := by unfold foldL; exact decide_eq_true rfl
theorem acc_mid {x : AX} {L : List F} {f : F} {k : Nat} (h : foldL x.1.data.toList f.1.data.toList = false) : accS x (midF L f k) = accS x L := by
  unfold accS
  split
  · have : allB x.1 (midF L f k) = allB x.1 L := by unfold allB; rw [mid_all (nmd_other h (fold_self _))]
    rw [this]
  · rename_i hk
    have hn := nmd_other h (kind_fold hk)
    have ho : prefsO (kindN x.1) (midF L f k) = prefsO (kindN x.1) L := by unfold prefsO; rw [mid_any hn]
    have hp : prefsV (kindN x.1) (midF L f k) = prefsV (kindN x.1) L := by unfold prefsV prefsL; rw [ho, mid_all hn]
    have hq : qlS x (midF L f k) = qlS x L := by unfold qlS; rw [ho, hp]
    rw [hq]
theorem keys_mid {X : List AX} {L : List F} {f : F} {k : Nat} {st : Bool} (h : ∀ x ∈ X, foldL x.1.data.toList f.1.data.toList = false) : keysS X (midF L f k) st = keysS X L st := by
  have hr : rowsS X (midF L f k) st = rowsS X L st := by
    unfold rowsS
    refine List.map_congr_left (fun x hx => ?_)
    unfold rankS
    rw [acc_mid (h x hx)]
  unfold keysS
  rw [hr]
end
section
open Go.RowKit
def DfRel (X : List AX) (L : List F) (W : World) (b i : Value) (wr : World) : Prop :=
  ∃ j : Nat, i = .int .i64 j ∧ j ≤ X.length ∧ b = .bool (allS (X.take j) L) ∧ Box (Below W.heap.size W wr)
set_option maxHeartbeats 4000000 in
theorem defaults17_in (p : Option Addr) (cp nx : Nat) (X : List AX) (a : Option Addr) (cap nl : Nat) (L : List F) (w : World) (hx0 : Box (X.length ≤ maxLen)) (hX : Box (Axs w p X ∧ ∀ i (hi : i < X.length), X[i].2.length ≤ maxLen)) (hl0 : Box (L.length ≤ maxLen)) (hF : Box (Fs w a L)) (hW : Wts w) (HNX : Box (X.length = nx)) (HNL : Box (L.length = nl)) :
    Calls Tryz.prog 5 #[.slice p nx cp, .slice a nl cap] w fun e w' => e = .returned (.bool true) ∧ Below w.heap.size w w' := by
  have HT := box hW
  obtain ⟨q1, hq1⟩ : ∃ q, keepA X = q := ⟨_, rfl⟩
  obtain ⟨q2, hq2⟩ : ∃ q, keepF L = q := ⟨_, rfl⟩
  obtain ⟨q3, hq3⟩ : ∃ q, validX X = q := ⟨_, rfl⟩
  have Q1 := box hq1
  have Q2 := box hq2
  have Q3 := box hq3
  cases q1 with
  | false =>
    clear hq1 hq2 hq3 hW
    go_enter Tryz.func5, Tryz.ntmps5
    go_wp2_with fail
    refine (keepA17_is hx0.out hX.out Q1 HNX).mono ?_; rintro e w1 ⟨rfl, rfl⟩
    go_wp2
    go_ret
    exact ⟨rfl, Below.refl _ _⟩
  | true =>
    cases q2 with
    | false =>
      clear hq1 hq2 hq3 hW
      go_enter Tryz.func5, Tryz.ntmps5
      go_wp2_with fail
      refine (keepA17_is hx0.out hX.out Q1 HNX).mono ?_; rintro e w1 ⟨rfl, rfl⟩
      go_wp2_with fail
      refine (keepF17_is hl0.out hF.out Q2 HNL).mono ?_; rintro e w1 ⟨rfl, rfl⟩
      go_wp2
      go_ret
      exact ⟨rfl, Below.refl _ _⟩
    | true =>
      have FX := box (fit_keepA hq1)
      have FL := box (fit_keepF hq2)
      have x6 : X.length ≤ 65536 := by have := (keep_fit hq1).1; omega
      have l6 : L.length ≤ 65536 := by have := (keep_parts hq2).1; omega
      cases q3 with
      | false =>
        clear hq1 hq2 hq3 hW
        go_enter Tryz.func5, Tryz.ntmps5
        go_wp2_with fail
        refine (keepA17_is hx0.out hX.out Q1 HNX).mono ?_; rintro e w1 ⟨rfl, rfl⟩
        go_wp2_with fail
        refine (keepF17_is hl0.out hF.out Q2 HNL).mono ?_; rintro e w1 ⟨rfl, rfl⟩
        go_wp2_with fail
        refine (rValid17_is x6 FX hX.out.1 Q3 HNX).mono ?_; rintro e w1 ⟨rfl, hb1⟩
        have B1 := box hb1
        clear hb1
        go_wp2
        go_ret
        exact ⟨rfl, B1.out⟩
      | true =>
        obtain ⟨K, hK⟩ : ∃ K, keysS X L false = K := ⟨_, rfl⟩
        obtain ⟨K2, hK2⟩ : ∃ K, keysS X L true = K := ⟨_, rfl⟩
        have HK := box hK
        have HK2 := box hK2
        have HD1 : Box (decide (K ≠ []) = true) := box (by rw [← hK]; exact keysS_dflt hq3)
        obtain ⟨o, ho⟩ : ∃ o, allS X L = o := ⟨_, rfl⟩
        have HO := box ho
        have HD2 : Box (decide (K2 ≠ []) = o) := box (by rw [← hK2, ← ho]; exact keysS_all hq3)
        clear hq1 hq2 hq3 hW hK hK2 ho
        go_enter Tryz.func5, Tryz.ntmps5
        go_wp2_with fail
        refine (keepA17_is hx0.out hX.out Q1 HNX).mono ?_; rintro e w1 ⟨rfl, rfl⟩
        go_wp2_with fail
        refine (keepF17_is hl0.out hF.out Q2 HNL).mono ?_; rintro e w1 ⟨rfl, rfl⟩
        go_wp2_with fail
        refine (rValid17_is x6 FX hX.out.1 Q3 HNX).mono ?_; rintro e w1 ⟨rfl, hb1⟩
        have B1 := box hb1
        clear hb1
        go_wp2_with fail
        refine (mBest17_is x6 FX FL l6 (hX.out.1.below B1.out) (hF.out.below B1.out) (HT.out.below B1.out) HK HNX HNL).mono ?_; rintro e w2 ⟨v2, rfl, hO2, hb2⟩
        rw [HD1.out]
        obtain ⟨a2, c2, rfl, _, _⟩ := hO2.ss
        have B2 := box (B1.out.trans (hb2.mono B1.out.size))
        clear hO2 hb2
        go_wp2_with fail
        refine (mBest17_is x6 FX FL l6 (hX.out.1.below B2.out) (hF.out.below B2.out) (HT.out.below B2.out) HK2 HNX HNL).mono ?_; rintro e w3 ⟨v3, rfl, hO3, hb3⟩
        rw [HD2.out]
        obtain ⟨a3, c3, rfl, _, _⟩ := hO3.ss
        have B3 := box (B2.out.trans (hb3.mono B2.out.size))
        clear hO3 hb3
        go_wp2
        go_loopw [9, 10] (fun b i wr => DfRel X L w b i wr) (fun _ i _ => nx - (intOf i).toNat)
        case atStart => exact ⟨0, rfl, Nat.zero_le _, rfl, B3⟩
        case round =>
          obtain ⟨j, rfl, hj, rfl, B4⟩ := hrel
          obtain ⟨z, hz⟩ : ∃ z, allS (X.take j) L = z := ⟨_, rfl⟩
          rw [hz]
          have hs4 := B4.out.size
          by_cases hlt : j < nx
          · have hji : (j : Int) < (nx : Int) := by omega
            have hj0 : (0 : Int) ≤ (j : Int) := by omega
            have hjX : j < X.length := by have := HNX.out; omega
            cases z with
            | false =>
              have HZ : Box (allS (X.take (j + 1)) L = false) := box (by rw [allS_more hjX, hz]; rfl)
              clear hz
              go_wp2
              go_roundw
              case rel => exact ⟨j + 1, by go_num, by omega, by rw [HZ.out], B4⟩
              case measure => simp [intOf]; omega
            | true =>
              obtain ⟨g, off, v, rfl, c0, c1, b, c, rfl, hss, hcc⟩ := (hX.out.1.below B4.out) j hjX
              obtain ⟨z1, z2, z3⟩ := FX.out j hjX
              obtain ⟨n, hn⟩ : ∃ n, X[j].1 = n := ⟨_, rfl⟩
              obtain ⟨V, hV⟩ : ∃ V, X[j].2 = V := ⟨_, rfl⟩
              have hxi : X[j] = (n, V) := by rw [← hn, ← hV]
              rw [hn] at c0 z1
              rw [hV] at c1 hss z2 hcc
              have Z3 : Box (∀ j (hj : j < V.length), V[j].size ≤ 20000) := box (by subst hV; exact z3)
              obtain ⟨m, hm⟩ : ∃ m, V.length = m := ⟨_, rfl⟩
              have HM := box hm
              rw [hm] at c1
              obtain ⟨r, hr⟩ : ∃ r, rankS (n, V) L true = r := ⟨_, rfl⟩
              have HR := box hr
              have HZ : Box (allS (X.take (j + 1)) L = decide (r ≠ [])) := box (by rw [allS_more hjX, hz, hxi, hr]; rfl)
              have SS := box hss
              have F4 := box (hF.out.below B4.out)
              have T4 := HT.out.below B4.out
              clear hn hV hss z3 hxi hm hr hz
              go_wp2_with fail
              refine (mRanked17_is z1 z2 hcc Z3 FL SS.out F4.out T4 HR HM HNL).mono ?_; rintro e w5 ⟨v5, rfl, hO5, hb5⟩
              obtain ⟨a5, c5, rfl, _, _⟩ := hO5.ss
              have B5 := box (B4.out.trans (hb5.mono hs4))
              clear hO5 hb5 T4 c0 c1
              by_cases hr0 : r.length = 0
              · have HZ2 : Box (decide (r ≠ []) = false) := box (decide_eq_false (fun h => h (List.length_eq_zero_iff.1 hr0)))
                rw [hr0]
                clear hr0
                go_wp2
                go_roundw
                case rel => exact ⟨j + 1, by go_num, by omega, by rw [HZ.out, HZ2.out], B5⟩
                case measure => simp [intOf]; omega
              · have HZ2 : Box (decide (r ≠ []) = true) := box (decide_eq_true (fun h => hr0 (by rw [h]; rfl)))
                have hri : (0 : Int) < (r.length : Int) := by omega
                go_wp2
                go_roundw
                case rel => exact ⟨j + 1, by go_num, by omega, by rw [HZ.out, HZ2.out]; exact congrArg Value.bool (decide_eq_true (by omega)), B5⟩
                case measure => simp [intOf]; omega
          · have hji : ¬ (j : Int) < (nx : Int) := by omega
            have hzo : z = o := by rw [← hz, ← HO.out, List.take_of_length_le (by have := HNX.out; omega)]
            subst hzo
            have hbb : (z == z) = true := by simp
            clear hz HO HD2
            go_wp2_with fail
            refine (awake17_any _ (HT.out.below B4.out)).mono ?_; rintro e w7 ⟨rfl, hb7⟩
            have B7 := box (B4.out.trans (hb7.mono hs4))
            clear hb7
            go_wp2
            go_ret
            exact ⟨rfl, B7.out⟩
theorem defaults17_walk (p : Option Addr) (cp : Nat) (X : List AX) (a : Option Addr) (cap : Nat) (L : List F) (w : World) (hx0 : X.length ≤ maxLen) (hX : Axs w p X ∧ ∀ i (hi : i < X.length), X[i].2.length ≤ maxLen) (hcx : X.length ≤ cp) (hl0 : L.length ≤ maxLen) (hF : Fs w a L) (hcl : L.length ≤ cap) (hW : Wts w) :
    Calls Tryz.prog 5 #[.slice p X.length cp, .slice a L.length cap] w fun e w' => e = .returned (.bool true) ∧ Below w.heap.size w w' :=
  defaults17_in p cp _ X a cap _ L w (box hx0) (box hX) (box hl0) (box hF) hW (box rfl) (box rfl)
end
section
open Go.RowKit
theorem keysS_mem {X : List AX} {L : List F} {st : Bool} {k : KY} (h : k ∈ keysS X L st) : k.length = X.length ∧ ∀ i (hi : i < X.length) (h2 : i < k.length), k[i] ∈ X[i].2 := by
  unfold keysS at h
  split at h
  · cases h
  · obtain ⟨h1, h2⟩ := prodK_mem _ _ (List.mem_of_mem_take h)
    have hl : (rowsS X L st).length = X.length := by unfold rowsS; rw [List.length_map]
    refine ⟨by omega, fun i hi hi2 => ?_⟩
    have hm := h2 i (by omega) hi2
    rw [show (rowsS X L st)[i]'(by omega) = rankS X[i] L st from List.getElem_map _] at hm
    exact rankS_mem hm
theorem bestS_mem {K : List KY} (h : K ≠ []) : bestS K ∈ K := by
  cases K with
  | nil => exact absurd rfl h
  | cons k K => exact List.mem_cons_self
def CnRel (n : Nat) (W : World) (i : Value) (wr : World) : Prop := ∃ j : Nat, i = .int .i64 j ∧ j ≤ n ∧ Box (Below W.heap.size W wr)
theorem mQual17_is {k i : Int} {a : Option Addr} {cap : Nat} {L : List QP} {present : Bool} {v : ByteArray} {w : World} (hk : InI64 k) (hl : L.length ≤ 65536) (hz : Box (∀ i (hi : i < L.length), L[i].1.size ≤ 20000)) (hv : v.size ≤ 20000) (hF : Qs w a L) (h : Box (qualR k L present v.data.toList = i)) :
    Calls Tryz.prog 23 #[.int .i64 k, .slice a L.length cap, .bool present, .string v] w fun e w' => e = .returned (.int .i64 i) ∧ Below w.heap.size w w' :=
  mQuality_is2 hk hl hz hv hF h
set_option maxHeartbeats 4000000 in
theorem acceptable17_in (p : Option Addr) (cp nx : Nat) (X : List AX) (a : Option Addr) (cap nl : Nat) (L : List F) (w : World) (hx0 : Box (X.length ≤ maxLen)) (hX : Box (Axs w p X ∧ ∀ i (hi : i < X.length), X[i].2.length ≤ maxLen)) (hl0 : Box (L.length ≤ maxLen)) (hF : Box (Fs w a L)) (hW : Wts w) (HNX : Box (X.length = nx)) (HNL : Box (L.length = nl)) :
    Calls Tryz.prog 6 #[.slice p nx cp, .slice a nl cap] w fun e w' => e = .returned (.bool true) ∧ Below w.heap.size w w' := by
  have HT := box hW
  obtain ⟨q1, hq1⟩ : ∃ q, keepA X = q := ⟨_, rfl⟩
  obtain ⟨q2, hq2⟩ : ∃ q, keepF L = q := ⟨_, rfl⟩
  obtain ⟨q3, hq3⟩ : ∃ q, validX X = q := ⟨_, rfl⟩
  have Q1 := box hq1
  have Q2 := box hq2
  have Q3 := box hq3
  cases q1 with
  | false =>
    clear hq1 hq2 hq3 hW
    go_enter Tryz.func6, Tryz.ntmps6
    go_wp2_with fail
    refine (keepA17_is hx0.out hX.out Q1 HNX).mono ?_; rintro e w1 ⟨rfl, rfl⟩
    go_wp2
    go_ret
    exact ⟨rfl, Below.refl _ _⟩
  | true =>
    cases q2 with
    | false =>
      clear hq1 hq2 hq3 hW
      go_enter Tryz.func6, Tryz.ntmps6
      go_wp2_with fail
      refine (keepA17_is hx0.out hX.out Q1 HNX).mono ?_; rintro e w1 ⟨rfl, rfl⟩
      go_wp2_with fail
      refine (keepF17_is hl0.out hF.out Q2 HNL).mono ?_; rintro e w1 ⟨rfl, rfl⟩
      go_wp2
      go_ret
      exact ⟨rfl, Below.refl _ _⟩
    | true =>
      have FX := box (fit_keepA hq1)
      have FL := box (fit_keepF hq2)
      have x6 : X.length ≤ 65536 := by have := (keep_fit hq1).1; omega
      have l6 : L.length ≤ 65536 := by have := (keep_parts hq2).1; omega
      cases q3 with
      | false =>
        clear hq1 hq2 hq3 hW
        go_enter Tryz.func6, Tryz.ntmps6
        go_wp2_with fail
        refine (keepA17_is hx0.out hX.out Q1 HNX).mono ?_; rintro e w1 ⟨rfl, rfl⟩
        go_wp2_with fail
        refine (keepF17_is hl0.out hF.out Q2 HNL).mono ?_; rintro e w1 ⟨rfl, rfl⟩
        go_wp2_with fail
        refine (rValid17_is x6 FX hX.out.1 Q3 HNX).mono ?_; rintro e w1 ⟨rfl, hb1⟩
        have B1 := box hb1
        clear hb1
        go_wp2
        go_ret
        exact ⟨rfl, B1.out⟩
      | true =>
        obtain ⟨K, hK⟩ : ∃ K, keysS X L true = K := ⟨_, rfl⟩
        have HK := box hK
        by_cases hK0 : K = []
        · have HD : Box (decide (K ≠ []) = false) := box (decide_eq_false (fun h => h hK0))
          have HB : Box (bestS K = []) := box (by rw [hK0]; rfl)
          clear hq1 hq2 hq3 hW hK hK0
          go_enter Tryz.func6, Tryz.ntmps6
          go_wp2_with fail
          refine (keepA17_is hx0.out hX.out Q1 HNX).mono ?_; rintro e w1 ⟨rfl, rfl⟩
          go_wp2_with fail
          refine (keepF17_is hl0.out hF.out Q2 HNL).mono ?_; rintro e w1 ⟨rfl, rfl⟩
          go_wp2_with fail
          refine (rValid17_is x6 FX hX.out.1 Q3 HNX).mono ?_; rintro e w1 ⟨rfl, hb1⟩
          have B1 := box hb1
          clear hb1
          go_wp2_with fail
          refine (mBest17_is x6 FX FL l6 (hX.out.1.below B1.out) (hF.out.below B1.out) (HT.out.below B1.out) HK HNX HNL).mono ?_; rintro e w2 ⟨v2, rfl, hO2, hb2⟩
          rw [HD.out]
          rw [HB.out] at hO2
          obtain ⟨a2, c2, rfl, _, _⟩ := hO2.ss
          have B2 := box (B1.out.trans (hb2.mono B1.out.size))
          have hn0 : ([] : List ByteArray).length = 0 := rfl
          rw [hn0]
          clear hO2 hb2
          go_wp2_with fail
          refine (awake17_any _ (HT.out.below B2.out)).mono ?_; rintro e w7 ⟨rfl, hb7⟩
          have B7 := box (B2.out.trans (hb7.mono B2.out.size))
          clear hb7
          go_wp2
          go_ret
          exact ⟨rfl, B7.out⟩
        · have HD : Box (decide (K ≠ []) = true) := box (decide_eq_true hK0)
          obtain ⟨y, hy⟩ : ∃ y, bestS K = y := ⟨_, rfl⟩
          have HBE := box (best_is17 hq3 (by rw [hK]; exact hK0))
          have HBM := box (keysS_mem (by rw [hK]; exact bestS_mem hK0))
          rw [hK, hy] at HBE
          rw [hy] at HBM
          have HB := box hy
          have HYL : Box (y.length = nx) := box (by rw [HBE.out.1, HNX.out])
          have hne : ((nx : Int) != (nx : Int)) = false := by simp
          clear hq1 hq2 hq3 hW hK hK0 hy
          go_enter Tryz.func6, Tryz.ntmps6
          go_wp2_with fail
          refine (keepA17_is hx0.out hX.out Q1 HNX).mono ?_; rintro e w1 ⟨rfl, rfl⟩
          go_wp2_with fail
          refine (keepF17_is hl0.out hF.out Q2 HNL).mono ?_; rintro e w1 ⟨rfl, rfl⟩
          go_wp2_with fail
          refine (rValid17_is x6 FX hX.out.1 Q3 HNX).mono ?_; rintro e w1 ⟨rfl, hb1⟩
          have B1 := box hb1
          clear hb1
          go_wp2_with fail
          refine (mBest17_is x6 FX FL l6 (hX.out.1.below B1.out) (hF.out.below B1.out) (HT.out.below B1.out) HK HNX HNL).mono ?_; rintro e w2 ⟨v2, rfl, hO2, hb2⟩
          rw [HD.out]
          rw [HB.out] at hO2
          obtain ⟨a2, c2, rfl, hS2, _⟩ := hO2.ss
          rw [HYL.out]
          have S2 := box hS2
          have B2 := box (B1.out.trans (hb2.mono B1.out.size))
          have X2 := box (hX.out.1.below B2.out)
          have F2 := box (hF.out.below B2.out)
          have hs2 := B2.out.size
          clear hO2 hb2 hS2
          go_wp2
          go_loopw [7] (fun i wr => CnRel nx w2 i wr) (fun i _ => nx - (intOf i).toNat)
          case atStart => exact ⟨0, rfl, Nat.zero_le _, box (Below.refl _ _)⟩
          case round =>
            obtain ⟨w3, rfl⟩ : ∃ w3, w3 = wr := ⟨_, rfl⟩
            obtain ⟨j, rfl, hj, B3⟩ := hrel
            have hs3 := B3.out.size
            by_cases hlt : j < nx
            · have hji : (j : Int) < (nx : Int) := by omega
              have hj0 : (0 : Int) ≤ (j : Int) := by omega
              have hjX : j < X.length := by have := HNX.out; omega
              have hjy : j < y.length := by have := HYL.out; omega
              obtain ⟨g, off, v, rfl, c0w, c1w, b, c, rfl, hssw, hcc⟩ := X2.out j hjX
              obtain ⟨z1, z2, z3⟩ := FX.out j hjX
              have hbi := HBE.out.2 j hjX hjy
              have hbm := HBM.out.2 j hjX hjy
              obtain ⟨yj, hyj⟩ : ∃ z, y[j] = z := ⟨_, rfl⟩
              rw [hyj] at hbi hbm
              obtain ⟨n, hn⟩ : ∃ n, X[j].1 = n := ⟨_, rfl⟩
              obtain ⟨V, hV⟩ : ∃ V, X[j].2 = V := ⟨_, rfl⟩
              have hxi : X[j] = (n, V) := by rw [← hn, ← hV]
              rw [hn] at c0w z1
              rw [hV] at c1w hssw z2
              rw [hxi] at hbi hbm
              have Z3 : Box (∀ j (hj : j < V.length), V[j].size ≤ 20000) := box (by subst hV; exact z3)
              have hyz : yj.size ≤ 20000 := by
                obtain ⟨i, hi, e⟩ := List.getElem_of_mem hbm
                have hi2 : i < V.length := hi
                have := Z3.out i hi2
                rw [← e]; exact this
              obtain ⟨m, hm⟩ : ∃ m, V.length = m := ⟨_, rfl⟩
              have HM := box hm
              rw [hm] at c1w
              have n4 : n.size ≤ 4294967296 := by omega
              obtain ⟨k, hk⟩ : ∃ k, kindN n = k := ⟨_, rfl⟩
              have HKD := box hk
              have hki : InI64 k := by rw [← hk]; exact kindN_i64 n
              have c0 := (B3.out.cell (cell_lt c0w)).trans c0w
              have SSW := box hssw
              have C1W := box c1w
              obtain ⟨gy, offy, rfl, d0w⟩ := S2.out j hjy
              rw [hyj] at d0w
              have D0W := box d0w
              by_cases hk0 : k = 0
              · subst hk0
                clear hn hV z3 hxi hm hk hbi hbm hyj hssw c1w c0w d0w
                go_wp2_with fail
                refine (rKind_is n4 HKD).mono ?_; rintro e w4 ⟨rfl, hb4⟩
                have B4 := box (B3.out.trans (hb4.mono hs3))
                clear hb4 c0
                go_wp2
                go_roundw
                case rel => exact ⟨j + 1, by go_num, by omega, B4⟩
                case measure => simp [intOf]; omega
              · have hke : (k == 0) = false := by rw [beq_eq_false_iff_ne]; exact hk0
                obtain ⟨XP, hXP⟩ : ∃ Y, prefsV k L = Y := ⟨_, rfl⟩
                obtain ⟨o, ho⟩ : ∃ o, prefsO k L = o := ⟨_, rfl⟩
                have HP : Box (prefsV k L = XP ∧ prefsO k L = o) := box ⟨hXP, ho⟩
                have hxl : XP.length ≤ 65536 := by rw [← hXP]; exact prefs17_len _ _
                have HXz : Box (∀ i (hi : i < XP.length), XP[i].1.size ≤ 20000) := box (by rw [← hXP]; exact prefs17_small FL.out.2)
                have hb5 := hbi (by show kindN n ≠ 0; rw [hk]; exact hk0)
                have hqe : ∀ z : ByteArray, qlS (n, V) L z = qualR k XP o z.data.toList := fun z => by unfold qlS; rw [hk, hXP, ho]
                obtain ⟨t, ht⟩ : ∃ t, qualR k XP o yj.data.toList = t := ⟨_, rfl⟩
                have HQ1 := box ht
                have ht0 : 0 < t := by have := hb5.1; rw [hqe, ht] at this; exact this
                have HQ2 : Box (∀ i (hi : i < V.length), qualR k XP o V[i].data.toList ≤ t) := box (fun i hi => by
                  have := hb5.2 _ (List.getElem_mem hi)
                  rw [hqe, hqe, ht] at this; exact this)
                have hti : ¬ t ≤ 0 := by omega
                clear hn hV z3 hxi hm hk hbi hbm hyj hXP ho hb5 hqe ht hssw c1w c0w d0w
                go_wp2_with fail
                refine (rKind_is n4 HKD).mono ?_; rintro e w4 ⟨rfl, hb4⟩
                have B4 := box (B3.out.trans (hb4.mono hs3))
                clear hb4 c0
                go_wp2_with fail
                refine (rPrefs17_is hki FL (F2.out.below B4.out) HP HNL).mono ?_; rintro e w5 ⟨p5, c5, rfl, hQ5, hb5⟩
                have B5 := box (B4.out.trans (hb5.mono B4.out.size))
                have Q5 := box hQ5
                have d5 := (B5.out.cell (cell_lt D0W.out)).trans D0W.out
                clear hQ5 hb5
                go_wp2_with fail
                refine (mQual17_is hki hxl HXz hyz Q5.out HQ1).mono ?_; rintro e w6 ⟨rfl, hb6⟩
                have B6 := box (B5.out.trans (hb6.mono B5.out.size))
                have Q6 := box (Q5.out.below hb6)
                clear hb6 d5
                go_wp2
                go_loopw [12] (fun i wr => CnRel m w6 i wr) (fun i _ => m - (intOf i).toNat)
                case atStart => exact ⟨0, rfl, Nat.zero_le _, box (Below.refl _ _)⟩
                case round =>
                  obtain ⟨s, rfl, hs, B7⟩ := hrel
                  have B8 := box (B6.out.trans (B7.out.mono B6.out.size))
                  have c1 := (B8.out.cell (cell_lt C1W.out)).trans C1W.out
                  by_cases hsm : s < m
                  · have hsi : (s : Int) < (m : Int) := by omega
                    have hs0 : (0 : Int) ≤ (s : Int) := by omega
                    have hsV : s < V.length := by have := HM.out; omega
                    obtain ⟨x, hx⟩ : ∃ x, V[s] = x := ⟨_, rfl⟩
                    have hxz : x.size ≤ 20000 := by rw [← hx]; exact Z3.out s hsV
                    obtain ⟨g3, off3, rfl, c3⟩ := (SSW.out.below B8.out) s hsV
                    rw [hx] at c3
                    obtain ⟨u, hu⟩ : ∃ u, qualR k XP o x.data.toList = u := ⟨_, rfl⟩
                    have HU := box hu
                    have hut : ¬ t < u := by have := HQ2.out s hsV; rw [hx, hu] at this; omega
                    have Q7 := box (Q6.out.below B7.out)
                    clear hx hu
                    go_wp2_with fail
                    refine (mQual17_is hki hxl HXz hxz Q7.out HU).mono ?_; rintro e w9 ⟨rfl, hb9⟩
                    have B9 := box (B7.out.trans (hb9.mono B7.out.size))
                    clear hb9 c3 c1
                    go_wp2
                    go_roundw
                    case rel => exact ⟨s + 1, by go_num, by omega, B9⟩
                    case measure => simp [intOf]; omega
                  · have hsi : ¬ (s : Int) < (m : Int) := by omega
                    go_wp2
                    go_roundw
                    case rel => exact ⟨j + 1, by go_num, by omega, B8⟩
                    case measure => simp [intOf]; omega
            · have hji : ¬ (j : Int) < (nx : Int) := by omega
              have B4 := box (B2.out.trans (B3.out.mono hs2))
              go_wp2_with fail
              refine (awake17_any _ (HT.out.below B4.out)).mono ?_; rintro e w7 ⟨rfl, hb7⟩
              have B7 := box (B4.out.trans (hb7.mono B4.out.size))
              clear hb7
              go_wp2
              go_ret
              exact ⟨rfl, B7.out⟩
theorem acceptable17_walk (p : Option Addr) (cp : Nat) (X : List AX) (a : Option Addr) (cap : Nat) (L : List F) (w : World) (hx0 : X.length ≤ maxLen) (hX : Axs w p X ∧ ∀ i (hi : i < X.length), X[i].2.length ≤ maxLen) (hcx : X.length ≤ cp) (hl0 : L.length ≤ maxLen) (hF : Fs w a L) (hcl : L.length ≤ cap) (hW : Wts w) :
    Calls Tryz.prog 6 #[.slice p X.length cp, .slice a L.length cap] w fun e w' => e = .returned (.bool true) ∧ Below w.heap.size w w' :=
  acceptable17_in p cp _ X a cap _ L w (box hx0) (box hX) (box hl0) (box hF) hW (box rfl) (box rfl)
end
end Go.Proofs.YtjjlgnackjjbfaaGreatDoor.Asc
