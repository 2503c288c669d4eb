/- Merged texts: ClsRef2 ClsLaws ClsRow. -/
import Derived.Test.YtklfpkaemnhdhaaGreatDoorZc02
import Derived.Test.YtklfpkaemnhdhaaGreatDoorZc04
import Derived.Test.YtklfpkaemnhdhaaGreatDoorZc05
import Derived.Test.YtklfpkaemnhdhaaGreatDoorZc06
import Derived.Test.YtklfpkaemnhdhaaGreatDoorZc07
import Derived.Test.YtklfpkaemnhdhaaGreatDoorZc08
import Derived.Test.YtklfpkaemnhdhaaGreatDoorZc09
import Derived.Test.YtklfpkaemnhdhaaGreatDoorZc10
import Derived.Test.YtklfpkaemnhdhaaGreatDoorZc11
import Derived.Test.YtklfpkaemnhdhaaGreatDoorZc12
import Derived.Test.YtklfpkaemnhdhaaGreatDoorZc13
import Derived.Test.YtklfpkaemnhdhaaGreatDoorZc15
import Derived.Test.YtklfpkaemnhdhaaGreatDoorZc16
set_option linter.unusedVariables false
set_option linter.unusedSimpArgs false
set_option maxRecDepth 100000
namespace Go.Proofs.YtklfpkaemnhdhaaGreatDoor.Asc
section
open Go.RowKit
theorem rHas18_is {a : Option Addr} {cap n : Nat} {L : List F} {nm : ByteArray} {q : Bool} {w : World} (FL : Box (FitL L)) (hm : Box (nm.size ≤ 65536)) (hF : Fs w a L) (h : Box (L.any (nmd nm) = q)) (hn : Box (L.length = n)) :
    Calls Tryz.prog 29 #[.slice a n cap, .string nm] w fun e w' => e = .returned (.bool q) ∧ Below w.heap.size w w' := by
  have := rHas_any a cap L nm w FL.out.1.1 (box FL.out.1) hm (box hF)
  rw [h.out, hn.out] at this; exact this
end
section
open Go.RowKit
def aw18T : ByteArray := ⟨#[97, 99, 99, 101, 112, 116, 45, 108, 97, 110, 103, 117, 97, 103, 101, 61, 40, 101, 110, 32, 102, 114, 41, 44, 32, 97, 99, 99, 101, 112, 116, 45, 101, 110, 99, 111, 100, 105, 110, 103, 61, 40, 103, 122, 105, 112, 32, 105, 100, 101, 110, 116, 105, 116, 121, 41]⟩
theorem aw18_is : classS aw15X [] false = aw18T := by decide +kernel
theorem fit_nil : FitL [] := fit_small (m := 0) (by simp) (fun i hi => absurd hi (by simp))
theorem aw18_fit : FitC aw15X := fun i hi => by
  obtain ⟨h1, h2, h3⟩ := aw15_fit i hi
  exact ⟨h1, by omega, fun j hj => h3 _ (List.getElem_mem hj)⟩
theorem fitC_keep {X : List AX} (h : keepA X = true) : FitC X := fun i hi => by
  obtain ⟨h3, h4, h5⟩ := (keepA_parts h).2 i hi
  exact ⟨by omega, by omega, fun j hj => by have := h5 _ (List.getElem_mem hj); omega⟩
theorem axes18_any (w : World) : Calls Tryz.prog 41 #[] w fun e w' => ∃ p c, e = .returned (.slice p aw15X.length c) ∧ Axs w' p aw15X ∧ Below w.heap.size w w' := by
  have S1 := ss_two15 ⟨#[101, 110]⟩ ⟨#[102, 114]⟩ w 9
  have b1 := below_new w (.cells #[.string ⟨#[101, 110]⟩, .string ⟨#[102, 114]⟩] 9)
  have S2 := ss_two15 ⟨#[103, 122, 105, 112]⟩ ⟨#[105, 100, 101, 110, 116, 105, 116, 121]⟩ (w.alloc (.cells #[.string ⟨#[101, 110]⟩, .string ⟨#[102, 114]⟩] 9)) 9
  have b2 := below_new (w.alloc (.cells #[.string ⟨#[101, 110]⟩, .string ⟨#[102, 114]⟩] 9)) (.cells #[.string ⟨#[103, 122, 105, 112]⟩, .string ⟨#[105, 100, 101, 110, 116, 105, 116, 121]⟩] 9)
  have HS := box (And.intro S1 (And.intro b1 (And.intro S2 b2)))
  clear S1 b1 S2 b2
  go_enter Tryz.func41, Tryz.ntmps41
  go_wp2
  go_ret
  obtain ⟨S1, b1, S2, b2⟩ := HS.out
  obtain ⟨W2, hW2⟩ : ∃ W2, (w.alloc (.cells #[.string ⟨#[101, 110]⟩, .string ⟨#[102, 114]⟩] 9)).alloc (.cells #[.string ⟨#[103, 122, 105, 112]⟩, .string ⟨#[105, 100, 101, 110, 116, 105, 116, 121]⟩] 9) = W2 := ⟨_, rfl⟩
  have hsz : (w.alloc (.cells #[.string ⟨#[101, 110]⟩, .string ⟨#[102, 114]⟩] 9)).heap.size = w.heap.size + 1 := by simp
  have hsz2 : W2.heap.size = w.heap.size + 1 + 1 := by rw [← hW2]; simp
  have S1' := S1.below b2
  rw [hsz] at S2
  rw [hW2] at S1' S2
  have b3 := below_new W2 (.cells #[.string aw15A, .slice (some ⟨w.heap.size, 0, none⟩) 2 2, .string aw15B, .slice (some ⟨w.heap.size + 1, 0, none⟩) 2 2] 39)
  refine ⟨some ⟨W2.heap.size, 0, none⟩, 2, by rw [hsz2]; rfl, ?_, (by
    have h := (b1.trans (b2.mono b1.size))
    rw [hW2] at h
    have h2 := h.trans (b3.mono h.size)
    rw [← hW2] at h2
    exact h2)⟩
  show Axs ((((w.alloc (.cells #[.string ⟨#[101, 110]⟩, .string ⟨#[102, 114]⟩] 9)).alloc (.cells #[.string ⟨#[103, 122, 105, 112]⟩, .string ⟨#[105, 100, 101, 110, 116, 105, 116, 121]⟩] 9))).alloc (.cells #[.string aw15A, .slice (some ⟨w.heap.size, 0, none⟩) 2 2, .string aw15B, .slice (some ⟨w.heap.size + 1, 0, none⟩) 2 2] 39)) _ _
  rw [hW2]
  intro i hi
  match i, hi with
  | 0, _ => exact ⟨W2.heap.size, 0, _, rfl, by rw [World.cell?_alloc_mark]; rfl, by rw [World.cell?_alloc_mark]; rfl, some ⟨w.heap.size, 0, none⟩, 2, rfl, S1'.below b3, Nat.le_refl 2⟩
  | 1, _ => exact ⟨W2.heap.size, 0, _, rfl, by rw [World.cell?_alloc_mark]; rfl, by rw [World.cell?_alloc_mark]; rfl, some ⟨w.heap.size + 1, 0, none⟩, 2, rfl, S2.below b3, Nat.le_refl 2⟩
set_option maxHeartbeats 2000000 in
theorem awake18_any (w : World) (hW : Wts w) : Calls Tryz.prog 16 #[] w fun e w' => e = .returned (.bool true) ∧ Below w.heap.size w w' := by
  have HT := box hW
  have HX := box aw18_is
  have ZX := box aw18_fit
  have FL := box fit_nil
  have hl : aw15X.length ≤ 65536 := by decide
  have hn1 : Box (aw15X.length = 2) := box rfl
  have hn2 : Box (([] : List F).length = 0) := box rfl
  have hlit : aw18T.toList = [97, 99, 99, 101, 112, 116, 45, 108, 97, 110, 103, 117, 97, 103, 101, 61, 40, 101, 110, 32, 102, 114, 41, 44, 32, 97, 99, 99, 101, 112, 116, 45, 101, 110, 99, 111, 100, 105, 110, 103, 61, 40, 103, 122, 105, 112, 32, 105, 100, 101, 110, 116, 105, 116, 121, 41] := by rw [toList_data]; rfl
  clear hW
  go_enter Tryz.func16, Tryz.ntmps16
  go_wp2_with fail
  refine (axes18_any _).mono ?_; rintro e w1 ⟨p1, c1, rfl, hA1, hb1⟩
  have B1 := box hb1
  have A1 := box hA1
  have T1 := HT.out.below hb1
  clear hb1 hA1
  rw [hn1.out]
  go_wp2_with fail
  refine (mClass_is (X := aw15X) (L := []) hl ZX FL A1.out (Fs.nil17 _ _) T1 HX hn1 hn2).mono ?_; rintro e w2 ⟨rfl, hb2⟩
  have B2 := box (B1.out.trans (hb2.mono B1.out.size))
  clear hb2 T1
  go_wp2
  go_ret
  exact ⟨rfl, B2.out⟩
end
section
open Go.RowKit
/-- fields at a block's start, open to stores -/
def FsO (w : World) (g : Nat) (L : List F) : Prop := ∀ i (h : i < L.length), (w.cell? ⟨g, i * 2, none⟩ = some (.string L[i].1) ∧ w.cell? ⟨g, i * 2 + 1, none⟩ = some (.string L[i].2)) ∧ w.frozen? ⟨g, i * 2, none⟩ = false ∧ w.frozen? ⟨g, i * 2 + 1, none⟩ = false
theorem FsO.below {w w' : World} {g B : Nat} {L : List F} (h : FsO w g L) (hb : Below B w w') (hg : g < B) : FsO w' g L := fun i hi => by
  obtain ⟨⟨h1, h2⟩, h3, h4⟩ := h i hi
  exact ⟨⟨(hb.cell hg).trans h1, (hb.cell hg).trans h2⟩, (hb.frozen hg).trans h3, (hb.frozen hg).trans h4⟩
theorem FsO.fs {w : World} {g : Nat} {L : List F} (h : FsO w g L) : Fs w (some ⟨g, 0, none⟩) L := fun i hi => by
  obtain ⟨⟨h1, h2⟩, _⟩ := h i hi
  exact ⟨g, 0, rfl, by rw [Nat.zero_add]; exact h1, by rw [Nat.zero_add]; exact h2⟩
theorem FsO.lt {w : World} {g : Nat} {L : List F} (h : FsO w g L) (h0 : L ≠ []) : g < w.heap.size := cell_lt (h 0 (List.length_pos_iff.2 h0)).1.1
theorem addr_ne {g i j : Nat} (h : i ≠ j) : (⟨g, i, none⟩ : Addr) ≠ ⟨g, j, none⟩ := fun e => h (by injection e)
theorem OwnF.row {w : World} {B : Nat} {v : Value} {L : List F} (h : OwnF w B v L) (h0 : L ≠ []) : ∃ g c, v = .slice (some ⟨g, 0, none⟩) L.length c ∧ B ≤ g ∧ L.length ≤ c ∧ FsO w g L := by
  obtain ⟨a, c, e, hs, hc⟩ := h.fs
  rcases h.2 with ⟨_, hn⟩ | ⟨g, cap, cur, hv, hB, hg, _⟩
  · exact absurd (List.length_eq_zero_iff.1 hn) h0
  · rw [e] at hv
    injection hv with e1 e2 e3
    subst e1
    refine ⟨g, c, e, hB, hc, fun i hi => ?_⟩
    obtain ⟨g2, off, e4, c0, c1⟩ := hs i hi
    injection e4 with e4
    injection e4 with e4 e5 _
    subst e4; subst e5
    rw [Nat.zero_add] at c0 c1
    exact ⟨⟨c0, c1⟩, Lib.frozen_of_heap hg _, Lib.frozen_of_heap hg _⟩
end
end Go.Proofs.YtklfpkaemnhdhaaGreatDoor.Asc
