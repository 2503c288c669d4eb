/- Merged texts: VarLaws VarLaws2 SelLaws SelLaws5. -/
import Derived.Test.YtklfpkaemnhdhaaGreatDoorZc02
import Derived.Test.YtklfpkaemnhdhaaGreatDoorZc03
import Derived.Test.YtklfpkaemnhdhaaGreatDoorZc04
import Derived.Test.YtklfpkaemnhdhaaGreatDoorZc05
import Derived.Test.YtklfpkaemnhdhaaGreatDoorZc06
import Derived.Test.YtklfpkaemnhdhaaGreatDoorZc07
import Derived.Test.YtklfpkaemnhdhaaGreatDoorZc08
import Derived.Test.YtklfpkaemnhdhaaGreatDoorZc09
import Derived.Test.YtklfpkaemnhdhaaGreatDoorZc10
import Derived.Test.YtklfpkaemnhdhaaGreatDoorZc13
import Derived.Test.YtklfpkaemnhdhaaGreatDoorZc14
import Derived.Test.YtklfpkaemnhdhaaGreatDoorZc15
set_option linter.unusedVariables false
set_option linter.unusedSimpArgs false
set_option maxRecDepth 100000
namespace Go.Proofs.YtklfpkaemnhdhaaGreatDoor.Asc
section
open Go.RowKit
theorem fs_one15 (a b : ByteArray) (w : World) (t : TypeId) : Fs (w.alloc (.cells #[.string a, .string b] t)) (some ⟨w.heap.size, 0, none⟩) [(a, b)] := by
  intro i hi
  refine ⟨w.heap.size, 0, rfl, ?_, ?_⟩
  all_goals
    rw [World.cell?_alloc_mark]
    match i, hi with
    | 0, _ => rfl
def aw15A : ByteArray := ⟨#[97, 99, 99, 101, 112, 116, 45, 108, 97, 110, 103, 117, 97, 103, 101]⟩
def aw15B : ByteArray := ⟨#[97, 99, 99, 101, 112, 116, 45, 101, 110, 99, 111, 100, 105, 110, 103]⟩
def aw15X : List AX := [(aw15A, [⟨#[101, 110]⟩, ⟨#[102, 114]⟩]), (aw15B, [⟨#[103, 122, 105, 112]⟩, ⟨#[105, 100, 101, 110, 116, 105, 116, 121]⟩])]
theorem aw15_fit : fitX aw15X := by
  intro i hi
  match i, hi with
  | 0, _ => exact (show fitA (aw15A, [⟨#[101, 110]⟩, ⟨#[102, 114]⟩]) from ⟨by decide, by decide, by decide⟩)
  | 1, _ => exact (show fitA (aw15B, [⟨#[103, 122, 105, 112]⟩, ⟨#[105, 100, 101, 110, 116, 105, 116, 121]⟩]) from ⟨by decide, by decide, by decide⟩)
theorem ss_two15 (x y : ByteArray) (w : World) (t : TypeId) : Ss (w.alloc (.cells #[.string x, .string y] t)) (some ⟨w.heap.size, 0, none⟩) [x, y] := by
  intro i hi
  refine ⟨w.heap.size, 0, rfl, ?_⟩
  rw [World.cell?_alloc_mark]
  match i, hi with
  | 0, _ => rfl
  | 1, _ => rfl
end
section
open Go.RowKit
theorem keepAx_is {a : Option Addr} {cap : Nat} {L : List AX} {q : Bool} {w : World} (hl : L.length ≤ maxLen) (hF : Axs w a L ∧ ∀ i (hi : i < L.length), L[i].2.length ≤ maxLen) (h : Box (keepA L = q)) :
    Calls Tryz.prog 10 #[.slice a L.length cap] w fun e w' => e = .returned (.bool q) ∧ w = w' :=
  (keepAxes_any a cap L w hl (box hF.1) (box hF.2)).mono fun e w' ⟨h1, h2⟩ => ⟨by rw [h1, h.out], h2⟩
theorem keepF15_is {a : Option Addr} {cap : Nat} {L : List F} {q : Bool} {w : World} (hl : L.length ≤ maxLen) (hF : Fs w a L) (h : Box (keepF L = q)) :
    Calls Tryz.prog 11 #[.slice a L.length cap] w fun e w' => e = .returned (.bool q) ∧ w = w' :=
  (keepFields_any a cap L w hl (box hF)).mono fun e w' ⟨h1, h2⟩ => ⟨by rw [h1, h.out], h2⟩
end
section
open Go.RowKit
theorem fit_small {L : List F} {m : Nat} (h0 : L.length ≤ 65536) (h : ∀ i (hi : i < L.length), L[i].1.size ≤ 9000 ∧ L[i].2.size ≤ 9000) : FitL L := by
  refine ⟨⟨h0, fun i hi => by have := h i hi; omega⟩, fun nm x hx => ?_⟩
  unfold getL at hx
  obtain ⟨p, hp, rfl⟩ := List.mem_map.1 hx
  obtain ⟨i, hi, rfl⟩ := List.getElem_of_mem (List.mem_filter.1 hp).1
  have := h i hi; omega
theorem fit_keepF {L : List F} (h : keepF L = true) : FitL L := by
  obtain ⟨h1, h2⟩ := keep_parts h
  exact fit_small (m := 0) (by omega) (fun i hi => by have := h2 i hi; omega)
theorem fit_keepA {X : List AX} (h : keepA X = true) : FitX X := fun i hi => by
  obtain ⟨h1, h2⟩ := keep_fit h
  obtain ⟨h3, h4, h5⟩ := h2 i hi
  exact ⟨by omega, by omega, fun j hj => by have := h5 _ (List.getElem_mem hj); omega⟩
theorem keepF17_is {a : Option Addr} {cap n : Nat} {L : List F} {q : Bool} {w : World} (hl : L.length ≤ maxLen) (hF : Fs w a L) (h : Box (keepF L = q)) (hn : Box (L.length = n)) :
    Calls Tryz.prog 11 #[.slice a n cap] w fun e w' => e = .returned (.bool q) ∧ w = w' := by
  have := keepF15_is (cap := cap) hl hF h
  rw [hn.out] at this; exact this
theorem keepA17_is {a : Option Addr} {cap n : Nat} {X : List AX} {q : Bool} {w : World} (hl : X.length ≤ maxLen) (hF : Axs w a X ∧ ∀ i (hi : i < X.length), X[i].2.length ≤ maxLen) (h : Box (keepA X = q)) (hn : Box (X.length = n)) :
    Calls Tryz.prog 10 #[.slice a n cap] w fun e w' => e = .returned (.bool q) ∧ w = w' := by
  have := keepAx_is (cap := cap) hl hF h
  rw [hn.out] at this; exact this
end
section
open Go.RowKit Go.ChangeShapes Go.WideShapes Go.Deep
theorem open_fieldsn {H : Type} {enc : TypeId × Value → H} {W : World} {base : Nat} {sp : Nat → Bool} {held : Bool} {r : Reach} {b0 : Nat} {v : Value} {d : DataW H} {p : List MemPlace}
    (hval : Value.okWide Tryz.prog W r b0 23 v) (h : DataW.Trod enc Tryz.prog W base sp held 23 v d p) :
    ∃ (a : Option Addr) (cap : Nat) (L : List F), v = .slice a L.length cap ∧ L.length ≤ maxLen ∧ Fs W a L ∧ (L.length ≤ cap ∧ (a = none → cap = 0)) := by
  have h2 := h
  obtain ⟨a, cap, L, rfl, h3, h4, h5⟩ := open_fields hval h
  refine ⟨a, cap, L, rfl, h3, h4, h5, fun ha => ?_⟩
  subst ha
  obtain ⟨fuel, hf⟩ := h2
  rcases open_slice_pairs Tryz.underlying23 Tryz.underlying42 (by kernel_rfl) rfl rfl (by kernel_rfl) (by kernel_rfl) hf with ⟨hcs, hx⟩ | ⟨a, len', cap', m, n, V0, V1, D0, D1, P0, P1, hcs, _⟩
  · simp [Value.cells] at hcs
    exact hcs.2
  · simp [Value.cells] at hcs
section
variable {ops : Array Oper} {o : Oper} {a : Act} {K : Act → World → Prop} {Q : Exit → Act → World → Prop} {E : Prop}
/-- append of a list of fields, nil or not, empty or not, at a step of a region that draws its order -/
theorem step_append_flds (w : World) (hgd : o.guard = none) (s x : Operand)
    (ho : o.op = .call { callee := .builtin .append, args := #[s, x], argTypes := #[23, 23] })
    (B : Nat) (v : Value) (L M : List F) (hs : a.eval s = v) (hown : OwnF w B v L)
    (ad : Option Addr) (m c : Nat) (hx : a.eval x = .slice ad m c) (hm : M.length = m) (hn : ad = none → c = 0) (hM : Fs w ad M) (hl : L.length ≤ 65536) (hm6 : M.length ≤ 65536) (hB : B ≤ w.heap.size)
    (h : ∀ v' w', OwnF w' B v' (L ++ M) → Below B w w' → K (a.put o.dst v') w') :
    if Region.wanted o (yielded ops a.tmps) = true then Oper.wp Tryz.prog o a w K Q else E := by
  subst hm
  obtain ⟨i0, hi0, hz0, hz1, hz2⟩ := info_parts info_fld
  have hw : Region.wanted o (yielded ops a.tmps) = true := by simp [Region.wanted, hgd]
  rw [if_pos hw]
  rcases ad with _ | ad
  · have hc := hn rfl
    subst hc
    have he : M = [] := by
      rcases M with _ | ⟨p, M⟩
      · rfl
      · obtain ⟨g, off, e, _⟩ := hM 0 (by simp)
        cases e
    subst he
    rw [List.append_nil] at h
    have hrun := run_append_owned_none (P := Tryz.prog) (w := w) B 23 o.type 42 i0 2 Tryz.underlying23 hi0 v L.length (cellsF L) hown
    have hK := h v w hown (Below.refl _ _)
    unfold Oper.wp
    simp only [List.length_nil] at hx
    simp [execOp, ho, resolve, invoke, builtin, hs, hx, hrun, Result.andThen]
    exact hK
  · refine wp_append_own (P := Tryz.prog) w s x 23 ho B 42 i0 _ 2 32 Tryz.underlying23 hi0 hz0 hz1 hz2 rfl (by decide) v L.length (cellsF L) hs hown ad M.length c (cellsF M) hx (cellsF_len M) hM.news (cellsF_one M) (by unfold maxLen; omega) (by omega) hB ?_
    intro v' w' q1 q2 _
    exact h v' w' (by simpa [OwnF, cellsF_app] using q1) ((Below.refl _ _).grown q2 hB (fun k hk => own_block hown k hk))
end
theorem wpList_append_flds17 (w : World) {ops : Array Oper} {rest : List Oper} {o : Oper} {a : Act} {Q : Exit → Act → World → Prop} (hgd : o.guard = none) (s x : Operand)
    (ho : o.op = .call { callee := .builtin .append, args := #[s, x], argTypes := #[23, 23] })
    (B : Nat) (v : Value) (L M : List F) (hs : a.eval s = v) (hown : OwnF w B v L)
    (ad : Option Addr) (m c : Nat) (hx : a.eval x = .slice ad m c) (hm : M.length = m) (hn : ad = none → c = 0) (hM : Fs w ad M) (hl : L.length ≤ 65536) (hm6 : M.length ≤ 65536) (hB : B ≤ w.heap.size)
    (h : ∀ v' w', OwnF w' B v' (L ++ M) → Below B w w' → wpList Tryz.prog ops Q rest (a.put o.dst v') w') : wpList Tryz.prog ops Q (o :: rest) a w := by
  subst hm
  exact wpList_append_flds w hgd s x ho B v L M hs hown ad c hx hn hM hl hm6 hB h
theorem Fs.nil17 (w : World) (a : Option Addr) : Fs w a [] := fun i hi => absurd hi (by simp)
end
end Go.Proofs.YtklfpkaemnhdhaaGreatDoor.Asc
