/- The walks of the laws ListSplits and ListAll. -/
import Derived.Test.YtlcojfkkeommoaaLisMine
import Derived.Test.YtlcojfkkeommoaaLisKeep
import Derived.Test.YtlcojfkkeommoaaLstSame
set_option linter.unusedVariables false
set_option linter.unusedSimpArgs false
set_option maxRecDepth 100000
namespace Go.Proofs.Ytlcojfkkeommoaa.Asc
open Go.RowKit

theorem rSplit_is {s : ByteArray} {K : List ByteArray} {w : World} (hs : s.size ≤ 65000) (h : Box (splitB s.data.toList = K)) :
    Calls Try.prog 15 #[.string s] w fun e w' => ∃ a cap, e = .returned (.slice a K.length cap) ∧ Ss w' a K ∧ K.length ≤ cap ∧ Below w.heap.size w w' :=
  (rSplit_any s w hs).mono fun e w' ⟨v, h1, h2, h3⟩ => by
    rw [h.out] at h2
    obtain ⟨a, cap, rfl, hS, hc⟩ := h2.ss
    exact ⟨a, cap, h1, hS, hc, h3⟩
theorem split_count (l : List UInt8) : (splitB l).length ≤ 65536 := by unfold splitB; rw [List.length_map]; have := split_len l; omega
theorem ss_three (a b c : ByteArray) (w : World) (t : TypeId) : Ss (w.alloc (.cells #[.string a, .string b, .string c] t)) (some ⟨w.heap.size, 0, none⟩) [a, b, c] := by
  intro i hi
  refine ⟨w.heap.size, 0, rfl, ?_⟩
  rw [Nat.zero_add, World.cell?_alloc_mark]
  match i, hi with
  | 0, _ => rfl
  | 1, _ => rfl
  | 2, _ => rfl
def aw7 : ByteArray := ⟨#[97, 44, 32, 34, 98, 44, 99, 34, 32, 44, 44, 100]⟩
def aw7L : List ByteArray := [⟨#[97]⟩, ⟨#[34, 98, 44, 99, 34]⟩, ⟨#[100]⟩]
theorem aw7_is : splitB aw7.data.toList = aw7L := by decide +kernel
theorem mAll_is {a : Option Addr} {cap : Nat} {L : List F} {nm : ByteArray} {K : List ByteArray} {w : World} (S : Box (Sm L)) (hv : Box (∀ x ∈ getL nm L, x.size ≤ 65000)) (M : Box (nm.size ≤ 65536)) (hF : Fs w a L) (h : Box (allB nm L = K)) :
    Calls Try.prog 23 #[.slice a L.length cap, .string nm] w fun e w' => ∃ a2 cap2, e = .returned (.slice a2 K.length cap2) ∧ Ss w' a2 K ∧ Below w.heap.size w w' :=
  (mAll_any a cap L nm w S hv M (box hF)).mono fun e w' ⟨v, h1, h2, h3⟩ => by
    rw [h.out] at h2
    obtain ⟨a2, cap2, rfl, hS, _⟩ := h2.ss
    exact ⟨a2, cap2, h1, hS, h3⟩
theorem rAll_is {a : Option Addr} {cap : Nat} {L : List F} {nm : ByteArray} {K : List ByteArray} {w : World} (S : Box (Sm L)) (hv : Box (∀ x ∈ getL nm L, x.size ≤ 65000)) (M : Box (nm.size ≤ 65536)) (hF : Fs w a L) (h : Box (allB nm L = K)) :
    Calls Try.prog 22 #[.slice a L.length cap, .string nm] w fun e w' => ∃ a2 cap2, e = .returned (.slice a2 K.length cap2) ∧ Ss w' a2 K ∧ Below w.heap.size w w' :=
  (rAll_any a cap L nm w S hv M (box hF)).mono fun e w' ⟨v, h1, h2, h3⟩ => by
    rw [h.out] at h2
    obtain ⟨a2, cap2, rfl, hS, _⟩ := h2.ss
    exact ⟨a2, cap2, h1, hS, h3⟩
theorem all_count (nm : ByteArray) (L : List F) : (allB nm L).length ≤ 65536 := by unfold allB allL; rw [List.length_map, List.length_take]; omega
theorem keep_get {L : List F} (h : keepF L = true) (nm : ByteArray) : ∀ x ∈ getL nm L, x.size ≤ 65000 := by
  intro x hx
  obtain ⟨_, h2⟩ := keep_parts h
  unfold getL at hx
  obtain ⟨p, hp, rfl⟩ := List.mem_map.mp hx
  obtain ⟨i, hi, e⟩ := List.getElem_of_mem (List.mem_filter.mp hp).1
  rw [← e]; have := (h2 i hi).2; omega
theorem keep_sm7 {L : List F} (h : keepF L = true) : Sm L := by
  obtain ⟨h1, h2⟩ := keep_parts h
  exact ⟨by omega, fun i hi => by have := h2 i hi; omega⟩
end Go.Proofs.Ytlcojfkkeommoaa.Asc
