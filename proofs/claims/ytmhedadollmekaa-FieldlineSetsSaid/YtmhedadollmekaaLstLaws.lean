/- The walk of the law FieldlineLists. -/
import Derived.Test.YtmhedadollmekaaLstSame
import Derived.Test.YtmhedadollmekaaFieLaws
set_option linter.unusedVariables false
set_option linter.unusedSimpArgs false
namespace Go.Proofs.Ytmhedadollmekaa.Asc
open Go.RowKit

theorem keep_sm {L : List F} (h : keepF L = true) : Sm L := by
  obtain ⟨h1, h2⟩ := keep_parts h
  exact ⟨by omega, fun i hi => by have := h2 i hi; omega⟩
theorem getL_len {nm : ByteArray} {L : List F} : (getL nm L).length ≤ L.length := by
  unfold getL; rw [List.length_map]; exact List.length_filter_le _ _
theorem lists3_no (a : Option Addr) (cap : Nat) (L : List F) (nm : ByteArray) (w : World) (hl : L.length ≤ maxLen) (hF : Box (Fs w a L)) (HK : Box (keepF L = false)) :
    Calls Try.prog 5 #[.slice a L.length cap, .string nm] w fun e w' => e = .returned (.bool true) ∧ Below w.heap.size w w' := by
  go_enter Try.func5, Try.ntmps5
  go_wp2_with fail
  refine (keepFields_any a cap L _ hl hF).mono ?_; rintro e w1 ⟨rfl, rfl⟩; rw [HK.out]
  go_wp2
  go_ret
  exact ⟨rfl, Below.refl _ _⟩
theorem lists3_long (a : Option Addr) (cap : Nat) (L : List F) (nm : ByteArray) (w : World) (hl : L.length ≤ maxLen) (hF : Box (Fs w a L)) (HK : Box (keepF L = true)) (hn : 300 < nm.size) (hm : nm.size ≤ maxLen) :
    Calls Try.prog 5 #[.slice a L.length cap, .string nm] w fun e w' => e = .returned (.bool true) ∧ Below w.heap.size w w' := by
  unfold maxLen at hm
  go_enter Try.func5, Try.ntmps5
  go_wp2_with fail
  refine (keepFields_any a cap L _ hl hF).mono ?_; rintro e w1 ⟨rfl, rfl⟩; rw [HK.out]
  go_wp2
  go_ret
  exact ⟨rfl, Below.refl _ _⟩
set_option maxHeartbeats 800000 in
theorem lists3_in (a : Option Addr) (cap : Nat) (L : List F) (nm : ByteArray) (w : World) (hl : L.length ≤ 65536) (hF : Box (Fs w a L)) (HK : Box (keepF L = true)) (hn : nm.size ≤ 300) (v1 : ByteArray) (b1 : Bool) (HV : Box (firstV nm L = .tuple #[.string v1, .bool b1])) :
    Calls Try.prog 5 #[.slice a L.length cap, .string nm] w fun e w' => e = .returned (.bool true) ∧ Below w.heap.size w w' := by
  have S := box (keep_sm HK.out)
  have M : Box (nm.size ≤ 65536) := box (by omega)
  go_enter Try.func5, Try.ntmps5
  go_wp2_with fail
  refine (keepFields_any a cap L _ (by unfold maxLen; omega) hF).mono ?_; rintro e w1 ⟨rfl, rfl⟩; rw [HK.out]
  go_wp2_with fail
  refine (First_any a cap L nm _ hl S M hF).mono ?_; rintro e w1 ⟨rfl, hb1⟩; rw [HV.out]
  have BB := box hb1
  clear hb1
  go_wp2_with fail
  refine (rFirst_any a cap L nm _ hl S M (box (hF.out.below BB.out))).mono ?_; rintro e w2 ⟨rfl, hb2⟩; rw [HV.out]
  replace BB := box (BB.out.trans (hb2.mono BB.out.size))
  clear hb2
  go_wp2_with fail
  refine (Get_any a cap L nm _ hl S M (box (hF.out.below BB.out))).mono ?_; rintro e w3 ⟨v, rfl, hO, hb3⟩
  obtain ⟨a3, cap3, rfl, hS3, _⟩ := hO.ss
  replace BB := box (BB.out.trans (hb3.mono BB.out.size))
  have S3 := box hS3
  clear hb3 hO hS3
  go_wp2_with fail
  refine (rGet_any a cap L nm _ hl S M (box (hF.out.below BB.out))).mono ?_; rintro e w4 ⟨v, rfl, hO, hb4⟩
  obtain ⟨a4, cap4, rfl, hS4, _⟩ := hO.ss
  replace BB := box (BB.out.trans (hb4.mono BB.out.size))
  replace S3 := box (S3.out.below hb4)
  have S4 := box hS4
  clear hb4 hO hS4
  go_wp2_with fail
  refine (kSameS_any a3 a4 cap3 cap4 (getL nm L) (getL nm L) _ (Nat.le_trans getL_len hl) (Nat.le_trans getL_len hl) S3 S4).mono ?_; rintro e w5 ⟨rfl, hb5⟩; rw [decide_eq_true rfl]
  replace BB := box (BB.out.trans (hb5.mono BB.out.size))
  clear hb5
  go_wp2_with fail
  refine (Has_any a cap L nm _ hl S M (box (hF.out.below BB.out))).mono ?_; rintro e w6 ⟨rfl, hb6⟩
  replace BB := box (BB.out.trans (hb6.mono BB.out.size))
  clear hb6
  go_wp2_with fail
  refine (rHas_any a cap L nm _ hl S M (box (hF.out.below BB.out))).mono ?_; rintro e w7 ⟨rfl, hb7⟩
  replace BB := box (BB.out.trans (hb7.mono BB.out.size))
  clear hb7
  go_wp2_with fail
  refine (awake3_any _).mono ?_; rintro e w8 ⟨rfl, hb8⟩
  replace BB := box (BB.out.trans (hb8.mono BB.out.size))
  clear hb8
  go_wp2
  go_ret
  exact ⟨rfl, BB.out⟩
theorem firstV_form (nm : ByteArray) (L : List F) : ∃ v b, firstV nm L = .tuple #[.string v, .bool b] := by
  unfold firstV; split <;> exact ⟨_, _, rfl⟩
theorem lists3_walk (a : Option Addr) (cap : Nat) (L : List F) (nm : ByteArray) (w : World) (hl : L.length ≤ maxLen) (hF : Fs w a L) (hc : L.length ≤ cap) (hm : nm.size ≤ maxLen) :
    Calls Try.prog 5 #[.slice a L.length cap, .string nm] w fun e w' => e = .returned (.bool true) ∧ Below w.heap.size w w' := by
  rcases hk : keepF L with _ | _
  · exact lists3_no a cap L nm w hl (box hF) (box hk)
  · by_cases hn : 300 < nm.size
    · exact lists3_long a cap L nm w hl (box hF) (box hk) hn hm
    · obtain ⟨v, b, hv⟩ := firstV_form nm L
      exact lists3_in a cap L nm w (by have := (keep_sm hk).1; exact this) (box hF) (box hk) (by omega) v b (box hv)

end Go.Proofs.Ytmhedadollmekaa.Asc
