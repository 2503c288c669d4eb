/- The walk of the law FieldlineEdits. -/
import Derived.Test.YtmhedadollmekaaLstRSet
import Derived.Test.YtmhedadollmekaaLstSpec2
import Derived.Test.YtmhedadollmekaaLstLaws
set_option linter.unusedVariables false
set_option linter.unusedSimpArgs false
namespace Go.Proofs.Ytmhedadollmekaa.Asc
open Go.RowKit

theorem rem_len {nm : ByteArray} {L : List F} : (remL nm L).length ≤ L.length := List.length_filter_le _ _
theorem edits3_no (a : Option Addr) (cap : Nat) (L : List F) (nm u : ByteArray) (w : World) (hl : L.length ≤ maxLen) (hF : Box (Fs w a L)) (HK : Box (keepF L = false)) :
    Calls Try.prog 6 #[.slice a L.length cap, .string nm, .string u] w fun e w' => e = .returned (.bool true) ∧ Below w.heap.size w w' := by
  go_enter Try.func6, Try.ntmps6
  go_wp2_with fail
  refine (keepFields_any a cap L _ hl hF).mono ?_; rintro e w1 ⟨rfl, rfl⟩; rw [HK.out]
  go_wp2
  go_ret
  exact ⟨rfl, Below.refl _ _⟩
theorem edits3_long (a : Option Addr) (cap : Nat) (L : List F) (nm u : ByteArray) (w : World) (hl : L.length ≤ maxLen) (hF : Box (Fs w a L)) (HK : Box (keepF L = true)) (hn : 300 < nm.size) (hm : nm.size ≤ maxLen) :
    Calls Try.prog 6 #[.slice a L.length cap, .string nm, .string u] w fun e w' => e = .returned (.bool true) ∧ Below w.heap.size w w' := by
  unfold maxLen at hm
  go_enter Try.func6, Try.ntmps6
  go_wp2_with fail
  refine (keepFields_any a cap L _ hl hF).mono ?_; rintro e w1 ⟨rfl, rfl⟩; rw [HK.out]
  go_wp2
  go_ret
  exact ⟨rfl, Below.refl _ _⟩
theorem edits3_long2 (a : Option Addr) (cap : Nat) (L : List F) (nm u : ByteArray) (w : World) (hl : L.length ≤ maxLen) (hF : Box (Fs w a L)) (HK : Box (keepF L = true)) (hn : nm.size ≤ 300) (hu : 300 < u.size) (hm : u.size ≤ maxLen) :
    Calls Try.prog 6 #[.slice a L.length cap, .string nm, .string u] w fun e w' => e = .returned (.bool true) ∧ Below w.heap.size w w' := by
  unfold maxLen at hm
  go_enter Try.func6, Try.ntmps6
  go_wp2_with fail
  refine (keepFields_any a cap L _ hl hF).mono ?_; rintro e w1 ⟨rfl, rfl⟩; rw [HK.out]
  go_wp2
  go_ret
  exact ⟨rfl, Below.refl _ _⟩
set_option maxHeartbeats 800000 in
theorem edits3_in (a : Option Addr) (cap : Nat) (L : List F) (nm u : ByteArray) (w : World) (hl : L.length ≤ 60000) (hcap : L.length ≤ cap) (hF : Box (Fs w a L)) (HK : Box (keepF L = true)) (hn : nm.size ≤ 300) (hu : u.size ≤ 300) :
    Calls Try.prog 6 #[.slice a L.length cap, .string nm, .string u] w fun e w' => e = .returned (.bool true) ∧ Below w.heap.size w w' := by
  have S := box (keep_sm HK.out)
  have M : Box (nm.size ≤ 65536) := box (by omega)
  have hl2 : L.length ≤ 65536 := by omega
  have R := box (Nat.le_trans (rem_len (nm := nm) (L := L)) hl2)
  have T : Box ((setL nm u L).length ≤ 65536) := box (by have := set_len (nm := nm) (u := u) (L := L); omega)
  go_enter Try.func6, Try.ntmps6
  go_wp2_with fail
  refine (keepFields_any a cap L _ (by unfold maxLen; omega) hF).mono ?_; rintro e w1 ⟨rfl, rfl⟩; rw [HK.out]
  go_wp2_with fail
  refine (Remove_any a cap L nm _ hl2 S M hF).mono ?_; rintro e w1 ⟨v, rfl, hO, hb1⟩
  obtain ⟨a1, cap1, rfl, hS1, _⟩ := OwnF.fs hO
  have BB := box hb1
  have S1 := box hS1
  clear hb1 hO hS1
  go_wp2_with fail
  refine (rRemove_any a cap L nm _ hl2 S M (box (hF.out.below BB.out))).mono ?_; rintro e w2 ⟨v, rfl, hO, hb2⟩
  obtain ⟨a2, cap2, rfl, hS2, _⟩ := OwnF.fs hO
  replace BB := box (BB.out.trans (hb2.mono BB.out.size))
  replace S1 := box (S1.out.below hb2)
  have S2 := box hS2
  clear hb2 hO hS2
  go_wp2_with fail
  refine (SameF_any a1 a2 cap1 cap2 (remL nm L) (remL nm L) _ R.out R.out S1 S2).mono ?_; rintro e w3 ⟨rfl, hb3⟩; rw [decide_eq_true rfl]
  replace BB := box (BB.out.trans (hb3.mono BB.out.size))
  clear hb3 S1 S2
  go_wp2_with fail
  refine (Set_any a cap L nm u _ hl hcap S M (box (hF.out.below BB.out))).mono ?_; rintro e w4 ⟨v, rfl, hO, hb4⟩
  obtain ⟨a4, cap4, rfl, hS4, _⟩ := OwnF.fs hO
  replace BB := box (BB.out.trans (hb4.mono BB.out.size))
  have S4 := box hS4
  clear hb4 hO hS4
  go_wp2_with fail
  refine (rSet_any a cap L nm u _ hl S M (box (hF.out.below BB.out))).mono ?_; rintro e w5 ⟨v, rfl, hO, hb5⟩
  obtain ⟨a5, cap5, rfl, hS5, _⟩ := OwnF.fs hO
  replace BB := box (BB.out.trans (hb5.mono BB.out.size))
  replace S4 := box (S4.out.below hb5)
  have S5 := box hS5
  clear hb5 hO hS5
  go_wp2_with fail
  refine (SameF_any a4 a5 cap4 cap5 (setL nm u L) (setL nm u L) _ T.out T.out S4 S5).mono ?_; rintro e w6 ⟨rfl, hb6⟩; rw [decide_eq_true rfl]
  replace BB := box (BB.out.trans (hb6.mono BB.out.size))
  clear hb6 S4 S5
  go_wp2_with fail
  refine (awake3_any _).mono ?_; rintro e w7 ⟨rfl, hb7⟩
  replace BB := box (BB.out.trans (hb7.mono BB.out.size))
  clear hb7
  go_wp2
  go_ret
  exact ⟨rfl, BB.out⟩
theorem edits3_walk (a : Option Addr) (cap : Nat) (L : List F) (nm u : ByteArray) (w : World) (hl : L.length ≤ maxLen) (hF : Fs w a L) (hc : L.length ≤ cap) (hm : nm.size ≤ maxLen) (hu : u.size ≤ maxLen) :
    Calls Try.prog 6 #[.slice a L.length cap, .string nm, .string u] w fun e w' => e = .returned (.bool true) ∧ Below w.heap.size w w' := by
  rcases hk : keepF L with _ | _
  · exact edits3_no a cap L nm u w hl (box hF) (box hk)
  · by_cases hn : 300 < nm.size
    · exact edits3_long a cap L nm u w hl (box hF) (box hk) hn hm
    · by_cases hn2 : 300 < u.size
      · exact edits3_long2 a cap L nm u w hl (box hF) (box hk) (by omega) hn2 hu
      · exact edits3_in a cap L nm u w (by have := (keep_parts hk).1; omega) hc (box hF) (box hk) (by omega) (by omega)

end Go.Proofs.Ytmhedadollmekaa.Asc
