/- The walk of the law FieldlineSets. -/
import Derived.Test.YtmhedadollmekaaLstLaws2
set_option linter.unusedVariables false
set_option linter.unusedSimpArgs false
namespace Go.Proofs.Ytmhedadollmekaa.Asc
open Go.RowKit

theorem sm_mem {L : List F} (h : Sm L) {p : F} (hp : p ∈ L) : p.1.size ≤ 65536 ∧ p.2.size ≤ 65536 := by
  obtain ⟨i, hi, rfl⟩ := List.mem_iff_getElem.mp hp
  exact h.2 i hi
theorem sm_set {nm u : ByteArray} {L : List F} (h : Sm L) (hl : L.length ≤ 60000) (hn : nm.size ≤ 65536) (hu : u.size ≤ 65536) : Sm (setL nm u L) := by
  refine ⟨by have := set_len (nm := nm) (u := u) (L := L); omega, fun i hi => ?_⟩
  rcases set_mem (List.getElem_mem hi) with e | e | ⟨q, hq, e⟩
  · rw [e]; exact ⟨hn, hu⟩
  · exact sm_mem h e
  · rw [e]; exact ⟨(sm_mem h hq).1, hu⟩
theorem Ss.one (u : ByteArray) (w : World) (t : TypeId) : Ss (w.alloc (.cells #[.string u] t)) (some ⟨w.heap.size, 0, none⟩) [u] := fun i hi => by
  have : i = 0 := by simp at hi; exact hi
  subst this
  refine ⟨_, _, rfl, ?_⟩
  rw [World.cell?_alloc_at _ _ _ _ rfl]; rfl
theorem kSame_one (a b : Option Addr) (ca cb : Nat) (u : ByteArray) (w : World) (hK : Box (Ss w a [u])) (hL : Box (Ss w b [u])) :
    Calls Try.prog 19 #[.slice a 1 ca, .slice b 1 cb] w fun e w' => e = .returned (.bool true) ∧ Below w.heap.size w w' :=
  (kSameS_any a b ca cb [u] [u] w (by simp) (by simp) hK hL).mono fun e w' ⟨h1, h2⟩ => ⟨by rw [h1, decide_eq_true rfl], h2⟩
theorem sets3_no (a : Option Addr) (cap : Nat) (L : List F) (nm u ot : ByteArray) (w : World) (hl : L.length ≤ maxLen) (hF : Box (Fs w a L)) (HK : Box (keepF L = false)) :
    Calls Try.prog 8 #[.slice a L.length cap, .string nm, .string u, .string ot] w fun e w' => e = .returned (.bool true) ∧ Below w.heap.size w w' := by
  go_enter Try.func8, Try.ntmps8
  go_wp2_with fail
  refine (keepFields_any a cap L _ hl hF).mono ?_; rintro e w1 ⟨rfl, rfl⟩; rw [HK.out]
  go_wp2
  go_ret
  exact ⟨rfl, Below.refl _ _⟩
theorem sets3_long (a : Option Addr) (cap : Nat) (L : List F) (nm u ot : ByteArray) (w : World) (hl : L.length ≤ maxLen) (hF : Box (Fs w a L)) (HK : Box (keepF L = true)) (hn : 300 < nm.size) (hm : nm.size ≤ maxLen) :
    Calls Try.prog 8 #[.slice a L.length cap, .string nm, .string u, .string ot] w fun e w' => e = .returned (.bool true) ∧ Below w.heap.size w w' := by
  unfold maxLen at hm
  go_enter Try.func8, Try.ntmps8
  go_wp2_with fail
  refine (keepFields_any a cap L _ hl hF).mono ?_; rintro e w1 ⟨rfl, rfl⟩; rw [HK.out]
  go_wp2
  go_ret
  exact ⟨rfl, Below.refl _ _⟩
theorem sets3_long2 (a : Option Addr) (cap : Nat) (L : List F) (nm u ot : ByteArray) (w : World) (hl : L.length ≤ maxLen) (hF : Box (Fs w a L)) (HK : Box (keepF L = true)) (hn : nm.size ≤ 300) (hu : 300 < u.size) (hm : u.size ≤ maxLen) :
    Calls Try.prog 8 #[.slice a L.length cap, .string nm, .string u, .string ot] w fun e w' => e = .returned (.bool true) ∧ Below w.heap.size w w' := by
  unfold maxLen at hm
  go_enter Try.func8, Try.ntmps8
  go_wp2_with fail
  refine (keepFields_any a cap L _ hl hF).mono ?_; rintro e w1 ⟨rfl, rfl⟩; rw [HK.out]
  go_wp2
  go_ret
  exact ⟨rfl, Below.refl _ _⟩
theorem sets3_long3 (a : Option Addr) (cap : Nat) (L : List F) (nm u ot : ByteArray) (w : World) (hl : L.length ≤ maxLen) (hF : Box (Fs w a L)) (HK : Box (keepF L = true)) (hn : nm.size ≤ 300) (hu : u.size ≤ 300) (ho : 300 < ot.size) (hm : ot.size ≤ maxLen) :
    Calls Try.prog 8 #[.slice a L.length cap, .string nm, .string u, .string ot] w fun e w' => e = .returned (.bool true) ∧ Below w.heap.size w w' := by
  unfold maxLen at hm
  go_enter Try.func8, Try.ntmps8
  go_wp2_with fail
  refine (keepFields_any a cap L _ hl hF).mono ?_; rintro e w1 ⟨rfl, rfl⟩; rw [HK.out]
  go_wp2
  go_ret
  exact ⟨rfl, Below.refl _ _⟩
theorem sets3_same (a : Option Addr) (cap : Nat) (L : List F) (nm u ot : ByteArray) (w : World) (hl : L.length ≤ maxLen) (hF : Box (Fs w a L)) (HK : Box (keepF L = true)) (hn : nm.size ≤ 300) (hu : u.size ≤ 300) (ho : ot.size ≤ 300) (HD : Box (foldL nm.data.toList ot.data.toList = true)) :
    Calls Try.prog 8 #[.slice a L.length cap, .string nm, .string u, .string ot] w fun e w' => e = .returned (.bool true) ∧ Below w.heap.size w w' := by
  go_enter Try.func8, Try.ntmps8
  go_wp2_with fail
  refine (keepFields_any a cap L _ hl hF).mono ?_; rintro e w1 ⟨rfl, rfl⟩; rw [HK.out]
  go_wp2_with fail
  refine (rFold_any nm ot _ (by omega) (by omega)).mono ?_; rintro e w1 ⟨rfl, hb1⟩; rw [HD.out]
  go_wp2
  go_ret
  exact ⟨rfl, hb1⟩
set_option maxHeartbeats 1600000 in
theorem sets3_in (a : Option Addr) (cap : Nat) (L : List F) (nm u ot : ByteArray) (w : World) (hl : L.length ≤ 60000) (hcap : L.length ≤ cap) (hF : Box (Fs w a L)) (HK : Box (keepF L = true)) (hn : nm.size ≤ 300) (hu : u.size ≤ 300) (ho : ot.size ≤ 300) (HD : Box (foldL nm.data.toList ot.data.toList = false))
    (K R : List F) (HS : Box (setL nm u L = K)) (HR : Box (remL nm L = R)) (G : List ByteArray) (HG : Box (getL ot L = G)) :
    Calls Try.prog 8 #[.slice a L.length cap, .string nm, .string u, .string ot] w fun e w' => e = .returned (.bool true) ∧ Below w.heap.size w w' := by
  have S := box (keep_sm HK.out)
  have M : Box (nm.size ≤ 65536) := box (by omega)
  have O : Box (ot.size ≤ 65536) := box (by omega)
  have hl2 : L.length ≤ 65536 := by omega
  have SK : Box (Sm K) := box (by rw [← HS.out]; exact sm_set S.out hl (by omega) (by omega))
  have SR : Box (Sm R) := box (by rw [← HR.out]; exact sm_filter S.out)
  have G1 : Box (getL nm K = [u]) := box (by rw [← HS.out]; exact get_set_self)
  have G2 : Box (R.any (nmd nm) = false) := box (by rw [← HR.out]; exact rem_none)
  have G3 : Box (getL ot K = G) := box (by rw [← HS.out, get_set_other HD.out, HG.out])
  have G4 : Box (getL ot R = G) := box (by rw [← HR.out, get_rem HD.out, HG.out])
  have GL : Box (G.length ≤ 65536) := box (by rw [← HG.out]; exact Nat.le_trans getL_len hl2)
  go_enter Try.func8, Try.ntmps8
  go_wp2_with fail
  refine (keepFields_any a cap L _ (by unfold maxLen; omega) hF).mono ?_; rintro e w1 ⟨rfl, rfl⟩; rw [HK.out]
  go_wp2_with fail
  refine (rFold_any nm ot _ (by omega) (by omega)).mono ?_; rintro e w1 ⟨rfl, hb1⟩; rw [HD.out]
  have BB := box hb1
  clear hb1
  go_wp2_with fail
  refine (Set_any a cap L nm u _ hl hcap S M (box (hF.out.below BB.out))).mono ?_; rintro e w2 ⟨v, rfl, hO, hb2⟩
  rw [HS.out] at hO
  obtain ⟨a2, cap2, rfl, hfs, _⟩ := OwnF.fs hO
  replace BB := box (BB.out.trans (hb2.mono BB.out.size))
  have FS := box hfs
  clear hb2 hO hfs
  go_wp2_with fail
  refine (Remove_any a cap L nm _ hl2 S M (box (hF.out.below BB.out))).mono ?_; rintro e w3 ⟨v, rfl, hO, hb3⟩
  rw [HR.out] at hO
  obtain ⟨ar, capr, rfl, hfr, _⟩ := OwnF.fs hO
  replace BB := box (BB.out.trans (hb3.mono BB.out.size))
  replace FS := box (FS.out.below hb3)
  have FR := box hfr
  clear hb3 hO hfr
  go_wp2_with fail
  refine (Get_any a cap L ot _ hl2 S O (box (hF.out.below BB.out))).mono ?_; rintro e w4 ⟨v, rfl, hO, hb4⟩
  rw [HG.out] at hO
  obtain ⟨ag, capg, rfl, hsg, _⟩ := OwnS.ss hO
  replace BB := box (BB.out.trans (hb4.mono BB.out.size))
  replace FS := box (FS.out.below hb4)
  replace FR := box (FR.out.below hb4)
  have SG := box hsg
  clear hb4 hO hsg
  go_wp2_with fail
  refine (Get_any a2 cap2 K nm _ SK.out.1 SK M FS).mono ?_; rintro e w5 ⟨v, rfl, hO, hb5⟩
  rw [G1.out] at hO
  obtain ⟨a5, cap5, rfl, hs5, _⟩ := OwnS.ss hO
  replace BB := box (BB.out.trans (hb5.mono BB.out.size))
  replace FS := box (FS.out.below hb5)
  replace FR := box (FR.out.below hb5)
  replace SG := box (SG.out.below hb5)
  have S5 := box hs5
  clear hb5 hO hs5
  go_wp2_with fail
  refine (kSame_one a5 _ cap5 _ u _ (box (S5.out.below (below_new _ _))) (box (Ss.one u _ _))).mono ?_; rintro e w6 ⟨rfl, hb6⟩
  have bn := below_new w5 (.cells #[.string u] 9)
  replace BB := box ((BB.out.trans (bn.mono BB.out.size)).trans (hb6.mono (BB.out.trans (bn.mono BB.out.size)).size))
  replace FS := box ((FS.out.below bn).below hb6)
  replace FR := box ((FR.out.below bn).below hb6)
  replace SG := box ((SG.out.below bn).below hb6)
  clear hb6 bn S5
  go_wp2_with fail
  refine (Has_any ar capr R nm _ SR.out.1 SR M FR).mono ?_; rintro e w7 ⟨rfl, hb7⟩; rw [G2.out]
  replace BB := box (BB.out.trans (hb7.mono BB.out.size))
  replace FS := box (FS.out.below hb7)
  replace FR := box (FR.out.below hb7)
  replace SG := box (SG.out.below hb7)
  clear hb7
  go_wp2_with fail
  refine (Get_any a2 cap2 K ot _ SK.out.1 SK O FS).mono ?_; rintro e w8 ⟨v, rfl, hO, hb8⟩
  rw [G3.out] at hO
  obtain ⟨a8, cap8, rfl, hs8, _⟩ := OwnS.ss hO
  replace BB := box (BB.out.trans (hb8.mono BB.out.size))
  replace FR := box (FR.out.below hb8)
  replace SG := box (SG.out.below hb8)
  have S8 := box hs8
  clear hb8 hO hs8 FS
  go_wp2_with fail
  refine (kSameS_any a8 ag cap8 capg G G _ GL.out GL.out S8 SG).mono ?_; rintro e w9 ⟨rfl, hb9⟩; rw [decide_eq_true rfl]
  replace BB := box (BB.out.trans (hb9.mono BB.out.size))
  replace FR := box (FR.out.below hb9)
  replace SG := box (SG.out.below hb9)
  clear hb9 S8
  go_wp2_with fail
  refine (Get_any ar capr R ot _ SR.out.1 SR O FR).mono ?_; rintro e w10 ⟨v, rfl, hO, hb10⟩
  rw [G4.out] at hO
  obtain ⟨a10, cap10, rfl, hs10, _⟩ := OwnS.ss hO
  replace BB := box (BB.out.trans (hb10.mono BB.out.size))
  replace SG := box (SG.out.below hb10)
  have S10 := box hs10
  clear hb10 hO hs10 FR
  go_wp2_with fail
  refine (kSameS_any a10 ag cap10 capg G G _ GL.out GL.out S10 SG).mono ?_; rintro e w11 ⟨rfl, hb11⟩; rw [decide_eq_true rfl]
  replace BB := box (BB.out.trans (hb11.mono BB.out.size))
  clear hb11 S10
  go_wp2_with fail
  refine (awake3_any _).mono ?_; rintro e w12 ⟨rfl, hb12⟩
  replace BB := box (BB.out.trans (hb12.mono BB.out.size))
  clear hb12
  go_wp2
  go_ret
  exact ⟨rfl, BB.out⟩
theorem sets3_walk (a : Option Addr) (cap : Nat) (L : List F) (nm u ot : ByteArray) (w : World) (hl : L.length ≤ maxLen) (hF : Fs w a L) (hc : L.length ≤ cap) (hm : nm.size ≤ maxLen) (hu : u.size ≤ maxLen) (ho : ot.size ≤ maxLen) :
    Calls Try.prog 8 #[.slice a L.length cap, .string nm, .string u, .string ot] w fun e w' => e = .returned (.bool true) ∧ Below w.heap.size w w' := by
  rcases hk : keepF L with _ | _
  · exact sets3_no a cap L nm u ot w hl (box hF) (box hk)
  · by_cases h1 : 300 < nm.size
    · exact sets3_long a cap L nm u ot w hl (box hF) (box hk) h1 hm
    · by_cases h2 : 300 < u.size
      · exact sets3_long2 a cap L nm u ot w hl (box hF) (box hk) (by omega) h2 hu
      · by_cases h3 : 300 < ot.size
        · exact sets3_long3 a cap L nm u ot w hl (box hF) (box hk) (by omega) (by omega) h3 ho
        · rcases hd : foldL nm.data.toList ot.data.toList with _ | _
          · exact sets3_in a cap L nm u ot w (by have := (keep_parts hk).1; omega) hc (box hF) (box hk) (by omega) (by omega) (by omega) (box hd) _ _ (box rfl) (box rfl) _ (box rfl)
          · exact sets3_same a cap L nm u ot w hl (box hF) (box hk) (by omega) (by omega) (by omega) (box hd)

end Go.Proofs.Ytmhedadollmekaa.Asc
