/- The walk of the law EtagLists. -/
import Derived.Test.YtchbhpfloinbdaaEtaLaws
import Derived.Test.YtchbhpfloinbdaaEtaMine2
set_option linter.unusedVariables false
set_option linter.unusedSimpArgs false
set_option maxRecDepth 100000
namespace Go.Proofs.Ytchbhpfloinbdaa.Asc
open Go.RowKit

theorem mOfE_is {a : Option Addr} {cap : Nat} {L : List F} {b q : Bool} {t : ByteArray} {w : World} (S : Box (Sm L)) (hv : Box (∀ x ∈ getL etN L, x.size ≤ 65000)) (hF : Fs w a L) (h : Box (tgV (ofM21 L) = .tuple #[.agg #[.bool b, .string t], .bool q])) :
    Calls Try.prog 14 #[.slice a L.length cap] w fun e w' => e = .returned (.tuple #[.agg #[.bool b, .string t], .bool q]) ∧ Below w.heap.size w w' :=
  (mOfE_any a cap L w S hv (box hF)).mono fun e w' ⟨h1, h2⟩ => ⟨by rw [h1, h.out], h2⟩
theorem rOfE_is {a : Option Addr} {cap : Nat} {L : List F} {b q : Bool} {t : ByteArray} {w : World} (S : Box (Sm L)) (hv : Box (∀ x ∈ getL etN L, x.size ≤ 65000)) (hF : Fs w a L) (h : Box (tgV (ofM21 L) = .tuple #[.agg #[.bool b, .string t], .bool q])) :
    Calls Try.prog 15 #[.slice a L.length cap] w fun e w' => e = .returned (.tuple #[.agg #[.bool b, .string t], .bool q]) ∧ Below w.heap.size w w' :=
  (rOfE_any a cap L w S hv (box hF)).mono fun e w' ⟨h1, h2⟩ => ⟨by rw [h1, h.out], h2⟩
theorem listV_es {w w' : World} {K : List ByteArray} {X : List ET} {s m : Bool} {e : Ending} (h : listV w w' (listM K) e) (hx : Box (listM K = (X, s, m))) : ∃ a2 cap2, e = .returned (.tuple #[.slice a2 X.length cap2, .bool s, .bool m]) ∧ Es w' a2 X := by
  rw [hx.out] at h
  obtain ⟨v, h1, h2⟩ := h
  obtain ⟨a2, cap2, rfl, hS, _⟩ := OwnE.es h2
  exact ⟨a2, cap2, h1, hS⟩
theorem mListE_is {a : Option Addr} {cap : Nat} {L : List F} {nm : ByteArray} {X : List ET} {s m : Bool} {w : World} (S : Box (Sm L)) (hv : Box (∀ x ∈ getL nm L, x.size ≤ 65000)) (M : Box (nm.size ≤ 65536)) (hF : Fs w a L) (hx : Box (listM (allB nm L) = (X, s, m))) :
    Calls Try.prog 16 #[.slice a L.length cap, .string nm] w fun e w' => ∃ a2 cap2, e = .returned (.tuple #[.slice a2 X.length cap2, .bool s, .bool m]) ∧ Es w' a2 X ∧ Below w.heap.size w w' :=
  (mListE_any a cap L nm w S hv M (box hF)).mono fun e w' ⟨h1, h2⟩ => by
    obtain ⟨a2, cap2, e1, e2⟩ := listV_es h1 hx
    exact ⟨a2, cap2, e1, e2, h2⟩
theorem rListE_is {a : Option Addr} {cap : Nat} {L : List F} {nm : ByteArray} {X : List ET} {s m : Bool} {w : World} (S : Box (Sm L)) (hv : Box (∀ x ∈ getL nm L, x.size ≤ 65000)) (M : Box (nm.size ≤ 65536)) (hF : Fs w a L) (hx : Box (listM (allB nm L) = (X, s, m))) :
    Calls Try.prog 17 #[.slice a L.length cap, .string nm] w fun e w' => ∃ a2 cap2, e = .returned (.tuple #[.slice a2 X.length cap2, .bool s, .bool m]) ∧ Es w' a2 X ∧ Below w.heap.size w w' :=
  (rListE_any a cap L nm w S hv M (box hF)).mono fun e w' ⟨h1, h2⟩ => by
    obtain ⟨a2, cap2, e1, e2⟩ := listV_es h1 hx
    exact ⟨a2, cap2, e1, e2, h2⟩
theorem parAll_le {K : List ByteArray} {X : List ET} {s m : Bool} (h : listM K = (X, s, m)) : X.length ≤ 65536 := by
  unfold listM at h
  split at h
  · obtain rfl := (Prod.mk.inj h).1; simp
  · split at h
    · obtain rfl := (Prod.mk.inj h).1; simp
    · rename_i hk
      rcases hp : parAll K with _ | es
      · rw [hp] at h; obtain rfl := (Prod.mk.inj h).1; simp
      · rw [hp] at h
        obtain rfl := (Prod.mk.inj h).1
        have := parAll_len K _ hp
        omega
set_option maxHeartbeats 4000000 in
theorem lists21_in (a : Option Addr) (cap : Nat) (L : List F) (nm : ByteArray) (w : World) (HL : L.length ≤ maxLen) (F0 : Box (Fs w a L)) (HK : Box (keepF L = true)) (hn : nm.size ≤ 100) :
    Calls Try.prog 4 #[.slice a L.length cap, .string nm] w fun e w' => e = .returned (.bool true) ∧ Below w.heap.size w w' := by
  have hni : ¬ (100 : Int) < (nm.size : Int) := by omega
  have SM := box (keep_sm7 HK.out)
  have HV := box (keep_get HK.out nm)
  have HVE := box (keep_get HK.out etN)
  have M : Box (nm.size ≤ 65536) := box (by omega)
  obtain ⟨b, t, q, hq⟩ := tgV_cases (ofM21 L)
  have HQ := box hq
  obtain ⟨⟨X, st, my⟩, hx⟩ : ∃ x, listM (allB nm L) = x := ⟨_, rfl⟩
  have HX := box hx
  have hxl := parAll_le hx
  have e1 : (t.toList == t.toList) = true := by simp
  have e2 : (b == b) = true := by simp
  have e3 : (q == q) = true := by simp
  have e4 : (st == st) = true := by simp
  have e5 : (my == my) = true := by simp
  clear hq hx
  go_enter Try.func4, Try.ntmps4
  go_wp2_with fail
  refine (keepFields_any a cap L _ HL F0).mono ?_; rintro e w1 ⟨rfl, rfl⟩; rw [HK.out]
  go_wp2_with fail
  refine (mOfE_is SM HVE F0.out HQ).mono ?_; rintro e w1 ⟨rfl, hb1⟩
  have hn1 := below_new w1 (.cells #[.bool b, .string t] 23)
  have B1 := box (hb1.trans (hn1.mono hb1.size))
  have F1 := box ((F0.out.below hb1).below hn1)
  have P1 := box (T2.new (.bool b) (.string t) w1 23)
  clear hb1 hn1
  go_wp2_with fail
  refine (rOfE_is SM HVE F1.out HQ).mono ?_; rintro e w2 ⟨rfl, hb2⟩
  have hn2 := below_new w2 (.cells #[.bool b, .string t] 23)
  have B2 := box ((B1.out.trans (hb2.mono B1.out.size)).trans (hn2.mono (B1.out.trans (hb2.mono B1.out.size)).size))
  have F2 := box ((F1.out.below hb2).below hn2)
  have P2 := box ((P1.out.next hb2).next hn2)
  have Q2 := box (T2.new (.bool b) (.string t) w2 23)
  clear hb2 hn2
  go_wp2_with fail
  refine (mListE_is SM HV M F2.out HX).mono ?_; rintro e w3 ⟨a3, cap3, rfl, hS3, hb3⟩
  have B3 := box (B2.out.trans (hb3.mono B2.out.size))
  have F3 := box (F2.out.below hb3)
  have P3 := box (P2.out.next hb3)
  have Q3 := box (Q2.out.next hb3)
  have S3 := box hS3
  clear hb3 hS3
  go_wp2_with fail
  refine (rListE_is SM HV M F3.out HX).mono ?_; rintro e w4 ⟨a4, cap4, rfl, hS4, hb4⟩
  have B4 := box (B3.out.trans (hb4.mono B3.out.size))
  have P4 := box (P3.out.next hb4)
  have Q4 := box (Q3.out.next hb4)
  have S4 := box hS4
  have T4 := box (S3.out.below hb4)
  clear hb4 hS4
  obtain ⟨⟨r0, r1⟩, _⟩ := P4.out
  obtain ⟨⟨s0, s1⟩, _⟩ := Q4.out
  go_wp2_with fail
  refine (sameTags_any _ _ _ _ X _ hxl T4 S4).mono ?_; rintro e w5 ⟨rfl, hb5⟩
  have B5 := box (B4.out.trans (hb5.mono B4.out.size))
  clear hb5 r0 r1 s0 s1
  go_wp2_with fail
  refine (awake21_any _).mono ?_; rintro e w6 ⟨rfl, hb6⟩
  have B6 := box (B5.out.trans (hb6.mono B5.out.size))
  clear hb6
  go_wp2
  go_ret
  exact ⟨rfl, B6.out⟩
theorem lists21_walk (a : Option Addr) (cap : Nat) (L : List F) (nm : ByteArray) (w : World) (hl : L.length ≤ maxLen) (hF : Fs w a L) (hc : L.length ≤ cap) (S : nm.size ≤ maxLen) :
    Calls Try.prog 4 #[.slice a L.length cap, .string nm] w fun e w' => e = .returned (.bool true) ∧ Below w.heap.size w w' := by
  have F0 := box hF
  have HL := hl
  unfold maxLen at S
  clear hF hl
  rcases hk : keepF L with _ | _
  · have HK := box hk
    clear hk
    go_enter Try.func4, Try.ntmps4
    go_wp2_with fail
    refine (keepFields_any a cap L _ HL F0).mono ?_; rintro e w1 ⟨rfl, rfl⟩; rw [HK.out]
    go_wp2
    go_ret
    exact ⟨rfl, Below.refl _ _⟩
  · have HK := box hk
    by_cases hn : 100 < nm.size
    · have hni : (100 : Int) < (nm.size : Int) := by omega
      clear hk
      go_enter Try.func4, Try.ntmps4
      go_wp2_with fail
      refine (keepFields_any a cap L _ HL F0).mono ?_; rintro e w1 ⟨rfl, rfl⟩; rw [HK.out]
      go_wp2
      go_ret
      exact ⟨rfl, Below.refl _ _⟩
    · exact lists21_in a cap L nm w HL F0 HK (by omega)

end Go.Proofs.Ytchbhpfloinbdaa.Asc
