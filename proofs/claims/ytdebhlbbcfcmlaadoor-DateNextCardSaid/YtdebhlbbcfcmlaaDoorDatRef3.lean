/- The contracts of the reference's two and digits. -/
import Derived.Test.YtdebhlbbcfcmlaaDoorDatRef2
import Derived.Test.YtdebhlbbcfcmlaaDoorAscNum
set_option linter.unusedVariables false
set_option linter.unusedSimpArgs false
set_option maxRecDepth 100000
namespace Go.Proofs.YtdebhlbbcfcmlaaDoor.Asc
open Go.RowKit

theorem rDec20_is {n : Int} {x : ByteArray} {w : World} (h1 : InI64 n) (h : Box (bs (decL n) = x)) :
    Calls Tryd.prog 24 #[.int .i64 n] w fun e w' => e = .returned (.string x) ∧ Below w.heap.size w w' :=
  (rDecimal_any n w h1).mono fun e w' ⟨h1, h2⟩ => ⟨by rw [h1, ← h.out]; rfl, h2⟩
theorem rTwo_any (n : Nat) (w : World) (h : n < 100) :
    Calls Tryd.prog 23 #[.int .i64 n] w fun e w' => e = .returned (.string (bs (twoL n))) ∧ Below w.heap.size w w' := by
  have HD : Box (bs (decL (100 + (n : Int))) = ⟨#[49, digB (n / 10), digB n]⟩) := box (by
    have := dec_threeL h
    rw [show ((100 + n : Nat) : Int) = 100 + (n : Int) from by omega] at this
    rw [this]; rfl)
  have HX : Box ((⟨#[49, digB (n / 10), digB n]⟩ : ByteArray).extract 1 3 = bs (twoL n)) := box (by rw [ext_bs]; rfl)
  go_enter Tryd.func23, Tryd.ntmps23
  go_wp2_with fail
  refine (rDec20_is ⟨by omega, by omega⟩ HD).mono ?_; rintro e w1 ⟨rfl, hb⟩
  have HB := box hb
  clear hb
  go_wp2
  go_ret
  exact ⟨by rw [← HX.out]; rfl, HB.out⟩
theorem cutD_get {l : List UInt8} {a b j : Nat} (h1 : a ≤ j) (h2 : j < b) (h3 : b ≤ l.length) : (cutD l a b)[j - a]? = l[j]? := by
  unfold cutD
  rw [List.getElem?_drop, List.getElem?_take, if_pos (by omega), show a + (j - a) = j from by omega]
theorem num_bad {s : ByteArray} {a b j : Nat} (h1 : a ≤ j) (h2 : j < b) (h3 : b ≤ s.size) (hj : j < s.size) (hp : digitI (s[j].toNat) = false) : numL (cutD s.data.toList a b) = none := by
  unfold numL
  rw [if_neg]
  rintro ⟨h, _⟩
  have hg := cutD_get (l := s.data.toList) h1 h2 (by simpa using h3)
  rw [List.getElem?_eq_getElem (l := s.data.toList) (i := j) (by simpa using hj)] at hg
  have hm := List.mem_of_getElem? hg
  have e : s.data.toList[j]'(by simpa using hj) = s[j] := rfl
  rw [e] at hm
  have := (List.all_eq_true.1 (show (cutD s.data.toList a b).all (fun c => digitI (c.toNat : Int)) = true from h)) _ hm
  rw [hp] at this; cases this
theorem rDigits_any (s : ByteArray) (a n : Nat) (w : World) (h : a + n ≤ s.size) (hs : s.size ≤ 1000) :
    Calls Tryd.prog 18 #[.string s, .int .i64 a, .int .i64 n] w fun e w' => e = .returned (numT (numL (cutD s.data.toList a (a + n)))) ∧ w = w' := by
  go_enter Tryd.func18, Tryd.ntmps18
  go_wp2
  go_loop [8] (fun i => ∃ k : Nat, a ≤ k ∧ k ≤ a + n ∧ i = .int .i64 k) (fun i => a + n - (intOf i).toNat)
  case atStart => exact ⟨a, by omega, by omega, rfl⟩
  case round =>
    obtain ⟨k, k1, k2, rfl⟩ := hrel
    by_cases hlt : k < a + n
    · have hi : (k : Int) < (a : Int) + (n : Int) := by omega
      have hk : k < s.size := by omega
      have hb := byte_bd s k hk
      rcases hp : digitI (s[k].toNat) with _ | _
      · have HP := box hp
        have HN := box (num_bad k1 hlt h hk hp)
        clear hp
        go_wp2_with (go_at_call 31; refine (rDigit_any _ _ hb.1 hb.2).mono ?_; rintro e w' ⟨rfl, rfl⟩; rw [HP.out])
        go_ret2
        exact ⟨by rw [HN.out]; rfl, rfl⟩
      · have HP := box hp
        clear hp
        go_wp2_with (go_at_call 31; refine (rDigit_any _ _ hb.1 hb.2).mono ?_; rintro e w' ⟨rfl, rfl⟩; rw [HP.out])
        go_round
        case rel => exact ⟨k + 1, by omega, by omega, by go_num⟩
        case measure => simp [intOf]; omega
    · have hi : ¬ (k : Int) < (a : Int) + (n : Int) := by omega
      obtain rfl : k = a + n := by omega
      have hx : (s.extract a (a + n)).size ≤ maxLen := by unfold maxLen; rw [ByteArray.size_extract]; omega
      have HX := box hx
      have HV : Box (numT (numL (s.extract a (a + n)).data.toList) = numT (numL (cutD s.data.toList a (a + n)))) := box (by rw [ext_cut, bs_toList])
      obtain ⟨p, q, hpq⟩ : ∃ p q, numT (numL (cutD s.data.toList a (a + n))) = .tuple #[.int .i64 p, .bool q] := ⟨_, _, rfl⟩
      have HQ := box hpq
      clear hx hpq
      go_wp2_with fail
      refine (rNumber_any _ _ HX.out).mono ?_; rintro e w1 ⟨rfl, rfl⟩; rw [HV.out, HQ.out]
      go_wp2
      go_ret2
      exact ⟨by rw [HQ.out]; rfl, rfl⟩

end Go.Proofs.YtdebhlbbcfcmlaaDoor.Asc
