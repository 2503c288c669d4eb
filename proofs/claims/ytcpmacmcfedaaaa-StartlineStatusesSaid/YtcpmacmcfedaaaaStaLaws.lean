/- The walks of the laws StartlineRequests and StartlineStatuses, and of their sanity check. -/
import Derived.Test.YtcpmacmcfedaaaaStaRef2
set_option linter.unusedVariables false
set_option linter.unusedSimpArgs false
namespace Go.Proofs.Ytcpmacmcfedaaaa.Asc
open Go.RowKit

theorem awk_req (w : World) : Calls Try.prog 8 #[.string ⟨#[71, 69, 84, 32, 47, 97, 32, 72, 84, 84, 80, 47, 49, 46, 49]⟩] w fun e w' => e = .returned (.tuple #[.string ⟨#[71, 69, 84]⟩, .string ⟨#[47, 97]⟩, .int .i64 1, .int .i64 0]) ∧ Below w.heap.size w w' :=
  (ParseRequest_any ⟨#[71, 69, 84, 32, 47, 97, 32, 72, 84, 84, 80, 47, 49, 46, 49]⟩ w (by unfold maxLen; decide)).mono fun e w' ⟨he, hb⟩ => ⟨by rw [he, show reqL (⟨#[71, 69, 84, 32, 47, 97, 32, 72, 84, 84, 80, 47, 49, 46, 49]⟩ : ByteArray).data.toList = ([71, 69, 84], [47, 97], 1, 0) from by decide]; rfl, hb⟩
theorem awake2_any (w : World) :
    Calls Try.prog 10 #[] w fun e w' => e = .returned (.bool true) ∧ Below w.heap.size w w' := by
  go_enter Try.func10, Try.ntmps10
  go_wp2_with fail
  refine (awk_req _).mono ?_; rintro e w1 ⟨rfl, hb1⟩
  go_wp2
  go_ret
  exact ⟨rfl, hb1⟩

theorem reqV_ex (p : List UInt8 × List UInt8 × Int × Int) : ∃ (m t : ByteArray) (v e : Int), reqV p = .tuple #[.string m, .string t, .int .i64 v, .int .i64 e] := ⟨_, _, _, _, rfl⟩
theorem staV_ex (p : Int × Int × List UInt8 × Int) : ∃ (v n : Int) (r : ByteArray) (e : Int), staV p = .tuple #[.int .i64 v, .int .i64 n, .string r, .int .i64 e] := ⟨_, _, _, _, rfl⟩

theorem requests_walk (s : ByteArray) (w : World) (hs : s.size ≤ maxLen) :
    Calls Try.prog 3 #[.string s] w fun e w' => e = .returned (.bool true) ∧ Below w.heap.size w w' := by
  by_cases h1 : 5000 < s.size
  · unfold maxLen at hs
    go_enter Try.func3, Try.ntmps3
    go_wp2
    go_ret
    exact ⟨rfl, Below.refl _ _⟩
  · have HS := Lib.hid hs
    clear hs
    obtain ⟨m, t, v, e0, ho⟩ := reqV_ex (reqL s.data.toList)
    have HO := Lib.hid ho
    clear ho
    go_enter Try.func3, Try.ntmps3
    go_wp2_with fail
    refine (ParseRequest_any _ _ HS.out).mono ?_; rintro e w1 ⟨rfl, hb1⟩; rw [HO.out]
    go_wp2_with fail
    refine (rParseRequest_any _ _ HS.out).mono ?_; rintro e w2 ⟨rfl, hb2⟩; rw [HO.out]
    have b2 := hb1.trans (hb2.mono hb1.size)
    clear hb1 hb2
    go_wp2_with fail
    refine (awake2_any _).mono ?_; rintro e w5 ⟨rfl, hb5⟩
    go_wp2
    go_ret
    exact ⟨rfl, b2.trans (hb5.mono b2.size)⟩

theorem statuses_walk (s : ByteArray) (w : World) (hs : s.size ≤ maxLen) :
    Calls Try.prog 4 #[.string s] w fun e w' => e = .returned (.bool true) ∧ Below w.heap.size w w' := by
  by_cases h1 : 5000 < s.size
  · unfold maxLen at hs
    go_enter Try.func4, Try.ntmps4
    go_wp2
    go_ret
    exact ⟨rfl, Below.refl _ _⟩
  · have HS := Lib.hid hs
    clear hs
    obtain ⟨v, n, r, e0, ho⟩ := staV_ex (staL s.data.toList)
    have HO := Lib.hid ho
    clear ho
    go_enter Try.func4, Try.ntmps4
    go_wp2_with fail
    refine (ParseStatus_any _ _ HS.out).mono ?_; rintro e w1 ⟨rfl, hb1⟩; rw [HO.out]
    go_wp2_with fail
    refine (rParseStatus_any _ _ HS.out).mono ?_; rintro e w2 ⟨rfl, hb2⟩; rw [HO.out]
    have b2 := hb1.trans (hb2.mono hb1.size)
    clear hb1 hb2
    go_wp2_with fail
    refine (awake2_any _).mono ?_; rintro e w5 ⟨rfl, hb5⟩
    go_wp2
    go_ret
    exact ⟨rfl, b2.trans (hb5.mono b2.size)⟩
end Go.Proofs.Ytcpmacmcfedaaaa.Asc
