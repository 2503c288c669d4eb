/- The contracts of strings.HasPrefix and strings.CutPrefix at any text and prefix. (Parted from EtaMine in round 22.) -/
import Derived.Test.YtlcojfkkeommoaaAscTok
import Derived.Test.YtlcojfkkeommoaaFieMem
import Derived.Test.YtlcojfkkeommoaaStaSpec
set_option linter.unusedVariables false
set_option linter.unusedSimpArgs false
set_option maxRecDepth 100000
namespace Go.Proofs.Ytlcojfkkeommoaa.Asc
open Go.RowKit

/-- does the text begin so? -/
def pre21 (l p : List UInt8) : Bool := l.take p.length == p
theorem hasPre21_is {s p : ByteArray} {b : Bool} {w : World} (hs : s.size ≤ 4000000) (hp : p.size ≤ 65536) (hb : Box (pre21 s.data.toList p.data.toList = b)) :
    Calls Try.prog 68 #[.string s, .string p] w fun e w' => e = .returned (.bool b) ∧ w = w' := by
  have hz : s.data.toList.length = s.size := by simp
  have hz2 : p.data.toList.length = p.size := by simp
  by_cases h : p.size ≤ s.size
  · have HE : ((s.extract 0 p.size).toList == p.toList) = b := by
      rw [← hb.out]; unfold pre21
      rw [toList_data, toList_data, ext_bs, List.drop_zero, hz2]; rfl
    have hi : (p.size : Int) ≤ (s.size : Int) := by omega
    clear hz hz2
    go_enter Try.func68, Try.ntmps68
    go_wp2
    go_ret
    exact ⟨rfl, rfl⟩
  · have HE : Box (b = false) := box (by
      rw [← hb.out]; unfold pre21
      rw [beq_eq_false_iff_ne]
      intro e
      have := congrArg List.length e
      rw [List.length_take] at this
      omega)
    have hi : (s.size : Int) < (p.size : Int) := by omega
    clear hz hz2
    go_enter Try.func68, Try.ntmps68
    go_wp2
    go_ret
    exact ⟨ret_bool HE.out.symm, rfl⟩
theorem pre21_le {s p : ByteArray} (h : pre21 s.data.toList p.data.toList = true) : p.size ≤ s.size := by
  unfold pre21 at h
  rw [beq_iff_eq] at h
  have := congrArg List.length h
  rw [List.length_take] at this
  simp at this; omega
theorem scutPre21_no {s p : ByteArray} {w : World} (hs : s.size ≤ 4000000) (hp : p.size ≤ 65536) (h : Box (pre21 s.data.toList p.data.toList = false)) :
    Calls Try.prog 65 #[.string s, .string p] w fun e w' => e = .returned (.tuple #[.string s, .bool false]) ∧ w = w' := by
  go_enter Try.func65, Try.ntmps65
  go_wp2_with fail
  refine (hasPre21_is hs hp h).mono ?_; rintro e w1 ⟨rfl, rfl⟩
  go_wp2
  go_ret2
  exact ⟨rfl, rfl⟩
theorem scutPre21_yes {s p x : ByteArray} {w : World} (hs : s.size ≤ 4000000) (hp : p.size ≤ 65536) (h : Box (pre21 s.data.toList p.data.toList = true)) (hx : Box (s.extract p.size s.size = x)) :
    Calls Try.prog 65 #[.string s, .string p] w fun e w' => e = .returned (.tuple #[.string x, .bool true]) ∧ w = w' := by
  have hle := pre21_le h.out
  have hli : (p.size : Int) ≤ (s.size : Int) := by omega
  go_enter Try.func65, Try.ntmps65
  go_wp2_with fail
  refine (hasPre21_is hs hp h).mono ?_; rintro e w1 ⟨rfl, rfl⟩
  go_wp2
  go_ret2
  exact ⟨by rw [← hx.out]; rfl, rfl⟩
theorem cutPre21_no {s p : ByteArray} {w : World} (hs : s.size ≤ 4000000) (hp : p.size ≤ 65536) (h : Box (pre21 s.data.toList p.data.toList = false)) :
    Calls Try.prog 62 #[.string s, .string p] w fun e w' => e = .returned (.tuple #[.string s, .bool false]) ∧ w = w' := by
  go_enter Try.func62, Try.ntmps62
  go_wp2_with fail
  refine (scutPre21_no hs hp h).mono ?_; rintro e w1 ⟨rfl, rfl⟩
  go_wp2
  go_ret2
  exact ⟨rfl, rfl⟩
theorem cutPre21_yes {s p x : ByteArray} {w : World} (hs : s.size ≤ 4000000) (hp : p.size ≤ 65536) (h : Box (pre21 s.data.toList p.data.toList = true)) (hx : Box (s.extract p.size s.size = x)) :
    Calls Try.prog 62 #[.string s, .string p] w fun e w' => e = .returned (.tuple #[.string x, .bool true]) ∧ w = w' := by
  go_enter Try.func62, Try.ntmps62
  go_wp2_with fail
  refine (scutPre21_yes hs hp h hx).mono ?_; rintro e w1 ⟨rfl, rfl⟩
  go_wp2
  go_ret2
  exact ⟨rfl, rfl⟩
theorem ext_drop21 {s : ByteArray} (k : Nat) : (s.extract k s.size).data.toList = s.data.toList.drop k := by rw [ext_bs, bs_toList, List.take_of_length_le (by simp)]

end Go.Proofs.Ytlcojfkkeommoaa.Asc
