/- The contracts of Token and Text, the program's and the reference's: they return 'tokL' and 'textL' of the string's bytes. -/
import Derived.Test.YtchbhpfloinbdaaAscBytes
import Derived.LoopTactic
set_option linter.unusedVariables false
set_option linter.unusedSimpArgs false
set_option maxRecDepth 100000
namespace Go.Proofs.Ytchbhpfloinbdaa.Asc
open Go.RowKit

theorem byte_bd (s : ByteArray) (k : Nat) (h : k < s.size) : (0 : Int) ≤ (s[k].toNat : Int) ∧ (s[k].toNat : Int) ≤ 255 := by
  have := s[k].toNat_lt; omega
theorem tokL_not {s : ByteArray} {k : Nat} (hk : k < s.size) (hp : tokI (s[k].toNat) = false) : tokL s.data.toList = false := by
  simp [tokL, all_not hk hp]
theorem textL_not {s : ByteArray} {k : Nat} (hk : k < s.size) (hp : textI (s[k].toNat) = false) : textL s.data.toList = false := all_not hk hp
theorem textL_end {s : ByteArray} {k : Nat} (h : allI textI (s.data.toList.take k) = true) (hk : s.size ≤ k) : textL s.data.toList = true := all_end h hk
theorem tokL_end {s : ByteArray} {k : Nat} (h : allI tokI (s.data.toList.take k) = true) (hk : s.size ≤ k) : tokL s.data.toList = !s.toList.isEmpty := by
  rw [ByteArray.toList_eq]; simp [tokL, all_end h hk]

end Go.Proofs.Ytchbhpfloinbdaa.Asc
