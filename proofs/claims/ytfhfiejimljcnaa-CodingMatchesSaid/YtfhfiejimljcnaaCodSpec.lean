/- Plain functions: charsets and content codings. No program is named here. -/
import Derived.Test.YtfhfiejimljcnaaAscSpec3
import Derived.Test.YtfhfiejimljcnaaStaSpec
set_option linter.unusedVariables false
set_option linter.unusedSimpArgs false
set_option maxRecDepth 100000
namespace Go.Proofs.Ytfhfiejimljcnaa.Asc

def xgzL : List UInt8 := [120, 45, 103, 122, 105, 112]
def gzL : List UInt8 := [103, 122, 105, 112]
def xcoL : List UInt8 := [120, 45, 99, 111, 109, 112, 114, 101, 115, 115]
def coL : List UInt8 := [99, 111, 109, 112, 114, 101, 115, 115]
def canL (k : Int) (s : List UInt8) : List UInt8 :=
  if k = 4 ∧ lowL s = xgzL then gzL else if k = 4 ∧ lowL s = xcoL then coL else lowL s
def matchC (k : Int) (r v : List UInt8) : Int := if r = [42] then 0 else if canL k r = canL k v then 1 else -1
theorem can_low (k : Int) (s : List UInt8) : canL k (lowL s) = canL k s := by unfold canL; rw [low_low]
theorem can_can (k : Int) (s : List UInt8) : canL k (canL k s) = canL k s := by
  have e1 : lowL gzL = gzL := by decide +kernel
  have e2 : lowL coL = coL := by decide +kernel
  have n1 : gzL ≠ xgzL := by decide
  have n2 : gzL ≠ xcoL := by decide
  have n3 : coL ≠ xgzL := by decide
  have n4 : coL ≠ xcoL := by decide
  by_cases h1 : k = 4 ∧ lowL s = xgzL
  · have : canL k s = gzL := by unfold canL; rw [if_pos h1]
    rw [this]
    unfold canL; rw [e1, if_neg (fun q => n1 q.2), if_neg (fun q => n2 q.2)]
  · by_cases h2 : k = 4 ∧ lowL s = xcoL
    · have : canL k s = coL := by unfold canL; rw [if_neg h1, if_pos h2]
      rw [this]
      unfold canL; rw [e2, if_neg (fun q => n3 q.2), if_neg (fun q => n4 q.2)]
    · have : canL k s = lowL s := by unfold canL; rw [if_neg h1, if_neg h2]
      rw [this, can_low, this]
theorem can_len (k : Int) (s : List UInt8) : (canL k s).length ≤ s.length := by
  have hl : (lowL s).length = s.length := by simp [lowL]
  unfold canL
  split
  · rename_i h; have := congrArg List.length h.2; rw [hl] at this; rw [this]; decide
  · split
    · rename_i h; have := congrArg List.length h.2; rw [hl] at this; rw [this]; decide
    · omega
theorem matchC_star (k : Int) (v : List UInt8) : matchC k [42] v = 0 := by unfold matchC; rw [if_pos rfl]
theorem matchC_not {k : Int} {r v : List UInt8} (h : r ≠ [42]) : matchC k r v = if canL k r = canL k v then 1 else -1 := by unfold matchC; rw [if_neg h]
theorem matchC_symm {k : Int} {x y : List UInt8} (hx : x ≠ [42]) (hy : y ≠ [42]) : matchC k y x = matchC k x y := by
  rw [matchC_not hx, matchC_not hy]
  by_cases h : canL k x = canL k y
  · rw [if_pos h, if_pos h.symm]
  · rw [if_neg h, if_neg (fun q => h q.symm)]
theorem matchC_self {k : Int} {x : List UInt8} (hx : x ≠ [42]) : matchC k x (canL k x) = 1 := by
  rw [matchC_not hx, can_can, if_pos rfl]

end Go.Proofs.Ytfhfiejimljcnaa.Asc
