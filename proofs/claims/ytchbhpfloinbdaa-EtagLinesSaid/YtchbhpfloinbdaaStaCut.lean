/- The contracts of strings.Cut at a separator of one byte and of what it calls, and of the reference's Index. -/
import Derived.Test.YtchbhpfloinbdaaStaSpec
import Derived.Test.YtchbhpfloinbdaaAscTok
import Derived.LoopTactic
import Derived.Lib.Hide
import Derived.Deep.QuietTactic
import Derived.BigQuiet
import Derived.Below
import Derived.Lib.Bytealg
set_option linter.unusedVariables false
set_option linter.unusedSimpArgs false
set_option maxRecDepth 100000
namespace Go.Proofs.Ytchbhpfloinbdaa.Asc
open Go.RowKit

/-- a fact that no assumption opens: a walk's search unfolds 'Hid', and runs into a size of a slice -/
def Box (p : Prop) : Prop := True → p
theorem box {p : Prop} (h : p) : Box p := fun _ => h
theorem Box.out {p : Prop} (h : Box p) : p := h trivial

theorem below_drewN (w : World) (n : Nat) : Below w.heap.size w (w.drewN n) := ⟨rfl, rfl, rfl, Nat.le_refl _, fun _ _ => rfl⟩
def cutV (c : UInt8) (l : List UInt8) : Value := .tuple #[.string (bs (cut1 c l)), .string (bs (cut2 c l)), .bool (cutB c l)]

theorem rIndex_any (s : ByteArray) (c : Int) (d : UInt8) (f : Nat) (w : World) (hs : s.size ≤ maxLen) (hf : f ≤ s.size) (hc : c = (d.toNat : Int)) :
    Calls Try.prog 24 #[.string s, .int .u8 c, .int .i64 f] w fun e w' => e = .returned (.int .i64 (idxF s.data.toList d f)) ∧ w = w' := by
  unfold maxLen at hs
  have HC := Lib.hid hc
  clear hc
  go_enter Try.func24, Try.ntmps24
  go_wp2
  go_loop [7] (fun i => ∃ k : Nat, k ≤ s.size ∧ i = .int .i64 k ∧ idxF s.data.toList d f = idxF s.data.toList d k) (fun i => s.size - (intOf i).toNat)
  case atStart => exact ⟨f, hf, rfl, rfl⟩
  case round =>
    obtain ⟨k, hk, rfl, hrest⟩ := hrel
    have HR := Lib.hid hrest
    clear hrest
    by_cases hlt : k < s.size
    · rcases hp : ((s[k].toNat : Int) == c) with _ | _
      · have hne : s.data.toList[k]'(by simpa using hlt) ≠ d := by
          intro e
          have : s[k] = d := e
          rw [this, HC.out] at hp; simp at hp
        have HM := Lib.hid (idxF_miss (by simpa using hlt) hne)
        clear hne
        go_wp2
        go_round
        case rel => exact ⟨k + 1, by omega, by go_num, by rw [HR.out, HM.out]⟩
        case measure => simp [intOf]; omega
      · have heq : s.data.toList[k]'(by simpa using hlt) = d := by
          have h1 := eqb_t hp
          rw [HC.out] at h1
          have h2 : s[k].toNat = d.toNat := by omega
          exact UInt8.toNat_inj.mp h2
        have HM := Lib.hid (idxF_hit (by simpa using hlt) heq)
        clear heq
        go_wp2
        go_ret
        exact ⟨ret_int (by rw [HR.out, HM.out]), rfl⟩
    · go_wp2
      go_ret
      exact ⟨ret_int (by rw [HR.out, idxF_end (by simp; omega)]), rfl⟩

end Go.Proofs.Ytchbhpfloinbdaa.Asc
