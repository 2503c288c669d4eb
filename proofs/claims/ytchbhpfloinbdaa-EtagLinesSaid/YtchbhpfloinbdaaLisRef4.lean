/- The contract of the reference's Join. -/
import Derived.Test.YtchbhpfloinbdaaLisRef3
set_option linter.unusedVariables false
set_option linter.unusedSimpArgs false
set_option maxRecDepth 100000
namespace Go.Proofs.Ytchbhpfloinbdaa.Asc
open Go.RowKit

def joinB (L : List ByteArray) : ByteArray := bs (joinC (L.map fun x => x.data.toList))
def JoiRel (L : List ByteArray) (v i : Value) : Prop := ∃ (k : Nat) (x : ByteArray), i = .int .i64 k ∧ v = .string x ∧ k ≤ L.length ∧ x.data.toList = joinC ((L.map fun x => x.data.toList).take k) ∧ x.size ≤ 65540 * k
theorem bs_is {x : ByteArray} {l : List UInt8} (h : x.data.toList = l) : x = bs l := by subst h; rfl
set_option maxHeartbeats 1000000 in
theorem rJoin7_any (a : Option Addr) (cap : Nat) (L : List ByteArray) (w : World) (hl : L.length ≤ 65536) (hz : Box (∀ x ∈ L, x.size ≤ 65536)) (hF : Box (Ss w a L)) :
    Calls Try.prog 25 #[.slice a L.length cap] w fun e w' => e = .returned (.string (joinB L)) ∧ w = w' := by
  obtain ⟨ms, hms⟩ : ∃ ms, (L.map fun x => x.data.toList) = ms := ⟨_, rfl⟩
  have HMS := box hms
  have hml : ms.length = L.length := by rw [← hms, List.length_map]
  go_enter Try.func25, Try.ntmps25
  go_wp2
  go_loop [3, 4] (fun v i => JoiRel L v i) (fun _ i => L.length - (intOf i).toNat)
  case atStart => exact ⟨0, ⟨#[]⟩, rfl, rfl, Nat.zero_le _, rfl, Nat.zero_le _⟩
  case round =>
    obtain ⟨k, x, rfl, rfl, hk, hx, hxz⟩ := hrel
    rw [hms] at hx
    have HX := box hx
    clear hx
    by_cases hlt : k < L.length
    · obtain ⟨q, off, rfl, c0⟩ := hF.out k hlt
      have hLz := hz.out L[k] (List.getElem_mem hlt)
      have hmk : ms[k]'(by omega) = L[k].data.toList := by simp only [← hms, List.getElem_map]
      have hjm := joinC_more (ms := ms) (k := k) (by omega)
      rw [hmk] at hjm
      by_cases hk0 : k = 0
      · have hki : ¬ (0 : Int) < (k : Int) := by omega
        have hx0 : x.data.toList = [] := by rw [HX.out, hk0]; rfl
        have r1 : ∀ w, (Op.stringOp .add x L[k]).run Try.prog w = .ok (.string (x ++ L[k])) w := fun w => run_string_add_sum w _ _ (by show x.size + L[k].size ≤ 9223372036854775807; omega)
        have HN : Box ((x ++ L[k]).data.toList = joinC (ms.take (k + 1))) := box (by rw [hjm, if_pos hk0]; simp [ByteArray.data_append, hx0])
        have HS : Box ((x ++ L[k]).size ≤ 65540 * (k + 1)) := box (by rw [ByteArray.size_append]; omega)
        clear hx0 hk0 hjm hmk
        go_wp2
        go_round
        case rel => exact ⟨k + 1, _, by go_num, rfl, by omega, by rw [HMS.out]; exact HN.out, HS.out⟩
        case measure => simp [intOf]; omega
      · have hki : (0 : Int) < (k : Int) := by omega
        have e2 : (⟨#[44, 32]⟩ : ByteArray).size = 2 := rfl
        have hs1 : (x ++ (⟨#[44, 32]⟩ : ByteArray)).size = x.size + 2 := by rw [ByteArray.size_append, e2]
        have r0 : ∀ w, (Op.stringOp .add x ⟨#[44, 32]⟩).run Try.prog w = .ok (.string (x ++ ⟨#[44, 32]⟩)) w := fun w => run_string_add_sum w _ _ (by show x.size + 2 ≤ 9223372036854775807; omega)
        have r1 : ∀ w, (Op.stringOp .add (x ++ ⟨#[44, 32]⟩) L[k]).run Try.prog w = .ok (.string (x ++ ⟨#[44, 32]⟩ ++ L[k])) w := fun w => run_string_add_sum w _ _ (by rw [hs1]; show x.size + 2 + L[k].size ≤ 9223372036854775807; omega)
        have HN : Box ((x ++ ⟨#[44, 32]⟩ ++ L[k]).data.toList = joinC (ms.take (k + 1))) := box (by rw [hjm, if_neg hk0, ← HX.out]; simp [ByteArray.data_append])
        have HS : Box ((x ++ ⟨#[44, 32]⟩ ++ L[k]).size ≤ 65540 * (k + 1)) := box (by rw [ByteArray.size_append, hs1]; omega)
        clear e2 hs1 hk0 hjm hmk
        go_wp2
        go_round
        case rel => exact ⟨k + 1, _, by go_num, rfl, by omega, by rw [HMS.out]; exact HN.out, HS.out⟩
        case measure => simp [intOf]; omega
    · have HE : Box (joinB L = x) := box (by unfold joinB; rw [hms, ← List.take_of_length_le (l := ms) (i := k) (by omega)]; exact (bs_is HX.out).symm)
      go_wp2
      go_ret
      exact ⟨by rw [HE.out]; rfl, rfl⟩

end Go.Proofs.Ytchbhpfloinbdaa.Asc
