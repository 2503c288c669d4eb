/- Lists of fields and of strings in memory: what a slice's address says (Fs, Ss), what a call owns and appends to. -/
import Derived.Test.YtlcojfkkeommoaaLstSpec
import Derived.Test.YtlcojfkkeommoaaFieMem
import Derived.Test.YtlcojfkkeommoaaStrMem
import Derived.LoopTactic
set_option linter.unusedVariables false
set_option linter.unusedSimpArgs false
set_option maxRecDepth 100000
namespace Go.Proofs.Ytlcojfkkeommoaa.Asc
open Go.RowKit

/-- at the address lie the fields L, one behind the other -/
def Fs (w : World) (a : Option Addr) (L : List F) : Prop :=
  ∀ i (h : i < L.length), ∃ g off, a = some ⟨g, off, none⟩ ∧ w.cell? ⟨g, off + i * 2, none⟩ = some (.string L[i].1) ∧ w.cell? ⟨g, off + i * 2 + 1, none⟩ = some (.string L[i].2)
theorem Fs.below {w w' : World} {a : Option Addr} {L : List F} (h : Fs w a L) (hb : Below w.heap.size w w') : Fs w' a L := fun i hi => by
  obtain ⟨g, off, e, c0, c1⟩ := h i hi
  exact ⟨g, off, e, (hb.cell (cell_lt c0)).trans c0, (hb.cell (cell_lt c1)).trans c1⟩
theorem keepFields_any (a : Option Addr) (cap : Nat) (L : List F) (w : World) (hl : L.length ≤ maxLen) (hF : Box (Fs w a L)) :
    Calls Try.prog 8 #[.slice a L.length cap] w fun e w' => e = .returned (.bool (keepF L)) ∧ w = w' := by
  unfold maxLen at hl
  go_enter Try.func8, Try.ntmps8
  go_wp2
  go_loop [3] (fun i => ∃ k : Nat, k ≤ L.length ∧ k ≤ 71 ∧ i = .int .i64 k ∧ (L.take k).all okF = true) (fun i => 71 - (intOf i).toNat)
  case atStart => exact ⟨0, Nat.zero_le _, Nat.zero_le _, rfl, rfl⟩
  case round =>
    obtain ⟨k, hk, hk71, rfl, hall⟩ := hrel
    have HA := box hall
    clear hall
    by_cases hlt : k < L.length
    · by_cases h71 : k < 71
      · obtain ⟨g, off, rfl, c0, c1⟩ := hF.out k hlt
        go_wp2
        · have e1 : ¬ (L[k].1.size ≤ 300 ∧ L[k].2.size ≤ 300) := by omega
          go_ret
          exact ⟨ret_bool (keep_bad hlt e1).symm, rfl⟩
        · have e1 : L[k].1.size ≤ 300 := by omega
          have e2 : L[k].2.size ≤ 300 := by omega
          go_round
          case rel => exact ⟨k + 1, by omega, by omega, by go_num, keep_more hlt HA.out e1 e2⟩
          case measure => simp [intOf]; omega
        · have e1 : ¬ (L[k].1.size ≤ 300 ∧ L[k].2.size ≤ 300) := by omega
          go_ret
          exact ⟨ret_bool (keep_bad hlt e1).symm, rfl⟩
      · go_wp2
        go_ret
        exact ⟨ret_bool (by rw [keep_long (by omega)]; simp; omega), rfl⟩
    · have e : k = L.length := by omega
      have E := box e
      clear e
      by_cases h70 : L.length ≤ 70
      · go_wp2
        go_ret
        refine ⟨ret_bool ?_, rfl⟩
        have ha := HA.out
        rw [E.out] at ha
        rw [keep_end ha h70]
        simp; omega
      · go_wp2
        go_ret
        exact ⟨ret_bool (by rw [keep_long h70]; simp; omega), rfl⟩

end Go.Proofs.Ytlcojfkkeommoaa.Asc
