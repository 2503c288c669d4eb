/- The contract of the laws' own sanity check: it is true, and leaves what was there. -/
import Derived.Test.YtfionelcdjkbeaaAscUnq
import Derived.Test.YtfionelcdjkbeaaAscDec
set_option linter.unusedVariables false
set_option linter.unusedSimpArgs false
namespace Go.Proofs.Ytfionelcdjkbeaa.Asc
open Go.RowKit

theorem awk_unq (w : World) : Calls Try.prog 26 #[.string ⟨#[34, 97, 92, 34, 98, 34]⟩] w fun e w' => e = .returned (.tuple #[.string ⟨#[97, 34, 98]⟩, .bool true]) ∧ Below w.heap.size w w' :=
  (Unquote_any ⟨#[34, 97, 92, 34, 98, 34]⟩ w (by decide)).mono fun e w' ⟨he, hb⟩ => ⟨by rw [he, show unqL (⟨#[34, 97, 92, 34, 98, 34]⟩ : ByteArray).data.toList = some [97, 34, 98] from by decide]; rfl, hb⟩
theorem awk_tok (w : World) : Calls Try.prog 11 #[.string ⟨#[103, 122, 105, 112]⟩] w fun e w' => e = .returned (.bool true) ∧ w = w' :=
  (Token_any ⟨#[103, 122, 105, 112]⟩ w (by unfold maxLen; decide)).mono fun e w' ⟨he, hb⟩ => ⟨by rw [he, show tokL (⟨#[103, 122, 105, 112]⟩ : ByteArray).data.toList = true from by decide], hb⟩
theorem awk_dec (w : World) : Calls Try.prog 24 #[.int .i64 (-7)] w fun e w' => e = .returned (.string ⟨#[45, 55]⟩) ∧ Below w.heap.size w w' :=
  (Decimal_any (-7) w (by unfold InI64; omega)).mono fun e w' ⟨he, hb⟩ => ⟨by rw [he, show decL (-7) = [45, 55] from by decide], hb⟩

theorem awake_any (w : World) :
    Calls Try.prog 15 #[] w fun e w' => e = .returned (.bool true) ∧ Below w.heap.size w w' := by
  go_enter Try.func15, Try.ntmps15
  go_wp2_with fail
  refine (awk_unq _).mono ?_; rintro e w1 ⟨rfl, hb1⟩
  go_wp2_with fail
  refine (awk_tok _).mono ?_; rintro e w2 ⟨rfl, rfl⟩
  go_wp2_with fail
  refine (awk_dec _).mono ?_; rintro e w3 ⟨rfl, hb3⟩
  go_wp2
  go_ret
  exact ⟨rfl, hb1.trans (hb3.mono hb1.size)⟩
end Go.Proofs.Ytfionelcdjkbeaa.Asc
