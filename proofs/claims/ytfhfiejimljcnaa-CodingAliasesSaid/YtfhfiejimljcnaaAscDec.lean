/- The contracts of Decimal, the program's and the reference's. -/
import Derived.Test.YtfhfiejimljcnaaAscOwn
set_option linter.unusedVariables false
set_option linter.unusedSimpArgs false
set_option maxRecDepth 100000
namespace Go.Proofs.Ytfhfiejimljcnaa.Asc
open Go.RowKit

def InI64 (n : Int) : Prop := -9223372036854775808 ≤ n ∧ n ≤ 9223372036854775807
theorem wrapu_pos {n : Int} (h : InI64 n) (h0 : 0 ≤ n) : IntKind.u64.wrap n = (n.natAbs : Int) := by
  unfold InI64 at h; rw [IntKind.wrap_u64]; omega
theorem wrapu_neg {n : Int} (h : InI64 n) (h0 : n < 0) : IntKind.u64.wrap (-IntKind.u64.wrap n) = (n.natAbs : Int) := by
  unfold InI64 at h; rw [IntKind.wrap_u64, IntKind.wrap_u64]; omega
theorem wrapu_div {N q : Nat} {acc : List UInt8} (h : DecAt N q acc) : IntKind.u64.wrap ((q : Int) / 10) = (q : Int) / 10 := by
  have h2 := h.2.1
  have h3 : q ≤ q * 10 ^ acc.length := Nat.le_mul_of_pos_right _ (Nat.pow_pos (by omega))
  rw [IntKind.wrap_u64]; omega

/-- 'string(buffer[p:])' -/
theorem str_buf (g p : Nat) (acc : List UInt8) (w : World) (h : Bys w g (zbuf p acc)) (hp : acc.length + p = 20) :
    (convert 27 9 (.slice (some ⟨g, p, none⟩) (20 - p) (20 - p))).run Try.prog w = .ok (.string ⟨acc.toArray⟩) w := by
  have e : 20 - p = acc.length := by omega
  rw [e]
  refine run_convert_bytes_back w 27 9 5 ⟨g, p, none⟩ acc.length acc Try.underlying27 Try.underlying5 Try.underlying9 fun j hj => ?_
  have hc := h.cell (j := p + j) (by simp [zbuf]; omega)
  have ea : (⟨g, p, none⟩ : Addr).add j = ⟨g, p + j, none⟩ := by unfold Addr.add; split <;> simp_all
  rw [ea, hc]
  have : (zbuf p acc).getD (p + j) 0 = acc[j] := by
    simp only [zbuf, List.getD_eq_getElem?_getD]
    rw [List.getElem?_append_right (by simp)]; simp [hj]
  rw [this]; rfl

end Go.Proofs.Ytfhfiejimljcnaa.Asc
