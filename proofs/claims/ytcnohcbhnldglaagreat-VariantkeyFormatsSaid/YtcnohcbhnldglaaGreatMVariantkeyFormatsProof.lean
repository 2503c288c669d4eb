/- The law variantproxylaw16.VariantkeyFormats: for every input the Go function returns true, and each argument reads behind the call as it did before. No condition. -/
import Derived.Test.YtcnohcbhnldglaaGreatM05
import Derived.Test.YtcnohcbhnldglaaGreatM11
import Derived.Test.YtcnohcbhnldglaaGreatM13
import Derived.Test.YtcnohcbhnldglaaGreatM20
import Derived.ProofKit
import Derived.OpenShut
import Derived.ShutString
import Derived.ChangeOld
import Derived.Below
set_option maxRecDepth 100000
namespace Go.Proofs.YtcnohcbhnldglaaGreat.variantkeyFormats
open Go.ChangeShapes Go.WideShapes Go.ChangeAt Go.RowKit
open Go.ChangeMaps (open_string shut_string)
set_option linter.unusedVariables false

theorem own : ownKnob Tryz.prog.godebug = none := by kernel_rfl

set_option maxRecDepth 100000 in
theorem lifted (os : Os) (started : os.Started) (H : Type) (enc : TypeId × Value → H) :
    ReturnsInHanded {} Tryz.checked os 4 .any (Rows.variantkeyFormatsSpec.pre6 enc Tryz.prog Tryz.f4 Rows.variantkeyFormatsRow.domain false) (Rows.variantkeyFormatsSpec.post enc Tryz.prog Tryz.f4 false true false false) := by
  refine returnsInHanded_of_change (C := Tryz.checked) own started (by kernel_rfl) Tryz.func4
    (ChangeSpec.witness6 (enc := enc) (C := Tryz.checked) false ⟨#[], #[.slice none 0 0, .slice none 0 0, .slice none 0 0, .slice none 0 0], []⟩ 8 (by kernel_rfl) (by kernel_rfl) (by kernel_rfl) (by kernel_rfl)) ?_
  intro W base args ds gs before hval0 hW hcnd _
  have hval : ∀ (j : Nat) t v, Tryz.f4.params[j]? = some t → args[j]? = some v → Value.okWide Tryz.prog W .any base t v := hval0
  have hW' := hW
  obtain ⟨p, q, hA0, hV, rfl, hfz, hnd⟩ := hW
  have hA : DataW.TrodAll enc Tryz.prog W 0 (fun _ => true) true Tryz.f4.params.toList args.toList ds p := hA0
  rw [Tryz.params4] at hA hval
  obtain ⟨v0, vs0, d0, ds0, p0, q0, hargs, rfl, rfl, h0, r0⟩ := trodAll_cons hA
  obtain ⟨v1, vs1, d1, ds1, p1, q1, rfl, rfl, rfl, h1, r1⟩ := trodAll_cons r0
  obtain ⟨v2, vs2, d2, ds2, p2, q2, rfl, rfl, rfl, h2, r2⟩ := trodAll_cons r1
  obtain ⟨v3, vs3, d3, ds3, p3, q3, rfl, rfl, rfl, h3, r3⟩ := trodAll_cons r2
  obtain ⟨rfl, rfl, rfl⟩ := trodAll_nil r3
  obtain rfl : args = #[v0, v1, v2, v3] := by cases args; simp_all
  obtain ⟨rfl, rfl⟩ := trodVars_none hV
  have g0 := h0
  obtain ⟨a0, c0, l0, rfl, w0, k0, n0⟩ := Asc.open_keys (hval 0 26 v0 rfl rfl) h0
  have g1 := h1
  obtain ⟨a1, c1, l1, rfl, w1, k1, n1⟩ := Asc.open_axes (hval 1 23 v1 rfl rfl) h1
  have g2 := h2
  obtain ⟨a2, c2, l2, rfl, w2, k2, n2⟩ := Asc.open_strings (hval 2 33 v2 rfl rfl) h2
  have g3 := h3
  obtain ⟨a3, c3, l3, rfl, w3, k3, n3⟩ := Asc.open_strings (hval 3 33 v3 rfl rfl) h3
  clear hA0 hval0
  refine (Asc.formats16_walk a0 c0 l0 a1 c1 l1 a2 c2 l2 a3 c3 l3 W w0 k0 n0 w1 k1 n1 w2 k2 n2 w3 k3 n3).mono fun e W' ⟨he, bel⟩ => ?_
  subst he
  exact ⟨_, rfl, _, _, _, [], _, [], hW', trodAll_mk1 (shut_bool Tryz.underlying4 _), (trodAll_cons_mk (Below.trod Asc.laid (by kernel_rfl) (of_decide_eq_true (by kernel_rfl)) g0 bel (fun x hx => hW'.lt x (by simp [hx]))) (trodAll_cons_mk (Below.trod Asc.laid (by kernel_rfl) (of_decide_eq_true (by kernel_rfl)) g1 bel (fun x hx => hW'.lt x (by simp [hx]))) (trodAll_cons_mk (Below.trod Asc.laid (by kernel_rfl) (of_decide_eq_true (by kernel_rfl)) g2 bel (fun x hx => hW'.lt x (by simp [hx]))) (trodAll_cons_mk (Below.trod Asc.laid (by kernel_rfl) (of_decide_eq_true (by kernel_rfl)) g3 bel (fun x hx => hW'.lt x (by simp [hx]))) trodAll_mk0)))), rfl, bel.frame _, fun h => by cases h⟩

theorem over : Rows.variantkeyFormatsRow.holds Tryz.pinned (OpenSpec.ofChange Rows.variantkeyFormatsSpec) :=
  OpenClaim.holds_of_wide 4 Tryz.f4 rfl rfl rfl rfl rfl rfl rfl ⟨rfl, rfl, rfl, rfl, rfl⟩ rfl rfl rfl rfl rfl (by kernel_rfl) Tryz.func4 (by kernel_rfl)
    (of_decide_eq_true (by kernel_rfl)) (by unfold Func.isWrapper; first | (rw [if_pos (by decide +kernel)]; kernel_rfl) | (rw [if_neg (by decide +kernel)]; exact ⟨rfl, rfl⟩))
    (fun os started H enc _ => lifted os started H enc)

theorem proved : Rows.VariantkeyFormatsSaid := over
#print axioms proved
end Go.Proofs.YtcnohcbhnldglaaGreat.variantkeyFormats
