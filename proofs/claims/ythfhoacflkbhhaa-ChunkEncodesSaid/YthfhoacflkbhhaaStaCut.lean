/- The contracts of strings.Cut at a separator of one byte and of what it calls, and of the reference's Index. -/
import Derived.Test.YthfhoacflkbhhaaStaSpec
import Derived.Test.YthfhoacflkbhhaaAscTok
import Derived.LoopTactic
import Derived.Lib.Hide
import Derived.Deep.QuietTactic
import Derived.BigQuiet
import Derived.Below
import Derived.Lib.Bytealg
set_option linter.unusedVariables false
set_option linter.unusedSimpArgs false
namespace Go.Proofs.Ythfhoacflkbhhaa.Asc
open Go.RowKit

/-- a fact that no assumption opens: a walk's search unfolds 'Hid', and runs into a size of a slice -/
def Box (p : Prop) : Prop := True → p
theorem box {p : Prop} (h : p) : Box p := fun _ => h
theorem Box.out {p : Prop} (h : Box p) : p := h trivial

theorem IndexByte_any (s : ByteArray) (c : Int) (w : World) :
    Calls Try.prog 58 #[.string s, .int .u8 c] w fun e w' => e = .returned (.int .i64 (Lib.indexByte s.data.toList c.toNat.toUInt8)) ∧ w = w' := by
  go_enter Try.func58, Try.ntmps58
  go_wp2
  rw [run_callFunc_extern Try.func63 (by kernel_rfl) (by kernel_rfl) (by kernel_rfl) (e := Extern.BytealgIndexByte.indexByte) (by kernel_rfl), Lib.run_indexByteString]
  simp only [Result.andThen]
  rw [Oper.upon_value]
  go_wp2
  go_ret
  exact ⟨rfl, rfl⟩

theorem Index1_any (s : ByteArray) (c : UInt8) (w : World) :
    Calls Try.prog 62 #[.string s, .string ⟨#[c]⟩] w fun e w' => e = .returned (.int .i64 (Lib.indexByte s.data.toList c)) ∧ w = w' := by
  go_enter Try.func62, Try.ntmps62
  go_wp2_with (go_at_call 58; refine (IndexByte_any _ _ _).mono ?_; rintro e w' ⟨rfl, rfl⟩)
  · have h : ([c] == s.toList) = true := by assumption
    go_ret
    refine ⟨ret_int ?_, rfl⟩
    have e : s.data.toList = [c] := by rw [← toList_data]; exact (beq_iff_eq.1 h).symm
    rw [e]
    simp [Lib.indexByte]
  · go_ret
    exact ⟨rfl, rfl⟩

theorem below_drewN (w : World) (n : Nat) : Below w.heap.size w (w.drewN n) := ⟨rfl, rfl, rfl, Nat.le_refl _, fun _ _ => rfl⟩
def cutV (c : UInt8) (l : List UInt8) : Value := .tuple #[.string (bs (cut1 c l)), .string (bs (cut2 c l)), .bool (cutB c l)]

theorem sCut_any (s : ByteArray) (c : UInt8) (w : World) (hs : s.size ≤ maxLen) :
    Calls Try.prog 55 #[.string s, .string ⟨#[c]⟩] w fun e w' => e = .returned (cutV c s.data.toList) ∧ Below w.heap.size w w' := by
  unfold maxLen at hs
  have hz : s.data.toList.length = s.size := by simp
  have hge := Lib.indexByte_ge s.data.toList c
  by_cases h : Lib.indexByte s.data.toList c = -1
  · have H := Lib.hid (cut_no h)
    have H2 := Lib.hid h
    clear h hge hz
    go_enter Try.func55, Try.ntmps55
    go_wp2_with fail
    refine (Index1_any _ _ _).mono ?_; rintro e w1 ⟨rfl, rfl⟩; rw [H2.out]
    go_wp2
    go_ret3
    exact ⟨by unfold cutV; rw [H.out.1, H.out.2.1, H.out.2.2]; rfl, Below.refl _ _⟩
  · obtain ⟨k, hk⟩ : ∃ k : Nat, Lib.indexByte s.data.toList c = k := ⟨(Lib.indexByte s.data.toList c).toNat, by omega⟩
    have H := Lib.hid (cut_at hk)
    have H2 := Lib.hid hk
    have hlt : k < s.size := by have := H.out.1; omega
    clear h hge hz hk
    go_enter Try.func55, Try.ntmps55
    go_wp2_with fail
    refine (Index1_any _ _ _).mono ?_; rintro e w1 ⟨rfl, rfl⟩; rw [H2.out]
    go_wp2
    go_quiet (fail)
    go_wp2
    go_ret3
    refine ⟨?_, below_drewN _ _⟩
    unfold cutV
    rw [H.out.2.1, H.out.2.2.1, H.out.2.2.2]
    show Ending.returned (.tuple #[.string (s.extract 0 k), .string (s.extract (k + 1) s.size), .bool true]) = _
    rw [ext_bs, ext_bs, List.drop_zero, List.take_of_length_le (i := s.size) (by simp)]

theorem Cut_any (s : ByteArray) (c : UInt8) (w : World) (hs : s.size ≤ maxLen) :
    Calls Try.prog 43 #[.string s, .string ⟨#[c]⟩] w fun e w' => e = .returned (cutV c s.data.toList) ∧ Below w.heap.size w w' := by
  have HS := Lib.hid hs
  clear hs
  go_enter Try.func43, Try.ntmps43
  go_wp2_with fail
  refine (sCut_any _ _ _ HS.out).mono ?_; rintro e w1 ⟨rfl, hb⟩; unfold cutV
  go_wp2
  go_ret3
  exact ⟨rfl, hb⟩

theorem rIndex_any (s : ByteArray) (c : Int) (d : UInt8) (f : Nat) (w : World) (hs : s.size ≤ maxLen) (hf : f ≤ s.size) (hc : c = (d.toNat : Int)) :
    Calls Try.prog 15 #[.string s, .int .u8 c, .int .i64 f] w fun e w' => e = .returned (.int .i64 (idxF s.data.toList d f)) ∧ w = w' := by
  unfold maxLen at hs
  have HC := Lib.hid hc
  clear hc
  go_enter Try.func15, Try.ntmps15
  go_wp2
  go_loop [7] (fun i => ∃ k : Nat, k ≤ s.size ∧ i = .int .i64 k ∧ idxF s.data.toList d f = idxF s.data.toList d k) (fun i => s.size - (intOf i).toNat)
  case atStart => exact ⟨f, hf, rfl, rfl⟩
  case round =>
    obtain ⟨k, hk, rfl, hrest⟩ := hrel
    have HR := Lib.hid hrest
    clear hrest
    by_cases hlt : k < s.size
    · rcases hp : ((s[k].toNat : Int) == c) with _ | _
      · have hne : s.data.toList[k]'(by simpa using hlt) ≠ d := by
          intro e
          have : s[k] = d := e
          rw [this, HC.out] at hp; simp at hp
        have HM := Lib.hid (idxF_miss (by simpa using hlt) hne)
        clear hne
        go_wp2
        go_round
        case rel => exact ⟨k + 1, by omega, by go_num, by rw [HR.out, HM.out]⟩
        case measure => simp [intOf]; omega
      · have heq : s.data.toList[k]'(by simpa using hlt) = d := by
          have h1 := eqb_t hp
          rw [HC.out] at h1
          have h2 : s[k].toNat = d.toNat := by omega
          exact UInt8.toNat_inj.mp h2
        have HM := Lib.hid (idxF_hit (by simpa using hlt) heq)
        clear heq
        go_wp2
        go_ret
        exact ⟨ret_int (by rw [HR.out, HM.out]), rfl⟩
    · go_wp2
      go_ret
      exact ⟨ret_int (by rw [HR.out, idxF_end (by simp; omega)]), rfl⟩

end Go.Proofs.Ythfhoacflkbhhaa.Asc
