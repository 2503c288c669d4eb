/- Merged texts: ChkRef4 MsgLaws6 MsgLaws7. -/
import Derived.Test.YtjabcfabenobiaaM03
import Derived.Test.YtjabcfabenobiaaM13
import Derived.Below
import Derived.BigQuiet
import Derived.Deep.QuietTactic
import Derived.Deep.RegionHeld3
import Derived.Lib.QuoteBits
set_option linter.unusedVariables false
set_option linter.unusedSimpArgs false
set_option maxRecDepth 100000
namespace Go.Proofs.Ytjabcfabenobiaa.Asc
section
open Go.RowKit
theorem hexL_le {n : Nat} (h : n ≤ 4000000) : (hexL n).length ≤ 6 := by
  by_cases h0 : n = 0
  · subst h0; decide
  · exact (hexL_facts (by omega) 6 (Nat.lt_of_le_of_lt h (by decide))).2.2.2
theorem rhex_is {n : Nat} {x : ByteArray} {w : World} (hn : n ≤ 4000000) (h : Box (bs (hexL n) = x)) :
    Calls Try.prog 21 #[.int .i64 n] w fun e w' => e = .returned (.string x) ∧ w' = w :=
  (rhex_any n w hn).mono fun e w' ⟨h1, h2⟩ => ⟨by rw [h1, h.out], h2.symm⟩
def strSize3 : Value → Nat
  | .string s => s.size
  | _ => 0
theorem enc_step {g z : Nat} {b : List UInt8} (hb : b ≠ []) : encF (g + 1) z b = chunkT (b.take (min z b.length)) ++ encF g z (b.drop (min z b.length)) := by
  conv => lhs; unfold encF
  rw [if_neg hb]
set_option maxHeartbeats 2000000 in
theorem rEnc_loop (b : ByteArray) (zi : Int) (z : Nat) (w : World) (hs : b.size ≤ 100000) (hz1 : 1 ≤ z ∨ b.size = 0) (HZ : Box ((if zi < 1 then b.data.toList.length else zi.toNat) = z)) (hzi : (zi < 1 ∧ z = b.size) ∨ (¬ zi < 1 ∧ (zi : Int) = (z : Int))) :
    Calls Try.prog 11 #[.string b, .int .i64 zi] w fun e w' => e = .returned (.string (bs (encodeL b.data.toList zi))) ∧ Below w.heap.size w w' := by
  have hbl : b.data.toList.length = b.size := by simp
  have HEN : Box (encodeL b.data.toList zi = encF b.size z b.data.toList ++ endT) := box (by unfold encodeL; rw [HZ.out, hbl])
  rcases hzi with ⟨hzi, rfl⟩ | ⟨hzi, rfl⟩
  all_goals
    go_enter Try.func11, Try.ntmps11
    go_wp2
  · go_loopw [0, 5] (fun i v wr => ∃ (g : Nat) (rest out : ByteArray), i = .string rest ∧ v = .string out ∧ rest.size ≤ g ∧ out.size + 13 * rest.size ≤ 13 * b.size ∧ encF b.size b.size b.data.toList = out.data.toList ++ encF g b.size rest.data.toList ∧ Below w.heap.size w wr) (fun i _ _ => strSize3 i)
    case atStart => exact ⟨b.size, b, ⟨#[]⟩, rfl, rfl, Nat.le_refl _, Nat.le_of_eq (Nat.zero_add _), rfl, Below.refl _ _⟩
    case round =>
      obtain ⟨g, rest, out, rfl, rfl, hg, hso, hE, hbel⟩ := hrel
      have HE := box hE
      have BL := box hbel
      have hrl : rest.data.toList.length = rest.size := by simp
      clear hE hbel
      by_cases hr : rest.size = 0
      · have hri : ¬ (0 : Int) < (rest.size : Int) := by omega
        have hnil : rest.data.toList = [] := List.eq_nil_of_length_eq_zero (by rw [hrl]; exact hr)
        have HF : Box (encodeL b.data.toList zi = out.data.toList ++ endT) := box (by
          rw [HEN.out, HE.out, hnil]
          have : encF g b.size ([] : List UInt8) = [] := by cases g <;> simp [encF]
          rw [this, List.append_nil])
        have hos : out.size ≤ 1300000 := by omega
        clear hnil hrl hr
        go_wp2
        go_ret
        refine ⟨ret_str ?_, BL.out⟩
        rw [HF.out]
        apply ByteArray.ext
        apply Array.toList_inj.mp
        simp [ByteArray.data_append, bs, endT]
      · have hri : (0 : Int) < (rest.size : Int) := by omega
        have hne : rest.data.toList ≠ [] := by intro e; rw [e] at hrl; simp at hrl; omega
        obtain ⟨g', rfl⟩ : ∃ g', g = g' + 1 := ⟨g - 1, by omega⟩
        by_cases hle : b.size ≤ rest.size
        · have hlei : (b.size : Int) ≤ (rest.size : Int) := by omega
          have hn0 : 1 ≤ b.size := by omega
          have hnr : b.size ≤ rest.size := by omega
          have hmin : min b.size rest.size = b.size := by omega
          have HX : Box (bs (hexL b.size) = bs (hexL b.size)) := box rfl
          have hxs := hexL_le (n := b.size) (by omega)
          obtain ⟨x, hx⟩ : ∃ x, bs (hexL b.size) = x := ⟨_, rfl⟩
          have hxz : x.size ≤ 6 := by rw [← hx, bs_size]; exact hxs
          have HXX := box hx
          obtain ⟨d, hd⟩ : ∃ d, rest.extract 0 b.size = d := ⟨_, rfl⟩
          have hdz : d.size = b.size := by rw [← hd, ByteArray.size_extract]; omega
          have hdl : d.data.toList = rest.data.toList.take b.size := by rw [← hd, ext_bs, List.drop_zero]; rfl
          have HD := box hd
          have r1 : ∀ w, (Op.stringOp .add x ⟨#[13, 10]⟩).run Try.prog w = .ok (.string (x ++ ⟨#[13, 10]⟩)) w := fun w => run_string_add_sum w _ _ (by show x.size + 2 ≤ 9223372036854775807; omega)
          have r2 : ∀ w, (Op.stringOp .add (x ++ ⟨#[13, 10]⟩) (rest.extract 0 b.size)).run Try.prog w = .ok (.string (x ++ ⟨#[13, 10]⟩ ++ d)) w := fun w => by rw [hd]; exact run_string_add_sum w _ _ (by rw [ByteArray.size_append]; show x.size + 2 + d.size ≤ 9223372036854775807; omega)
          have r3 : ∀ w, (Op.stringOp .add (x ++ ⟨#[13, 10]⟩ ++ d) ⟨#[13, 10]⟩).run Try.prog w = .ok (.string (x ++ ⟨#[13, 10]⟩ ++ d ++ ⟨#[13, 10]⟩)) w := fun w => run_string_add_sum w _ _ (by rw [ByteArray.size_append, ByteArray.size_append]; show x.size + 2 + d.size + 2 ≤ 9223372036854775807; omega)
          have r4 : ∀ w, (Op.stringOp .add out (x ++ ⟨#[13, 10]⟩ ++ d ++ ⟨#[13, 10]⟩)).run Try.prog w = .ok (.string (out ++ (x ++ ⟨#[13, 10]⟩ ++ d ++ ⟨#[13, 10]⟩))) w := fun w => run_string_add_sum w _ _ (by rw [ByteArray.size_append, ByteArray.size_append, ByteArray.size_append]; show out.size + (x.size + 2 + d.size + 2) ≤ 9223372036854775807; omega)
          have HN : Box (encF b.size b.size b.data.toList = (out ++ (x ++ ⟨#[13, 10]⟩ ++ d ++ ⟨#[13, 10]⟩)).data.toList ++ encF g' b.size (rest.extract b.size rest.size).data.toList) := box (by
            rw [HE.out, enc_step hne, hrl, hmin]
            have e1 : (rest.extract b.size rest.size).data.toList = rest.data.toList.drop b.size := by rw [ext_bs, List.take_of_length_le (by simp)]; rfl
            rw [e1]
            have e2 : chunkT (rest.data.toList.take b.size) = x.data.toList ++ 13 :: 10 :: (rest.data.toList.take b.size ++ [13, 10]) := by
              have : (rest.data.toList.take b.size).length = b.size := by rw [List.length_take]; omega
              unfold chunkT; rw [this, ← hx]; rfl
            rw [e2, ← hdl]
            simp [ByteArray.data_append])
          have hsz2 : (out ++ (x ++ ⟨#[13, 10]⟩ ++ d ++ ⟨#[13, 10]⟩)).size ≤ out.size + 10 + b.size := by
            rw [ByteArray.size_append, ByteArray.size_append, ByteArray.size_append, ByteArray.size_append, hdz]
            show out.size + (x.size + 2 + b.size + 2) ≤ out.size + 10 + b.size; omega
          have hsz3 : (rest.extract b.size rest.size).size = rest.size - b.size := by rw [ByteArray.size_extract]; omega
          have HS2 := box hsz2
          have HS3 := box hsz3
          have hNi : (b.size : Int) ≤ (rest.size : Int) := by omega
          clear hx hd hdl hne hsz2 hsz3 hmin HX
          go_wp2
          go_quiet ((go_at_call 21; exact Calls.quiet_of_same (rhex_is (by omega) HXX)))
          go_wp2
          go_roundw
          case rel => exact ⟨g', _, _, rfl, rfl, by rw [HS3.out]; omega, by rw [HS3.out]; have := HS2.out; omega, HN.out, BL.out.trans ((below_drewN _ _).mono BL.out.size)⟩
          case measure => simp [strSize3, HS3.out]; omega
        · have hlei : (rest.size : Int) < (b.size : Int) := by omega
          have hn0 : 1 ≤ rest.size := by omega
          have hnr : rest.size ≤ rest.size := by omega
          have hmin : min b.size rest.size = rest.size := by omega
          have HX : Box (bs (hexL rest.size) = bs (hexL rest.size)) := box rfl
          have hxs := hexL_le (n := rest.size) (by omega)
          obtain ⟨x, hx⟩ : ∃ x, bs (hexL rest.size) = x := ⟨_, rfl⟩
          have hxz : x.size ≤ 6 := by rw [← hx, bs_size]; exact hxs
          have HXX := box hx
          obtain ⟨d, hd⟩ : ∃ d, rest = d := ⟨_, rfl⟩
          have hdz : d.size = rest.size := by rw [← hd]
          have hdl : d.data.toList = rest.data.toList.take rest.size := by rw [← hd, List.take_of_length_le (by simp)]
          have HD := box hd
          have r1 : ∀ w, (Op.stringOp .add x ⟨#[13, 10]⟩).run Try.prog w = .ok (.string (x ++ ⟨#[13, 10]⟩)) w := fun w => run_string_add_sum w _ _ (by show x.size + 2 ≤ 9223372036854775807; omega)
          have r2 : ∀ w, (Op.stringOp .add (x ++ ⟨#[13, 10]⟩) rest).run Try.prog w = .ok (.string (x ++ ⟨#[13, 10]⟩ ++ d)) w := fun w => by rw [hd]; exact run_string_add_sum w _ _ (by rw [ByteArray.size_append]; show x.size + 2 + d.size ≤ 9223372036854775807; omega)
          have r3 : ∀ w, (Op.stringOp .add (x ++ ⟨#[13, 10]⟩ ++ d) ⟨#[13, 10]⟩).run Try.prog w = .ok (.string (x ++ ⟨#[13, 10]⟩ ++ d ++ ⟨#[13, 10]⟩)) w := fun w => run_string_add_sum w _ _ (by rw [ByteArray.size_append, ByteArray.size_append]; show x.size + 2 + d.size + 2 ≤ 9223372036854775807; omega)
          have r4 : ∀ w, (Op.stringOp .add out (x ++ ⟨#[13, 10]⟩ ++ d ++ ⟨#[13, 10]⟩)).run Try.prog w = .ok (.string (out ++ (x ++ ⟨#[13, 10]⟩ ++ d ++ ⟨#[13, 10]⟩))) w := fun w => run_string_add_sum w _ _ (by rw [ByteArray.size_append, ByteArray.size_append, ByteArray.size_append]; show out.size + (x.size + 2 + d.size + 2) ≤ 9223372036854775807; omega)
          have HN : Box (encF b.size b.size b.data.toList = (out ++ (x ++ ⟨#[13, 10]⟩ ++ d ++ ⟨#[13, 10]⟩)).data.toList ++ encF g' b.size ByteArray.empty.data.toList) := box (by
            rw [HE.out, enc_step hne, hrl, hmin]
            have e1 : ByteArray.empty.data.toList = rest.data.toList.drop rest.size := by rw [List.drop_of_length_le (by simp)]; rfl
            rw [e1]
            have e2 : chunkT (rest.data.toList.take rest.size) = x.data.toList ++ 13 :: 10 :: (rest.data.toList.take rest.size ++ [13, 10]) := by
              have : (rest.data.toList.take rest.size).length = rest.size := by rw [List.length_take]; omega
              unfold chunkT; rw [this, ← hx]; rfl
            rw [e2, ← hdl]
            simp [ByteArray.data_append])
          have hsz2 : (out ++ (x ++ ⟨#[13, 10]⟩ ++ d ++ ⟨#[13, 10]⟩)).size ≤ out.size + 10 + rest.size := by
            rw [ByteArray.size_append, ByteArray.size_append, ByteArray.size_append, ByteArray.size_append, hdz]
            show out.size + (x.size + 2 + rest.size + 2) ≤ out.size + 10 + rest.size; omega
          have hsz3 : ByteArray.empty.size = rest.size - rest.size := by rw [Nat.sub_self]; rfl
          have HS2 := box hsz2
          have HS3 := box hsz3
          have hNi : (rest.size : Int) ≤ (rest.size : Int) := by omega
          clear hx hd hdl hne hsz2 hsz3 hmin HX
          go_wp2
          go_quiet ((go_at_call 21; exact Calls.quiet_of_same (rhex_is (by omega) HXX)))
          go_wp2
          go_roundw
          case rel => exact ⟨g', _, _, rfl, rfl, by rw [HS3.out]; omega, by rw [HS3.out]; have := HS2.out; omega, HN.out, BL.out.trans ((below_drewN _ _).mono BL.out.size)⟩
          case measure => simp [strSize3, HS3.out]; omega
  · go_loopw [0, 5] (fun i v wr => ∃ (g : Nat) (rest out : ByteArray), i = .string rest ∧ v = .string out ∧ rest.size ≤ g ∧ out.size + 13 * rest.size ≤ 13 * b.size ∧ encF b.size z b.data.toList = out.data.toList ++ encF g z rest.data.toList ∧ Below w.heap.size w wr) (fun i _ _ => strSize3 i)
    case atStart => exact ⟨b.size, b, ⟨#[]⟩, rfl, rfl, Nat.le_refl _, Nat.le_of_eq (Nat.zero_add _), rfl, Below.refl _ _⟩
    case round =>
      obtain ⟨g, rest, out, rfl, rfl, hg, hso, hE, hbel⟩ := hrel
      have HE := box hE
      have BL := box hbel
      have hrl : rest.data.toList.length = rest.size := by simp
      clear hE hbel
      by_cases hr : rest.size = 0
      · have hri : ¬ (0 : Int) < (rest.size : Int) := by omega
        have hnil : rest.data.toList = [] := List.eq_nil_of_length_eq_zero (by rw [hrl]; exact hr)
        have HF : Box (encodeL b.data.toList (z : Int) = out.data.toList ++ endT) := box (by
          rw [HEN.out, HE.out, hnil]
          have : encF g z ([] : List UInt8) = [] := by cases g <;> simp [encF]
          rw [this, List.append_nil])
        have hos : out.size ≤ 1300000 := by omega
        clear hnil hrl hr
        go_wp2
        go_ret
        refine ⟨ret_str ?_, BL.out⟩
        rw [HF.out]
        apply ByteArray.ext
        apply Array.toList_inj.mp
        simp [ByteArray.data_append, bs, endT]
      · have hri : (0 : Int) < (rest.size : Int) := by omega
        have hne : rest.data.toList ≠ [] := by intro e; rw [e] at hrl; simp at hrl; omega
        obtain ⟨g', rfl⟩ : ∃ g', g = g' + 1 := ⟨g - 1, by omega⟩
        by_cases hle : z ≤ rest.size
        · have hlei : (z : Int) ≤ (rest.size : Int) := by omega
          have hn0 : 1 ≤ z := by omega
          have hnr : z ≤ rest.size := by omega
          have hmin : min z rest.size = z := by omega
          have HX : Box (bs (hexL z) = bs (hexL z)) := box rfl
          have hxs := hexL_le (n := z) (by omega)
          obtain ⟨x, hx⟩ : ∃ x, bs (hexL z) = x := ⟨_, rfl⟩
          have hxz : x.size ≤ 6 := by rw [← hx, bs_size]; exact hxs
          have HXX := box hx
          obtain ⟨d, hd⟩ : ∃ d, rest.extract 0 z = d := ⟨_, rfl⟩
          have hdz : d.size = z := by rw [← hd, ByteArray.size_extract]; omega
          have hdl : d.data.toList = rest.data.toList.take z := by rw [← hd, ext_bs, List.drop_zero]; rfl
          have HD := box hd
          have r1 : ∀ w, (Op.stringOp .add x ⟨#[13, 10]⟩).run Try.prog w = .ok (.string (x ++ ⟨#[13, 10]⟩)) w := fun w => run_string_add_sum w _ _ (by show x.size + 2 ≤ 9223372036854775807; omega)
          have r2 : ∀ w, (Op.stringOp .add (x ++ ⟨#[13, 10]⟩) (rest.extract 0 z)).run Try.prog w = .ok (.string (x ++ ⟨#[13, 10]⟩ ++ d)) w := fun w => by rw [hd]; exact run_string_add_sum w _ _ (by rw [ByteArray.size_append]; show x.size + 2 + d.size ≤ 9223372036854775807; omega)
          have r3 : ∀ w, (Op.stringOp .add (x ++ ⟨#[13, 10]⟩ ++ d) ⟨#[13, 10]⟩).run Try.prog w = .ok (.string (x ++ ⟨#[13, 10]⟩ ++ d ++ ⟨#[13, 10]⟩)) w := fun w => run_string_add_sum w _ _ (by rw [ByteArray.size_append, ByteArray.size_append]; show x.size + 2 + d.size + 2 ≤ 9223372036854775807; omega)
          have r4 : ∀ w, (Op.stringOp .add out (x ++ ⟨#[13, 10]⟩ ++ d ++ ⟨#[13, 10]⟩)).run Try.prog w = .ok (.string (out ++ (x ++ ⟨#[13, 10]⟩ ++ d ++ ⟨#[13, 10]⟩))) w := fun w => run_string_add_sum w _ _ (by rw [ByteArray.size_append, ByteArray.size_append, ByteArray.size_append]; show out.size + (x.size + 2 + d.size + 2) ≤ 9223372036854775807; omega)
          have HN : Box (encF b.size z b.data.toList = (out ++ (x ++ ⟨#[13, 10]⟩ ++ d ++ ⟨#[13, 10]⟩)).data.toList ++ encF g' z (rest.extract z rest.size).data.toList) := box (by
            rw [HE.out, enc_step hne, hrl, hmin]
            have e1 : (rest.extract z rest.size).data.toList = rest.data.toList.drop z := by rw [ext_bs, List.take_of_length_le (by simp)]; rfl
            rw [e1]
            have e2 : chunkT (rest.data.toList.take z) = x.data.toList ++ 13 :: 10 :: (rest.data.toList.take z ++ [13, 10]) := by
              have : (rest.data.toList.take z).length = z := by rw [List.length_take]; omega
              unfold chunkT; rw [this, ← hx]; rfl
            rw [e2, ← hdl]
            simp [ByteArray.data_append])
          have hsz2 : (out ++ (x ++ ⟨#[13, 10]⟩ ++ d ++ ⟨#[13, 10]⟩)).size ≤ out.size + 10 + z := by
            rw [ByteArray.size_append, ByteArray.size_append, ByteArray.size_append, ByteArray.size_append, hdz]
            show out.size + (x.size + 2 + z + 2) ≤ out.size + 10 + z; omega
          have hsz3 : (rest.extract z rest.size).size = rest.size - z := by rw [ByteArray.size_extract]; omega
          have HS2 := box hsz2
          have HS3 := box hsz3
          have hNi : (z : Int) ≤ (rest.size : Int) := by omega
          clear hx hd hdl hne hsz2 hsz3 hmin HX
          go_wp2
          go_quiet ((go_at_call 21; exact Calls.quiet_of_same (rhex_is (by omega) HXX)))
          go_wp2
          go_roundw
          case rel => exact ⟨g', _, _, rfl, rfl, by rw [HS3.out]; omega, by rw [HS3.out]; have := HS2.out; omega, HN.out, BL.out.trans ((below_drewN _ _).mono BL.out.size)⟩
          case measure => simp [strSize3, HS3.out]; omega
        · have hlei : (rest.size : Int) < (z : Int) := by omega
          have hn0 : 1 ≤ rest.size := by omega
          have hnr : rest.size ≤ rest.size := by omega
          have hmin : min z rest.size = rest.size := by omega
          have HX : Box (bs (hexL rest.size) = bs (hexL rest.size)) := box rfl
          have hxs := hexL_le (n := rest.size) (by omega)
          obtain ⟨x, hx⟩ : ∃ x, bs (hexL rest.size) = x := ⟨_, rfl⟩
          have hxz : x.size ≤ 6 := by rw [← hx, bs_size]; exact hxs
          have HXX := box hx
          obtain ⟨d, hd⟩ : ∃ d, rest = d := ⟨_, rfl⟩
          have hdz : d.size = rest.size := by rw [← hd]
          have hdl : d.data.toList = rest.data.toList.take rest.size := by rw [← hd, List.take_of_length_le (by simp)]
          have HD := box hd
          have r1 : ∀ w, (Op.stringOp .add x ⟨#[13, 10]⟩).run Try.prog w = .ok (.string (x ++ ⟨#[13, 10]⟩)) w := fun w => run_string_add_sum w _ _ (by show x.size + 2 ≤ 9223372036854775807; omega)
          have r2 : ∀ w, (Op.stringOp .add (x ++ ⟨#[13, 10]⟩) rest).run Try.prog w = .ok (.string (x ++ ⟨#[13, 10]⟩ ++ d)) w := fun w => by rw [hd]; exact run_string_add_sum w _ _ (by rw [ByteArray.size_append]; show x.size + 2 + d.size ≤ 9223372036854775807; omega)
          have r3 : ∀ w, (Op.stringOp .add (x ++ ⟨#[13, 10]⟩ ++ d) ⟨#[13, 10]⟩).run Try.prog w = .ok (.string (x ++ ⟨#[13, 10]⟩ ++ d ++ ⟨#[13, 10]⟩)) w := fun w => run_string_add_sum w _ _ (by rw [ByteArray.size_append, ByteArray.size_append]; show x.size + 2 + d.size + 2 ≤ 9223372036854775807; omega)
          have r4 : ∀ w, (Op.stringOp .add out (x ++ ⟨#[13, 10]⟩ ++ d ++ ⟨#[13, 10]⟩)).run Try.prog w = .ok (.string (out ++ (x ++ ⟨#[13, 10]⟩ ++ d ++ ⟨#[13, 10]⟩))) w := fun w => run_string_add_sum w _ _ (by rw [ByteArray.size_append, ByteArray.size_append, ByteArray.size_append]; show out.size + (x.size + 2 + d.size + 2) ≤ 9223372036854775807; omega)
          have HN : Box (encF b.size z b.data.toList = (out ++ (x ++ ⟨#[13, 10]⟩ ++ d ++ ⟨#[13, 10]⟩)).data.toList ++ encF g' z ByteArray.empty.data.toList) := box (by
            rw [HE.out, enc_step hne, hrl, hmin]
            have e1 : ByteArray.empty.data.toList = rest.data.toList.drop rest.size := by rw [List.drop_of_length_le (by simp)]; rfl
            rw [e1]
            have e2 : chunkT (rest.data.toList.take rest.size) = x.data.toList ++ 13 :: 10 :: (rest.data.toList.take rest.size ++ [13, 10]) := by
              have : (rest.data.toList.take rest.size).length = rest.size := by rw [List.length_take]; omega
              unfold chunkT; rw [this, ← hx]; rfl
            rw [e2, ← hdl]
            simp [ByteArray.data_append])
          have hsz2 : (out ++ (x ++ ⟨#[13, 10]⟩ ++ d ++ ⟨#[13, 10]⟩)).size ≤ out.size + 10 + rest.size := by
            rw [ByteArray.size_append, ByteArray.size_append, ByteArray.size_append, ByteArray.size_append, hdz]
            show out.size + (x.size + 2 + rest.size + 2) ≤ out.size + 10 + rest.size; omega
          have hsz3 : ByteArray.empty.size = rest.size - rest.size := by rw [Nat.sub_self]; rfl
          have HS2 := box hsz2
          have HS3 := box hsz3
          have hNi : (rest.size : Int) ≤ (rest.size : Int) := by omega
          clear hx hd hdl hne hsz2 hsz3 hmin HX
          go_wp2
          go_quiet ((go_at_call 21; exact Calls.quiet_of_same (rhex_is (by omega) HXX)))
          go_wp2
          go_roundw
          case rel => exact ⟨g', _, _, rfl, rfl, by rw [HS3.out]; omega, by rw [HS3.out]; have := HS2.out; omega, HN.out, BL.out.trans ((below_drewN _ _).mono BL.out.size)⟩
          case measure => simp [strSize3, HS3.out]; omega
theorem rEncode_any (b : ByteArray) (zi : Int) (w : World) (hs : b.size ≤ 100000) :
    Calls Try.prog 11 #[.string b, .int .i64 zi] w fun e w' => e = .returned (.string (bs (encodeL b.data.toList zi))) ∧ Below w.heap.size w w' := by
  have hbl : b.data.toList.length = b.size := by simp
  by_cases h : zi < 1
  · exact rEnc_loop b zi b.size w hs (by omega) (box (by rw [if_pos h, hbl])) (.inl ⟨h, rfl⟩)
  · exact rEnc_loop b zi zi.toNat w hs (by omega) (box (by rw [if_neg h])) (.inr ⟨h, by omega⟩)
end
section
open Go.RowKit
theorem C5.set0 {g : Nat} {c0 c1 c2 c3 c4 : Value} {w : World} (f : C5 g c0 c1 c2 c3 c4 w) (v : Value) : C5 g v c1 c2 c3 c4 (w.setCell ⟨g, 0, none⟩ v) := by
  obtain ⟨⟨h0, h1, h2, h3, h4⟩, f0⟩ := f
  refine ⟨⟨?_, ?_, ?_, ?_, ?_⟩, by simpa only [World.frozen?_setCell] using f0⟩
  all_goals first
    | (rw [World.cell?_setCell_same (h := h0)])
    | exact (World.cell?_setCell_other _ _ _ _ (by simp)).trans (by assumption)
theorem rEnc_is {b y : ByteArray} {z : Int} {w : World} (hb : b.size ≤ 100000) (h : Box (bs (encodeL b.data.toList z) = y)) :
    Calls Try.prog 11 #[.string b, .int .i64 z] w fun e w' => e = .returned (.string y) ∧ Below w.heap.size w w' :=
  (rEncode_any b z w hb).mono fun e w' ⟨h1, h2⟩ => ⟨by rw [h1, h.out], h2⟩
theorem hexF_app_len (b : List UInt8) (z : Int) (hb : b.length ≤ 100000) : (encodeL b z).length ≤ 13 * b.length + 5 := by
  have key : ∀ (g y : Nat) (b : List UInt8), 1 ≤ y → b.length ≤ 100000 → (encF g y b).length ≤ 13 * b.length := by
    intro g
    induction g with
    | zero => intro y b _ _; simp [encF]
    | succ g ih =>
      intro y b hy hb
      by_cases hbn : b = []
      · subst hbn; simp [encF]
      · have hpos : 0 < b.length := List.length_pos_iff.mpr hbn
        rw [enc_step hbn]
        have h1 := ih y (b.drop (min y b.length)) hy (by rw [List.length_drop]; omega)
        have hl : (b.take (min y b.length)).length = min y b.length := by rw [List.length_take]; omega
        have hx := hexL_le (n := min y b.length) (by omega)
        have hc : (chunkT (b.take (min y b.length))).length ≤ 10 + min y b.length := by
          unfold chunkT; simp only [List.length_append, List.length_cons, List.length_nil, hl]; omega
        rw [List.length_append]
        rw [List.length_drop] at h1
        omega
  unfold encodeL
  have e5 : endT.length = 5 := rfl
  by_cases hbn : b = []
  · subst hbn; simp [encF, e5]
  · have hpos : 0 < b.length := List.length_pos_iff.mpr hbn
    have := key b.length (if z < 1 then b.length else z.toNat) b (by split <;> omega) hb
    rw [List.length_append, e5]; omega
set_option maxRecDepth 100000 in
set_option maxHeartbeats 8000000 in
theorem chunked6_walk (m t : ByteArray) (n : Int) (a : Option Addr) (cap : Nat) (K : List F) (b : ByteArray) (z : Int) (w : World)
    (hm0 : m.size ≤ maxLen) (ht0 : t.size ≤ maxLen) (hn : (Lit.int .i64 n).wf = true) (hk : K.length ≤ maxLen) (hF : Fs w a K) (hb0 : b.size ≤ maxLen) (hz : (Lit.int .i64 z).wf = true) :
    Calls Try.prog 3 #[rqV m t n a cap K b, .int .i64 z] w fun e w' => e = .returned (.bool true) ∧ Below w.heap.size w w' := by
  have N1 := box (wf_i64' hn)
  have HK := box hk
  have hnw0 := below_new w (.cells #[.string m, .string t, .int .i64 n, .slice a K.length cap, .string b] 24)
  have C0 := box (C5.new (.string m) (.string t) (.int .i64 n) (.slice a K.length cap) (.string b) w 24)
  have F0 := box (hF.below hnw0)
  unfold rqV
  clear hn hk hF hnw0 hz
  unfold maxLen at hm0 ht0 hb0
  go_enter Try.func3, Try.ntmps3
  go_wp2_with fail
  refine (kReq_any m t n a cap K b _ hm0 ht0 hb0 HK F0).mono ?_; rintro e w1 ⟨⟨q1, rfl, hq1⟩, hb1⟩
  have C1 := box (C0.out.next hb1)
  have F1 := box (F0.out.below hb1)
  have B1 := box ((below_new w _).trans (hb1.mono (below_new w _).size))
  have hg1 := C1.out.lt
  clear hb1
  rcases q1 with _ | _
  · go_wp2
    go_ret
    exact ⟨rfl, B1.out⟩
  · have O1 := box (hq1 rfl)
    clear hq1
    obtain ⟨hm1, ht1, hkp, hbb⟩ := O1.out
    have S1 := box (keep_sm6 hkp)
    have hK70 := (keep_parts hkp).1
    obtain ⟨⟨c0, c1, c2, c3, c4⟩, _⟩ := C1.out
    by_cases hK60 : K.length ≤ 60
    · have hki : ¬ (60 : Int) < (K.length : Int) := by omega
      have ht : t.size ≤ 3000 := by omega
      have hb : b.size ≤ 1000000 := by omega
      have hbe : b.size ≤ 100000 := by omega
      have hb2k : b.size ≤ 2000 := hbb
      have hbl : b.data.toList.length = b.size := by simp
      have hpost : (⟨#[80, 79, 83, 84]⟩ : ByteArray).size ≤ 3000 := by decide
      obtain ⟨U, hU⟩ : ∃ U, unfrL K = U := ⟨_, rfl⟩
      have hUK : U.length ≤ 65536 := by
        have : U.length ≤ K.length := by rw [← hU]; exact Nat.le_trans (List.length_filter_le _ _) (List.length_filter_le _ _)
        omega
      have S2 : Box (Sm U) := box (by rw [← hU]; exact sm_rem (sm_rem S1.out))
      have HUU : Box (unfrL U = U) := box (by rw [← hU]; exact unfr_twice K)
      have HU := box hU
      obtain ⟨x, hx⟩ : ∃ x, bs (fmtRQ ((⟨#[80, 79, 83, 84]⟩ : ByteArray).data.toList, t.data.toList, n, U, b.data.toList)) = x := ⟨_, rfl⟩
      have HX := box hx
      have hxs : x.size ≤ 200000 := by rw [← hx, bs_size]; exact fmt_le (by omega)
      have hfx : fmtRQ (postM, t.data.toList, n, U, b.data.toList) = x.data.toList := by rw [← hx]; rfl
      have hxl : x.data.toList.length = x.size := by simp
      clear hx hU hkp hm1 ht1 hbb
      go_wp2_with fail
      refine (rUnframed_any a cap K _ S1 F1).mono ?_; rintro e w2 ⟨v2, rfl, hO2, hb2⟩
      rw [HU.out] at hO2
      obtain ⟨a2, cap2, rfl, _, _⟩ := hO2.fs
      have C2 := C1.out.next hb2
      have O3 := own_only hO2 (((Only.refl w.heap.size w2).setAt 3 (.slice a2 U.length cap2)).setAt 0 (.string ⟨#[80, 79, 83, 84]⟩)) hg1
      have C3 := box ((C2.set3 (.slice a2 U.length cap2)).set0 (.string ⟨#[80, 79, 83, 84]⟩))
      have F3 := box (own_fs O3)
      have B3 := box (((B1.out.trans (hb2.mono B1.out.size)).setCell (p := ⟨w.heap.size, 3, none⟩) (Nat.le_refl _) (.slice a2 U.length cap2)).setCell (p := ⟨w.heap.size, 0, none⟩) (Nat.le_refl _) (.string ⟨#[80, 79, 83, 84]⟩))
      obtain ⟨⟨d0, d1, d2, d3, d4⟩, ⟨f0, f1, f2, f3, f4⟩⟩ := C2
      clear hb2 hO2 O3 c0 c1 c2 c3 c4
      go_wp2_with fail
      refine (rFQ_is hpost ht N1 hb S2 F3.out HX).mono ?_; rintro e w4 ⟨rfl, hb4⟩
      have C4 := box (C3.out.next hb4)
      have B4 := box (B3.out.trans (hb4.mono B3.out.size))
      clear hb4 d0 d1 d2 d3 d4 f0 f1 f2 f3 f4
      rcases hem : x.toList.isEmpty with _ | _
      · by_cases hsm : x.size ≤ 15900 + b.size
        · have hsi : ¬ (15900 : Int) < (x.size : Int) - (b.size : Int) := by omega
          have C4' := C4
          obtain ⟨st, more, hxs0, hst, hstl, hval, hr1, hr2⟩ := chunked_both (t := t.data.toList) (b := b.data.toList) (v := n) (z := z) (K := U) (by rw [hfx]; exact ne_of_empty hem) HUU.out (by rw [hfx, hxl]; omega) (by omega)
          rw [hfx] at hxs0 hr1
          obtain ⟨y, hy⟩ : ∃ y, bs (encodeL b.data.toList z) = y := ⟨_, rfl⟩
          have HY := box hy
          have hys : y.size ≤ 30000 := by rw [← hy, bs_size]; have := hexF_app_len b.data.toList z (by omega); omega
          obtain ⟨p, hp⟩ : ∃ p, posK st U (U.length + 1) = p := ⟨_, rfl⟩
          have hpx : p ≤ x.size := by
            obtain ⟨_, _, h⟩ := pos_step hxs0 hst hstl hval (Nat.le_refl U.length)
            rw [hp, hxl] at h; exact h
          have hpe : x.data.toList.take p = st ++ [13, 10] ++ flatL U := by
            have e : p = (st ++ [13, 10] ++ flatL U).length := by rw [← hp]; simp [posK]; omega
            have e2 : x.data.toList = (st ++ [13, 10] ++ flatL U) ++ more := by rw [hxs0]; simp
            rw [e2, e]; exact List.take_left
          obtain ⟨P1, hP1⟩ : ∃ P1, x.extract 0 p ++ ⟨#[84, 114, 97, 110, 115, 102, 101, 114, 45, 69, 110, 99, 111, 100, 105, 110, 103, 58, 32, 67, 104, 117, 110, 107, 101, 100, 13, 10, 13, 10]⟩ = P1 := ⟨_, rfl⟩
          have hP1s : P1.size = p + 30 := by
            rw [← hP1, ByteArray.size_append, ByteArray.size_extract]
            show min p x.size - 0 + 30 = p + 30; omega
          have hP1l : P1.data.toList = st ++ [13, 10] ++ flatL U ++ teLine ++ [13, 10] := by
            rw [← hP1, ByteArray.data_append, Array.toList_append, ext_bs, List.drop_zero, bs_toList, hpe]
            simp [teLine, teN]
          have r1 : ∀ w, (Op.stringOp .add (x.extract 0 p) ⟨#[84, 114, 97, 110, 115, 102, 101, 114, 45, 69, 110, 99, 111, 100, 105, 110, 103, 58, 32, 67, 104, 117, 110, 107, 101, 100, 13, 10, 13, 10]⟩).run Try.prog w = .ok (.string P1) w := fun w => by rw [← hP1]; exact run_string_add_sum w _ _ (by rw [ByteArray.size_extract]; show min p x.size - 0 + 30 ≤ 9223372036854775807; omega)
          obtain ⟨T, hT⟩ : ∃ T, P1 ++ y = T := ⟨_, rfl⟩
          have hTs : T.size ≤ 400000 := by rw [← hT, ByteArray.size_append]; omega
          have hTl : T.data.toList = st ++ [13, 10] ++ flatL U ++ teLine ++ [13, 10] ++ encodeL b.data.toList z := by
            rw [← hT, ByteArray.data_append, Array.toList_append, hP1l, ← hy, bs_toList]
          have r2 : ∀ w, (Op.stringOp .add P1 y).run Try.prog w = .ok (.string T) w := fun w => by rw [← hT]; exact run_string_add_sum w _ _ (by omega)
          rw [← hTl] at hr2
          have hTz : T.data.toList.length = T.size := by simp
          obtain ⟨M, M2, V, L, D, N1, N2, E, hR1, hR2, hE, hLL⟩ : ∃ (M M2 : ByteArray) (V : Int) (L : List F) (D : ByteArray) (N1 N2 E : Int), reqM x.data.toList = ((M.data.toList, M2.data.toList, V, L, D.data.toList), N1, E) ∧ reqM T.data.toList = ((M.data.toList, M2.data.toList, V, L, D.data.toList), N2, E) ∧ ((E = 0 ∧ N1 = x.size ∧ N2 = T.size) ∨ E = 6) ∧ L.length ≤ 65536 := by
            rcases hho : hostE U n with _ | _
            · rw [hho, if_neg (by simp)] at hr1 hr2
              refine ⟨⟨#[80, 79, 83, 84]⟩, t, n, U, b, x.size, T.size, 0, ?_, ?_, .inl ⟨rfl, rfl, rfl⟩, hUK⟩
              · rw [hr1, hxl]; rfl
              · rw [hr2, hTz]; rfl
            · rw [hho, if_pos rfl] at hr1 hr2
              exact ⟨⟨#[]⟩, ⟨#[]⟩, 0, [], ⟨#[]⟩, 0, 0, 6, hr1, hr2, .inr rfl, by simp⟩
          have HR1 := box hR1
          have HR2 := box hR2
          have HST : Box (∀ k, k ≤ U.length → ∃ q, Box (nextL (x.data.toList.drop (posK st U k)) = .inr (q, x.data.toList.drop (posK st U (k + 1)))) ∧ posK st U (k + 1) ≤ x.size) := box (fun k hk => by
            obtain ⟨q, h1, h2⟩ := pos_step hxs0 hst hstl hval hk
            rw [hxl] at h2
            exact ⟨q, box h1, h2⟩)
          have HP := box hp
          have hxz2 : x.size ≤ 2000000 := by omega
          have hTz2 : T.size ≤ 2000000 := by omega
          have hxz4 : x.size ≤ 4000000 := by omega
          clear hr1 hr2 hxs0 hst hstl hval hpe hP1 hP1l hT hTl hTz hR1 hR2 hp hy hfx
          obtain ⟨⟨c0, c1, c2, c3, c4⟩, _⟩ := C4.out
          go_wp2_with fail
          refine (mReq_is hxz2 HR1).mono ?_; rintro e w5 ⟨⟨a5, cap5, rfl, hF5⟩, hb5⟩
          have hnw := below_new w5 (.cells #[.string M, .string M2, .int .i64 V, .slice a5 L.length cap5, .string D] 24)
          have A5 := box (C5.new (.string M) (.string M2) (.int .i64 V) (.slice a5 L.length cap5) (.string D) w5 24)
          have C5' := box ((C4.out.next hb5).next hnw)
          have F5 := box (hF5.below hnw)
          have B5 := box (B4.out.trans ((hb5.trans (hnw.mono hb5.size)).mono B4.out.size))
          have hg5 := (C4.out.next hb5).lt
          have hne5 : w.heap.size ≠ w5.heap.size := Nat.ne_of_lt hg5
          clear c0 c1 c2 c3 c4
          obtain ⟨⟨c0, c1, c2, c3, c4⟩, _⟩ := C4.out.next hb5
          clear hb5 hF5 hnw
          go_wp2
          go_loop [9, 10] (fun i k => ∃ j : Nat, j ≤ U.length + 1 ∧ k = .int .i64 j ∧ i = .int .i64 (posK st U j)) (fun _ k => U.length + 1 - (intOf k).toNat)
          case atStart => exact ⟨0, Nat.zero_le _, rfl, rfl⟩
          case round =>
            obtain ⟨j, hj, rfl, rfl⟩ := hrel
            by_cases hlt : j < U.length + 1
            · have hji : (j : Int) < (U.length : Int) + 1 := by omega
              obtain ⟨q, HQ, hq2⟩ := HST.out j (by omega)
              have hq1 : posK st U j ≤ x.size := by
                cases j with
                | zero => exact Nat.zero_le _
                | succ j =>
                  obtain ⟨_, _, h⟩ := HST.out j (by omega)
                  exact h
              go_wp2_with fail
              refine (rNext_ok hxz4 hq1 hq2 HQ).mono ?_; rintro e w6 ⟨rfl, rfl⟩
              go_wp2
              go_round
              case rel => exact ⟨j + 1, by omega, by go_num, rfl⟩
              case measure => simp [intOf]; omega
            · obtain rfl : j = U.length + 1 := by omega
              rw [HP.out]
              have hji : ¬ (((U.length + 1 : Nat) : Int) < (U.length : Int) + 1) := by omega
              have hpi : (p : Int) ≤ (x.size : Int) := by omega
              clear hlt hj
              go_wp2
              go_region_held3 (fun w' => w'.cell? ⟨w.heap.size, 4, none⟩ = some (.string b)) (first | exact C5'.out.1.2.2.2.2 | exact (C5.drewN C5'.out).1.2.2.2.2 | exact C6.out.1.2.2.2.2) (first | (go_at_call 11; refine (rEnc_is hbe HY).mono ?_; rintro e w6 ⟨rfl, hb6⟩; have C6 := box ((C5.drewN C5'.out).next hb6); have A6 := box ((C5.drewN A5.out).next hb6); have F6 := box (F5.out.below ((below_drewN _ _).trans hb6)); have B6 := box (B5.out.trans (((below_drewN _ _).trans hb6).mono B5.out.size)); clear hb6))
              all_goals
                clear c0 c1 c2 c3 c4 r1 r2
                go_wp2_with fail
                refine (mReq_is hTz2 HR2).mono ?_; rintro e w7 ⟨⟨a7, cap7, rfl, hF7⟩, hb7⟩
                have hnw := below_new w7 (.cells #[.string M, .string M2, .int .i64 V, .slice a7 L.length cap7, .string D] 24)
                have hA7 := A6.out.next hb7
                have hg7 := hA7.lt
                have hne7 : w5.heap.size ≠ w7.heap.size := Nat.ne_of_lt hg7
                have F7 := box (hF7.below hnw)
                have F8 := box ((F6.out.below hb7).below hnw)
                have B7 := box (B6.out.trans ((hb7.trans (hnw.mono hb7.size)).mono B6.out.size))
                obtain ⟨⟨c0, c1, c2, c3, c4⟩, _⟩ := hA7
                clear hb7 hF7 hnw
                rcases hE with ⟨rfl, rfl, rfl⟩ | rfl
                all_goals
                  go_wp2_with fail
                  refine (kSameReq_any M M2 V a5 a7 cap5 cap7 L D _ hLL F8 F7).mono ?_; rintro e w8 ⟨rfl, hb8⟩
                  have B8 := box (B7.out.trans (hb8.mono B7.out.size))
                  clear hb8 c0 c1 c2 c3 c4
                  go_wp2_with fail
                  refine (awake6_any _).mono ?_; rintro e w9 ⟨rfl, hb9⟩
                  have B9 := box (B8.out.trans (hb9.mono B8.out.size))
                  clear hb9
                  go_wp2
                  go_ret
                  exact ⟨rfl, B9.out⟩
        · have hsi : (15900 : Int) < (x.size : Int) - (b.size : Int) := by omega
          obtain ⟨⟨c0, c1, c2, c3, c4⟩, _⟩ := C4.out
          go_wp2_with fail
          refine (awake6_any _).mono ?_; rintro e w9 ⟨rfl, hb9⟩
          have B9 := box (B4.out.trans (hb9.mono B4.out.size))
          clear hb9
          go_wp2
          go_ret
          exact ⟨rfl, B9.out⟩
      · skip
        go_wp2_with fail
        refine (awake6_any _).mono ?_; rintro e w9 ⟨rfl, hb9⟩
        have B9 := box (B4.out.trans (hb9.mono B4.out.size))
        clear hb9
        go_wp2
        go_ret
        exact ⟨rfl, B9.out⟩
    · have hki : (60 : Int) < (K.length : Int) := by omega
      go_wp2
      go_ret
      exact ⟨rfl, B1.out⟩
end
section
open Go.RowKit
theorem and3_cases (k : Int) : bits .and .i64 k 3 = 0 ∨ bits .and .i64 k 3 = 1 ∨ bits .and .i64 k 3 = 2 ∨ bits .and .i64 k 3 = 3 := by
  have e : bits .and .i64 k 3 = (((BitVec.ofInt 64 k).toNat % 4 : Nat) : Int) := by
    show IntKind.i64.wrap ((BitVec.ofInt 64 k &&& BitVec.ofInt 64 ((3 : Nat) : Int)).toNat : Int) = _
    rw [BitVec.toNat_and, ofInt_u64 3 (by omega)]
    have h := Nat.and_two_pow_sub_one_eq_mod (BitVec.ofInt 64 k).toNat 2
    rw [show (3 : Nat) = 2 ^ 2 - 1 from rfl, h]
    exact Lib.wrap_i64_small _ (by omega)
  have := Nat.mod_lt (BitVec.ofInt 64 k).toNat (show 0 < 4 by omega)
  omega
theorem rValH_is {h : ByteArray} {b : Bool} {w : World} (hh : h.size ≤ 100) (hv : Box (validF (hostF h) = b)) :
    Calls Try.prog 13 #[.agg #[.string hostN, .string h]] w fun e w' => e = .returned (.bool b) ∧ Below w.heap.size w w' :=
  rValid6_is (p := hostF h) (box (by show hostN.size ≤ 65536; decide)) (box (by show h.size ≤ 65536; omega)) hv
set_option maxRecDepth 100000 in
set_option maxHeartbeats 8000000 in
theorem ambiguous6_walk (n k : Int) (h : ByteArray) (w : World) (hn : (Lit.int .i64 n).wf = true) (hk : (Lit.int .i64 k).wf = true) (hh0 : h.size ≤ maxLen) :
    Calls Try.prog 4 #[.int .i64 n, .int .i64 k, .string h] w fun e w' => e = .returned (.bool true) ∧ Below w.heap.size w w' := by
  clear hn hk
  unfold maxLen at hh0
  by_cases h0 : n < 0
  · skip
    go_enter Try.func4, Try.ntmps4
    go_wp2
    go_ret
    exact ⟨rfl, Below.refl _ _⟩
  · by_cases h1 : n ≤ 100000
    · have h1i : ¬ (100000 < n) := by omega
      by_cases hh : h.size ≤ 100
      · have hhi : ¬ (100 : Int) < (h.size : Int) := by omega
        rcases hv : validF (hostF h) with _ | _
        · have HV := box hv
          clear hv
          go_enter Try.func4, Try.ntmps4
          go_wp2_with fail
          refine (rValH_is hh HV).mono ?_; rintro e w1 ⟨rfl, hb1⟩
          go_wp2
          go_ret
          exact ⟨rfl, hb1⟩
        · have HV := box hv
          clear hv
          have h0' : 0 ≤ n := by omega
          obtain ⟨d, hd⟩ : ∃ d, bs (decL n) = d := ⟨_, rfl⟩
          have hds : d.size ≤ 21 := by rw [← hd, bs_size]; exact decL_len _
          have HD := box hd
          have HI : Box (InI64 n) := box (by unfold InI64; omega)
          clear hd
          obtain ⟨v1, hv1⟩ : ∃ v1, (⟨#[80, 79, 83, 84, 32, 47, 32, 72, 84, 84, 80, 47, 49, 46, 49, 13, 10, 72, 111, 115, 116, 58, 32]⟩ : ByteArray) ++ h = v1 := ⟨_, rfl⟩
          have zv1 : v1.size = 23 + h.size := by (rw [← hv1, ByteArray.size_append]) <;> rfl
          have rv1 : ∀ w, (Op.stringOp .add (⟨#[80, 79, 83, 84, 32, 47, 32, 72, 84, 84, 80, 47, 49, 46, 49, 13, 10, 72, 111, 115, 116, 58, 32]⟩ : ByteArray) h).run Try.prog w = .ok (.string v1) w := fun w => by rw [← hv1]; exact run_string_add_sum w _ _ (by show 23 + h.size ≤ 9223372036854775807; omega)
          have Hv1 := box hv1
          clear hv1
          obtain ⟨v2, hv2⟩ : ∃ v2, v1 ++ (⟨#[13, 10, 67, 111, 110, 116, 101, 110, 116, 45, 76, 101, 110, 103, 116, 104, 58, 32]⟩ : ByteArray) = v2 := ⟨_, rfl⟩
          have zv2 : v2.size = v1.size + 18 := by (rw [← hv2, ByteArray.size_append]) <;> rfl
          have rv2 : ∀ w, (Op.stringOp .add v1 (⟨#[13, 10, 67, 111, 110, 116, 101, 110, 116, 45, 76, 101, 110, 103, 116, 104, 58, 32]⟩ : ByteArray)).run Try.prog w = .ok (.string v2) w := fun w => by rw [← hv2]; exact run_string_add_sum w _ _ (by show v1.size + 18 ≤ 9223372036854775807; omega)
          have Hv2 := box hv2
          clear hv2
          obtain ⟨v3, hv3⟩ : ∃ v3, v2 ++ d = v3 := ⟨_, rfl⟩
          have zv3 : v3.size = v2.size + d.size := by (rw [← hv3, ByteArray.size_append]) <;> rfl
          have rv3 : ∀ w, (Op.stringOp .add v2 d).run Try.prog w = .ok (.string v3) w := fun w => by rw [← hv3]; exact run_string_add_sum w _ _ (by show v2.size + d.size ≤ 9223372036854775807; omega)
          have Hv3 := box hv3
          clear hv3
          obtain ⟨v4, hv4⟩ : ∃ v4, v3 ++ (⟨#[13, 10]⟩ : ByteArray) = v4 := ⟨_, rfl⟩
          have zv4 : v4.size = v3.size + 2 := by (rw [← hv4, ByteArray.size_append]) <;> rfl
          have rv4 : ∀ w, (Op.stringOp .add v3 (⟨#[13, 10]⟩ : ByteArray)).run Try.prog w = .ok (.string v4) w := fun w => by rw [← hv4]; exact run_string_add_sum w _ _ (by show v3.size + 2 ≤ 9223372036854775807; omega)
          have Hv4 := box hv4
          clear hv4
          have HT := fun kk => request_twice (k := kk) h0' h1 hh HV.out
          rcases and3_cases k with hb | hb | hb | hb
          · skip
            obtain ⟨v5, hv5⟩ : ∃ v5, v4 ++ (⟨#[84, 114, 97, 110, 115, 102, 101, 114, 45, 69, 110, 99, 111, 100, 105, 110, 103, 58, 32, 99, 104, 117, 110, 107, 101, 100, 13, 10]⟩ : ByteArray) = v5 := ⟨_, rfl⟩
            have zv5 : v5.size = v4.size + 28 := by (rw [← hv5, ByteArray.size_append]) <;> rfl
            have rv5 : ∀ w, (Op.stringOp .add v4 (⟨#[84, 114, 97, 110, 115, 102, 101, 114, 45, 69, 110, 99, 111, 100, 105, 110, 103, 58, 32, 99, 104, 117, 110, 107, 101, 100, 13, 10]⟩ : ByteArray)).run Try.prog w = .ok (.string v5) w := fun w => by rw [← hv5]; exact run_string_add_sum w _ _ (by show v4.size + 28 ≤ 9223372036854775807; omega)
            have Hv5 := box hv5
            clear hv5
            obtain ⟨T, hT⟩ : ∃ T, v5 ++ (⟨#[13, 10]⟩ : ByteArray) = T := ⟨_, rfl⟩
            have zT : T.size = v5.size + 2 := by (rw [← hT, ByteArray.size_append]) <;> rfl
            have rT : ∀ w, (Op.stringOp .add v5 (⟨#[13, 10]⟩ : ByteArray)).run Try.prog w = .ok (.string T) w := fun w => by rw [← hT]; exact run_string_add_sum w _ _ (by show v5.size + 2 ≤ 9223372036854775807; omega)
            have HT' := box hT
            clear hT
            have HR : Box (reqM T.data.toList = (((⟨#[]⟩ : ByteArray).data.toList, (⟨#[]⟩ : ByteArray).data.toList, 0, [], (⟨#[]⟩ : ByteArray).data.toList), 0, 8)) := box (by
              have q := HT 0
              have e : T.data.toList = postL ++ 13 :: 10 :: (rawL [hostF h, clenF n, (twiceF 0 n h).1] ++ [13, 10]) := by
                rw [← HT'.out, ← Hv5.out, ← Hv4.out, ← Hv3.out, ← Hv2.out, ← Hv1.out, ← HD.out]
                simp [ByteArray.data_append, bs, postL, rawL, spL, hostF, hostN, clenF, clN, twiceF, teF0, teF2, teN, clenF2, hostF2]
              rw [e, q]; rfl)
            have hTz : T.size ≤ 2000000 := by omega
            clear HT
            go_enter Try.func4, Try.ntmps4
            go_wp2_with fail
            refine (rValH_is hh HV).mono ?_; rintro e w1 ⟨rfl, hb1⟩
            have B1 := box hb1
            clear hb1
            go_wp2_with fail
            refine (rDec_is HI HD).mono ?_; rintro e w2 ⟨rfl, hb2⟩
            have B2 := box (B1.out.trans (hb2.mono B1.out.size))
            clear hb2
            have B3 := B2
            go_wp2_with fail
            refine (mReq_is (m := ⟨#[]⟩) (t := ⟨#[]⟩) (b := ⟨#[]⟩) hTz HR).mono ?_; rintro e w4 ⟨⟨a4, cap4, rfl, hF4⟩, hb4⟩
            have B4 := box (B3.out.trans ((hb4.trans ((below_new w4 (.cells #[.string ⟨#[]⟩, .string ⟨#[]⟩, .int .i64 0, .slice a4 ([] : List F).length cap4, .string ⟨#[]⟩] 24)).mono hb4.size)).mono B3.out.size))
            rw [List.length_nil] at B4 ⊢
            clear hb4 hF4
            go_wp2_with fail
            refine (awake6_any _).mono ?_; rintro e w9 ⟨rfl, hb9⟩
            have B9 := box (B4.out.trans (hb9.mono B4.out.size))
            clear hb9
            go_wp2
            go_ret
            exact ⟨rfl, B9.out⟩
          · skip
            obtain ⟨u1, hu1⟩ : ∃ u1, (⟨#[99, 111, 110, 116, 101, 110, 116, 45, 108, 101, 110, 103, 116, 104, 58, 32]⟩ : ByteArray) ++ d = u1 := ⟨_, rfl⟩
            have zu1 : u1.size = 16 + d.size := by (rw [← hu1, ByteArray.size_append]) <;> rfl
            have ru1 : ∀ w, (Op.stringOp .add (⟨#[99, 111, 110, 116, 101, 110, 116, 45, 108, 101, 110, 103, 116, 104, 58, 32]⟩ : ByteArray) d).run Try.prog w = .ok (.string u1) w := fun w => by rw [← hu1]; exact run_string_add_sum w _ _ (by show 16 + d.size ≤ 9223372036854775807; omega)
            have Hu1 := box hu1
            clear hu1
            obtain ⟨u2, hu2⟩ : ∃ u2, u1 ++ (⟨#[13, 10]⟩ : ByteArray) = u2 := ⟨_, rfl⟩
            have zu2 : u2.size = u1.size + 2 := by (rw [← hu2, ByteArray.size_append]) <;> rfl
            have ru2 : ∀ w, (Op.stringOp .add u1 (⟨#[13, 10]⟩ : ByteArray)).run Try.prog w = .ok (.string u2) w := fun w => by rw [← hu2]; exact run_string_add_sum w _ _ (by show u1.size + 2 ≤ 9223372036854775807; omega)
            have Hu2 := box hu2
            clear hu2
            obtain ⟨v5, hv5⟩ : ∃ v5, v4 ++ u2 = v5 := ⟨_, rfl⟩
            have zv5 : v5.size = v4.size + u2.size := by (rw [← hv5, ByteArray.size_append]) <;> rfl
            have rv5 : ∀ w, (Op.stringOp .add v4 u2).run Try.prog w = .ok (.string v5) w := fun w => by rw [← hv5]; exact run_string_add_sum w _ _ (by show v4.size + u2.size ≤ 9223372036854775807; omega)
            have Hv5 := box hv5
            clear hv5
            obtain ⟨T, hT⟩ : ∃ T, v5 ++ (⟨#[13, 10]⟩ : ByteArray) = T := ⟨_, rfl⟩
            have zT : T.size = v5.size + 2 := by (rw [← hT, ByteArray.size_append]) <;> rfl
            have rT : ∀ w, (Op.stringOp .add v5 (⟨#[13, 10]⟩ : ByteArray)).run Try.prog w = .ok (.string T) w := fun w => by rw [← hT]; exact run_string_add_sum w _ _ (by show v5.size + 2 ≤ 9223372036854775807; omega)
            have HT' := box hT
            clear hT
            have HR : Box (reqM T.data.toList = (((⟨#[]⟩ : ByteArray).data.toList, (⟨#[]⟩ : ByteArray).data.toList, 0, [], (⟨#[]⟩ : ByteArray).data.toList), 0, 8)) := box (by
              have q := HT 1
              have e : T.data.toList = postL ++ 13 :: 10 :: (rawL [hostF h, clenF n, (twiceF 1 n h).1] ++ [13, 10]) := by
                rw [← HT'.out, ← Hv5.out, ← Hv4.out, ← Hu2.out, ← Hu1.out, ← Hv3.out, ← Hv2.out, ← Hv1.out, ← HD.out]
                simp [ByteArray.data_append, bs, postL, rawL, spL, hostF, hostN, clenF, clN, twiceF, teF0, teF2, teN, clenF2, hostF2]
              rw [e, q]; rfl)
            have hTz : T.size ≤ 2000000 := by omega
            clear HT
            go_enter Try.func4, Try.ntmps4
            go_wp2_with fail
            refine (rValH_is hh HV).mono ?_; rintro e w1 ⟨rfl, hb1⟩
            have B1 := box hb1
            clear hb1
            go_wp2_with fail
            refine (rDec_is HI HD).mono ?_; rintro e w2 ⟨rfl, hb2⟩
            have B2 := box (B1.out.trans (hb2.mono B1.out.size))
            clear hb2
            go_wp2_with fail
            refine (rDec_is HI HD).mono ?_; rintro e w3 ⟨rfl, hb3⟩
            have B3 := box (B2.out.trans (hb3.mono B2.out.size))
            clear hb3
            go_wp2_with fail
            refine (mReq_is (m := ⟨#[]⟩) (t := ⟨#[]⟩) (b := ⟨#[]⟩) hTz HR).mono ?_; rintro e w4 ⟨⟨a4, cap4, rfl, hF4⟩, hb4⟩
            have B4 := box (B3.out.trans ((hb4.trans ((below_new w4 (.cells #[.string ⟨#[]⟩, .string ⟨#[]⟩, .int .i64 0, .slice a4 ([] : List F).length cap4, .string ⟨#[]⟩] 24)).mono hb4.size)).mono B3.out.size))
            rw [List.length_nil] at B4 ⊢
            clear hb4 hF4
            go_wp2_with fail
            refine (awake6_any _).mono ?_; rintro e w9 ⟨rfl, hb9⟩
            have B9 := box (B4.out.trans (hb9.mono B4.out.size))
            clear hb9
            go_wp2
            go_ret
            exact ⟨rfl, B9.out⟩
          · skip
            obtain ⟨v5, hv5⟩ : ∃ v5, v4 ++ (⟨#[84, 114, 97, 110, 115, 102, 101, 114, 45, 69, 110, 99, 111, 100, 105, 110, 103, 58, 32, 103, 122, 105, 112, 44, 32, 99, 104, 117, 110, 107, 101, 100, 13, 10]⟩ : ByteArray) = v5 := ⟨_, rfl⟩
            have zv5 : v5.size = v4.size + 34 := by (rw [← hv5, ByteArray.size_append]) <;> rfl
            have rv5 : ∀ w, (Op.stringOp .add v4 (⟨#[84, 114, 97, 110, 115, 102, 101, 114, 45, 69, 110, 99, 111, 100, 105, 110, 103, 58, 32, 103, 122, 105, 112, 44, 32, 99, 104, 117, 110, 107, 101, 100, 13, 10]⟩ : ByteArray)).run Try.prog w = .ok (.string v5) w := fun w => by rw [← hv5]; exact run_string_add_sum w _ _ (by show v4.size + 34 ≤ 9223372036854775807; omega)
            have Hv5 := box hv5
            clear hv5
            obtain ⟨T, hT⟩ : ∃ T, v5 ++ (⟨#[13, 10]⟩ : ByteArray) = T := ⟨_, rfl⟩
            have zT : T.size = v5.size + 2 := by (rw [← hT, ByteArray.size_append]) <;> rfl
            have rT : ∀ w, (Op.stringOp .add v5 (⟨#[13, 10]⟩ : ByteArray)).run Try.prog w = .ok (.string T) w := fun w => by rw [← hT]; exact run_string_add_sum w _ _ (by show v5.size + 2 ≤ 9223372036854775807; omega)
            have HT' := box hT
            clear hT
            have HR : Box (reqM T.data.toList = (((⟨#[]⟩ : ByteArray).data.toList, (⟨#[]⟩ : ByteArray).data.toList, 0, [], (⟨#[]⟩ : ByteArray).data.toList), 0, 7)) := box (by
              have q := HT 2
              have e : T.data.toList = postL ++ 13 :: 10 :: (rawL [hostF h, clenF n, (twiceF 2 n h).1] ++ [13, 10]) := by
                rw [← HT'.out, ← Hv5.out, ← Hv4.out, ← Hv3.out, ← Hv2.out, ← Hv1.out, ← HD.out]
                simp [ByteArray.data_append, bs, postL, rawL, spL, hostF, hostN, clenF, clN, twiceF, teF0, teF2, teN, clenF2, hostF2]
              rw [e, q]; rfl)
            have hTz : T.size ≤ 2000000 := by omega
            clear HT
            go_enter Try.func4, Try.ntmps4
            go_wp2_with fail
            refine (rValH_is hh HV).mono ?_; rintro e w1 ⟨rfl, hb1⟩
            have B1 := box hb1
            clear hb1
            go_wp2_with fail
            refine (rDec_is HI HD).mono ?_; rintro e w2 ⟨rfl, hb2⟩
            have B2 := box (B1.out.trans (hb2.mono B1.out.size))
            clear hb2
            have B3 := B2
            go_wp2_with fail
            refine (mReq_is (m := ⟨#[]⟩) (t := ⟨#[]⟩) (b := ⟨#[]⟩) hTz HR).mono ?_; rintro e w4 ⟨⟨a4, cap4, rfl, hF4⟩, hb4⟩
            have B4 := box (B3.out.trans ((hb4.trans ((below_new w4 (.cells #[.string ⟨#[]⟩, .string ⟨#[]⟩, .int .i64 0, .slice a4 ([] : List F).length cap4, .string ⟨#[]⟩] 24)).mono hb4.size)).mono B3.out.size))
            rw [List.length_nil] at B4 ⊢
            clear hb4 hF4
            go_wp2_with fail
            refine (awake6_any _).mono ?_; rintro e w9 ⟨rfl, hb9⟩
            have B9 := box (B4.out.trans (hb9.mono B4.out.size))
            clear hb9
            go_wp2
            go_ret
            exact ⟨rfl, B9.out⟩
          · skip
            obtain ⟨u1, hu1⟩ : ∃ u1, (⟨#[72, 79, 83, 84, 58, 32]⟩ : ByteArray) ++ h = u1 := ⟨_, rfl⟩
            have zu1 : u1.size = 6 + h.size := by (rw [← hu1, ByteArray.size_append]) <;> rfl
            have ru1 : ∀ w, (Op.stringOp .add (⟨#[72, 79, 83, 84, 58, 32]⟩ : ByteArray) h).run Try.prog w = .ok (.string u1) w := fun w => by rw [← hu1]; exact run_string_add_sum w _ _ (by show 6 + h.size ≤ 9223372036854775807; omega)
            have Hu1 := box hu1
            clear hu1
            obtain ⟨u2, hu2⟩ : ∃ u2, u1 ++ (⟨#[13, 10]⟩ : ByteArray) = u2 := ⟨_, rfl⟩
            have zu2 : u2.size = u1.size + 2 := by (rw [← hu2, ByteArray.size_append]) <;> rfl
            have ru2 : ∀ w, (Op.stringOp .add u1 (⟨#[13, 10]⟩ : ByteArray)).run Try.prog w = .ok (.string u2) w := fun w => by rw [← hu2]; exact run_string_add_sum w _ _ (by show u1.size + 2 ≤ 9223372036854775807; omega)
            have Hu2 := box hu2
            clear hu2
            obtain ⟨v5, hv5⟩ : ∃ v5, v4 ++ u2 = v5 := ⟨_, rfl⟩
            have zv5 : v5.size = v4.size + u2.size := by (rw [← hv5, ByteArray.size_append]) <;> rfl
            have rv5 : ∀ w, (Op.stringOp .add v4 u2).run Try.prog w = .ok (.string v5) w := fun w => by rw [← hv5]; exact run_string_add_sum w _ _ (by show v4.size + u2.size ≤ 9223372036854775807; omega)
            have Hv5 := box hv5
            clear hv5
            obtain ⟨T, hT⟩ : ∃ T, v5 ++ (⟨#[13, 10]⟩ : ByteArray) = T := ⟨_, rfl⟩
            have zT : T.size = v5.size + 2 := by (rw [← hT, ByteArray.size_append]) <;> rfl
            have rT : ∀ w, (Op.stringOp .add v5 (⟨#[13, 10]⟩ : ByteArray)).run Try.prog w = .ok (.string T) w := fun w => by rw [← hT]; exact run_string_add_sum w _ _ (by show v5.size + 2 ≤ 9223372036854775807; omega)
            have HT' := box hT
            clear hT
            have HR : Box (reqM T.data.toList = (((⟨#[]⟩ : ByteArray).data.toList, (⟨#[]⟩ : ByteArray).data.toList, 0, [], (⟨#[]⟩ : ByteArray).data.toList), 0, 6)) := box (by
              have q := HT 3
              have e : T.data.toList = postL ++ 13 :: 10 :: (rawL [hostF h, clenF n, (twiceF 3 n h).1] ++ [13, 10]) := by
                rw [← HT'.out, ← Hv5.out, ← Hv4.out, ← Hu2.out, ← Hu1.out, ← Hv3.out, ← Hv2.out, ← Hv1.out, ← HD.out]
                simp [ByteArray.data_append, bs, postL, rawL, spL, hostF, hostN, clenF, clN, twiceF, teF0, teF2, teN, clenF2, hostF2]
              rw [e, q]; rfl)
            have hTz : T.size ≤ 2000000 := by omega
            clear HT
            go_enter Try.func4, Try.ntmps4
            go_wp2_with fail
            refine (rValH_is hh HV).mono ?_; rintro e w1 ⟨rfl, hb1⟩
            have B1 := box hb1
            clear hb1
            go_wp2_with fail
            refine (rDec_is HI HD).mono ?_; rintro e w2 ⟨rfl, hb2⟩
            have B2 := box (B1.out.trans (hb2.mono B1.out.size))
            clear hb2
            have B3 := B2
            go_wp2_with fail
            refine (mReq_is (m := ⟨#[]⟩) (t := ⟨#[]⟩) (b := ⟨#[]⟩) hTz HR).mono ?_; rintro e w4 ⟨⟨a4, cap4, rfl, hF4⟩, hb4⟩
            have B4 := box (B3.out.trans ((hb4.trans ((below_new w4 (.cells #[.string ⟨#[]⟩, .string ⟨#[]⟩, .int .i64 0, .slice a4 ([] : List F).length cap4, .string ⟨#[]⟩] 24)).mono hb4.size)).mono B3.out.size))
            rw [List.length_nil] at B4 ⊢
            clear hb4 hF4
            go_wp2_with fail
            refine (awake6_any _).mono ?_; rintro e w9 ⟨rfl, hb9⟩
            have B9 := box (B4.out.trans (hb9.mono B4.out.size))
            clear hb9
            go_wp2
            go_ret
            exact ⟨rfl, B9.out⟩
      · have hhi : (100 : Int) < (h.size : Int) := by omega
        go_enter Try.func4, Try.ntmps4
        go_wp2
        go_ret
        exact ⟨rfl, Below.refl _ _⟩
    · have h1i : 100000 < n := by omega
      go_enter Try.func4, Try.ntmps4
      go_wp2
      go_ret
      exact ⟨rfl, Below.refl _ _⟩
end
end Go.Proofs.Ytjabcfabenobiaa.Asc
