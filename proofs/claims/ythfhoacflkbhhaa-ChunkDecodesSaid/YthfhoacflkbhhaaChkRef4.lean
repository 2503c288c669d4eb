/- The contract of the reference's EncodeChunks. -/
import Derived.Test.YthfhoacflkbhhaaChkRef2
import Derived.Deep.QuietTactic
import Derived.BigQuiet
import Derived.Below
set_option linter.unusedVariables false
set_option linter.unusedSimpArgs false
namespace Go.Proofs.Ythfhoacflkbhhaa.Asc
open Go.RowKit

theorem hexL_le {n : Nat} (h : n ≤ 4000000) : (hexL n).length ≤ 6 := by
  by_cases h0 : n = 0
  · subst h0; decide
  · exact (hexL_facts (by omega) 6 (Nat.lt_of_le_of_lt h (by decide))).2.2.2
theorem rhex_is {n : Nat} {x : ByteArray} {w : World} (hn : n ≤ 4000000) (h : Box (bs (hexL n) = x)) :
    Calls Try.prog 26 #[.int .i64 n] w fun e w' => e = .returned (.string x) ∧ w' = w :=
  (rhex_any n w hn).mono fun e w' ⟨h1, h2⟩ => ⟨by rw [h1, h.out], h2.symm⟩
def strSize3 : Value → Nat
  | .string s => s.size
  | _ => 0
theorem enc_step {g z : Nat} {b : List UInt8} (hb : b ≠ []) : encF (g + 1) z b = chunkT (b.take (min z b.length)) ++ encF g z (b.drop (min z b.length)) := by
  conv => lhs; unfold encF
  rw [if_neg hb]
set_option maxHeartbeats 2000000 in
theorem rEnc_loop (b : ByteArray) (zi : Int) (z : Nat) (w : World) (hs : b.size ≤ 100000) (hz1 : 1 ≤ z ∨ b.size = 0) (HZ : Box ((if zi < 1 then b.data.toList.length else zi.toNat) = z)) (hzi : (zi < 1 ∧ z = b.size) ∨ (¬ zi < 1 ∧ (zi : Int) = (z : Int))) :
    Calls Try.prog 12 #[.string b, .int .i64 zi] w fun e w' => e = .returned (.string (bs (encodeL b.data.toList zi))) ∧ Below w.heap.size w w' := by
  have hbl : b.data.toList.length = b.size := by simp
  have HEN : Box (encodeL b.data.toList zi = encF b.size z b.data.toList ++ endT) := box (by unfold encodeL; rw [HZ.out, hbl])
  rcases hzi with ⟨hzi, rfl⟩ | ⟨hzi, rfl⟩
  all_goals
    go_enter Try.func12, Try.ntmps12
    go_wp2
  · go_loopw [0, 5] (fun i v wr => ∃ (g : Nat) (rest out : ByteArray), i = .string rest ∧ v = .string out ∧ rest.size ≤ g ∧ out.size + 13 * rest.size ≤ 13 * b.size ∧ encF b.size b.size b.data.toList = out.data.toList ++ encF g b.size rest.data.toList ∧ Below w.heap.size w wr) (fun i _ _ => strSize3 i)
    case atStart => exact ⟨b.size, b, ⟨#[]⟩, rfl, rfl, Nat.le_refl _, Nat.le_of_eq (Nat.zero_add _), rfl, Below.refl _ _⟩
    case round =>
      obtain ⟨g, rest, out, rfl, rfl, hg, hso, hE, hbel⟩ := hrel
      have HE := box hE
      have BL := box hbel
      have hrl : rest.data.toList.length = rest.size := by simp
      clear hE hbel
      by_cases hr : rest.size = 0
      · have hri : ¬ (0 : Int) < (rest.size : Int) := by omega
        have hnil : rest.data.toList = [] := List.eq_nil_of_length_eq_zero (by rw [hrl]; exact hr)
        have HF : Box (encodeL b.data.toList zi = out.data.toList ++ endT) := box (by
          rw [HEN.out, HE.out, hnil]
          have : encF g b.size ([] : List UInt8) = [] := by cases g <;> simp [encF]
          rw [this, List.append_nil])
        have hos : out.size ≤ 1300000 := by omega
        clear hnil hrl hr
        go_wp2
        go_ret
        refine ⟨ret_str ?_, BL.out⟩
        rw [HF.out]
        apply ByteArray.ext
        apply Array.toList_inj.mp
        simp [ByteArray.data_append, bs, endT]
      · have hri : (0 : Int) < (rest.size : Int) := by omega
        have hne : rest.data.toList ≠ [] := by intro e; rw [e] at hrl; simp at hrl; omega
        obtain ⟨g', rfl⟩ : ∃ g', g = g' + 1 := ⟨g - 1, by omega⟩
        by_cases hle : b.size ≤ rest.size
        · have hlei : (b.size : Int) ≤ (rest.size : Int) := by omega
          have hn0 : 1 ≤ b.size := by omega
          have hnr : b.size ≤ rest.size := by omega
          have hmin : min b.size rest.size = b.size := by omega
          have HX : Box (bs (hexL b.size) = bs (hexL b.size)) := box rfl
          have hxs := hexL_le (n := b.size) (by omega)
          obtain ⟨x, hx⟩ : ∃ x, bs (hexL b.size) = x := ⟨_, rfl⟩
          have hxz : x.size ≤ 6 := by rw [← hx, bs_size]; exact hxs
          have HXX := box hx
          obtain ⟨d, hd⟩ : ∃ d, rest.extract 0 b.size = d := ⟨_, rfl⟩
          have hdz : d.size = b.size := by rw [← hd, ByteArray.size_extract]; omega
          have hdl : d.data.toList = rest.data.toList.take b.size := by rw [← hd, ext_bs, List.drop_zero]; rfl
          have HD := box hd
          have r1 : ∀ w, (Op.stringOp .add x ⟨#[13, 10]⟩).run Try.prog w = .ok (.string (x ++ ⟨#[13, 10]⟩)) w := fun w => run_string_add_sum w _ _ (by show x.size + 2 ≤ 9223372036854775807; omega)
          have r2 : ∀ w, (Op.stringOp .add (x ++ ⟨#[13, 10]⟩) (rest.extract 0 b.size)).run Try.prog w = .ok (.string (x ++ ⟨#[13, 10]⟩ ++ d)) w := fun w => by rw [hd]; exact run_string_add_sum w _ _ (by rw [ByteArray.size_append]; show x.size + 2 + d.size ≤ 9223372036854775807; omega)
          have r3 : ∀ w, (Op.stringOp .add (x ++ ⟨#[13, 10]⟩ ++ d) ⟨#[13, 10]⟩).run Try.prog w = .ok (.string (x ++ ⟨#[13, 10]⟩ ++ d ++ ⟨#[13, 10]⟩)) w := fun w => run_string_add_sum w _ _ (by rw [ByteArray.size_append, ByteArray.size_append]; show x.size + 2 + d.size + 2 ≤ 9223372036854775807; omega)
          have r4 : ∀ w, (Op.stringOp .add out (x ++ ⟨#[13, 10]⟩ ++ d ++ ⟨#[13, 10]⟩)).run Try.prog w = .ok (.string (out ++ (x ++ ⟨#[13, 10]⟩ ++ d ++ ⟨#[13, 10]⟩))) w := fun w => run_string_add_sum w _ _ (by rw [ByteArray.size_append, ByteArray.size_append, ByteArray.size_append]; show out.size + (x.size + 2 + d.size + 2) ≤ 9223372036854775807; omega)
          have HN : Box (encF b.size b.size b.data.toList = (out ++ (x ++ ⟨#[13, 10]⟩ ++ d ++ ⟨#[13, 10]⟩)).data.toList ++ encF g' b.size (rest.extract b.size rest.size).data.toList) := box (by
            rw [HE.out, enc_step hne, hrl, hmin]
            have e1 : (rest.extract b.size rest.size).data.toList = rest.data.toList.drop b.size := by rw [ext_bs, List.take_of_length_le (by simp)]; rfl
            rw [e1]
            have e2 : chunkT (rest.data.toList.take b.size) = x.data.toList ++ 13 :: 10 :: (rest.data.toList.take b.size ++ [13, 10]) := by
              have : (rest.data.toList.take b.size).length = b.size := by rw [List.length_take]; omega
              unfold chunkT; rw [this, ← hx]; rfl
            rw [e2, ← hdl]
            simp [ByteArray.data_append])
          have hsz2 : (out ++ (x ++ ⟨#[13, 10]⟩ ++ d ++ ⟨#[13, 10]⟩)).size ≤ out.size + 10 + b.size := by
            rw [ByteArray.size_append, ByteArray.size_append, ByteArray.size_append, ByteArray.size_append, hdz]
            show out.size + (x.size + 2 + b.size + 2) ≤ out.size + 10 + b.size; omega
          have hsz3 : (rest.extract b.size rest.size).size = rest.size - b.size := by rw [ByteArray.size_extract]; omega
          have HS2 := box hsz2
          have HS3 := box hsz3
          have hNi : (b.size : Int) ≤ (rest.size : Int) := by omega
          clear hx hd hdl hne hsz2 hsz3 hmin HX
          go_wp2
          go_quiet ((go_at_call 26; exact Calls.quiet_of_same (rhex_is (by omega) HXX)))
          go_wp2
          go_roundw
          case rel => exact ⟨g', _, _, rfl, rfl, by rw [HS3.out]; omega, by rw [HS3.out]; have := HS2.out; omega, HN.out, BL.out.trans ((below_drewN _ _).mono BL.out.size)⟩
          case measure => simp [strSize3, HS3.out]; omega
        · have hlei : (rest.size : Int) < (b.size : Int) := by omega
          have hn0 : 1 ≤ rest.size := by omega
          have hnr : rest.size ≤ rest.size := by omega
          have hmin : min b.size rest.size = rest.size := by omega
          have HX : Box (bs (hexL rest.size) = bs (hexL rest.size)) := box rfl
          have hxs := hexL_le (n := rest.size) (by omega)
          obtain ⟨x, hx⟩ : ∃ x, bs (hexL rest.size) = x := ⟨_, rfl⟩
          have hxz : x.size ≤ 6 := by rw [← hx, bs_size]; exact hxs
          have HXX := box hx
          obtain ⟨d, hd⟩ : ∃ d, rest = d := ⟨_, rfl⟩
          have hdz : d.size = rest.size := by rw [← hd]
          have hdl : d.data.toList = rest.data.toList.take rest.size := by rw [← hd, List.take_of_length_le (by simp)]
          have HD := box hd
          have r1 : ∀ w, (Op.stringOp .add x ⟨#[13, 10]⟩).run Try.prog w = .ok (.string (x ++ ⟨#[13, 10]⟩)) w := fun w => run_string_add_sum w _ _ (by show x.size + 2 ≤ 9223372036854775807; omega)
          have r2 : ∀ w, (Op.stringOp .add (x ++ ⟨#[13, 10]⟩) rest).run Try.prog w = .ok (.string (x ++ ⟨#[13, 10]⟩ ++ d)) w := fun w => by rw [hd]; exact run_string_add_sum w _ _ (by rw [ByteArray.size_append]; show x.size + 2 + d.size ≤ 9223372036854775807; omega)
          have r3 : ∀ w, (Op.stringOp .add (x ++ ⟨#[13, 10]⟩ ++ d) ⟨#[13, 10]⟩).run Try.prog w = .ok (.string (x ++ ⟨#[13, 10]⟩ ++ d ++ ⟨#[13, 10]⟩)) w := fun w => run_string_add_sum w _ _ (by rw [ByteArray.size_append, ByteArray.size_append]; show x.size + 2 + d.size + 2 ≤ 9223372036854775807; omega)
          have r4 : ∀ w, (Op.stringOp .add out (x ++ ⟨#[13, 10]⟩ ++ d ++ ⟨#[13, 10]⟩)).run Try.prog w = .ok (.string (out ++ (x ++ ⟨#[13, 10]⟩ ++ d ++ ⟨#[13, 10]⟩))) w := fun w => run_string_add_sum w _ _ (by rw [ByteArray.size_append, ByteArray.size_append, ByteArray.size_append]; show out.size + (x.size + 2 + d.size + 2) ≤ 9223372036854775807; omega)
          have HN : Box (encF b.size b.size b.data.toList = (out ++ (x ++ ⟨#[13, 10]⟩ ++ d ++ ⟨#[13, 10]⟩)).data.toList ++ encF g' b.size ByteArray.empty.data.toList) := box (by
            rw [HE.out, enc_step hne, hrl, hmin]
            have e1 : ByteArray.empty.data.toList = rest.data.toList.drop rest.size := by rw [List.drop_of_length_le (by simp)]; rfl
            rw [e1]
            have e2 : chunkT (rest.data.toList.take rest.size) = x.data.toList ++ 13 :: 10 :: (rest.data.toList.take rest.size ++ [13, 10]) := by
              have : (rest.data.toList.take rest.size).length = rest.size := by rw [List.length_take]; omega
              unfold chunkT; rw [this, ← hx]; rfl
            rw [e2, ← hdl]
            simp [ByteArray.data_append])
          have hsz2 : (out ++ (x ++ ⟨#[13, 10]⟩ ++ d ++ ⟨#[13, 10]⟩)).size ≤ out.size + 10 + rest.size := by
            rw [ByteArray.size_append, ByteArray.size_append, ByteArray.size_append, ByteArray.size_append, hdz]
            show out.size + (x.size + 2 + rest.size + 2) ≤ out.size + 10 + rest.size; omega
          have hsz3 : ByteArray.empty.size = rest.size - rest.size := by rw [Nat.sub_self]; rfl
          have HS2 := box hsz2
          have HS3 := box hsz3
          have hNi : (rest.size : Int) ≤ (rest.size : Int) := by omega
          clear hx hd hdl hne hsz2 hsz3 hmin HX
          go_wp2
          go_quiet ((go_at_call 26; exact Calls.quiet_of_same (rhex_is (by omega) HXX)))
          go_wp2
          go_roundw
          case rel => exact ⟨g', _, _, rfl, rfl, by rw [HS3.out]; omega, by rw [HS3.out]; have := HS2.out; omega, HN.out, BL.out.trans ((below_drewN _ _).mono BL.out.size)⟩
          case measure => simp [strSize3, HS3.out]; omega
  · go_loopw [0, 5] (fun i v wr => ∃ (g : Nat) (rest out : ByteArray), i = .string rest ∧ v = .string out ∧ rest.size ≤ g ∧ out.size + 13 * rest.size ≤ 13 * b.size ∧ encF b.size z b.data.toList = out.data.toList ++ encF g z rest.data.toList ∧ Below w.heap.size w wr) (fun i _ _ => strSize3 i)
    case atStart => exact ⟨b.size, b, ⟨#[]⟩, rfl, rfl, Nat.le_refl _, Nat.le_of_eq (Nat.zero_add _), rfl, Below.refl _ _⟩
    case round =>
      obtain ⟨g, rest, out, rfl, rfl, hg, hso, hE, hbel⟩ := hrel
      have HE := box hE
      have BL := box hbel
      have hrl : rest.data.toList.length = rest.size := by simp
      clear hE hbel
      by_cases hr : rest.size = 0
      · have hri : ¬ (0 : Int) < (rest.size : Int) := by omega
        have hnil : rest.data.toList = [] := List.eq_nil_of_length_eq_zero (by rw [hrl]; exact hr)
        have HF : Box (encodeL b.data.toList (z : Int) = out.data.toList ++ endT) := box (by
          rw [HEN.out, HE.out, hnil]
          have : encF g z ([] : List UInt8) = [] := by cases g <;> simp [encF]
          rw [this, List.append_nil])
        have hos : out.size ≤ 1300000 := by omega
        clear hnil hrl hr
        go_wp2
        go_ret
        refine ⟨ret_str ?_, BL.out⟩
        rw [HF.out]
        apply ByteArray.ext
        apply Array.toList_inj.mp
        simp [ByteArray.data_append, bs, endT]
      · have hri : (0 : Int) < (rest.size : Int) := by omega
        have hne : rest.data.toList ≠ [] := by intro e; rw [e] at hrl; simp at hrl; omega
        obtain ⟨g', rfl⟩ : ∃ g', g = g' + 1 := ⟨g - 1, by omega⟩
        by_cases hle : z ≤ rest.size
        · have hlei : (z : Int) ≤ (rest.size : Int) := by omega
          have hn0 : 1 ≤ z := by omega
          have hnr : z ≤ rest.size := by omega
          have hmin : min z rest.size = z := by omega
          have HX : Box (bs (hexL z) = bs (hexL z)) := box rfl
          have hxs := hexL_le (n := z) (by omega)
          obtain ⟨x, hx⟩ : ∃ x, bs (hexL z) = x := ⟨_, rfl⟩
          have hxz : x.size ≤ 6 := by rw [← hx, bs_size]; exact hxs
          have HXX := box hx
          obtain ⟨d, hd⟩ : ∃ d, rest.extract 0 z = d := ⟨_, rfl⟩
          have hdz : d.size = z := by rw [← hd, ByteArray.size_extract]; omega
          have hdl : d.data.toList = rest.data.toList.take z := by rw [← hd, ext_bs, List.drop_zero]; rfl
          have HD := box hd
          have r1 : ∀ w, (Op.stringOp .add x ⟨#[13, 10]⟩).run Try.prog w = .ok (.string (x ++ ⟨#[13, 10]⟩)) w := fun w => run_string_add_sum w _ _ (by show x.size + 2 ≤ 9223372036854775807; omega)
          have r2 : ∀ w, (Op.stringOp .add (x ++ ⟨#[13, 10]⟩) (rest.extract 0 z)).run Try.prog w = .ok (.string (x ++ ⟨#[13, 10]⟩ ++ d)) w := fun w => by rw [hd]; exact run_string_add_sum w _ _ (by rw [ByteArray.size_append]; show x.size + 2 + d.size ≤ 9223372036854775807; omega)
          have r3 : ∀ w, (Op.stringOp .add (x ++ ⟨#[13, 10]⟩ ++ d) ⟨#[13, 10]⟩).run Try.prog w = .ok (.string (x ++ ⟨#[13, 10]⟩ ++ d ++ ⟨#[13, 10]⟩)) w := fun w => run_string_add_sum w _ _ (by rw [ByteArray.size_append, ByteArray.size_append]; show x.size + 2 + d.size + 2 ≤ 9223372036854775807; omega)
          have r4 : ∀ w, (Op.stringOp .add out (x ++ ⟨#[13, 10]⟩ ++ d ++ ⟨#[13, 10]⟩)).run Try.prog w = .ok (.string (out ++ (x ++ ⟨#[13, 10]⟩ ++ d ++ ⟨#[13, 10]⟩))) w := fun w => run_string_add_sum w _ _ (by rw [ByteArray.size_append, ByteArray.size_append, ByteArray.size_append]; show out.size + (x.size + 2 + d.size + 2) ≤ 9223372036854775807; omega)
          have HN : Box (encF b.size z b.data.toList = (out ++ (x ++ ⟨#[13, 10]⟩ ++ d ++ ⟨#[13, 10]⟩)).data.toList ++ encF g' z (rest.extract z rest.size).data.toList) := box (by
            rw [HE.out, enc_step hne, hrl, hmin]
            have e1 : (rest.extract z rest.size).data.toList = rest.data.toList.drop z := by rw [ext_bs, List.take_of_length_le (by simp)]; rfl
            rw [e1]
            have e2 : chunkT (rest.data.toList.take z) = x.data.toList ++ 13 :: 10 :: (rest.data.toList.take z ++ [13, 10]) := by
              have : (rest.data.toList.take z).length = z := by rw [List.length_take]; omega
              unfold chunkT; rw [this, ← hx]; rfl
            rw [e2, ← hdl]
            simp [ByteArray.data_append])
          have hsz2 : (out ++ (x ++ ⟨#[13, 10]⟩ ++ d ++ ⟨#[13, 10]⟩)).size ≤ out.size + 10 + z := by
            rw [ByteArray.size_append, ByteArray.size_append, ByteArray.size_append, ByteArray.size_append, hdz]
            show out.size + (x.size + 2 + z + 2) ≤ out.size + 10 + z; omega
          have hsz3 : (rest.extract z rest.size).size = rest.size - z := by rw [ByteArray.size_extract]; omega
          have HS2 := box hsz2
          have HS3 := box hsz3
          have hNi : (z : Int) ≤ (rest.size : Int) := by omega
          clear hx hd hdl hne hsz2 hsz3 hmin HX
          go_wp2
          go_quiet ((go_at_call 26; exact Calls.quiet_of_same (rhex_is (by omega) HXX)))
          go_wp2
          go_roundw
          case rel => exact ⟨g', _, _, rfl, rfl, by rw [HS3.out]; omega, by rw [HS3.out]; have := HS2.out; omega, HN.out, BL.out.trans ((below_drewN _ _).mono BL.out.size)⟩
          case measure => simp [strSize3, HS3.out]; omega
        · have hlei : (rest.size : Int) < (z : Int) := by omega
          have hn0 : 1 ≤ rest.size := by omega
          have hnr : rest.size ≤ rest.size := by omega
          have hmin : min z rest.size = rest.size := by omega
          have HX : Box (bs (hexL rest.size) = bs (hexL rest.size)) := box rfl
          have hxs := hexL_le (n := rest.size) (by omega)
          obtain ⟨x, hx⟩ : ∃ x, bs (hexL rest.size) = x := ⟨_, rfl⟩
          have hxz : x.size ≤ 6 := by rw [← hx, bs_size]; exact hxs
          have HXX := box hx
          obtain ⟨d, hd⟩ : ∃ d, rest = d := ⟨_, rfl⟩
          have hdz : d.size = rest.size := by rw [← hd]
          have hdl : d.data.toList = rest.data.toList.take rest.size := by rw [← hd, List.take_of_length_le (by simp)]
          have HD := box hd
          have r1 : ∀ w, (Op.stringOp .add x ⟨#[13, 10]⟩).run Try.prog w = .ok (.string (x ++ ⟨#[13, 10]⟩)) w := fun w => run_string_add_sum w _ _ (by show x.size + 2 ≤ 9223372036854775807; omega)
          have r2 : ∀ w, (Op.stringOp .add (x ++ ⟨#[13, 10]⟩) rest).run Try.prog w = .ok (.string (x ++ ⟨#[13, 10]⟩ ++ d)) w := fun w => by rw [hd]; exact run_string_add_sum w _ _ (by rw [ByteArray.size_append]; show x.size + 2 + d.size ≤ 9223372036854775807; omega)
          have r3 : ∀ w, (Op.stringOp .add (x ++ ⟨#[13, 10]⟩ ++ d) ⟨#[13, 10]⟩).run Try.prog w = .ok (.string (x ++ ⟨#[13, 10]⟩ ++ d ++ ⟨#[13, 10]⟩)) w := fun w => run_string_add_sum w _ _ (by rw [ByteArray.size_append, ByteArray.size_append]; show x.size + 2 + d.size + 2 ≤ 9223372036854775807; omega)
          have r4 : ∀ w, (Op.stringOp .add out (x ++ ⟨#[13, 10]⟩ ++ d ++ ⟨#[13, 10]⟩)).run Try.prog w = .ok (.string (out ++ (x ++ ⟨#[13, 10]⟩ ++ d ++ ⟨#[13, 10]⟩))) w := fun w => run_string_add_sum w _ _ (by rw [ByteArray.size_append, ByteArray.size_append, ByteArray.size_append]; show out.size + (x.size + 2 + d.size + 2) ≤ 9223372036854775807; omega)
          have HN : Box (encF b.size z b.data.toList = (out ++ (x ++ ⟨#[13, 10]⟩ ++ d ++ ⟨#[13, 10]⟩)).data.toList ++ encF g' z ByteArray.empty.data.toList) := box (by
            rw [HE.out, enc_step hne, hrl, hmin]
            have e1 : ByteArray.empty.data.toList = rest.data.toList.drop rest.size := by rw [List.drop_of_length_le (by simp)]; rfl
            rw [e1]
            have e2 : chunkT (rest.data.toList.take rest.size) = x.data.toList ++ 13 :: 10 :: (rest.data.toList.take rest.size ++ [13, 10]) := by
              have : (rest.data.toList.take rest.size).length = rest.size := by rw [List.length_take]; omega
              unfold chunkT; rw [this, ← hx]; rfl
            rw [e2, ← hdl]
            simp [ByteArray.data_append])
          have hsz2 : (out ++ (x ++ ⟨#[13, 10]⟩ ++ d ++ ⟨#[13, 10]⟩)).size ≤ out.size + 10 + rest.size := by
            rw [ByteArray.size_append, ByteArray.size_append, ByteArray.size_append, ByteArray.size_append, hdz]
            show out.size + (x.size + 2 + rest.size + 2) ≤ out.size + 10 + rest.size; omega
          have hsz3 : ByteArray.empty.size = rest.size - rest.size := by rw [Nat.sub_self]; rfl
          have HS2 := box hsz2
          have HS3 := box hsz3
          have hNi : (rest.size : Int) ≤ (rest.size : Int) := by omega
          clear hx hd hdl hne hsz2 hsz3 hmin HX
          go_wp2
          go_quiet ((go_at_call 26; exact Calls.quiet_of_same (rhex_is (by omega) HXX)))
          go_wp2
          go_roundw
          case rel => exact ⟨g', _, _, rfl, rfl, by rw [HS3.out]; omega, by rw [HS3.out]; have := HS2.out; omega, HN.out, BL.out.trans ((below_drewN _ _).mono BL.out.size)⟩
          case measure => simp [strSize3, HS3.out]; omega
theorem rEncode_any (b : ByteArray) (zi : Int) (w : World) (hs : b.size ≤ 100000) :
    Calls Try.prog 12 #[.string b, .int .i64 zi] w fun e w' => e = .returned (.string (bs (encodeL b.data.toList zi))) ∧ Below w.heap.size w w' := by
  have hbl : b.data.toList.length = b.size := by simp
  by_cases h : zi < 1
  · exact rEnc_loop b zi b.size w hs (by omega) (box (by rw [if_pos h, hbl])) (.inl ⟨h, rfl⟩)
  · exact rEnc_loop b zi zi.toNat w hs (by omega) (box (by rw [if_neg h])) (.inr ⟨h, by omega⟩)

end Go.Proofs.Ythfhoacflkbhhaa.Asc
