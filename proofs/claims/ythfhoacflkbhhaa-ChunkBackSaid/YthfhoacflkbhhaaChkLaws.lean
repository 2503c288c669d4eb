/- The walks of the laws ChunkDecodes, ChunkEncodes, ChunkBack, ChunkShort. -/
import Derived.Test.YthfhoacflkbhhaaChkMine
import Derived.Test.YthfhoacflkbhhaaChkSpec2
set_option linter.unusedVariables false
set_option linter.unusedSimpArgs false
namespace Go.Proofs.Ythfhoacflkbhhaa.Asc
open Go.RowKit

theorem chunk_awake : decodeL [51, 13, 10, 97, 98, 99, 13, 10, 48, 13, 10, 13, 10, 120] = ([97, 98, 99], 13, 0) := by decide +kernel
theorem awake5_any (w : World) : Calls Try.prog 10 #[] w fun e w' => e = .returned (.bool true) ∧ Below w.heap.size w w' := by
  go_enter Try.func10, Try.ntmps10
  go_wp2_with fail
  refine (cDecode_any _ _ (by decide)).mono ?_; rintro e w1 ⟨rfl, hb1⟩
  rw [show decodeL (⟨#[51, 13, 10, 97, 98, 99, 13, 10, 48, 13, 10, 13, 10, 120]⟩ : ByteArray).data.toList = _ from chunk_awake]
  unfold dcV
  rw [show bs ([97, 98, 99] : List UInt8) = (⟨#[97, 98, 99]⟩ : ByteArray) from rfl]
  go_wp2
  go_ret
  exact ⟨rfl, hb1⟩
theorem encF_len : ∀ (g z : Nat) (b : List UInt8), 1 ≤ z → b.length ≤ 100000 → (encF g z b).length ≤ 13 * b.length
  | 0, z, b, _, _ => by simp [encF]
  | g + 1, z, b, hz, hb => by
    by_cases hbn : b = []
    · subst hbn; simp [encF]
    · have hpos : 0 < b.length := List.length_pos_iff.mpr hbn
      rw [enc_step hbn]
      have ih := encF_len g z (b.drop (min z b.length)) hz (by rw [List.length_drop]; omega)
      have hl : (b.take (min z b.length)).length = min z b.length := by rw [List.length_take]; omega
      have hx := hexL_le (n := min z b.length) (by omega)
      have hc : (chunkT (b.take (min z b.length))).length ≤ 10 + min z b.length := by
        unfold chunkT; simp only [List.length_append, List.length_cons, List.length_nil, hl]; omega
      rw [List.length_append]
      rw [List.length_drop] at ih
      omega
theorem encode_len {b : List UInt8} {z : Int} (hb : b.length ≤ 100000) : (encodeL b z).length ≤ 13 * b.length + 5 ∧ 5 ≤ (encodeL b z).length := by
  unfold encodeL
  have e5 : endT.length = 5 := rfl
  by_cases hbn : b = []
  · subst hbn; simp [encF, e5]
  · have hpos : 0 < b.length := List.length_pos_iff.mpr hbn
    have := encF_len b.length (if z < 1 then b.length else z.toNat) b (by split <;> omega) hb
    rw [List.length_append, e5]; omega
theorem dc_form (x : List UInt8 × Int × Int) : ∃ (s : ByteArray) (n e : Int), dcV x = .tuple #[.string s, .int .i64 n, .int .i64 e] := ⟨_, _, _, rfl⟩
theorem decodes5_walk (s : ByteArray) (w : World) (hs : s.size ≤ maxLen) :
    Calls Try.prog 3 #[.string s] w fun e w' => e = .returned (.bool true) ∧ Below w.heap.size w w' := by
  unfold maxLen at hs
  by_cases h1 : s.size ≤ 6000
  · have h1i : ¬ (6000 : Int) < (s.size : Int) := by omega
    obtain ⟨x, n, e0, hx⟩ := dc_form (decodeL s.data.toList)
    have HX := box hx
    clear hx
    go_enter Try.func3, Try.ntmps3
    go_wp2_with fail
    refine (cDecode_any s _ (by omega)).mono ?_; rintro e w1 ⟨rfl, hb1⟩; rw [HX.out]
    have B1 := box hb1
    clear hb1
    go_wp2_with fail
    refine (rDecode_any s _ (by omega)).mono ?_; rintro e w2 ⟨rfl, hb2⟩; rw [HX.out]
    have B2 := box (B1.out.trans (hb2.mono B1.out.size))
    clear hb2
    go_wp2_with fail
    refine (awake5_any _).mono ?_; rintro e w3 ⟨rfl, hb3⟩
    have B3 := box (B2.out.trans (hb3.mono B2.out.size))
    clear hb3
    go_wp2
    go_ret
    exact ⟨rfl, B3.out⟩
  · have h1i : (6000 : Int) < (s.size : Int) := by omega
    go_enter Try.func3, Try.ntmps3
    go_wp2
    go_ret
    exact ⟨rfl, Below.refl _ _⟩
theorem encodes5_walk (b : ByteArray) (z : Int) (w : World) (hs : b.size ≤ maxLen) (hz : (Lit.int .i64 z).wf = true) :
    Calls Try.prog 4 #[.string b, .int .i64 z] w fun e w' => e = .returned (.bool true) ∧ Below w.heap.size w w' := by
  unfold maxLen at hs
  clear hz
  by_cases h1 : b.size ≤ 3000
  · have h1i : ¬ (3000 : Int) < (b.size : Int) := by omega
    obtain ⟨x, hx⟩ : ∃ x, bs (encodeL b.data.toList z) = x := ⟨_, rfl⟩
    have HX := box hx
    clear hx
    go_enter Try.func4, Try.ntmps4
    go_wp2_with fail
    refine (cEncode_any b z _ (by omega)).mono ?_; rintro e w1 ⟨rfl, hb1⟩; rw [HX.out]
    have B1 := box hb1
    clear hb1
    go_wp2_with fail
    refine (rEncode_any b z _ (by omega)).mono ?_; rintro e w2 ⟨rfl, hb2⟩; rw [HX.out]
    have B2 := box (B1.out.trans (hb2.mono B1.out.size))
    clear hb2
    go_wp2_with fail
    refine (awake5_any _).mono ?_; rintro e w3 ⟨rfl, hb3⟩
    have B3 := box (B2.out.trans (hb3.mono B2.out.size))
    clear hb3
    go_wp2
    go_ret
    exact ⟨rfl, B3.out⟩
  · have h1i : (3000 : Int) < (b.size : Int) := by omega
    go_enter Try.func4, Try.ntmps4
    go_wp2
    go_ret
    exact ⟨rfl, Below.refl _ _⟩
theorem back5_walk (b m : ByteArray) (z : Int) (w : World) (hs : b.size ≤ maxLen) (hm : m.size ≤ maxLen) (hz : (Lit.int .i64 z).wf = true) :
    Calls Try.prog 5 #[.string b, .string m, .int .i64 z] w fun e w' => e = .returned (.bool true) ∧ Below w.heap.size w w' := by
  unfold maxLen at hs hm
  clear hz
  by_cases h1 : b.size ≤ 2000
  · have h1i : ¬ (2000 : Int) < (b.size : Int) := by omega
    by_cases h2 : m.size ≤ 1000
    · have h2i : ¬ (1000 : Int) < (m.size : Int) := by omega
      have hbl : b.data.toList.length = b.size := by simp
      have hln := encode_len (b := b.data.toList) (z := z) (by omega)
      obtain ⟨x, hx⟩ : ∃ x, bs (encodeL b.data.toList z) = x := ⟨_, rfl⟩
      have hxz : x.size = (encodeL b.data.toList z).length := by rw [← hx, bs_size]
      have hxs : x.size ≤ 30000 := by omega
      have HD : Box (dcV (decodeL (x ++ m).data.toList) = .tuple #[.string b, .int .i64 (x.size : Int), .int .i64 0]) := box (by
        have e : (x ++ m).data.toList = encodeL b.data.toList z ++ m.data.toList := by rw [← hx]; simp [ByteArray.data_append, bs]
        rw [e, decode_back (by omega), hxz]; rfl)
      have hxm : (x ++ m).size ≤ 31000 := by rw [ByteArray.size_append]; omega
      have HXM := box hxm
      have HX := box hx
      clear hx hln hbl hxz hxm
      go_enter Try.func5, Try.ntmps5
      go_wp2_with fail
      refine (cEncode_any b z _ (by omega)).mono ?_; rintro e w1 ⟨rfl, hb1⟩; rw [HX.out]
      have B1 := box hb1
      clear hb1
      go_wp2_with fail
      refine (cDecode_any (x ++ m) _ (by have := HXM.out; omega)).mono ?_; rintro e w2 ⟨rfl, hb2⟩; rw [HD.out]
      have B2 := box (B1.out.trans (hb2.mono B1.out.size))
      clear hb2
      go_wp2_with fail
      refine (awake5_any _).mono ?_; rintro e w3 ⟨rfl, hb3⟩
      have B3 := box (B2.out.trans (hb3.mono B2.out.size))
      clear hb3
      go_wp2
      go_ret
      exact ⟨rfl, B3.out⟩
    · have h2i : (1000 : Int) < (m.size : Int) := by omega
      go_enter Try.func5, Try.ntmps5
      go_wp2
      go_ret
      exact ⟨rfl, Below.refl _ _⟩
  · have h1i : (2000 : Int) < (b.size : Int) := by omega
    go_enter Try.func5, Try.ntmps5
    go_wp2
    go_ret
    exact ⟨rfl, Below.refl _ _⟩
theorem short5_walk (b : ByteArray) (z c : Int) (w : World) (hs : b.size ≤ maxLen) (hz : (Lit.int .i64 z).wf = true) (hc : (Lit.int .i64 c).wf = true) :
    Calls Try.prog 6 #[.string b, .int .i64 z, .int .i64 c] w fun e w' => e = .returned (.bool true) ∧ Below w.heap.size w w' := by
  unfold maxLen at hs
  have hcb : -9223372036854775808 ≤ c ∧ c ≤ 9223372036854775807 := by
    simp [Lit.wf, IntKind.min, IntKind.max, IntKind.bits, IntKind.signed] at hc
    omega
  clear hz hc
  by_cases h1 : b.size ≤ 2000
  · have h1i : ¬ (2000 : Int) < (b.size : Int) := by omega
    by_cases h2 : 0 ≤ c
    · have h2i : ¬ c < 0 := by omega
      have hbl : b.data.toList.length = b.size := by simp
      have hln := encode_len (b := b.data.toList) (z := z) (by omega)
      obtain ⟨x, hx⟩ : ∃ x, bs (encodeL b.data.toList z) = x := ⟨_, rfl⟩
      have hxz : x.size = (encodeL b.data.toList z).length := by rw [← hx, bs_size]
      have hxs : x.size ≤ 30000 := by omega
      have hx5 : 5 ≤ x.size := by omega
      obtain ⟨k, hk⟩ : ∃ k : Nat, c % (x.size : Int) = (k : Int) := ⟨(c % (x.size : Int)).toNat, by have := Int.emod_nonneg c (b := (x.size : Int)) (by omega); omega⟩
      have hkl : k < x.size := by have := Int.emod_lt_of_pos c (b := (x.size : Int)) (by omega); omega
      have HD : Box (dcV (decodeL (x.extract 0 k).data.toList) = .tuple #[.string ⟨#[]⟩, .int .i64 0, .int .i64 2]) := box (by
        have e : (x.extract 0 k).data.toList = (encodeL b.data.toList z).take k := by rw [ext_bs, List.drop_zero, ← hx]; rfl
        rw [e, decode_short (by omega) (by omega)]; rfl)
      have HES : Box ((x.extract 0 k).size ≤ 2000000) := box (by rw [ByteArray.size_extract]; omega)
      have hx0 : ((x.size : Int) == 0) = false := by rw [beq_eq_false_iff_ne]; omega
      have hxi : (0 : Int) < (x.size : Int) := by omega
      have hki : (k : Int) ≤ (x.size : Int) := by omega
      have HX := box hx
      clear hx hln hbl hxz
      obtain ⟨hc1, hc2⟩ := hcb
      go_enter Try.func6, Try.ntmps6
      go_wp2_with fail
      refine (cEncode_any b z _ (by omega)).mono ?_; rintro e w1 ⟨rfl, hb1⟩; rw [HX.out]
      have B1 := box hb1
      clear hb1
      go_wp2_with fail
      refine (cDecode_any (x.extract 0 k) _ HES.out).mono ?_; rintro e w2 ⟨rfl, hb2⟩; rw [HD.out]
      have B2 := box (B1.out.trans (hb2.mono B1.out.size))
      clear hb2
      go_wp2_with fail
      refine (awake5_any _).mono ?_; rintro e w3 ⟨rfl, hb3⟩
      have B3 := box (B2.out.trans (hb3.mono B2.out.size))
      clear hb3
      go_wp2
      go_ret
      exact ⟨rfl, B3.out⟩
    · have h2i : c < 0 := by omega
      go_enter Try.func6, Try.ntmps6
      go_wp2
      go_ret
      exact ⟨rfl, Below.refl _ _⟩
  · have h1i : (2000 : Int) < (b.size : Int) := by omega
    go_enter Try.func6, Try.ntmps6
    go_wp2
    go_ret
    exact ⟨rfl, Below.refl _ _⟩

end Go.Proofs.Ythfhoacflkbhhaa.Asc
