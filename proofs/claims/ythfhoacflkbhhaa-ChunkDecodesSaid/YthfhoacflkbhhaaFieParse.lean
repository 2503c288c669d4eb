/- The contracts of fieldline.Parse and of the reference's ParseField. -/
import Derived.Test.YthfhoacflkbhhaaFieFmt
import Derived.Laws.ResultCell
set_option linter.unusedVariables false
set_option linter.unusedSimpArgs false
namespace Go.Proofs.Ythfhoacflkbhhaa.Asc
open Go.RowKit

def fieldV (r : List UInt8 × List UInt8 × Int) : Value := .tuple #[.agg #[.string (bs r.1), .string (bs r.2.1)], .int .i64 r.2.2]
theorem fieldV_mk (a b : List UInt8) (e : Int) : fieldV (a, b, e) = .tuple #[.agg #[.string (bs a), .string (bs b)], .int .i64 e] := rfl
theorem ret_v {a b : Value} (h : a = b) : Ending.returned a = .returned b := by rw [h]

theorem Parse_long (s : ByteArray) (w : World) (hs : s.size ≤ maxLen) (h : 2000 < s.size) :
    Calls Try.prog 34 #[.string s] w fun e w' => e = .returned (fieldV (fieldL s.data.toList)) ∧ Below w.heap.size w w' := by
  unfold maxLen at hs
  go_enter Try.func34, Try.ntmps34
  go_wp2
  (try simp only [Exit.inBlock, Exit.then])
  refine bodyPost_ret (v := fieldV ([], [], 4)) (by rw [results_cell_tmp rfl]; go_simp; rfl) rfl ⟨?_, ?_⟩
  · rw [field_long (by rw [size_list]; exact h)]
  · exact below_new w _
theorem Parse_colon (s : ByteArray) (w : World) (h : ¬ 2000 < s.size) (a b : List UInt8) (HA : Box (cut1 58 s.data.toList = a)) (HB : Box (cut2 58 s.data.toList = b)) (HC : Box (cutB 58 s.data.toList = false)) :
    Calls Try.prog 34 #[.string s] w fun e w' => e = .returned (fieldV (fieldL s.data.toList)) ∧ Below w.heap.size w w' := by
  have S : Box (s.size ≤ maxLen) := box (by unfold maxLen; omega)
  have B2 : Box ((bs b).size ≤ maxLen) := box (by have := cut2_short 58 s.data.toList; rw [size_list, HB.out] at this; rw [bs_size]; unfold maxLen; omega)
  go_enter Try.func34, Try.ntmps34
  go_wp2_with fail
  refine (Cut_any _ _ _ S.out).mono ?_; rintro e w1 ⟨rfl, hb1⟩; unfold cutV; rw [HA.out, HB.out, HC.out]
  have r := (Fld.new ByteArray.empty ByteArray.empty w 33).below hb1 (by simp)
  have rl := r.lt
  obtain ⟨r0, r1, r2, r3⟩ := r
  have b1 := (below_new w _).trans (hb1.mono (below_new w _).size)
  clear hb1
  go_wp2_with fail
  refine (Trim_any _ _ B2.out).mono ?_; rintro e w2 ⟨rfl, rfl⟩; rw [bs_toList]
  go_wp2
  (try simp only [Exit.inBlock, Exit.then])
  refine bodyPost_ret (v := fieldV ([], [], 1)) (by rw [results_cell_tmp rfl]; go_simp; rfl) rfl ⟨?_, ?_⟩
  · rw [field_bad (by rw [size_list]; exact h) (by rw [HC.out]; rfl)]
  · exact (below_set2 b1 _ _).alloc (by simpa using b1.size) _
theorem Parse_bad (s : ByteArray) (w : World) (h : ¬ 2000 < s.size) (a b : List UInt8) (HA : Box (cut1 58 s.data.toList = a)) (HB : Box (cut2 58 s.data.toList = b)) (HC : Box (cutB 58 s.data.toList = true)) (HW : Box ((tokL a && textL b) = false)) :
    Calls Try.prog 34 #[.string s] w fun e w' => e = .returned (fieldV (fieldL s.data.toList)) ∧ Below w.heap.size w w' := by
  have S : Box (s.size ≤ maxLen) := box (by unfold maxLen; omega)
  have A : Box (a.length ≤ 2000) := box (by rw [← HA.out]; have := cut1_short 58 s.data.toList; rw [size_list] at this; omega)
  have B : Box (b.length ≤ 2000) := box (by rw [← HB.out]; have := cut2_short 58 s.data.toList; rw [size_list] at this; omega)
  have A2 : Box ((bs a).size ≤ maxLen) := box (by have := A.out; rw [bs_size]; unfold maxLen; omega)
  have B2 : Box ((bs b).size ≤ maxLen) := box (by have := B.out; rw [bs_size]; unfold maxLen; omega)
  have T2 : Box ((bs (trimL b)).size ≤ maxLen) := box (by have := B.out; have := trim_le b; rw [bs_size]; unfold maxLen; omega)
  have K : Box (wellL a (trimL b) = false) := box (by have := well_cut s.data.toList; rw [HA.out, HB.out, HW.out] at this; exact this)
  go_enter Try.func34, Try.ntmps34
  go_wp2_with fail
  refine (Cut_any _ _ _ S.out).mono ?_; rintro e w1 ⟨rfl, hb1⟩; unfold cutV; rw [HA.out, HB.out, HC.out]
  have r := (Fld.new ByteArray.empty ByteArray.empty w 33).below hb1 (by simp)
  have b1 := (below_new w _).trans (hb1.mono (below_new w _).size)
  clear hb1
  go_wp2_with fail
  refine (Trim_any _ _ B2.out).mono ?_; rintro e w2 ⟨rfl, rfl⟩; rw [bs_toList]
  have R := box r
  clear r
  go_wp2_with fail
  refine (isWellFormed_any (bs a) (bs (trimL b)) _ A2 T2).mono ?_; rintro e w2 ⟨rfl, hb2⟩; rw [bs_toList, bs_toList, K.out]
  obtain ⟨r0, r1, r2, r3⟩ := (R.out.more _).below hb2 (R.out.more _).lt
  have b3 := (b1.alloc b1.size _).trans (hb2.mono (b1.alloc b1.size _).size)
  clear hb2 b1
  go_wp2
  (try simp only [Exit.inBlock, Exit.then])
  refine bodyPost_ret (v := fieldV ([], [], 1)) (by rw [results_cell_tmp rfl]; go_simp; rfl) rfl ⟨?_, ?_⟩
  · rw [field_bad (by rw [size_list]; exact h) (by rw [HA.out, HB.out, HC.out, Bool.true_and, HW.out])]
  · exact below_set2 b3 _ _
theorem Parse_fit (s : ByteArray) (w : World) (h : ¬ 2000 < s.size) (a b : List UInt8) (k : Nat) (HA : Box (cut1 58 s.data.toList = a)) (HB : Box (cut2 58 s.data.toList = b)) (HC : Box (cutB 58 s.data.toList = true)) (HW : Box ((tokL a && textL b) = true)) (HK : Box (lineN a (trimL b) = k)) :
    Calls Try.prog 34 #[.string s] w fun e w' => e = .returned (fieldV (fieldL s.data.toList)) ∧ Below w.heap.size w w' := by
  have S : Box (s.size ≤ maxLen) := box (by unfold maxLen; omega)
  have A : Box (a.length ≤ 2000) := box (by rw [← HA.out]; have := cut1_short 58 s.data.toList; rw [size_list] at this; omega)
  have B : Box (b.length ≤ 2000) := box (by rw [← HB.out]; have := cut2_short 58 s.data.toList; rw [size_list] at this; omega)
  have A2 : Box ((bs a).size ≤ 65536) := box (by have := A.out; rw [bs_size]; omega)
  have B2 : Box ((bs b).size ≤ maxLen) := box (by have := B.out; rw [bs_size]; unfold maxLen; omega)
  have T2 : Box ((bs (trimL b)).size ≤ 65536) := box (by have := B.out; have := trim_le b; rw [bs_size]; omega)
  have K : Box (wellL a (trimL b) = true) := box (by have := well_cut s.data.toList; rw [HA.out, HB.out, HW.out] at this; exact this)
  go_enter Try.func34, Try.ntmps34
  go_wp2_with fail
  refine (Cut_any _ _ _ S.out).mono ?_; rintro e w1 ⟨rfl, hb1⟩; unfold cutV; rw [HA.out, HB.out, HC.out]
  have r := (Fld.new ByteArray.empty ByteArray.empty w 33).below hb1 (by simp)
  have b1 := (below_new w _).trans (hb1.mono (below_new w _).size)
  clear hb1
  go_wp2_with fail
  refine (Trim_any _ _ B2.out).mono ?_; rintro e w2 ⟨rfl, rfl⟩; rw [bs_toList]
  have R := box r
  clear r
  go_wp2_with fail
  refine (isWellFormed_any (bs a) (bs (trimL b)) _ (small_max A2) (small_max T2)).mono ?_; rintro e w2 ⟨rfl, hb2⟩; rw [bs_toList, bs_toList, K.out]
  have R2 := box ((R.out.more _).below hb2 (R.out.more _).lt)
  have F2 := box ((Fld.new (bs a) (bs (trimL b)) w1 33).below hb2 (by simp))
  have b3 := (b1.alloc b1.size _).trans (hb2.mono (b1.alloc b1.size _).size)
  clear hb2
  obtain ⟨c0, c1, _, _⟩ := F2.out
  go_wp2_with fail
  refine (formattedBytes_any (bs a) (bs (trimL b)) _ A2.out T2.out).mono ?_; rintro e w3 ⟨rfl, hb3⟩; rw [bs_toList, bs_toList, HK.out]
  have b4 := b3.trans (hb3.mono b3.size)
  clear c0 c1
  obtain ⟨c0, c1, _, _⟩ := F2.out.below hb3 F2.out.lt
  obtain ⟨r0, r1, r2, r3⟩ := R2.out.below hb3 R2.out.lt
  clear hb3 b3 b1
  by_cases hk : 2000 < k
  · go_wp2
    (try simp only [Exit.inBlock, Exit.then])
    refine bodyPost_ret (v := fieldV ([], [], 4)) (by rw [results_cell_tmp rfl]; go_simp; rfl) rfl ⟨?_, ?_⟩
    · rw [field_wide (by rw [size_list]; exact h) (by rw [HA.out, HB.out, HC.out, Bool.true_and, HW.out]) (by rw [HA.out, HB.out, HK.out]; exact hk)]
    · exact below_set2 b4 _ _
  · go_wp2
    (try simp only [Exit.inBlock, Exit.then])
    refine bodyPost_ret (v := fieldV (a, trimL b, 0)) (by rw [results_cell_tmp rfl]; go_simp; rfl) rfl ⟨?_, ?_⟩
    · rw [field_ok (by rw [size_list]; exact h) (by rw [HA.out, HB.out, HC.out, Bool.true_and, HW.out]) (by rw [HA.out, HB.out, HK.out]; exact hk), HA.out, HB.out]
    · exact below_set2 b4 _ _
theorem Parse_any (s : ByteArray) (w : World) (hs : s.size ≤ maxLen) :
    Calls Try.prog 34 #[.string s] w fun e w' => e = .returned (fieldV (fieldL s.data.toList)) ∧ Below w.heap.size w w' := by
  by_cases h : 2000 < s.size
  · exact Parse_long s w hs h
  · obtain ⟨a, ha⟩ : ∃ a, cut1 58 s.data.toList = a := ⟨_, rfl⟩
    obtain ⟨b, hb⟩ : ∃ b, cut2 58 s.data.toList = b := ⟨_, rfl⟩
    rcases hc : cutB 58 s.data.toList with _ | _
    · exact Parse_colon s w h a b (box ha) (box hb) (box hc)
    · rcases hw : (tokL a && textL b) with _ | _
      · exact Parse_bad s w h a b (box ha) (box hb) (box hc) (box hw)
      · exact Parse_fit s w h a b _ (box ha) (box hb) (box hc) (box hw) (box rfl)

end Go.Proofs.Ythfhoacflkbhhaa.Asc
