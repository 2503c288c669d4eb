/- The walks of the laws FieldlineParses, FieldlineFormats and FieldlineBack. -/
import Derived.Test.YtmhedadollmekaaFieRef
set_option linter.unusedVariables false
set_option linter.unusedSimpArgs false
namespace Go.Proofs.Ytmhedadollmekaa.Asc
open Go.RowKit

theorem field_awake : fieldL [65, 58, 32, 32, 98, 32] = ([65], [98], 0) := by decide
theorem awake3_any (w : World) : Calls Try.prog 11 #[] w fun e w' => e = .returned (.bool true) ∧ Below w.heap.size w w' := by
  go_enter Try.func11, Try.ntmps11
  go_wp2_with fail
  refine (Parse_any _ _ (by decide)).mono ?_; rintro e w1 ⟨rfl, hb1⟩
  rw [show fieldL (⟨#[65, 58, 32, 32, 98, 32]⟩ : ByteArray).data.toList = ([65], [98], 0) from field_awake, fieldV_mk]
  have e1 : (bs [65]).toList = [65] := toList_bs _
  have e2 : (bs [98]).toList = [98] := toList_bs _
  go_wp2
  go_ret
  exact ⟨rfl, hb1.alloc hb1.size _⟩

theorem parses3_in (s : ByteArray) (w : World) (h : s.size ≤ 5000) (S : Box (s.size ≤ maxLen)) (a b : List UInt8) (k : Int) (HF : Box (fieldL s.data.toList = (a, b, k))) :
    Calls Try.prog 3 #[.string s] w fun e w' => e = .returned (.bool true) ∧ Below w.heap.size w w' := by
  go_enter Try.func3, Try.ntmps3
  go_wp2_with fail
  refine (Parse_any _ _ S.out).mono ?_; rintro e w1 ⟨rfl, hb1⟩; rw [HF.out, fieldV_mk]
  go_wp2_with fail
  refine (rParseField_any _ _ S.out).mono ?_; rintro e w2 ⟨rfl, hb2⟩; rw [HF.out, fieldV_mk]
  obtain ⟨c0, c1, _, _⟩ := (Fld.new (bs a) (bs b) w1 23).below hb2 (by simp)
  have b1 := hb1.alloc hb1.size (.cells #[.string (bs a), .string (bs b)] 23)
  have b2 := b1.trans (hb2.mono b1.size)
  have hlt := (Fld.new (bs a) (bs b) w1 23).below hb2 (by simp) |>.lt
  clear hb1 hb2
  go_wp2_with fail
  refine (awake3_any _).mono ?_; rintro e w3 ⟨rfl, hb3⟩
  go_wp2
  go_ret
  exact ⟨rfl, (b2.alloc b2.size _).trans (hb3.mono (b2.alloc b2.size _).size)⟩
theorem parses3_walk (s : ByteArray) (w : World) (hs : s.size ≤ maxLen) :
    Calls Try.prog 3 #[.string s] w fun e w' => e = .returned (.bool true) ∧ Below w.heap.size w w' := by
  by_cases h : 5000 < s.size
  · unfold maxLen at hs
    go_enter Try.func3, Try.ntmps3
    go_wp2
    go_ret
    exact ⟨rfl, Below.refl _ _⟩
  · obtain ⟨a, b, k, hk⟩ : ∃ a b k, fieldL s.data.toList = (a, b, k) := ⟨_, _, _, rfl⟩
    exact parses3_in s w (by omega) (box hs) a b k (box hk)

set_option maxHeartbeats 800000 in
theorem formats3_in (n v : ByteArray) (w : World) (hn : n.size ≤ 3000) (hv : v.size ≤ 3000) (k : Bool) (HK : Box (validL n.data.toList v.data.toList = k)) (l : List UInt8) (HL : Box (fmtFL n.data.toList v.data.toList = l)) :
    Calls Try.prog 4 #[.agg #[.string n, .string v]] w fun e w' => e = .returned (.bool true) ∧ Below w.heap.size w w' := by
  have N : Box (n.size ≤ 65536) := box (by omega)
  have V : Box (v.size ≤ 65536) := box (by omega)
  have F0 := box (Fld.new n v w 23).drew
  go_enter Try.func4, Try.ntmps4
  go_wp2_with fail
  go_region_held3 (fun w' => w'.cell? ⟨w.heap.size, 0, none⟩ = some (.string n) ∧ w'.cell? ⟨w.heap.size, 1, none⟩ = some (.string v))
    (first | (exact ⟨F5.out.1, F5.out.2.1⟩) | (exact ⟨F4.out.1, F4.out.2.1⟩) | (exact ⟨F3.out.1, F3.out.2.1⟩) | (exact ⟨F2.out.1, F2.out.2.1⟩) | (exact ⟨F1.out.1, F1.out.2.1⟩) | (exact ⟨F0.out.1, F0.out.2.1⟩) | go_keep)
    (first | (go_at_call 12; refine (Valid_any _ _ _ N V).mono ?_; rintro e w1 ⟨rfl, hb1⟩; rw [HK.out]; have F1 := box (F0.out.below hb1 F0.out.lt)) | (go_at_call 13; refine (rValidField_any _ _ _ N V).mono ?_; rintro e w2 ⟨rfl, hb2⟩; rw [HK.out]; have F2 := box (F1.out.below hb2 F1.out.lt)) | (go_at_call 14; refine (Format_any _ _ _ N V).mono ?_; rintro e w3 ⟨rfl, hb3⟩; rw [HL.out]; have F3 := box (F2.out.below hb3 F2.out.lt)) | (go_at_call 15; refine (rFormatField_any _ _ _ N V).mono ?_; rintro e w4 ⟨rfl, hb4⟩; rw [HL.out]; have F4 := box (F3.out.below hb4 F3.out.lt)) | (go_at_call 11; refine (awake3_any _).mono ?_; rintro e w5 ⟨rfl, hb5⟩; have F5 := box (F4.out.below hb5 F4.out.lt)))
  have b0 := (below_new w (.cells #[.string n, .string v] 23)).drew
  have b1 := b0.trans (hb1.mono b0.size)
  have b2 := b1.trans (hb2.mono b1.size)
  have b3 := b2.trans (hb3.mono b2.size)
  have b4 := b3.trans (hb4.mono b3.size)
  have b5 := b4.trans (hb5.mono b4.size)
  clear b0 b1 b2 b3 b4 hb1 hb2 hb3 hb4 hb5
  go_wp2
  go_ret
  exact ⟨rfl, b5⟩
theorem formats3_walk (n v : ByteArray) (w : World) (hn : n.size ≤ maxLen) (hv : v.size ≤ maxLen) :
    Calls Try.prog 4 #[.agg #[.string n, .string v]] w fun e w' => e = .returned (.bool true) ∧ Below w.heap.size w w' := by
  by_cases h1 : 3000 < n.size
  · unfold maxLen at hn hv
    go_enter Try.func4, Try.ntmps4
    go_wp2
    go_ret
    exact ⟨rfl, below_new _ _⟩
  · by_cases h2 : 3000 < v.size
    · unfold maxLen at hn hv
      go_enter Try.func4, Try.ntmps4
      go_wp2
      go_ret
      exact ⟨rfl, below_new _ _⟩
    · exact formats3_in n v w (by omega) (by omega) _ (box rfl) _ (box rfl)

theorem back3_no (n v : ByteArray) (w : World) (hn : n.size ≤ 3000) (hv : v.size ≤ 3000) (HK : Box (validL n.data.toList v.data.toList = false)) :
    Calls Try.prog 7 #[.agg #[.string n, .string v]] w fun e w' => e = .returned (.bool true) ∧ Below w.heap.size w w' := by
  have N : Box (n.size ≤ 65536) := box (by omega)
  have V : Box (v.size ≤ 65536) := box (by omega)
  go_enter Try.func7, Try.ntmps7
  go_wp2_with fail
  refine (rValidField_any _ _ _ N V).mono ?_; rintro e w1 ⟨rfl, hb1⟩; rw [HK.out]
  have b1 := (below_new w _).trans (hb1.mono (below_new w _).size)
  clear hb1
  go_wp2
  go_ret
  exact ⟨rfl, b1⟩
theorem back3_yes (n v : ByteArray) (w : World) (hn : n.size ≤ 3000) (hv : v.size ≤ 3000) (HK : Box (validL n.data.toList v.data.toList = true)) :
    Calls Try.prog 7 #[.agg #[.string n, .string v]] w fun e w' => e = .returned (.bool true) ∧ Below w.heap.size w w' := by
  have N : Box (n.size ≤ 65536) := box (by omega)
  have V : Box (v.size ≤ 65536) := box (by omega)
  have L : Box ((bs (lineL n.data.toList v.data.toList)).size ≤ maxLen) := box (by rw [bs_size, lineN_eq]; have := (valid_parts HK.out).2.2.2; unfold maxLen; omega)
  go_enter Try.func7, Try.ntmps7
  go_wp2_with fail
  refine (rValidField_any _ _ _ N V).mono ?_; rintro e w1 ⟨rfl, hb1⟩; rw [HK.out]
  have F1 := box ((Fld.new n v w 23).below hb1 (by simp))
  have b1 := (below_new w _).trans (hb1.mono (below_new w _).size)
  clear hb1
  obtain ⟨c0, c1, _, _⟩ := F1.out
  go_wp2_with fail
  refine (Format_any _ _ _ N V).mono ?_; rintro e w2 ⟨rfl, hb2⟩; rw [fmtF_yes HK.out]
  have F2 := box (F1.out.below hb2 F1.out.lt)
  have b2 := b1.trans (hb2.mono b1.size)
  clear hb2 b1 c0 c1
  go_wp2_with fail
  refine (Parse_any _ _ L.out).mono ?_; rintro e w3 ⟨rfl, hb3⟩; rw [bs_toList, field_back HK.out, fieldV_mk, ← bs_of, ← bs_of]
  have F3 := box (F2.out.below hb3 F2.out.lt)
  have b3 := b2.trans (hb3.mono b2.size)
  clear hb3 b2
  obtain ⟨c0, c1, _, _⟩ := F3.out
  have hlt := F3.out.lt
  go_wp2_with fail
  refine (awake3_any _).mono ?_; rintro e w4 ⟨rfl, hb4⟩
  go_wp2
  go_ret
  exact ⟨rfl, (b3.alloc b3.size _).trans (hb4.mono (b3.alloc b3.size _).size)⟩
theorem back3_walk (n v : ByteArray) (w : World) (hn : n.size ≤ maxLen) (hv : v.size ≤ maxLen) :
    Calls Try.prog 7 #[.agg #[.string n, .string v]] w fun e w' => e = .returned (.bool true) ∧ Below w.heap.size w w' := by
  by_cases h1 : 3000 < n.size
  · unfold maxLen at hn hv
    go_enter Try.func7, Try.ntmps7
    go_wp2
    go_ret
    exact ⟨rfl, below_new _ _⟩
  · by_cases h2 : 3000 < v.size
    · unfold maxLen at hn hv
      go_enter Try.func7, Try.ntmps7
      go_wp2
      go_ret
      exact ⟨rfl, below_new _ _⟩
    · rcases h3 : validL n.data.toList v.data.toList with _ | _
      · exact back3_no n v w (by omega) (by omega) (box h3)
      · exact back3_yes n v w (by omega) (by omega) (box h3)

end Go.Proofs.Ytmhedadollmekaa.Asc
