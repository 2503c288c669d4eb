/- Merged texts: FieParse ChkRef3 TarDec TarSet TarAny TarIdx ChkAny. -/
import Derived.Test.YtjabcfabenobiaaM01
import Derived.Test.YtjabcfabenobiaaM02
import Derived.Test.YtjabcfabenobiaaM03
import Derived.Deep.LoopGhost
import Derived.Deep.WholeRow
import Derived.IntWalk
import Derived.Laws.RangeAny
import Derived.Laws.ResultCell
import Derived.Laws.Runes
import Derived.Laws.Strings3
import Derived.Laws.Tables
import Derived.Lib.AsciiSet
import Derived.Lib.DecodeN
import Derived.Lib.IndexAny
import Derived.Lib.Strings
import Derived.WalkMore
set_option linter.unusedVariables false
set_option linter.unusedSimpArgs false
set_option maxRecDepth 100000
namespace Go.Proofs.Ytjabcfabenobiaa.Asc
section
open Go.RowKit
def fieldV (r : List UInt8 × List UInt8 × Int) : Value := .tuple #[.agg #[.string (bs r.1), .string (bs r.2.1)], .int .i64 r.2.2]
theorem fieldV_mk (a b : List UInt8) (e : Int) : fieldV (a, b, e) = .tuple #[.agg #[.string (bs a), .string (bs b)], .int .i64 e] := rfl
theorem Parse_long (s : ByteArray) (w : World) (hs : s.size ≤ maxLen) (h : 2000 < s.size) :
    Calls Try.prog 49 #[.string s] w fun e w' => e = .returned (fieldV (fieldL s.data.toList)) ∧ Below w.heap.size w w' := by
  unfold maxLen at hs
  go_enter Try.func49, Try.ntmps49
  go_wp2
  (try simp only [Exit.inBlock, Exit.then])
  refine bodyPost_ret (v := fieldV ([], [], 4)) (by rw [results_cell_tmp rfl]; go_simp; rfl) rfl ⟨?_, ?_⟩
  · rw [field_long (by rw [sizeL_of]; exact h)]
  · exact below_new w _
theorem Parse_colon (s : ByteArray) (w : World) (h : ¬ 2000 < s.size) (a b : List UInt8) (HA : Box (cut1 58 s.data.toList = a)) (HB : Box (cut2 58 s.data.toList = b)) (HC : Box (cutB 58 s.data.toList = false)) :
    Calls Try.prog 49 #[.string s] w fun e w' => e = .returned (fieldV (fieldL s.data.toList)) ∧ Below w.heap.size w w' := by
  have S : Box (s.size ≤ maxLen) := box (by unfold maxLen; omega)
  have B2 : Box ((bs b).size ≤ maxLen) := box (by have := cut2_short 58 s.data.toList; rw [sizeL_of, HB.out] at this; rw [bs_size]; unfold maxLen; omega)
  go_enter Try.func49, Try.ntmps49
  go_wp2_with fail
  refine (Cut_any _ _ _ S.out).mono ?_; rintro e w1 ⟨rfl, hb1⟩; unfold cutV; rw [HA.out, HB.out, HC.out]
  have r := (Fld.new ByteArray.empty ByteArray.empty w 39).below hb1 (by simp)
  have rl := r.lt
  obtain ⟨r0, r1, r2, r3⟩ := r
  have b1 := (below_new w _).trans (hb1.mono (below_new w _).size)
  clear hb1
  go_wp2_with fail
  refine (Trim_any _ _ B2.out).mono ?_; rintro e w2 ⟨rfl, rfl⟩; rw [bs_toList]
  go_wp2
  (try simp only [Exit.inBlock, Exit.then])
  refine bodyPost_ret (v := fieldV ([], [], 1)) (by rw [results_cell_tmp rfl]; go_simp; rfl) rfl ⟨?_, ?_⟩
  · rw [field_bad (by rw [sizeL_of]; exact h) (by rw [HC.out]; rfl)]
  · exact (below_set2 b1 _ _).alloc (by simpa using b1.size) _
theorem Parse_bad (s : ByteArray) (w : World) (h : ¬ 2000 < s.size) (a b : List UInt8) (HA : Box (cut1 58 s.data.toList = a)) (HB : Box (cut2 58 s.data.toList = b)) (HC : Box (cutB 58 s.data.toList = true)) (HW : Box ((tokL a && textL b) = false)) :
    Calls Try.prog 49 #[.string s] w fun e w' => e = .returned (fieldV (fieldL s.data.toList)) ∧ Below w.heap.size w w' := by
  have S : Box (s.size ≤ maxLen) := box (by unfold maxLen; omega)
  have A : Box (a.length ≤ 2000) := box (by rw [← HA.out]; have := cut1_short 58 s.data.toList; rw [sizeL_of] at this; omega)
  have B : Box (b.length ≤ 2000) := box (by rw [← HB.out]; have := cut2_short 58 s.data.toList; rw [sizeL_of] at this; omega)
  have A2 : Box ((bs a).size ≤ maxLen) := box (by have := A.out; rw [bs_size]; unfold maxLen; omega)
  have B2 : Box ((bs b).size ≤ maxLen) := box (by have := B.out; rw [bs_size]; unfold maxLen; omega)
  have T2 : Box ((bs (trimL b)).size ≤ maxLen) := box (by have := B.out; have := trim_le b; rw [bs_size]; unfold maxLen; omega)
  have K : Box (wellL a (trimL b) = false) := box (by have := well_cut s.data.toList; rw [HA.out, HB.out, HW.out] at this; exact this)
  go_enter Try.func49, Try.ntmps49
  go_wp2_with fail
  refine (Cut_any _ _ _ S.out).mono ?_; rintro e w1 ⟨rfl, hb1⟩; unfold cutV; rw [HA.out, HB.out, HC.out]
  have r := (Fld.new ByteArray.empty ByteArray.empty w 39).below hb1 (by simp)
  have b1 := (below_new w _).trans (hb1.mono (below_new w _).size)
  clear hb1
  go_wp2_with fail
  refine (Trim_any _ _ B2.out).mono ?_; rintro e w2 ⟨rfl, rfl⟩; rw [bs_toList]
  have R := box r
  clear r
  go_wp2_with fail
  refine (isWellFormed_any (bs a) (bs (trimL b)) _ A2 T2).mono ?_; rintro e w2 ⟨rfl, hb2⟩; rw [bs_toList, bs_toList, K.out]
  obtain ⟨r0, r1, r2, r3⟩ := (R.out.more _).below hb2 (R.out.more _).lt
  have b3 := (b1.alloc b1.size _).trans (hb2.mono (b1.alloc b1.size _).size)
  clear hb2 b1
  go_wp2
  (try simp only [Exit.inBlock, Exit.then])
  refine bodyPost_ret (v := fieldV ([], [], 1)) (by rw [results_cell_tmp rfl]; go_simp; rfl) rfl ⟨?_, ?_⟩
  · rw [field_bad (by rw [sizeL_of]; exact h) (by rw [HA.out, HB.out, HC.out, Bool.true_and, HW.out])]
  · exact below_set2 b3 _ _
theorem Parse_fit (s : ByteArray) (w : World) (h : ¬ 2000 < s.size) (a b : List UInt8) (k : Nat) (HA : Box (cut1 58 s.data.toList = a)) (HB : Box (cut2 58 s.data.toList = b)) (HC : Box (cutB 58 s.data.toList = true)) (HW : Box ((tokL a && textL b) = true)) (HK : Box (lineN a (trimL b) = k)) :
    Calls Try.prog 49 #[.string s] w fun e w' => e = .returned (fieldV (fieldL s.data.toList)) ∧ Below w.heap.size w w' := by
  have S : Box (s.size ≤ maxLen) := box (by unfold maxLen; omega)
  have A : Box (a.length ≤ 2000) := box (by rw [← HA.out]; have := cut1_short 58 s.data.toList; rw [sizeL_of] at this; omega)
  have B : Box (b.length ≤ 2000) := box (by rw [← HB.out]; have := cut2_short 58 s.data.toList; rw [sizeL_of] at this; omega)
  have A2 : Box ((bs a).size ≤ 65536) := box (by have := A.out; rw [bs_size]; omega)
  have B2 : Box ((bs b).size ≤ maxLen) := box (by have := B.out; rw [bs_size]; unfold maxLen; omega)
  have T2 : Box ((bs (trimL b)).size ≤ 65536) := box (by have := B.out; have := trim_le b; rw [bs_size]; omega)
  have K : Box (wellL a (trimL b) = true) := box (by have := well_cut s.data.toList; rw [HA.out, HB.out, HW.out] at this; exact this)
  go_enter Try.func49, Try.ntmps49
  go_wp2_with fail
  refine (Cut_any _ _ _ S.out).mono ?_; rintro e w1 ⟨rfl, hb1⟩; unfold cutV; rw [HA.out, HB.out, HC.out]
  have r := (Fld.new ByteArray.empty ByteArray.empty w 39).below hb1 (by simp)
  have b1 := (below_new w _).trans (hb1.mono (below_new w _).size)
  clear hb1
  go_wp2_with fail
  refine (Trim_any _ _ B2.out).mono ?_; rintro e w2 ⟨rfl, rfl⟩; rw [bs_toList]
  have R := box r
  clear r
  go_wp2_with fail
  refine (isWellFormed_any (bs a) (bs (trimL b)) _ (small_max A2) (small_max T2)).mono ?_; rintro e w2 ⟨rfl, hb2⟩; rw [bs_toList, bs_toList, K.out]
  have R2 := box ((R.out.more _).below hb2 (R.out.more _).lt)
  have F2 := box ((Fld.new (bs a) (bs (trimL b)) w1 39).below hb2 (by simp))
  have b3 := (b1.alloc b1.size _).trans (hb2.mono (b1.alloc b1.size _).size)
  clear hb2
  obtain ⟨c0, c1, _, _⟩ := F2.out
  go_wp2_with fail
  refine (formattedBytes_any (bs a) (bs (trimL b)) _ A2.out T2.out).mono ?_; rintro e w3 ⟨rfl, hb3⟩; rw [bs_toList, bs_toList, HK.out]
  have b4 := b3.trans (hb3.mono b3.size)
  clear c0 c1
  obtain ⟨c0, c1, _, _⟩ := F2.out.below hb3 F2.out.lt
  obtain ⟨r0, r1, r2, r3⟩ := R2.out.below hb3 R2.out.lt
  clear hb3 b3 b1
  by_cases hk : 2000 < k
  · go_wp2
    (try simp only [Exit.inBlock, Exit.then])
    refine bodyPost_ret (v := fieldV ([], [], 4)) (by rw [results_cell_tmp rfl]; go_simp; rfl) rfl ⟨?_, ?_⟩
    · rw [field_wide (by rw [sizeL_of]; exact h) (by rw [HA.out, HB.out, HC.out, Bool.true_and, HW.out]) (by rw [HA.out, HB.out, HK.out]; exact hk)]
    · exact below_set2 b4 _ _
  · go_wp2
    (try simp only [Exit.inBlock, Exit.then])
    refine bodyPost_ret (v := fieldV (a, trimL b, 0)) (by rw [results_cell_tmp rfl]; go_simp; rfl) rfl ⟨?_, ?_⟩
    · rw [field_ok (by rw [sizeL_of]; exact h) (by rw [HA.out, HB.out, HC.out, Bool.true_and, HW.out]) (by rw [HA.out, HB.out, HK.out]; exact hk), HA.out, HB.out]
    · exact below_set2 b4 _ _
theorem Parse_any (s : ByteArray) (w : World) (hs : s.size ≤ maxLen) :
    Calls Try.prog 49 #[.string s] w fun e w' => e = .returned (fieldV (fieldL s.data.toList)) ∧ Below w.heap.size w w' := by
  by_cases h : 2000 < s.size
  · exact Parse_long s w hs h
  · obtain ⟨a, ha⟩ : ∃ a, cut1 58 s.data.toList = a := ⟨_, rfl⟩
    obtain ⟨b, hb⟩ : ∃ b, cut2 58 s.data.toList = b := ⟨_, rfl⟩
    rcases hc : cutB 58 s.data.toList with _ | _
    · exact Parse_colon s w h a b (box ha) (box hb) (box hc)
    · rcases hw : (tokL a && textL b) with _ | _
      · exact Parse_bad s w h a b (box ha) (box hb) (box hc) (box hw)
      · exact Parse_fit s w h a b _ (box ha) (box hb) (box hc) (box hw) (box rfl)
end
section
open Go.RowKit
def dcV (x : List UInt8 × Int × Int) : Value := .tuple #[.string (bs x.1), .int .i64 x.2.1, .int .i64 x.2.2]
theorem dec_bad {s : List UInt8} {f : Nat} {body l : List UInt8} {e : Int} (h : chunksF (s.length + 1) [] s = chunksF (f + 1) body l) (hc : chunkL body l = .bad e) : decodeL s = ([], 0, e) := by
  unfold decodeL decS; rw [h, chunks_bad hc]; rfl
theorem dec_last {s : List UInt8} {f : Nat} {body l r : List UInt8} (h : chunksF (s.length + 1) [] s = chunksF (f + 1) body l) (hc : chunkL body l = .last r) : decodeL s = match trailF 66 0 r with | .inl e => ([], 0, e) | .inr r2 => (body, (s.length : Int) - r2.length, 0) := by
  unfold decodeL decS; rw [h, chunks_last hc]
  simp only
  cases trailF 66 0 r <;> rfl
theorem ck_next {body l : List UInt8} {e : Int} (h : nextL l = .inl e) : chunkL body l = .bad e := by unfold chunkL; rw [h]
theorem ck_size {body l t r : List UInt8} (h : nextL l = .inr (t, r)) (hs : sizeL t = none) : chunkL body l = .bad 1 := by unfold chunkL; rw [h]; simp only [hs]
theorem ck_body {body l t r : List UInt8} {n : Nat} (h : nextL l = .inr (t, r)) (hs : sizeL t = some n) (hn : 100000 < n + body.length) : chunkL body l = .bad 5 := by unfold chunkL; rw [h]; simp only [hs]; rw [if_pos hn]
theorem ck_last {body l t r : List UInt8} (h : nextL l = .inr (t, r)) (hs : sizeL t = some 0) (hn : ¬ 100000 < 0 + body.length) : chunkL body l = .last r := by unfold chunkL; rw [h]; simp only [hs]; rw [if_neg hn]; simp
theorem ck_short {body l t r : List UInt8} {n : Nat} (h : nextL l = .inr (t, r)) (hs : sizeL t = some n) (hn : ¬ 100000 < n + body.length) (h0 : n ≠ 0) (hr : r.length < n) : chunkL body l = .bad 2 := by
  unfold chunkL; rw [h]; simp only [hs]; rw [if_neg hn, if_neg h0, if_pos hr]
theorem ck_short2 {body l t r : List UInt8} {n : Nat} (h : nextL l = .inr (t, r)) (hs : sizeL t = some n) (hn : ¬ 100000 < n + body.length) (h0 : n ≠ 0) (hr : ¬ r.length < n) (he : r.drop n = [] ∨ r.drop n = [13]) : chunkL body l = .bad 2 := by
  unfold chunkL; rw [h]; simp only [hs]; rw [if_neg hn, if_neg h0, if_neg hr, if_pos he]
theorem ck_syntax {body l t r : List UInt8} {n : Nat} (h : nextL l = .inr (t, r)) (hs : sizeL t = some n) (hn : ¬ 100000 < n + body.length) (h0 : n ≠ 0) (hr : ¬ r.length < n) (he : ¬ (r.drop n = [] ∨ r.drop n = [13])) (h2 : ¬ (r.drop n).take 2 = [13, 10]) : chunkL body l = .bad 1 := by
  unfold chunkL; rw [h]; simp only [hs]; rw [if_neg hn, if_neg h0, if_neg hr, if_neg he, if_neg h2]
theorem ck_data {body l t r : List UInt8} {n : Nat} (h : nextL l = .inr (t, r)) (hs : sizeL t = some n) (hn : ¬ 100000 < n + body.length) (h0 : n ≠ 0) (hr : ¬ r.length < n) (he : ¬ (r.drop n = [] ∨ r.drop n = [13])) (h2 : (r.drop n).take 2 = [13, 10]) : chunkL body l = .data (r.take n) (r.drop (n + 2)) := by
  unfold chunkL; rw [h]; simp only [hs]; rw [if_neg hn, if_neg h0, if_neg hr, if_neg he, if_pos h2]
theorem rNext_ok {s : ByteArray} {f nx : Nat} {t : List UInt8} {w : World} (hs : s.size ≤ 4000000) (hf : f ≤ s.size) (hn : nx ≤ s.size) (h : Box (nextL (s.data.toList.drop f) = .inr (t, s.data.toList.drop nx))) :
    Calls Try.prog 10 #[.string s, .int .i64 f] w fun e w' => e = .returned (.tuple #[.string (bs t), .int .i64 nx, .int .i64 0]) ∧ w = w' :=
  (rNextLine_any s f w hs hf).mono fun e w' ⟨h1, h2⟩ => ⟨by
    rw [h1, h.out]
    unfold nlV
    simp only [List.length_drop]
    have hz : s.data.toList.length = s.size := by simp
    rw [hz]
    have : (s.size : Int) - ((s.size - nx : Nat) : Int) = (nx : Int) := by omega
    rw [this], h2⟩
theorem err_size {e : Int} {l : List UInt8} (h : nextL l = .inl e) : e = 1 ∨ e = 2 ∨ e = 4 := by
  unfold nextL at h
  split at h
  · cases h; exact .inr (.inr rfl)
  · split at h
    · cases h; exact .inr (.inl rfl)
    · split at h
      · cases h; exact .inl rfl
      · cases h; exact .inr (.inl rfl)
    · split at h
      · cases h; exact .inl rfl
      · split at h
        · cases h
        · cases h; exact .inl rfl
theorem size_bd {t : List UInt8} {n : Nat} (h : sizeL t = some n) : n < 4294967296 := by
  unfold sizeL at h
  split at h
  · rename_i hk
    cases h
    unfold sizeOk at hk
    simp only [Bool.and_eq_true, decide_eq_true_eq] at hk
    have h1 := hexN_lt (t.takeWhile hexB) (fun c hc => List.all_eq_true.mp (List.all_takeWhile (p := hexB) (l := t)) c hc)
    exact Nat.lt_of_lt_of_le h1 (Nat.le_trans (Nat.pow_le_pow_right (by omega) hk.1.1.2) (by decide))
  · cases h
end
section
theorem decN_high (n b0 b1 b2 b3 : Nat) (hn : 1 ≤ n) (h0 : 128 ≤ b0) (h1 : b0 < 256) :
    128 ≤ (Lib.decodeN n b0 b1 b2 b3).1 ∧ ((Lib.decodeN n b0 b1 b2 b3).1 < 55296 ∨ (57344 ≤ (Lib.decodeN n b0 b1 b2 b3).1 ∧ (Lib.decodeN n b0 b1 b2 b3).1 ≤ 1114111)) ∧
    1 ≤ (Lib.decodeN n b0 b1 b2 b3).2 ∧ (Lib.decodeN n b0 b1 b2 b3).2 ≤ n ∧ (Lib.decodeN n b0 b1 b2 b3).2 ≤ 4 ∧ (2 ≤ (Lib.decodeN n b0 b1 b2 b3).2 → 128 ≤ b1) ∧ (3 ≤ (Lib.decodeN n b0 b1 b2 b3).2 → 128 ≤ b2) ∧ (4 ≤ (Lib.decodeN n b0 b1 b2 b3).2 → 128 ≤ b3) := by
  unfold Lib.decodeN
  repeat' split
  all_goals (simp only; omega)
theorem decode_max (s : ByteArray) (i : Nat) : (Utf8.decode s i).1 ≤ 1114111 := by
  rw [Lib.decode_at]
  have h := UInt8.toNat_lt (s.get! i)
  generalize (s.get! i).toNat = b0 at *
  unfold Lib.decodeN
  repeat' split
  all_goals (simp only; omega)
theorem get_bang (s : ByteArray) (j : Nat) (h : j < s.size) : s.get! j = s[j] := by
  simp [ByteArray.get!, getElem!_pos, h]; rfl
theorem valid_of {r : Nat} (h : r < 55296 ∨ (57344 ≤ r ∧ r ≤ 1114111)) : Utf8.valid (r : Int) = true := by
  simp only [Utf8.valid]
  rcases h with h | h <;> simp <;> omega
end
section
open Go.RowKit
theorem set_info : (Try.prog.info? 95).map (fun i => (i.zero, i.size)) = some (some (.agg (Array.replicate 256 (.bool false))), 256) := by kernel_rfl
theorem contains_any (b : Nat) (x : UInt8) (v : Bool) (w : World) (hc : w.cell? ⟨b, x.toNat, none⟩ = some (.bool v)) :
    Calls Try.prog 79 #[.pointer (some ⟨b, 0, none⟩), .int .u8 x.toNat] w fun e w' => e = .returned (.bool v) ∧ w = w' := by
  have hx256 : (x.toNat : Int) < 256 := by have := UInt8.toNat_lt x; omega
  go_enter Try.func79, Try.ntmps79
  go_wp2
  go_ret
  exact ⟨rfl, rfl⟩
end
section
open Go.RowKit
theorem sIndexByte_any (s : ByteArray) (c : Int) (w : World) :
    Calls Try.prog 91 #[.string s, .int .u8 c] w fun e w' => e = .returned (.int .i64 (Lib.indexByte s.data.toList c.toNat.toUInt8)) ∧ w = w' := by
  go_enter Try.func91, Try.ntmps91
  go_wp2_with fail
  refine (IndexByte_any s c _).mono ?_; rintro e w1 ⟨rfl, rfl⟩
  go_wp2
  go_ret
  exact ⟨rfl, rfl⟩
set_option maxRecDepth 1000000 in
set_option maxHeartbeats 2000000 in
theorem sIndexRune_ascii (s : ByteArray) (c : UInt8) (w : World) (hc : c.toNat < 128) :
    Calls Try.prog 76 #[.string s, .int .i32 c.toNat] w fun e w' => e = .returned (.int .i64 (Lib.indexByte s.data.toList c)) ∧ w = w' := by
  have hci : (c.toNat : Int) < 128 := by omega
  have hback : ((c.toNat : Int)).toNat.toUInt8 = c := by simp
  have HB := box hback
  clear hback
  go_enter Try.func76, Try.ntmps76
  go_wp2_with fail
  refine (sIndexByte_any s _ _).mono ?_; rintro e w1 ⟨rfl, rfl⟩; rw [HB.out]
  go_wp2
  (try rw [Exit.noGoto_ret])
  go_ret
  exact ⟨rfl, rfl⟩
theorem sShould_any (n : Int) (w : World) :
    Calls Try.prog 77 #[.int .i64 n] w fun e w' => e = .returned (.bool (decide (8 < n))) ∧ w = w' := by
  go_enter Try.func77, Try.ntmps77
  go_wp2
  go_ret
  exact ⟨rfl, rfl⟩
theorem below_iter (w : World) (s : ByteArray) (p : Nat) : Below w.heap.size w (w.iter s p) := (Below.refl _ _).alloc (Nat.le_refl _) _
theorem idx_empty (c : Int) (w : World) :
    Calls Try.prog 91 #[.string ByteArray.empty, .int .u8 c] w fun e w' => e = .returned (.int .i64 (-1)) ∧ w = w' :=
  (sIndexByte_any ByteArray.empty c w).mono fun e w' ⟨h1, h2⟩ => ⟨by rw [h1]; rfl, h2⟩
theorem valid_any (r : Int) (w : World) (hv : Box (Utf8.valid r = true)) (h0 : 128 ≤ r) (h1 : r ≤ 1114111) :
    Calls Try.prog 92 #[.int .i32 r] w fun e w' => e = .returned (.bool true) ∧ w = w' := by
  have hr : r < 55296 ∨ 57343 < r := by
    have := hv.out
    simp only [Utf8.valid] at this
    simp at this; omega
  rcases hr with hr | hr
  · go_enter Try.func92, Try.ntmps92
    go_wp2
    go_ret
    exact ⟨rfl, rfl⟩
  · go_enter Try.func92, Try.ntmps92
    go_wp2
    go_ret
    exact ⟨rfl, rfl⟩
end
section
open Go.RowKit
/-- the iterator at block k stands at p -/
def setIter (w : World) (k : Nat) (s : ByteArray) (p : Nat) : World := { w with heap := w.heap.setIfInBounds k (.stringIter s p) }
theorem run_next_at {P : Program} (w : World) (k : Nat) (s : ByteArray) (pos : Nat) (ty : TypeId) (hh : w.heap[k]? = some (.stringIter s pos)) (h : pos < s.size) :
    (Instr.next (.pointer (some ⟨k, 0, none⟩)) true ty).run P w = .ok (.tuple #[.bool true, .int .i64 pos, .int .i32 (Utf8.decode s pos).1]) (setIter w k s (pos + (Utf8.decode s pos).2)) := by
  simp only [Instr.next, getObj, setObj, Sem.run_bind, Sem.run, hh, Result.andThen, h, if_true]
  simp [goInt, setIter]
theorem run_next_stop {P : Program} (w : World) (k : Nat) (s : ByteArray) (pos : Nat) (ty : TypeId) (hh : w.heap[k]? = some (.stringIter s pos)) (h : ¬ pos < s.size) :
    (Instr.next (.pointer (some ⟨k, 0, none⟩)) true ty).run P w = .ok (.tuple #[.bool false]) w := by
  simp [Instr.next, getObj, Sem.run, hh, h]
theorem setIter_heap {w : World} {k : Nat} {s : ByteArray} {p : Nat} {o : Obj} (h : w.heap[k]? = some o) : (setIter w k s p).heap[k]? = some (.stringIter s p) := by
  have := (Array.getElem?_eq_some_iff.1 h).1
  simp [setIter, this]
theorem setIter_below {w w' : World} {B k : Nat} {s : ByteArray} {p : Nat} (h : Below B w w') (hk : B ≤ k) : Below B w (setIter w' k s p) :=
  h.trans ⟨rfl, rfl, rfl, by simp [setIter], fun j hj => by
    simp only [setIter]
    rw [Array.getElem?_setIfInBounds_ne (by omega)]⟩
theorem size_alloc1 (w : World) (o : Obj) : (w.alloc o).heap.size = w.heap.size + 1 := by simp
end
section
open Go.RowKit
/-- slash and question mark -/
def crlf2 : List UInt8 := [13, 10]
theorem ends_high_crlf {c : UInt8} (h : 128 ≤ c.toNat) : crlf2.contains c = false := by
  have key : ∀ x : Fin 256, 128 ≤ x.1 → crlf2.contains (UInt8.ofNat x.1) = false := by decide +kernel
  have := key ⟨c.toNat, c.toNat_lt⟩ h
  simpa using this
theorem noAny_high_crlf {s : ByteArray} {i : Nat} (h : i < s.size) (hb : 128 ≤ s[i].toNat) (hno : Lib.NoAny s.data.toList crlf2 i) :
    128 ≤ (Utf8.decode s i).1 ∧ Utf8.valid ((Utf8.decode s i).1 : Int) = true ∧ 1 ≤ (Utf8.decode s i).2 ∧ i + (Utf8.decode s i).2 ≤ s.size ∧ Lib.NoAny s.data.toList crlf2 (i + (Utf8.decode s i).2) := by
  have hd := decN_high (s.size - i) (s.get! i).toNat (s.get! (i + 1)).toNat (s.get! (i + 2)).toNat (s.get! (i + 3)).toNat (by omega) (by rw [get_bang s i h]; exact hb) (UInt8.toNat_lt _)
  rw [← Lib.decode_at] at hd
  obtain ⟨d1, d2, d3, d4, d5, d6, d7, d8⟩ := hd
  refine ⟨d1, valid_of d2, d3, by omega, fun j b hj hjb => ?_⟩
  have hlt : j < s.size := by
    have := (List.getElem?_eq_some_iff.1 hjb).1
    simpa using this
  have hs : s.data.toList[j]? = some s[j] := by
    rw [List.getElem?_eq_getElem (by simpa using hlt)]; rfl
  rw [hs] at hjb
  cases hjb
  by_cases e : j < i
  · exact hno j _ e hs
  · by_cases e0 : j = i
    · subst e0; exact ends_high_crlf hb
    · by_cases e1 : j = i + 1
      · subst e1; have := d6 (by omega); rw [get_bang s _ hlt] at this; exact ends_high_crlf this
      · by_cases e2 : j = i + 2
        · subst e2; have := d7 (by omega); rw [get_bang s _ hlt] at this; exact ends_high_crlf this
        · by_cases e3 : j = i + 3
          · subst e3; have := d8 (by omega); rw [get_bang s _ hlt] at this; exact ends_high_crlf this
          · omega
/-- where the search ends is where the first bytes that are neither end -/
theorem any_while_crlf {l : List UInt8} : ∀ {p : UInt8 → Bool}, (∀ c, p c = !(crlf2.contains c)) → (Lib.indexAny l crlf2 = -1 → l.takeWhile p = l) ∧ (∀ k : Nat, Lib.indexAny l crlf2 = k → (l.takeWhile p).length = k ∧ k < l.length) := by
  intro p hp
  induction l with
  | nil => exact ⟨fun _ => rfl, fun k h => by simp [Lib.indexAny] at h⟩
  | cons c r ih =>
    have hge := Lib.indexAny_ge crlf2 r
    rw [Lib.indexAny, List.takeWhile_cons, hp c]
    rcases hc : crlf2.contains c with _ | _
    · simp only [Bool.false_eq_true, if_false, Bool.not_false, if_true]
      by_cases h1 : Lib.indexAny r crlf2 = -1
      · rw [h1]
        simp only [beq_self_eq_true, if_true]
        exact ⟨fun _ => by rw [ih.1 h1], fun k h => by omega⟩
      · have h2 : (Lib.indexAny r crlf2 == -1) = false := by simpa using h1
        rw [h2]
        simp only [Bool.false_eq_true, if_false]
        refine ⟨fun h => by omega, fun k h => ?_⟩
        obtain ⟨h3, h4⟩ := ih.2 (k - 1) (by omega)
        simp only [List.length_cons]
        omega
    · simp only [if_true, Bool.not_true, Bool.false_eq_true, if_false]
      refine ⟨fun h => by omega, fun k h => ?_⟩
      have : k = 0 := by omega
      subst this; simp
def crlfS : ByteArray := ⟨#[13, 10]⟩
set_option maxHeartbeats 4000000 in
set_option maxRecDepth 1000000 in
theorem makeSet_any_crlf (w : World) :
    Calls Try.prog 78 #[.string crlfS] w fun e w' => e = .returned (.tuple #[.agg (Lib.setCells crlf2), .bool true]) ∧ w' = w.alloc (.cells (Lib.setCells crlf2) 95) := by
  have hi63 := (zero_of_info set_info).2
  have hv63 := (zero_of_info set_info).1
  have hz : crlfS.size = 2 := rfl
  go_enter Try.func78, Try.ntmps78
  go_wp2
  rw [← Lib.setCells_nil]
  go_loopg [4] 2 (fun g s4 wx => ∃ i : Nat, i + g = 2 ∧ s4 = .int .i64 i ∧ wx = w.alloc (.cells (Lib.setCells (crlf2.take i)) 95))
  case atStart => exact ⟨0, by omega, rfl, rfl⟩
  case round =>
    obtain ⟨i, hig, rfl, rfl⟩ := hrel
    cases gk with
    | zero =>
      obtain rfl : i = 2 := by omega
      have hiz : ¬ ((2 : Int) < (crlfS.size : Int)) := by rw [hz]; omega
      rw [show crlf2.take 2 = crlf2 from rfl]
      have hsz : (Try.prog.info? 95).map (·.size) = some (Lib.setCells crlf2).size := by rw [Lib.setCells_size]; exact hi63
      have HSZ := box hsz
      clear hsz hi63 hv63
      have hsc := run_storeCells_new (P := Try.prog) w 95 (Lib.setCells crlf2) (Lib.setCells crlf2) HSZ.out rfl (Lib.setCells_one _)
      have HSC := box hsc
      clear hsc
      go_wp2_with (with_reducible refine wpList_load_row rfl 95 (.tmp 2) rfl w.heap.size rfl 95 (Lib.setCells crlf2) (0, 0) _ (heap_alloc_last _ _) Try.underlying95 rfl HSZ.out ?_)
      simp only [HSC.out, Result.andThen]
      rw [Oper.upon_skip]
      go_wp2
      (try simp only [Exit.inBlock, Exit.then])
      refine bodyPost_ret (v := .tuple #[.agg (Lib.setCells crlf2), .bool true]) ?_ rfl ⟨rfl, rfl⟩
      rw [results_cell_tmp rfl]
      simp [asAddr, Result.andThen, run_loadVar_new (P := Try.prog) w 95 (Lib.setCells crlf2) 256 4 Try.underlying95 HSZ.out]
    | succ g =>
      have hi : i < crlfS.size := by omega
      have hiz : (i : Int) < (crlfS.size : Int) := by omega
      obtain ⟨x, hx⟩ : ∃ x : UInt8, crlfS[i]'hi = x := ⟨_, rfl⟩
      have hxl : crlf2[i]? = some x := by
        rw [← hx]
        match i, hi with
        | 0, _ => rfl
        | 1, _ => rfl
      have hx128 : ¬ ((128 : Int) ≤ (x.toNat : Int)) := by
        match i, hi, hx with
        | 0, _, h => have e : x = 13 := h.symm; rw [e]; decide
        | 1, _, h => have e : x = 10 := h.symm; rw [e]; decide
      have hx256 : (x.toNat : Int) < 256 := by omega
      have hcell := Lib.setCells_at (crlf2.take i) x
      have HX := box hxl
      clear hxl
      go_wp2
      go_roundg g
      case measure => omega
      case rel => exact ⟨i + 1, by omega, by first | rfl | simp, by rw [List.take_add_one, HX.out]; simp only [Option.toList]; rw [Lib.setCells_snoc]⟩
set_option maxRecDepth 1000000 in
set_option maxHeartbeats 4000000 in
theorem sIndexRune_error_crlf (w : World) :
    Calls Try.prog 76 #[.string crlfS, .int .i32 65533] w fun e w' => e = .returned (.int .i64 (-1)) ∧ Below w.heap.size w w' := by
  have hz : crlfS.size = 2 := rfl
  go_enter Try.func76, Try.ntmps76
  go_wp2
  go_loopg [5, 6] 2 (fun g _ _ wx => ∃ i : Nat, i + g = 2 ∧ wx = w.iter crlfS i)
  case atStart => exact ⟨0, by omega, rfl⟩
  case round =>
    obtain ⟨i, hig, rfl⟩ := hrel
    cases gk with
    | zero =>
      obtain rfl : i = 2 := by omega
      have hnx := fun ty => run_next_end (P := Try.prog) w crlfS 2 ty (by rw [hz]; omega)
      go_wp2
      (try rw [Exit.noGoto_ret])
      go_ret
      exact ⟨rfl, below_iter _ _ _⟩
    | succ g =>
      have hi : i < crlfS.size := by omega
      obtain ⟨x, hx⟩ : ∃ x : UInt8, crlfS[i]'hi = x := ⟨_, rfl⟩
      have hx128 : x.toNat < 128 := by
        match i, hi, hx with
        | 0, _, h => have e : x = 13 := h.symm; rw [e]; decide
        | 1, _, h => have e : x = 10 := h.symm; rw [e]; decide
      have hnx := fun ty => run_next_ascii (P := Try.prog) w crlfS i ty hi (by rw [hx]; exact hx128)
      rw [hx] at hnx
      have hne : ((x.toNat : Int) == 65533) = false := by rw [beq_eq_false_iff_ne]; omega
      go_wp2
      go_roundg g
      case measure => omega
      case rel => exact ⟨i + 1, by omega, rfl⟩
set_option maxRecDepth 1000000 in
set_option maxHeartbeats 4000000 in
theorem sIndexRune_two_crlf (r : Int) (w : World) (hv : Box (Utf8.valid r = true)) (h0 : 128 ≤ r) (h1 : r ≤ 1114111) (hne : (r == 65533) = false) (rs : ByteArray) (HR : Box (Utf8.encode r = rs)) (hlt : 1 < rs.size) (H2 : Box (rs.size = 2)) (h128 : 128 ≤ (rs[1]'hlt).toNat) :
    Calls Try.prog 76 #[.string crlfS, .int .i32 r] w fun e w' => e = .returned (.int .i64 (-1)) ∧ Below w.heap.size w w' := by
  have hz : crlfS.size = 2 := rfl
  go_enter Try.func76, Try.ntmps76
  go_wp2_with fail
  refine (valid_any r _ hv h0 h1).mono ?_; rintro e w1 ⟨rfl, rfl⟩
  go_wp2
  go_step3
  go_wp2
  rw [HR.out]
  have h2 := H2.out
  have hs1 : (2 : Int) ≤ (rs.size : Int) := by omega
  have hs2 : (rs.size : Int) ≤ 4 := by omega
  have hi1 : (1 : Int) < (rs.size : Int) := by omega
  have E1 : Box (wrap64 ((rs.size : Int) - 1) = 1) := box (by have e : (rs.size : Int) - 1 = 1 := by omega
                                                              rw [e]; exact IntWalk.wrap64_in 1 (by omega))
  obtain ⟨x, hx⟩ : ∃ x : UInt8, rs[1]'hlt = x := ⟨_, rfl⟩
  rw [hx] at h128
  have h12 : 1 < crlfS.size := by rw [hz]; omega
  have hq : ((crlfS[1]'h12).toNat : Int) != ((rs[1]'hlt).toNat : Int) := by
    rw [bne_iff_ne, hx, show (crlfS[1]'h12).toNat = 10 from rfl]; omega
  have HX := box hx
  clear h2 hx
  go_wp2
  rw [E1.out]
  go_loopw [9] (fun i wr => i = .int .i64 1 ∧ wr = w) (fun _ _ => 0)
  case atStart => exact ⟨rfl, rfl⟩
  case round =>
    obtain ⟨rfl, rfl⟩ := hrel
    go_wp2
    go_step3
    go_wp2
    go_quiet (fail)
    go_wp2
    go_quiet ((go_at_call 91; exact (idx_empty _ _).mono fun e w' ⟨h1, h2⟩ => ⟨h1, _, h2.symm⟩))
    go_wp2
    (try simp +zetaDelta only [Exit.noGoto_ret, Exit.inBlock, Exit.then])
    go_ret
    exact ⟨rfl, below_drewN _ _⟩
set_option maxRecDepth 1000000 in
set_option maxHeartbeats 4000000 in
theorem sIndexRune_more_crlf (r : Int) (w : World) (hv : Box (Utf8.valid r = true)) (h0 : 128 ≤ r) (h1 : r ≤ 1114111) (hne : (r == 65533) = false) (rs : ByteArray) (HR : Box (Utf8.encode r = rs)) (m : Nat) (H2 : Box (rs.size = m + 1)) (hm : 2 ≤ m) (hm4 : m ≤ 4) :
    Calls Try.prog 76 #[.string crlfS, .int .i32 r] w fun e w' => e = .returned (.int .i64 (-1)) ∧ Below w.heap.size w w' := by
  have hz : crlfS.size = 2 := rfl
  have h2 := H2.out
  have E1 : Box (wrap64 ((rs.size : Int) - 1) = (m : Int)) := box (by have e : (rs.size : Int) - 1 = (m : Int) := by omega
                                                                      rw [e]; exact IntWalk.wrap64_in _ (by omega))
  have hmi : (2 : Int) ≤ (m : Int) := by omega
  clear h2
  go_enter Try.func76, Try.ntmps76
  go_wp2_with fail
  refine (valid_any r _ hv h0 h1).mono ?_; rintro e w1 ⟨rfl, rfl⟩
  go_wp2
  go_step3
  go_wp2
  rw [HR.out]
  go_wp2
  rw [E1.out]
  go_loopw [9] (fun i wr => i = .int .i64 m ∧ wr = w) (fun _ _ => 0)
  case atStart => exact ⟨rfl, rfl⟩
  case round =>
    obtain ⟨rfl, rfl⟩ := hrel
    go_wp2
    (try simp only [Exit.noGoto_ret, Exit.inBlock, Exit.then])
    go_ret
    exact ⟨rfl, Below.refl _ _⟩
theorem sIndexRune_high_crlf (r : Int) (w : World) (hv : Box (Utf8.valid r = true)) (h0 : 128 ≤ r) (h1 : r ≤ 1114111) :
    Calls Try.prog 76 #[.string crlfS, .int .i32 r] w fun e w' => e = .returned (.int .i64 (-1)) ∧ Below w.heap.size w w' := by
  rcases hne : (r == 65533) with _ | _
  · obtain ⟨f1, f2, f3⟩ := encode_facts r hv.out h0
    by_cases h2 : (Utf8.encode r).size = 2
    · have hlt : 1 < (Utf8.encode r).size := by omega
      refine sIndexRune_two_crlf r w hv h0 h1 hne _ (box rfl) hlt (box h2) ?_
      have := f3 (by omega)
      have e : (Utf8.encode r).size - 1 = 1 := by omega
      simp only [e] at this
      exact this
    · exact sIndexRune_more_crlf r w hv h0 h1 hne _ (box rfl) ((Utf8.encode r).size - 1) (box (by omega)) (by omega) (by omega)
  · obtain rfl : r = 65533 := by simpa using hne
    exact sIndexRune_error_crlf w
theorem ends_data_crlf : crlfS.data.toList = crlf2 := rfl
set_option maxRecDepth 1000000 in
set_option maxHeartbeats 4000000 in
theorem IndexAny_short_crlf (s : ByteArray) (w : World) (h8 : s.size ≤ 8) :
    Calls Try.prog 60 #[.string s, .string crlfS] w fun e w' => e = .returned (.int .i64 (Lib.indexAny s.data.toList crlf2)) ∧ Below w.heap.size w w' := by
  have hz : crlfS.size = 2 := rfl
  have hemp : crlfS.toList.isEmpty = false := by decide +kernel
  have h8z : Box (decide ((8 : Int) < (s.size : Int)) = false) := box (decide_eq_false (by omega))
  go_enter Try.func60, Try.ntmps60
  go_wp2_with fail
  refine (sShould_any _ _).mono ?_; rintro e w1 ⟨rfl, rfl⟩; rw [h8z.out]
  go_wp2
  go_loopg [9, 10] s.size (fun g _ _ wx => ∃ i : Nat, i + g = s.size ∧ wx.heap[w.heap.size]? = some (.stringIter s i) ∧ Below w.heap.size w wx ∧ Lib.NoAny s.data.toList crlf2 i)
  case atStart => exact ⟨0, by omega, World.iter_heap _ _ _, below_iter _ _ _, Lib.NoAny.zero _ _⟩
  case round =>
    obtain ⟨i, hig, hh, hbel, hno⟩ := hrel
    have HN := box hno
    have BL := box hbel
    have HH := box hh
    clear hno hbel hh
    cases gk with
    | zero =>
      obtain rfl : i = s.size := by omega
      have hnx := fun ty => run_next_stop (P := Try.prog) _ _ s s.size ty HH.out (by omega)
      go_wp2
      go_ret
      exact ⟨ret_int (Lib.indexAny_none (by simpa using HN.out)).symm, BL.out⟩
    | succ g =>
      have hi : i < s.size := by omega
      have hnx := fun ty => run_next_at (P := Try.prog) _ _ s i ty HH.out hi
      by_cases hx : s[i].toNat < 128
      · obtain ⟨x, hxe⟩ : ∃ x : UInt8, s[i] = x := ⟨_, rfl⟩
        have hd : Utf8.decode s i = (x.toNat, 1) := by rw [← hxe]; exact decode_ascii s i hi hx
        rw [hxe] at hx
        rw [hd] at hnx
        have Hx : Box (s.data.toList[i]? = some x) := box (by rw [← hxe]; exact Lib.data_getElem? s i hi)
        have H2 := box (setIter_heap (s := s) (p := i + 1) HH.out)
        have B2 := box (setIter_below (k := w.heap.size) (s := s) (p := i + 1) BL.out (Nat.le_refl _))
        clear hxe hd
        rcases hin : crlf2.contains x with _ | _
        · have HI := box hin
          have hlt : Box (Lib.indexByte crlfS.data.toList x = -1) := box (by
            have := Lib.contains_iff_indexByte crlf2 x
            rw [hin] at this
            have h2 := of_decide_eq_false this.symm
            have h3 := Lib.indexByte_ge crlf2 x
            rw [ends_data_crlf]; omega)
          clear hin
          go_wp2_with fail
          refine (sIndexRune_ascii crlfS x _ hx).mono ?_; rintro e w2 ⟨rfl, rfl⟩; rw [hlt.out]
          go_wp2
          go_roundg g
          case measure => omega
          case rel => exact ⟨i + 1, by omega, H2.out, B2.out, HN.out.succ Hx.out HI.out⟩
        · have HI := box hin
          obtain ⟨n, hn⟩ : ∃ n, Lib.indexByte crlfS.data.toList x = n := ⟨_, rfl⟩
          have hge : (0 : Int) ≤ n := by
            have := Lib.contains_iff_indexByte crlf2 x
            rw [hin] at this
            have h2 := of_decide_eq_true this.symm
            rw [← hn, ends_data_crlf]; exact h2
          have HNN := box hn
          clear hin hn
          go_wp2_with fail
          refine (sIndexRune_ascii crlfS x _ hx).mono ?_; rintro e w2 ⟨rfl, rfl⟩; rw [HNN.out]
          go_wp2
          go_ret
          exact ⟨ret_int (Lib.indexAny_hit HN.out Hx.out HI.out).symm, B2.out⟩
      · obtain ⟨d1, d2, d3, d4, d5⟩ := noAny_high_crlf hi (by omega) HN.out
        obtain ⟨r, n, hd⟩ : ∃ r n, Utf8.decode s i = (r, n) := ⟨_, _, rfl⟩
        have hle := decode_max s i
        rw [hd] at d1 d2 d3 d4 d5 hnx hle
        simp only at d1 d2 d3 d4 d5 hnx hle
        have HV := box d2
        have N2 := box d5
        have h0 : (128 : Int) ≤ (r : Int) := by omega
        have h1 : (r : Int) ≤ 1114111 := by omega
        have H2 := box (setIter_heap (s := s) (p := i + n) HH.out)
        have B2 := box (setIter_below (k := w.heap.size) (s := s) (p := i + n) BL.out (Nat.le_refl _))
        have HSZ := box (Array.getElem?_eq_some_iff.1 H2.out).1
        clear d2 d5 hd
        go_wp2_with fail
        refine (sIndexRune_high_crlf (r : Int) _ HV h0 h1).mono ?_; rintro e w2 ⟨rfl, hb2⟩
        have H3 := box ((hb2.block _ HSZ.out).trans H2.out)
        have B3 := box (B2.out.trans (hb2.mono B2.out.size))
        clear hb2
        go_wp2
        go_roundg (s.size - (i + n))
        case measure => omega
        case rel => exact ⟨i + n, by omega, H3.out, B3.out, N2.out⟩
set_option maxRecDepth 1000000 in
set_option maxHeartbeats 4000000 in
theorem IndexAny_long_crlf (s : ByteArray) (w : World) (h8 : 8 < s.size) (hs : s.size ≤ 4000000) :
    Calls Try.prog 60 #[.string s, .string crlfS] w fun e w' => e = .returned (.int .i64 (Lib.indexAny s.data.toList crlf2)) ∧ Below w.heap.size w w' := by
  have hz : crlfS.size = 2 := rfl
  have hemp : crlfS.toList.isEmpty = false := by decide +kernel
  have h8z : Box (decide ((8 : Int) < (s.size : Int)) = true) := box (decide_eq_true (by omega))
  have HSZ : Box ((Try.prog.info? 95).map (·.size) = some (Lib.setCells crlf2).size) := box (by rw [Lib.setCells_size]; exact (zero_of_info set_info).2)
  have hv63 := (zero_of_info set_info).1
  go_enter Try.func60, Try.ntmps60
  go_wp2_with fail
  refine (sShould_any _ _).mono ?_; rintro e w1 ⟨rfl, rfl⟩; rw [h8z.out]
  go_wp2_with fail
  refine (makeSet_any_crlf _).mono ?_; rintro e w1 ⟨rfl, rfl⟩
  have hsc := run_storeCells_new (P := Try.prog) (w.alloc (.cells (Lib.setCells crlf2) 95)) 95 (Array.replicate 256 (.bool false)) (Lib.setCells crlf2) HSZ.out (by rw [Lib.setCells_size, Array.size_replicate]) (Lib.setCells_one _)
  rw [size_alloc1] at hsc
  have HSC := box hsc
  have HC : Box (∀ x : UInt8, ((w.alloc (.cells (Lib.setCells crlf2) 95)).alloc (.cells (Lib.setCells crlf2) 95)).cell? ⟨w.heap.size + 1, x.toNat, none⟩ = some (.bool (crlf2.contains x))) := box (fun x => by
    rw [World.cell?_alloc_at _ _ _ _ (by simp), Lib.setCells_at])
  have BL := box (((Below.refl w.heap.size w).alloc (Nat.le_refl _) (.cells (Lib.setCells crlf2) 95)).alloc (by simp) (.cells (Lib.setCells crlf2) 95))
  clear hsc
  go_wp2_with (fail)
  simp only [HSC.out, Result.andThen]
  rw [Oper.upon_skip]
  clear hv63
  go_wp2
  go_loopg [8] s.size (fun g s8 wx => ∃ i : Nat, i + g = s.size ∧ s8 = .int .i64 i ∧ wx = ((w.alloc (.cells (Lib.setCells crlf2) 95)).alloc (.cells (Lib.setCells crlf2) 95)) ∧ Lib.NoAny s.data.toList crlf2 i)
  case atStart => exact ⟨0, by omega, rfl, rfl, Lib.NoAny.zero _ _⟩
  case round =>
    obtain ⟨i, hig, rfl, rfl, hno⟩ := hrel
    have HN := box hno
    clear hno
    cases gk with
    | zero =>
      obtain rfl : i = s.size := by omega
      go_wp2
      go_ret
      exact ⟨ret_int (Lib.indexAny_none (by simpa using HN.out)).symm, BL.out⟩
    | succ g =>
      have hi : i < s.size := by omega
      have hiz : (i : Int) < (s.size : Int) := by omega
      obtain ⟨x, hx⟩ : ∃ x : UInt8, s[i]'hi = x := ⟨_, rfl⟩
      have Hx : Box (s.data.toList[i]? = some x) := box (by rw [← hx]; exact Lib.data_getElem? s i hi)
      have hcx := HC.out x
      rcases hin : crlf2.contains x with _ | _
      · rw [hin] at hcx
        have HI := box hin
        have HCX := box hcx
        clear hin hcx
        go_wp2_with fail
        refine (contains_any _ x _ _ HCX.out).mono ?_; rintro e w2 ⟨rfl, rfl⟩
        go_wp2
        go_roundg g
        case measure => omega
        case rel => exact ⟨i + 1, by omega, by first | rfl | simp, rfl, HN.out.succ Hx.out HI.out⟩
      · rw [hin] at hcx
        have HI := box hin
        have HCX := box hcx
        clear hin hcx
        go_wp2_with fail
        refine (contains_any _ x _ _ HCX.out).mono ?_; rintro e w2 ⟨rfl, rfl⟩
        go_wp2
        go_ret
        exact ⟨ret_int (Lib.indexAny_hit HN.out Hx.out HI.out).symm, BL.out⟩
theorem IndexAny_any_crlf (s : ByteArray) (w : World) (hs : s.size ≤ 4000000) :
    Calls Try.prog 60 #[.string s, .string crlfS] w fun e w' => e = .returned (.int .i64 (Lib.indexAny s.data.toList crlf2)) ∧ Below w.heap.size w w' := by
  by_cases h : s.size ≤ 8
  · exact IndexAny_short_crlf s w h
  · exact IndexAny_long_crlf s w (by omega) hs
end
end Go.Proofs.Ytjabcfabenobiaa.Asc
