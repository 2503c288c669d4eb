/- The contract of strings.IndexAny at a slash and a question mark, for every string. -/
import Derived.Test.YthfhoacflkbhhaaTarAny
set_option linter.unusedVariables false
set_option linter.unusedSimpArgs false
namespace Go.Proofs.Ythfhoacflkbhhaa.Asc
open Go.RowKit

theorem ends_data : endsS.data.toList = ends2 := rfl
/-- the iterator at block k stands at p -/
def setIter (w : World) (k : Nat) (s : ByteArray) (p : Nat) : World := { w with heap := w.heap.setIfInBounds k (.stringIter s p) }
theorem run_next_at {P : Program} (w : World) (k : Nat) (s : ByteArray) (pos : Nat) (ty : TypeId) (hh : w.heap[k]? = some (.stringIter s pos)) (h : pos < s.size) :
    (Instr.next (.pointer (some ⟨k, 0, none⟩)) true ty).run P w = .ok (.tuple #[.bool true, .int .i64 pos, .int .i32 (Utf8.decode s pos).1]) (setIter w k s (pos + (Utf8.decode s pos).2)) := by
  simp only [Instr.next, getObj, setObj, Sem.run_bind, Sem.run, hh, Result.andThen, h, if_true]
  simp [goInt, setIter]
theorem run_next_stop {P : Program} (w : World) (k : Nat) (s : ByteArray) (pos : Nat) (ty : TypeId) (hh : w.heap[k]? = some (.stringIter s pos)) (h : ¬ pos < s.size) :
    (Instr.next (.pointer (some ⟨k, 0, none⟩)) true ty).run P w = .ok (.tuple #[.bool false]) w := by
  simp [Instr.next, getObj, Sem.run, hh, h]
theorem setIter_heap {w : World} {k : Nat} {s : ByteArray} {p : Nat} {o : Obj} (h : w.heap[k]? = some o) : (setIter w k s p).heap[k]? = some (.stringIter s p) := by
  have := (Array.getElem?_eq_some_iff.1 h).1
  simp [setIter, this]
theorem setIter_below {w w' : World} {B k : Nat} {s : ByteArray} {p : Nat} (h : Below B w w') (hk : B ≤ k) : Below B w (setIter w' k s p) :=
  h.trans ⟨rfl, rfl, rfl, by simp [setIter], fun j hj => by
    simp only [setIter]
    rw [Array.getElem?_setIfInBounds_ne (by omega)]⟩
set_option maxRecDepth 1000000 in
set_option maxHeartbeats 4000000 in
theorem IndexAny_short (s : ByteArray) (w : World) (h8 : s.size ≤ 8) :
    Calls Try.prog 31 #[.string s, .string endsS] w fun e w' => e = .returned (.int .i64 (Lib.indexAny s.data.toList ends2)) ∧ Below w.heap.size w w' := by
  have hz : endsS.size = 2 := rfl
  have hemp : endsS.toList.isEmpty = false := by decide +kernel
  have h8z : Box (decide ((8 : Int) < (s.size : Int)) = false) := box (decide_eq_false (by omega))
  go_enter Try.func31, Try.ntmps31
  go_wp2_with fail
  refine (sShould_any _ _).mono ?_; rintro e w1 ⟨rfl, rfl⟩; rw [h8z.out]
  go_wp2
  go_loopg [9, 10] s.size (fun g _ _ wx => ∃ i : Nat, i + g = s.size ∧ wx.heap[w.heap.size]? = some (.stringIter s i) ∧ Below w.heap.size w wx ∧ Lib.NoAny s.data.toList ends2 i)
  case atStart => exact ⟨0, by omega, World.iter_heap _ _ _, below_iter _ _ _, Lib.NoAny.zero _ _⟩
  case round =>
    obtain ⟨i, hig, hh, hbel, hno⟩ := hrel
    have HN := box hno
    have BL := box hbel
    have HH := box hh
    clear hno hbel hh
    cases gk with
    | zero =>
      obtain rfl : i = s.size := by omega
      have hnx := fun ty => run_next_stop (P := Try.prog) _ _ s s.size ty HH.out (by omega)
      go_wp2
      go_ret
      exact ⟨ret_int (Lib.indexAny_none (by simpa using HN.out)).symm, BL.out⟩
    | succ g =>
      have hi : i < s.size := by omega
      have hnx := fun ty => run_next_at (P := Try.prog) _ _ s i ty HH.out hi
      by_cases hx : s[i].toNat < 128
      · obtain ⟨x, hxe⟩ : ∃ x : UInt8, s[i] = x := ⟨_, rfl⟩
        have hd : Utf8.decode s i = (x.toNat, 1) := by rw [← hxe]; exact decode_ascii s i hi hx
        rw [hxe] at hx
        rw [hd] at hnx
        have Hx : Box (s.data.toList[i]? = some x) := box (by rw [← hxe]; exact Lib.data_getElem? s i hi)
        have H2 := box (setIter_heap (s := s) (p := i + 1) HH.out)
        have B2 := box (setIter_below (k := w.heap.size) (s := s) (p := i + 1) BL.out (Nat.le_refl _))
        clear hxe hd
        rcases hin : ends2.contains x with _ | _
        · have HI := box hin
          have hlt : Box (Lib.indexByte endsS.data.toList x = -1) := box (by
            have := Lib.contains_iff_indexByte ends2 x
            rw [hin] at this
            have h2 := of_decide_eq_false this.symm
            have h3 := Lib.indexByte_ge ends2 x
            rw [ends_data]; omega)
          clear hin
          go_wp2_with fail
          refine (sIndexRune_ascii endsS x _ hx).mono ?_; rintro e w2 ⟨rfl, rfl⟩; rw [hlt.out]
          go_wp2
          go_roundg g
          case measure => omega
          case rel => exact ⟨i + 1, by omega, H2.out, B2.out, HN.out.succ Hx.out HI.out⟩
        · have HI := box hin
          obtain ⟨n, hn⟩ : ∃ n, Lib.indexByte endsS.data.toList x = n := ⟨_, rfl⟩
          have hge : (0 : Int) ≤ n := by
            have := Lib.contains_iff_indexByte ends2 x
            rw [hin] at this
            have h2 := of_decide_eq_true this.symm
            rw [← hn, ends_data]; exact h2
          have HNN := box hn
          clear hin hn
          go_wp2_with fail
          refine (sIndexRune_ascii endsS x _ hx).mono ?_; rintro e w2 ⟨rfl, rfl⟩; rw [HNN.out]
          go_wp2
          go_ret
          exact ⟨ret_int (Lib.indexAny_hit HN.out Hx.out HI.out).symm, B2.out⟩
      · obtain ⟨d1, d2, d3, d4, d5⟩ := noAny_high hi (by omega) HN.out
        obtain ⟨r, n, hd⟩ : ∃ r n, Utf8.decode s i = (r, n) := ⟨_, _, rfl⟩
        have hle := decode_max s i
        rw [hd] at d1 d2 d3 d4 d5 hnx hle
        simp only at d1 d2 d3 d4 d5 hnx hle
        have HV := box d2
        have N2 := box d5
        have h0 : (128 : Int) ≤ (r : Int) := by omega
        have h1 : (r : Int) ≤ 1114111 := by omega
        have H2 := box (setIter_heap (s := s) (p := i + n) HH.out)
        have B2 := box (setIter_below (k := w.heap.size) (s := s) (p := i + n) BL.out (Nat.le_refl _))
        have HSZ := box (Array.getElem?_eq_some_iff.1 H2.out).1
        clear d2 d5 hd
        go_wp2_with fail
        refine (sIndexRune_high (r : Int) _ HV h0 h1).mono ?_; rintro e w2 ⟨rfl, hb2⟩
        have H3 := box ((hb2.block _ HSZ.out).trans H2.out)
        have B3 := box (B2.out.trans (hb2.mono B2.out.size))
        clear hb2
        go_wp2
        go_roundg (s.size - (i + n))
        case measure => omega
        case rel => exact ⟨i + n, by omega, H3.out, B3.out, N2.out⟩
theorem size_alloc1 (w : World) (o : Obj) : (w.alloc o).heap.size = w.heap.size + 1 := by simp
set_option maxRecDepth 1000000 in
set_option maxHeartbeats 4000000 in
theorem IndexAny_long (s : ByteArray) (w : World) (h8 : 8 < s.size) (hs : s.size ≤ 65536) :
    Calls Try.prog 31 #[.string s, .string endsS] w fun e w' => e = .returned (.int .i64 (Lib.indexAny s.data.toList ends2)) ∧ Below w.heap.size w w' := by
  have hz : endsS.size = 2 := rfl
  have hemp : endsS.toList.isEmpty = false := by decide +kernel
  have h8z : Box (decide ((8 : Int) < (s.size : Int)) = true) := box (decide_eq_true (by omega))
  have HSZ : Box ((Try.prog.info? 63).map (·.size) = some (Lib.setCells ends2).size) := box (by rw [Lib.setCells_size]; exact (zero_of_info set_info).2)
  have hv63 := (zero_of_info set_info).1
  go_enter Try.func31, Try.ntmps31
  go_wp2_with fail
  refine (sShould_any _ _).mono ?_; rintro e w1 ⟨rfl, rfl⟩; rw [h8z.out]
  go_wp2_with fail
  refine (makeSet_any _).mono ?_; rintro e w1 ⟨rfl, rfl⟩
  have hsc := run_storeCells_new (P := Try.prog) (w.alloc (.cells (Lib.setCells ends2) 63)) 63 (Array.replicate 256 (.bool false)) (Lib.setCells ends2) HSZ.out (by rw [Lib.setCells_size, Array.size_replicate]) (Lib.setCells_one _)
  rw [size_alloc1] at hsc
  have HSC := box hsc
  have HC : Box (∀ x : UInt8, ((w.alloc (.cells (Lib.setCells ends2) 63)).alloc (.cells (Lib.setCells ends2) 63)).cell? ⟨w.heap.size + 1, x.toNat, none⟩ = some (.bool (ends2.contains x))) := box (fun x => by
    rw [World.cell?_alloc_at _ _ _ _ (by simp), Lib.setCells_at])
  have BL := box (((Below.refl w.heap.size w).alloc (Nat.le_refl _) (.cells (Lib.setCells ends2) 63)).alloc (by simp) (.cells (Lib.setCells ends2) 63))
  clear hsc
  go_wp2_with (fail)
  simp only [HSC.out, Result.andThen]
  rw [Oper.upon_skip]
  clear hv63
  go_wp2
  go_loopg [8] s.size (fun g s8 wx => ∃ i : Nat, i + g = s.size ∧ s8 = .int .i64 i ∧ wx = ((w.alloc (.cells (Lib.setCells ends2) 63)).alloc (.cells (Lib.setCells ends2) 63)) ∧ Lib.NoAny s.data.toList ends2 i)
  case atStart => exact ⟨0, by omega, rfl, rfl, Lib.NoAny.zero _ _⟩
  case round =>
    obtain ⟨i, hig, rfl, rfl, hno⟩ := hrel
    have HN := box hno
    clear hno
    cases gk with
    | zero =>
      obtain rfl : i = s.size := by omega
      go_wp2
      go_ret
      exact ⟨ret_int (Lib.indexAny_none (by simpa using HN.out)).symm, BL.out⟩
    | succ g =>
      have hi : i < s.size := by omega
      have hiz : (i : Int) < (s.size : Int) := by omega
      obtain ⟨x, hx⟩ : ∃ x : UInt8, s[i]'hi = x := ⟨_, rfl⟩
      have Hx : Box (s.data.toList[i]? = some x) := box (by rw [← hx]; exact Lib.data_getElem? s i hi)
      have hcx := HC.out x
      rcases hin : ends2.contains x with _ | _
      · rw [hin] at hcx
        have HI := box hin
        have HCX := box hcx
        clear hin hcx
        go_wp2_with fail
        refine (contains_any _ x _ _ HCX.out).mono ?_; rintro e w2 ⟨rfl, rfl⟩
        go_wp2
        go_roundg g
        case measure => omega
        case rel => exact ⟨i + 1, by omega, by first | rfl | simp, rfl, HN.out.succ Hx.out HI.out⟩
      · rw [hin] at hcx
        have HI := box hin
        have HCX := box hcx
        clear hin hcx
        go_wp2_with fail
        refine (contains_any _ x _ _ HCX.out).mono ?_; rintro e w2 ⟨rfl, rfl⟩
        go_wp2
        go_ret
        exact ⟨ret_int (Lib.indexAny_hit HN.out Hx.out HI.out).symm, BL.out⟩
theorem IndexAny_any (s : ByteArray) (w : World) (hs : s.size ≤ 65536) :
    Calls Try.prog 31 #[.string s, .string endsS] w fun e w' => e = .returned (.int .i64 (Lib.indexAny s.data.toList ends2)) ∧ Below w.heap.size w w' := by
  by_cases h : s.size ≤ 8
  · exact IndexAny_short s w h
  · exact IndexAny_long s w (by omega) hs

end Go.Proofs.Ythfhoacflkbhhaa.Asc
