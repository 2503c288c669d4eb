/- Merged texts: TarIdx ChkAny StaVer TarNorm StrMem TarRSeg TarHas. -/
import Derived.Test.YtjabcfabenobiaaGreatM02
import Derived.Test.YtjabcfabenobiaaGreatM03
import Derived.Test.YtjabcfabenobiaaGreatM04
import Derived.BigQuiet
import Derived.Deep.AppendLies
import Derived.Deep.QuietTactic
import Derived.Deep.RegionHeld3
import Derived.Laws.AppendOwnNone
import Derived.Lib.AppendStr
set_option linter.unusedVariables false
set_option linter.unusedSimpArgs false
set_option maxRecDepth 100000
namespace Go.Proofs.YtjabcfabenobiaaGreat.Asc
section
open Go.RowKit
/-- the iterator at block k stands at p -/
def setIter (w : World) (k : Nat) (s : ByteArray) (p : Nat) : World := { w with heap := w.heap.setIfInBounds k (.stringIter s p) }
theorem run_next_at {P : Program} (w : World) (k : Nat) (s : ByteArray) (pos : Nat) (ty : TypeId) (hh : w.heap[k]? = some (.stringIter s pos)) (h : pos < s.size) :
    (Instr.next (.pointer (some ⟨k, 0, none⟩)) true ty).run P w = .ok (.tuple #[.bool true, .int .i64 pos, .int .i32 (Utf8.decode s pos).1]) (setIter w k s (pos + (Utf8.decode s pos).2)) := by
  simp only [Instr.next, getObj, setObj, Sem.run_bind, Sem.run, hh, Result.andThen, h, if_true]
  simp [goInt, setIter]
theorem run_next_stop {P : Program} (w : World) (k : Nat) (s : ByteArray) (pos : Nat) (ty : TypeId) (hh : w.heap[k]? = some (.stringIter s pos)) (h : ¬ pos < s.size) :
    (Instr.next (.pointer (some ⟨k, 0, none⟩)) true ty).run P w = .ok (.tuple #[.bool false]) w := by
  simp [Instr.next, getObj, Sem.run, hh, h]
theorem setIter_heap {w : World} {k : Nat} {s : ByteArray} {p : Nat} {o : Obj} (h : w.heap[k]? = some o) : (setIter w k s p).heap[k]? = some (.stringIter s p) := by
  have := (Array.getElem?_eq_some_iff.1 h).1
  simp [setIter, this]
theorem setIter_below {w w' : World} {B k : Nat} {s : ByteArray} {p : Nat} (h : Below B w w') (hk : B ≤ k) : Below B w (setIter w' k s p) :=
  h.trans ⟨rfl, rfl, rfl, by simp [setIter], fun j hj => by
    simp only [setIter]
    rw [Array.getElem?_setIfInBounds_ne (by omega)]⟩
theorem size_alloc1 (w : World) (o : Obj) : (w.alloc o).heap.size = w.heap.size + 1 := by simp
end
section
open Go.RowKit
/-- slash and question mark -/
def crlf2 : List UInt8 := [13, 10]
theorem ends_high_crlf {c : UInt8} (h : 128 ≤ c.toNat) : crlf2.contains c = false := by
  have key : ∀ x : Fin 256, 128 ≤ x.1 → crlf2.contains (UInt8.ofNat x.1) = false := by decide +kernel
  have := key ⟨c.toNat, c.toNat_lt⟩ h
  simpa using this
theorem noAny_high_crlf {s : ByteArray} {i : Nat} (h : i < s.size) (hb : 128 ≤ s[i].toNat) (hno : Lib.NoAny s.data.toList crlf2 i) :
    128 ≤ (Utf8.decode s i).1 ∧ Utf8.valid ((Utf8.decode s i).1 : Int) = true ∧ 1 ≤ (Utf8.decode s i).2 ∧ i + (Utf8.decode s i).2 ≤ s.size ∧ Lib.NoAny s.data.toList crlf2 (i + (Utf8.decode s i).2) := by
  have hd := decN_high (s.size - i) (s.get! i).toNat (s.get! (i + 1)).toNat (s.get! (i + 2)).toNat (s.get! (i + 3)).toNat (by omega) (by rw [get_bang s i h]; exact hb) (UInt8.toNat_lt _)
  rw [← Lib.decode_at] at hd
  obtain ⟨d1, d2, d3, d4, d5, d6, d7, d8⟩ := hd
  refine ⟨d1, valid_of d2, d3, by omega, fun j b hj hjb => ?_⟩
  have hlt : j < s.size := by
    have := (List.getElem?_eq_some_iff.1 hjb).1
    simpa using this
  have hs : s.data.toList[j]? = some s[j] := by
    rw [List.getElem?_eq_getElem (by simpa using hlt)]; rfl
  rw [hs] at hjb
  cases hjb
  by_cases e : j < i
  · exact hno j _ e hs
  · by_cases e0 : j = i
    · subst e0; exact ends_high_crlf hb
    · by_cases e1 : j = i + 1
      · subst e1; have := d6 (by omega); rw [get_bang s _ hlt] at this; exact ends_high_crlf this
      · by_cases e2 : j = i + 2
        · subst e2; have := d7 (by omega); rw [get_bang s _ hlt] at this; exact ends_high_crlf this
        · by_cases e3 : j = i + 3
          · subst e3; have := d8 (by omega); rw [get_bang s _ hlt] at this; exact ends_high_crlf this
          · omega
/-- where the search ends is where the first bytes that are neither end -/
theorem any_while_crlf {l : List UInt8} : ∀ {p : UInt8 → Bool}, (∀ c, p c = !(crlf2.contains c)) → (Lib.indexAny l crlf2 = -1 → l.takeWhile p = l) ∧ (∀ k : Nat, Lib.indexAny l crlf2 = k → (l.takeWhile p).length = k ∧ k < l.length) := by
  intro p hp
  induction l with
  | nil => exact ⟨fun _ => rfl, fun k h => by simp [Lib.indexAny] at h⟩
  | cons c r ih =>
    have hge := Lib.indexAny_ge crlf2 r
    rw [Lib.indexAny, List.takeWhile_cons, hp c]
    rcases hc : crlf2.contains c with _ | _
    · simp only [Bool.false_eq_true, if_false, Bool.not_false, if_true]
      by_cases h1 : Lib.indexAny r crlf2 = -1
      · rw [h1]
        simp only [beq_self_eq_true, if_true]
        exact ⟨fun _ => by rw [ih.1 h1], fun k h => by omega⟩
      · have h2 : (Lib.indexAny r crlf2 == -1) = false := by simpa using h1
        rw [h2]
        simp only [Bool.false_eq_true, if_false]
        refine ⟨fun h => by omega, fun k h => ?_⟩
        obtain ⟨h3, h4⟩ := ih.2 (k - 1) (by omega)
        simp only [List.length_cons]
        omega
    · simp only [if_true, Bool.not_true, Bool.false_eq_true, if_false]
      refine ⟨fun h => by omega, fun k h => ?_⟩
      have : k = 0 := by omega
      subst this; simp
def crlfS : ByteArray := ⟨#[13, 10]⟩
set_option maxHeartbeats 4000000 in
set_option maxRecDepth 1000000 in
theorem makeSet_any_crlf (w : World) :
    Calls Tryz.prog 123 #[.string crlfS] w fun e w' => e = .returned (.tuple #[.agg (Lib.setCells crlf2), .bool true]) ∧ w' = w.alloc (.cells (Lib.setCells crlf2) 122) := by
  have hi63 := (zero_of_info set_info).2
  have hv63 := (zero_of_info set_info).1
  have hz : crlfS.size = 2 := rfl
  go_enter Tryz.func123, Tryz.ntmps123
  go_wp2
  rw [← Lib.setCells_nil]
  go_loopg [4] 2 (fun g s4 wx => ∃ i : Nat, i + g = 2 ∧ s4 = .int .i64 i ∧ wx = w.alloc (.cells (Lib.setCells (crlf2.take i)) 122))
  case atStart => exact ⟨0, by omega, rfl, rfl⟩
  case round =>
    obtain ⟨i, hig, rfl, rfl⟩ := hrel
    cases gk with
    | zero =>
      obtain rfl : i = 2 := by omega
      have hiz : ¬ ((2 : Int) < (crlfS.size : Int)) := by rw [hz]; omega
      rw [show crlf2.take 2 = crlf2 from rfl]
      have hsz : (Tryz.prog.info? 122).map (·.size) = some (Lib.setCells crlf2).size := by rw [Lib.setCells_size]; exact hi63
      have HSZ := box hsz
      clear hsz hi63 hv63
      have hsc := run_storeCells_new (P := Tryz.prog) w 122 (Lib.setCells crlf2) (Lib.setCells crlf2) HSZ.out rfl (Lib.setCells_one _)
      have HSC := box hsc
      clear hsc
      go_wp2_with (with_reducible refine wpList_load_row rfl 122 (.tmp 2) rfl w.heap.size rfl 122 (Lib.setCells crlf2) (0, 0) _ (heap_alloc_last _ _) Tryz.underlying122 rfl HSZ.out ?_)
      simp only [HSC.out, Result.andThen]
      rw [Oper.upon_skip]
      go_wp2
      (try simp only [Exit.inBlock, Exit.then])
      refine bodyPost_ret (v := .tuple #[.agg (Lib.setCells crlf2), .bool true]) ?_ rfl ⟨rfl, rfl⟩
      rw [results_cell_tmp rfl]
      simp [asAddr, Result.andThen, run_loadVar_new (P := Tryz.prog) w 122 (Lib.setCells crlf2) 256 4 Tryz.underlying122 HSZ.out]
    | succ g =>
      have hi : i < crlfS.size := by omega
      have hiz : (i : Int) < (crlfS.size : Int) := by omega
      obtain ⟨x, hx⟩ : ∃ x : UInt8, crlfS[i]'hi = x := ⟨_, rfl⟩
      have hxl : crlf2[i]? = some x := by
        rw [← hx]
        match i, hi with
        | 0, _ => rfl
        | 1, _ => rfl
      have hx128 : ¬ ((128 : Int) ≤ (x.toNat : Int)) := by
        match i, hi, hx with
        | 0, _, h => have e : x = 13 := h.symm; rw [e]; decide
        | 1, _, h => have e : x = 10 := h.symm; rw [e]; decide
      have hx256 : (x.toNat : Int) < 256 := by omega
      have hcell := Lib.setCells_at (crlf2.take i) x
      have HX := box hxl
      clear hxl
      go_wp2
      go_roundg g
      case measure => omega
      case rel => exact ⟨i + 1, by omega, by first | rfl | simp, by rw [List.take_add_one, HX.out]; simp only [Option.toList]; rw [Lib.setCells_snoc]⟩
set_option maxRecDepth 1000000 in
set_option maxHeartbeats 4000000 in
theorem sIndexRune_error_crlf (w : World) :
    Calls Tryz.prog 121 #[.string crlfS, .int .i32 65533] w fun e w' => e = .returned (.int .i64 (-1)) ∧ Below w.heap.size w w' := by
  have hz : crlfS.size = 2 := rfl
  go_enter Tryz.func121, Tryz.ntmps121
  go_wp2
  go_loopg [5, 6] 2 (fun g _ _ wx => ∃ i : Nat, i + g = 2 ∧ wx = w.iter crlfS i)
  case atStart => exact ⟨0, by omega, rfl⟩
  case round =>
    obtain ⟨i, hig, rfl⟩ := hrel
    cases gk with
    | zero =>
      obtain rfl : i = 2 := by omega
      have hnx := fun ty => run_next_end (P := Tryz.prog) w crlfS 2 ty (by rw [hz]; omega)
      go_wp2
      (try rw [Exit.noGoto_ret])
      go_ret
      exact ⟨rfl, below_iter _ _ _⟩
    | succ g =>
      have hi : i < crlfS.size := by omega
      obtain ⟨x, hx⟩ : ∃ x : UInt8, crlfS[i]'hi = x := ⟨_, rfl⟩
      have hx128 : x.toNat < 128 := by
        match i, hi, hx with
        | 0, _, h => have e : x = 13 := h.symm; rw [e]; decide
        | 1, _, h => have e : x = 10 := h.symm; rw [e]; decide
      have hnx := fun ty => run_next_ascii (P := Tryz.prog) w crlfS i ty hi (by rw [hx]; exact hx128)
      rw [hx] at hnx
      have hne : ((x.toNat : Int) == 65533) = false := by rw [beq_eq_false_iff_ne]; omega
      go_wp2
      go_roundg g
      case measure => omega
      case rel => exact ⟨i + 1, by omega, rfl⟩
set_option maxRecDepth 1000000 in
set_option maxHeartbeats 4000000 in
theorem sIndexRune_two_crlf (r : Int) (w : World) (hv : Box (Utf8.valid r = true)) (h0 : 128 ≤ r) (h1 : r ≤ 1114111) (hne : (r == 65533) = false) (rs : ByteArray) (HR : Box (Utf8.encode r = rs)) (hlt : 1 < rs.size) (H2 : Box (rs.size = 2)) (h128 : 128 ≤ (rs[1]'hlt).toNat) :
    Calls Tryz.prog 121 #[.string crlfS, .int .i32 r] w fun e w' => e = .returned (.int .i64 (-1)) ∧ Below w.heap.size w w' := by
  have hz : crlfS.size = 2 := rfl
  go_enter Tryz.func121, Tryz.ntmps121
  go_wp2_with fail
  refine (valid_any r _ hv h0 h1).mono ?_; rintro e w1 ⟨rfl, rfl⟩
  go_wp2
  go_step3
  go_wp2
  rw [HR.out]
  have h2 := H2.out
  have hs1 : (2 : Int) ≤ (rs.size : Int) := by omega
  have hs2 : (rs.size : Int) ≤ 4 := by omega
  have hi1 : (1 : Int) < (rs.size : Int) := by omega
  have E1 : Box (wrap64 ((rs.size : Int) - 1) = 1) := box (by have e : (rs.size : Int) - 1 = 1 := by omega
                                                              rw [e]; exact IntWalk.wrap64_in 1 (by omega))
  obtain ⟨x, hx⟩ : ∃ x : UInt8, rs[1]'hlt = x := ⟨_, rfl⟩
  rw [hx] at h128
  have h12 : 1 < crlfS.size := by rw [hz]; omega
  have hq : ((crlfS[1]'h12).toNat : Int) != ((rs[1]'hlt).toNat : Int) := by
    rw [bne_iff_ne, hx, show (crlfS[1]'h12).toNat = 10 from rfl]; omega
  have HX := box hx
  clear h2 hx
  go_wp2
  rw [E1.out]
  go_loopw [9] (fun i wr => i = .int .i64 1 ∧ wr = w) (fun _ _ => 0)
  case atStart => exact ⟨rfl, rfl⟩
  case round =>
    obtain ⟨rfl, rfl⟩ := hrel
    go_wp2
    go_step3
    go_wp2
    go_quiet (fail)
    go_wp2
    go_quiet ((go_at_call 133; exact (idx_empty _ _).mono fun e w' ⟨h1, h2⟩ => ⟨h1, _, h2.symm⟩))
    go_wp2
    (try simp +zetaDelta only [Exit.noGoto_ret, Exit.inBlock, Exit.then])
    go_ret
    exact ⟨rfl, below_drewN _ _⟩
set_option maxRecDepth 1000000 in
set_option maxHeartbeats 4000000 in
theorem sIndexRune_more_crlf (r : Int) (w : World) (hv : Box (Utf8.valid r = true)) (h0 : 128 ≤ r) (h1 : r ≤ 1114111) (hne : (r == 65533) = false) (rs : ByteArray) (HR : Box (Utf8.encode r = rs)) (m : Nat) (H2 : Box (rs.size = m + 1)) (hm : 2 ≤ m) (hm4 : m ≤ 4) :
    Calls Tryz.prog 121 #[.string crlfS, .int .i32 r] w fun e w' => e = .returned (.int .i64 (-1)) ∧ Below w.heap.size w w' := by
  have hz : crlfS.size = 2 := rfl
  have h2 := H2.out
  have E1 : Box (wrap64 ((rs.size : Int) - 1) = (m : Int)) := box (by have e : (rs.size : Int) - 1 = (m : Int) := by omega
                                                                      rw [e]; exact IntWalk.wrap64_in _ (by omega))
  have hmi : (2 : Int) ≤ (m : Int) := by omega
  clear h2
  go_enter Tryz.func121, Tryz.ntmps121
  go_wp2_with fail
  refine (valid_any r _ hv h0 h1).mono ?_; rintro e w1 ⟨rfl, rfl⟩
  go_wp2
  go_step3
  go_wp2
  rw [HR.out]
  go_wp2
  rw [E1.out]
  go_loopw [9] (fun i wr => i = .int .i64 m ∧ wr = w) (fun _ _ => 0)
  case atStart => exact ⟨rfl, rfl⟩
  case round =>
    obtain ⟨rfl, rfl⟩ := hrel
    go_wp2
    (try simp only [Exit.noGoto_ret, Exit.inBlock, Exit.then])
    go_ret
    exact ⟨rfl, Below.refl _ _⟩
theorem sIndexRune_high_crlf (r : Int) (w : World) (hv : Box (Utf8.valid r = true)) (h0 : 128 ≤ r) (h1 : r ≤ 1114111) :
    Calls Tryz.prog 121 #[.string crlfS, .int .i32 r] w fun e w' => e = .returned (.int .i64 (-1)) ∧ Below w.heap.size w w' := by
  rcases hne : (r == 65533) with _ | _
  · obtain ⟨f1, f2, f3⟩ := encode_facts r hv.out h0
    by_cases h2 : (Utf8.encode r).size = 2
    · have hlt : 1 < (Utf8.encode r).size := by omega
      refine sIndexRune_two_crlf r w hv h0 h1 hne _ (box rfl) hlt (box h2) ?_
      have := f3 (by omega)
      have e : (Utf8.encode r).size - 1 = 1 := by omega
      simp only [e] at this
      exact this
    · exact sIndexRune_more_crlf r w hv h0 h1 hne _ (box rfl) ((Utf8.encode r).size - 1) (box (by omega)) (by omega) (by omega)
  · obtain rfl : r = 65533 := by simpa using hne
    exact sIndexRune_error_crlf w
theorem ends_data_crlf : crlfS.data.toList = crlf2 := rfl
set_option maxRecDepth 1000000 in
set_option maxHeartbeats 4000000 in
theorem IndexAny_short_crlf (s : ByteArray) (w : World) (h8 : s.size ≤ 8) :
    Calls Tryz.prog 105 #[.string s, .string crlfS] w fun e w' => e = .returned (.int .i64 (Lib.indexAny s.data.toList crlf2)) ∧ Below w.heap.size w w' := by
  have hz : crlfS.size = 2 := rfl
  have hemp : crlfS.toList.isEmpty = false := by decide +kernel
  have h8z : Box (decide ((8 : Int) < (s.size : Int)) = false) := box (decide_eq_false (by omega))
  go_enter Tryz.func105, Tryz.ntmps105
  go_wp2_with fail
  refine (sShould_any _ _).mono ?_; rintro e w1 ⟨rfl, rfl⟩; rw [h8z.out]
  go_wp2
  go_loopg [9, 10] s.size (fun g _ _ wx => ∃ i : Nat, i + g = s.size ∧ wx.heap[w.heap.size]? = some (.stringIter s i) ∧ Below w.heap.size w wx ∧ Lib.NoAny s.data.toList crlf2 i)
  case atStart => exact ⟨0, by omega, World.iter_heap _ _ _, below_iter _ _ _, Lib.NoAny.zero _ _⟩
  case round =>
    obtain ⟨i, hig, hh, hbel, hno⟩ := hrel
    have HN := box hno
    have BL := box hbel
    have HH := box hh
    clear hno hbel hh
    cases gk with
    | zero =>
      obtain rfl : i = s.size := by omega
      have hnx := fun ty => run_next_stop (P := Tryz.prog) _ _ s s.size ty HH.out (by omega)
      go_wp2
      go_ret
      exact ⟨ret_int (Lib.indexAny_none (by simpa using HN.out)).symm, BL.out⟩
    | succ g =>
      have hi : i < s.size := by omega
      have hnx := fun ty => run_next_at (P := Tryz.prog) _ _ s i ty HH.out hi
      by_cases hx : s[i].toNat < 128
      · obtain ⟨x, hxe⟩ : ∃ x : UInt8, s[i] = x := ⟨_, rfl⟩
        have hd : Utf8.decode s i = (x.toNat, 1) := by rw [← hxe]; exact decode_ascii s i hi hx
        rw [hxe] at hx
        rw [hd] at hnx
        have Hx : Box (s.data.toList[i]? = some x) := box (by rw [← hxe]; exact Lib.data_getElem? s i hi)
        have H2 := box (setIter_heap (s := s) (p := i + 1) HH.out)
        have B2 := box (setIter_below (k := w.heap.size) (s := s) (p := i + 1) BL.out (Nat.le_refl _))
        clear hxe hd
        rcases hin : crlf2.contains x with _ | _
        · have HI := box hin
          have hlt : Box (Lib.indexByte crlfS.data.toList x = -1) := box (by
            have := Lib.contains_iff_indexByte crlf2 x
            rw [hin] at this
            have h2 := of_decide_eq_false this.symm
            have h3 := Lib.indexByte_ge crlf2 x
            rw [ends_data_crlf]; omega)
          clear hin
          go_wp2_with fail
          refine (sIndexRune_ascii crlfS x _ hx).mono ?_; rintro e w2 ⟨rfl, rfl⟩; rw [hlt.out]
          go_wp2
          go_roundg g
          case measure => omega
          case rel => exact ⟨i + 1, by omega, H2.out, B2.out, HN.out.succ Hx.out HI.out⟩
        · have HI := box hin
          obtain ⟨n, hn⟩ : ∃ n, Lib.indexByte crlfS.data.toList x = n := ⟨_, rfl⟩
          have hge : (0 : Int) ≤ n := by
            have := Lib.contains_iff_indexByte crlf2 x
            rw [hin] at this
            have h2 := of_decide_eq_true this.symm
            rw [← hn, ends_data_crlf]; exact h2
          have HNN := box hn
          clear hin hn
          go_wp2_with fail
          refine (sIndexRune_ascii crlfS x _ hx).mono ?_; rintro e w2 ⟨rfl, rfl⟩; rw [HNN.out]
          go_wp2
          go_ret
          exact ⟨ret_int (Lib.indexAny_hit HN.out Hx.out HI.out).symm, B2.out⟩
      · obtain ⟨d1, d2, d3, d4, d5⟩ := noAny_high_crlf hi (by omega) HN.out
        obtain ⟨r, n, hd⟩ : ∃ r n, Utf8.decode s i = (r, n) := ⟨_, _, rfl⟩
        have hle := decode_max s i
        rw [hd] at d1 d2 d3 d4 d5 hnx hle
        simp only at d1 d2 d3 d4 d5 hnx hle
        have HV := box d2
        have N2 := box d5
        have h0 : (128 : Int) ≤ (r : Int) := by omega
        have h1 : (r : Int) ≤ 1114111 := by omega
        have H2 := box (setIter_heap (s := s) (p := i + n) HH.out)
        have B2 := box (setIter_below (k := w.heap.size) (s := s) (p := i + n) BL.out (Nat.le_refl _))
        have HSZ := box (Array.getElem?_eq_some_iff.1 H2.out).1
        clear d2 d5 hd
        go_wp2_with fail
        refine (sIndexRune_high_crlf (r : Int) _ HV h0 h1).mono ?_; rintro e w2 ⟨rfl, hb2⟩
        have H3 := box ((hb2.block _ HSZ.out).trans H2.out)
        have B3 := box (B2.out.trans (hb2.mono B2.out.size))
        clear hb2
        go_wp2
        go_roundg (s.size - (i + n))
        case measure => omega
        case rel => exact ⟨i + n, by omega, H3.out, B3.out, N2.out⟩
set_option maxRecDepth 1000000 in
set_option maxHeartbeats 4000000 in
theorem IndexAny_long_crlf (s : ByteArray) (w : World) (h8 : 8 < s.size) (hs : s.size ≤ 4000000) :
    Calls Tryz.prog 105 #[.string s, .string crlfS] w fun e w' => e = .returned (.int .i64 (Lib.indexAny s.data.toList crlf2)) ∧ Below w.heap.size w w' := by
  have hz : crlfS.size = 2 := rfl
  have hemp : crlfS.toList.isEmpty = false := by decide +kernel
  have h8z : Box (decide ((8 : Int) < (s.size : Int)) = true) := box (decide_eq_true (by omega))
  have HSZ : Box ((Tryz.prog.info? 122).map (·.size) = some (Lib.setCells crlf2).size) := box (by rw [Lib.setCells_size]; exact (zero_of_info set_info).2)
  have hv63 := (zero_of_info set_info).1
  go_enter Tryz.func105, Tryz.ntmps105
  go_wp2_with fail
  refine (sShould_any _ _).mono ?_; rintro e w1 ⟨rfl, rfl⟩; rw [h8z.out]
  go_wp2_with fail
  refine (makeSet_any_crlf _).mono ?_; rintro e w1 ⟨rfl, rfl⟩
  have hsc := run_storeCells_new (P := Tryz.prog) (w.alloc (.cells (Lib.setCells crlf2) 122)) 122 (Array.replicate 256 (.bool false)) (Lib.setCells crlf2) HSZ.out (by rw [Lib.setCells_size, Array.size_replicate]) (Lib.setCells_one _)
  rw [size_alloc1] at hsc
  have HSC := box hsc
  have HC : Box (∀ x : UInt8, ((w.alloc (.cells (Lib.setCells crlf2) 122)).alloc (.cells (Lib.setCells crlf2) 122)).cell? ⟨w.heap.size + 1, x.toNat, none⟩ = some (.bool (crlf2.contains x))) := box (fun x => by
    rw [World.cell?_alloc_at _ _ _ _ (by simp), Lib.setCells_at])
  have BL := box (((Below.refl w.heap.size w).alloc (Nat.le_refl _) (.cells (Lib.setCells crlf2) 122)).alloc (by simp) (.cells (Lib.setCells crlf2) 122))
  clear hsc
  go_wp2_with (fail)
  simp only [HSC.out, Result.andThen]
  rw [Oper.upon_skip]
  clear hv63
  go_wp2
  go_loopg [8] s.size (fun g s8 wx => ∃ i : Nat, i + g = s.size ∧ s8 = .int .i64 i ∧ wx = ((w.alloc (.cells (Lib.setCells crlf2) 122)).alloc (.cells (Lib.setCells crlf2) 122)) ∧ Lib.NoAny s.data.toList crlf2 i)
  case atStart => exact ⟨0, by omega, rfl, rfl, Lib.NoAny.zero _ _⟩
  case round =>
    obtain ⟨i, hig, rfl, rfl, hno⟩ := hrel
    have HN := box hno
    clear hno
    cases gk with
    | zero =>
      obtain rfl : i = s.size := by omega
      go_wp2
      go_ret
      exact ⟨ret_int (Lib.indexAny_none (by simpa using HN.out)).symm, BL.out⟩
    | succ g =>
      have hi : i < s.size := by omega
      have hiz : (i : Int) < (s.size : Int) := by omega
      obtain ⟨x, hx⟩ : ∃ x : UInt8, s[i]'hi = x := ⟨_, rfl⟩
      have Hx : Box (s.data.toList[i]? = some x) := box (by rw [← hx]; exact Lib.data_getElem? s i hi)
      have hcx := HC.out x
      rcases hin : crlf2.contains x with _ | _
      · rw [hin] at hcx
        have HI := box hin
        have HCX := box hcx
        clear hin hcx
        go_wp2_with fail
        refine (contains_any _ x _ _ HCX.out).mono ?_; rintro e w2 ⟨rfl, rfl⟩
        go_wp2
        go_roundg g
        case measure => omega
        case rel => exact ⟨i + 1, by omega, by first | rfl | simp, rfl, HN.out.succ Hx.out HI.out⟩
      · rw [hin] at hcx
        have HI := box hin
        have HCX := box hcx
        clear hin hcx
        go_wp2_with fail
        refine (contains_any _ x _ _ HCX.out).mono ?_; rintro e w2 ⟨rfl, rfl⟩
        go_wp2
        go_ret
        exact ⟨ret_int (Lib.indexAny_hit HN.out Hx.out HI.out).symm, BL.out⟩
theorem IndexAny_any_crlf (s : ByteArray) (w : World) (hs : s.size ≤ 4000000) :
    Calls Tryz.prog 105 #[.string s, .string crlfS] w fun e w' => e = .returned (.int .i64 (Lib.indexAny s.data.toList crlf2)) ∧ Below w.heap.size w w' := by
  by_cases h : s.size ≤ 8
  · exact IndexAny_short_crlf s w h
  · exact IndexAny_long_crlf s w (by omega) hs
end
section
open Go.RowKit
theorem sDigit_any (b : Int) (w : World) (h0 : 0 ≤ b) (h1 : b ≤ 255) :
    Calls Tryz.prog 119 #[.int .u8 b] w fun e w' => e = .returned (.bool (digitI b)) ∧ w = w' := by
  go_enter Tryz.func119, Tryz.ntmps119
  go_wp2
  all_goals (go_ret; exact ⟨ret_bool (by rw [Bool.eq_iff_iff]; simp [digitI]; omega), rfl⟩)
theorem c_bd (c : UInt8) : (0 : Int) ≤ (c.toNat : Int) ∧ (c.toNat : Int) ≤ 255 := by have := c.toNat_lt; omega
theorem sDigit_c (c : UInt8) (w : World) :
    Calls Tryz.prog 119 #[.int .u8 (c.toNat : Int)] w fun e w' => e = .returned (.bool (digitI (c.toNat : Int))) ∧ w = w' := sDigit_any _ w (c_bd c).1 (c_bd c).2
theorem rDigit_c (c : UInt8) (w : World) :
    Calls Tryz.prog 59 #[.int .u8 (c.toNat : Int)] w fun e w' => e = .returned (.bool (digitI (c.toNat : Int))) ∧ w = w' := rDigit_any _ w (c_bd c).1 (c_bd c).2
theorem visL_not {s : ByteArray} {k : Nat} (hk : k < s.size) (hp : visI (s[k].toNat) = false) : visL s.data.toList = false := by
  simp [visL, all_not hk hp]
theorem visL_end {s : ByteArray} {k : Nat} (h : allI visI (s.data.toList.take k) = true) (hk : s.size ≤ k) : visL s.data.toList = !s.toList.isEmpty := by
  rw [ByteArray.toList_eq]; simp [visL, all_end h hk]
theorem isTarget_any (s : ByteArray) (w : World) (hs : s.size ≤ maxLen) :
    Calls Tryz.prog 83 #[.string s] w fun e w' => e = .returned (.bool (visL s.data.toList)) ∧ w = w' := by
  unfold maxLen at hs
  go_enter Tryz.func83, Tryz.ntmps83
  go_wp2
  go_loop [6] (fun i => ∃ k : Nat, k ≤ s.size ∧ i = .int .i64 k ∧ allI visI (s.data.toList.take k) = true) (fun i => s.size - (intOf i).toNat)
  case atStart => exact ⟨0, Nat.zero_le _, rfl, rfl⟩
  case round =>
    obtain ⟨k, hk, rfl, hall⟩ := hrel
    by_cases hlt : k < s.size
    · have hb := byte_bd s k hlt
      rcases hp : visI (s[k].toNat) with _ | _
      · have HP := Lib.hid hp
        have hq : ¬ (33 ≤ (s[k].toNat : Int) ∧ (s[k].toNat : Int) ≤ 126) := by simpa [visI] using hp
        have HA := Lib.hid hall
        clear hp hall
        by_cases h33 : (s[k].toNat : Int) < 33
        · clear hq
          go_wp2
          go_ret
          exact ⟨ret_bool (visL_not hlt HP.out).symm, rfl⟩
        · have h126 : 126 < (s[k].toNat : Int) := by omega
          clear hq
          go_wp2
          go_ret
          exact ⟨ret_bool (visL_not hlt HP.out).symm, rfl⟩
      · have hq : 33 ≤ (s[k].toNat : Int) ∧ (s[k].toNat : Int) ≤ 126 := by simpa [visI] using hp
        have HA := Lib.hid (all_more hall hlt hp)
        obtain ⟨q1, q2⟩ := hq
        clear hp hall
        go_wp2
        go_round
        case rel => exact ⟨k + 1, by omega, by go_num, HA.out⟩
        case measure => simp [intOf]; omega
    · go_wp2
      go_ret
      exact ⟨ret_bool (by rw [visL_end hall (by omega)]), rfl⟩
theorem rVisible_any (s : ByteArray) (w : World) (hs : s.size ≤ maxLen) :
    Calls Tryz.prog 53 #[.string s] w fun e w' => e = .returned (.bool (visL s.data.toList)) ∧ w = w' := by
  unfold maxLen at hs
  go_enter Tryz.func53, Tryz.ntmps53
  go_wp2
  go_loop [3] (fun i => ∃ k : Nat, k ≤ s.size ∧ i = .int .i64 k ∧ allI visI (s.data.toList.take k) = true) (fun i => s.size - (intOf i).toNat)
  case atStart => exact ⟨0, Nat.zero_le _, rfl, rfl⟩
  case round =>
    obtain ⟨k, hk, rfl, hall⟩ := hrel
    by_cases hlt : k < s.size
    · have hb := byte_bd s k hlt
      rcases hp : visI (s[k].toNat) with _ | _
      · have HP := Lib.hid hp
        have hq : ¬ (33 ≤ (s[k].toNat : Int) ∧ (s[k].toNat : Int) ≤ 126) := by simpa [visI] using hp
        have HA := Lib.hid hall
        clear hp hall
        by_cases h33 : (s[k].toNat : Int) < 33
        · clear hq
          go_wp2
          go_ret
          exact ⟨ret_bool (visL_not hlt HP.out).symm, rfl⟩
        · have h126 : 126 < (s[k].toNat : Int) := by omega
          clear hq
          go_wp2
          go_ret
          exact ⟨ret_bool (visL_not hlt HP.out).symm, rfl⟩
      · have hq : 33 ≤ (s[k].toNat : Int) ∧ (s[k].toNat : Int) ≤ 126 := by simpa [visI] using hp
        have HA := Lib.hid (all_more hall hlt hp)
        obtain ⟨q1, q2⟩ := hq
        clear hp hall
        go_wp2
        go_round
        case rel => exact ⟨k + 1, by omega, by go_num, HA.out⟩
        case measure => simp [intOf]; omega
    · go_wp2
      go_ret
      exact ⟨ret_bool (by rw [visL_end hall (by omega)]), rfl⟩
/-- isVerL by places -/
theorem isVer_at (s : ByteArray) (h : 7 < s.size) : isVerL s.data.toList = (decide (s.size = 8) && ((s.extract 0 5).toList == [72, 84, 84, 80, 47]) && digitI (s[5].toNat) && ((s[6].toNat : Int) == 46) && digitI (s[7].toNat)) := by
  have hz : s.data.toList.length = s.size := by simp
  unfold isVerL
  rw [getD_at s 5 (by omega), getD_at s 6 (by omega), getD_at s 7 (by omega), ext_bs, toList_bs, List.drop_zero, hz]
  rfl
theorem isVer_size {s : ByteArray} (h : ¬ s.size = 8) : isVerL s.data.toList = false := by
  have hz : s.data.toList.length = s.size := by simp
  unfold isVerL; rw [hz, decide_eq_false h]; rfl
theorem isVersion_any (s : ByteArray) (w : World) (hs : s.size ≤ maxLen) :
    Calls Tryz.prog 100 #[.string s] w fun e w' => e = .returned (.bool (isVerL s.data.toList)) ∧ w = w' := by
  unfold maxLen at hs
  by_cases hz : s.size = 8
  · have h5 : 5 < s.size := by omega
    have h6 : 6 < s.size := by omega
    have h7 : 7 < s.size := by omega
    have b5 := byte_bd s 5 h5
    have b7 := byte_bd s 7 h7
    have HV := Lib.hid (isVer_at s h7)
    have HZ := Lib.hid hz
    have hb : ((s.size : Int) == 8) = true := by simp [hz]
    clear hz
    go_enter Tryz.func100, Tryz.ntmps100
    go_wp2_with (go_at_call 119; refine (sDigit_c _ _).mono ?_; rintro e w' ⟨rfl, rfl⟩)
    all_goals (go_ret; exact ⟨ret_bool (by rw [HV.out]; simp [HZ.out, *]), rfl⟩)
  · have hb : ((s.size : Int) == 8) = false := by simpa using fun h => hz (by omega)
    have HV := Lib.hid (isVer_size hz)
    clear hz
    go_enter Tryz.func100, Tryz.ntmps100
    go_wp2
    go_ret
    exact ⟨ret_bool (by rw [HV.out]), rfl⟩
def verV (l : List UInt8) : Value := .tuple #[.int .i64 (verM l), .int .i64 (verE l)]
theorem verV_a {l : List UInt8} (h : isVerL l = false) : verV l = .tuple #[.int .i64 0, .int .i64 1] := by
  have h1 : l ≠ ver11 := by rintro rfl; cases h
  unfold verV; rw [verE_no h, verM_other h1]
theorem verV_b {l : List UInt8} (h : l = ver10) : verV l = .tuple #[.int .i64 0, .int .i64 0] := by
  subst h; unfold verV; rw [verE_10, verM_10]
theorem verV_c {l : List UInt8} (h : l = ver11) : verV l = .tuple #[.int .i64 1, .int .i64 0] := by
  subst h; unfold verV; rw [verE_11, verM_11]
theorem verV_d {l : List UInt8} (h : isVerL l = true) (h0 : l ≠ ver10) (h1 : l ≠ ver11) : verV l = .tuple #[.int .i64 0, .int .i64 3] := by
  unfold verV; rw [verE_other h h0 h1, verM_other h1]
theorem ne_of_beq {a b : List UInt8} (h : (a == b) = false) : a ≠ b := by rintro rfl; simp at h
theorem ret_ver {l : List UInt8} {v : Value} (h : verV l = v) : Ending.returned v = .returned (verV l) := by rw [h]
theorem parseVersion_any (s : ByteArray) (w : World) (hs : s.size ≤ maxLen) :
    Calls Tryz.prog 84 #[.string s] w fun e w' => e = .returned (verV s.data.toList) ∧ w = w' := by
  have HS := Lib.hid hs
  clear hs
  rcases hv : isVerL s.data.toList with _ | _
  · have HV := Lib.hid hv
    go_enter Tryz.func84, Tryz.ntmps84
    go_wp2_with fail
    refine (isVersion_any _ _ HS.out).mono ?_; rintro e w1 ⟨rfl, rfl⟩
    go_wp2
    go_ret2
    exact ⟨ret_ver (verV_a HV.out), rfl⟩
  · have HV := Lib.hid hv
    go_enter Tryz.func84, Tryz.ntmps84
    go_wp2_with fail
    refine (isVersion_any _ _ HS.out).mono ?_; rintro e w1 ⟨rfl, rfl⟩
    go_wp2
    · have h : (s.toList == [72, 84, 84, 80, 47, 49, 46, 48]) = true := by assumption
      go_ret2
      exact ⟨ret_ver (verV_b (by rw [← toList_data]; exact eq_of_beq h)), rfl⟩
    · have h : (s.toList == [72, 84, 84, 80, 47, 49, 46, 49]) = true := by assumption
      go_ret2
      exact ⟨ret_ver (verV_c (by rw [← toList_data]; exact eq_of_beq h)), rfl⟩
    · have h0 : (s.toList == [72, 84, 84, 80, 47, 49, 46, 48]) = false := by assumption
      have h1 : (s.toList == [72, 84, 84, 80, 47, 49, 46, 49]) = false := by assumption
      go_ret2
      exact ⟨ret_ver (verV_d HV.out (by rw [← toList_data]; exact ne_of_beq h0) (by rw [← toList_data]; exact ne_of_beq h1)), rfl⟩
theorem ver_ab {s : ByteArray} (h7 : 7 < s.size) (hv : isVerL s.data.toList = true) : s.data.toList = ([72, 84, 84, 80, 47, s[5]'(by omega), 46, s[7]] : List UInt8) := by
  obtain ⟨a, b, h, _, _⟩ := isVer_ex hv
  have h5 := getD_at s 5 (by omega)
  have h8 := getD_at s 7 (by omega)
  rw [h] at h5 h8
  rw [h, ← h5, ← h8]; rfl
theorem ver_5 {s : ByteArray} (h7 : 7 < s.size) (hv : isVerL s.data.toList = true) (h : ¬ (s[5].toNat : Int) = 49) : verV s.data.toList = .tuple #[.int .i64 0, .int .i64 3] := by
  have e := ver_ab h7 hv
  have hn : s[5] ≠ 49 := by intro hh; rw [hh] at h; exact h rfl
  refine verV_d hv ?_ ?_ <;> (rw [e]; simp [ver10, ver11, hn])
theorem ver_7 {s : ByteArray} (h7 : 7 < s.size) (hv : isVerL s.data.toList = true) (h : 49 < (s[7].toNat : Int)) : verV s.data.toList = .tuple #[.int .i64 0, .int .i64 3] := by
  have e := ver_ab h7 hv
  have hn : s[7] ≠ 48 := by intro hh; rw [hh] at h; revert h; decide
  have hn2 : s[7] ≠ 49 := by intro hh; rw [hh] at h; revert h; decide
  refine verV_d hv ?_ ?_ <;> (rw [e]; simp [ver10, ver11, hn, hn2])
theorem ver_57 {s : ByteArray} (h7 : 7 < s.size) (hv : isVerL s.data.toList = true) (h : (s[5].toNat : Int) = 49) (h2 : (s[7].toNat : Int) ≤ 49) :
    verV s.data.toList = .tuple #[.int .i64 ((s[7].toNat : Int) - 48), .int .i64 0] ∧ 48 ≤ (s[7].toNat : Int) := by
  have e := ver_ab h7 hv
  obtain ⟨a, b, hl, _, hb⟩ := isVer_ex hv
  have h8 := getD_at s 7 (by omega)
  rw [hl] at h8
  have h8' : b = s[7] := h8
  subst h8'
  simp [digitI] at hb
  have e5 : s[5] = 49 := UInt8.toNat_inj.mp (by show _ = 49; omega)
  have : s[7].toNat = 48 ∨ s[7].toNat = 49 := by omega
  rcases this with q | q
  · have e7 : s[7] = 48 := UInt8.toNat_inj.mp (by show _ = 48; omega)
    exact ⟨by rw [verV_b (by rw [e, e5, e7]; rfl), e7]; rfl, by omega⟩
  · have e7 : s[7] = 49 := UInt8.toNat_inj.mp (by show _ = 49; omega)
    exact ⟨by rw [verV_c (by rw [e, e5, e7]; rfl), e7]; rfl, by omega⟩
theorem rversion_any (s : ByteArray) (w : World) (hs : s.size ≤ maxLen) :
    Calls Tryz.prog 54 #[.string s] w fun e w' => e = .returned (verV s.data.toList) ∧ w = w' := by
  unfold maxLen at hs
  by_cases hz : s.size = 8
  · have h5 : 5 < s.size := by omega
    have h6 : 6 < s.size := by omega
    have h7 : 7 < s.size := by omega
    have b5 := byte_bd s 5 h5
    have b7 := byte_bd s 7 h7
    have HV := Lib.hid (isVer_at s h7)
    have HZ := Lib.hid hz
    have hb : ((s.size : Int) != 8) = false := by simp [hz]
    clear hz
    go_enter Tryz.func54, Tryz.ntmps54
    go_wp2_with (go_at_call 59; refine (rDigit_c _ _).mono ?_; rintro e w' ⟨rfl, rfl⟩)
    · have q : (!digitI (s[7].toNat : Int)) = true := by assumption
      go_ret2
      exact ⟨ret_ver (verV_a (by rw [HV.out, Bool.and_eq_false_iff]; right; simpa using q)), rfl⟩
    · have q : (!digitI (s[7].toNat : Int)) = false := by assumption
      have q7 : 49 < (s[7].toNat : Int) := by assumption
      go_ret2
      exact ⟨ret_ver (ver_7 h7 (by simp at q; rw [HV.out]; simp [HZ.out, *] <;> decide) q7), rfl⟩
    · have q : (!digitI (s[7].toNat : Int)) = false := by assumption
      have q5 : (s[5].toNat : Int) = 49 := by assumption
      have q7 : (s[7].toNat : Int) ≤ 49 := by assumption
      have hv : isVerL s.data.toList = true := by simp at q; rw [HV.out]; simp [HZ.out, *] <;> decide
      have h := ver_57 h7 hv q5 q7
      go_ret2
      refine ⟨ret_ver (v := .tuple #[.int .i64 (((s[7].toNat : Int) - 48) % 256), .int .i64 0]) ?_, rfl⟩
      rw [h.1, Int.emod_eq_of_lt (by have := h.2; omega) (by omega)]
    · have q : (!digitI (s[7].toNat : Int)) = false := by assumption
      have q5 : ¬ (s[5].toNat : Int) = 49 := by assumption
      go_ret2
      exact ⟨ret_ver (ver_5 h7 (by simp at q; rw [HV.out]; simp [HZ.out, *] <;> decide) q5), rfl⟩
    all_goals
      go_ret2
      exact ⟨ret_ver (verV_a (by rw [HV.out]; simp [HZ.out, *])), rfl⟩
  · have hb : ((s.size : Int) != 8) = true := by simpa using fun h => hz (by omega)
    have HV := Lib.hid (isVer_size hz)
    clear hz
    go_enter Tryz.func54, Tryz.ntmps54
    go_wp2
    go_ret2
    exact ⟨ret_ver (verV_a HV.out), rfl⟩
end
section
open Go.RowKit
/-- acc has been written for the first k bytes -/
def NmAt (l : List UInt8) (k : Nat) (acc : List UInt8) : Prop := acc.length ≤ k ∧ normL l = (normL (l.drop k)).map (acc ++ ·)
theorem NmAt.start (l : List UInt8) : NmAt l 0 [] := ⟨by simp, by simp⟩
theorem NmAt.fin {l : List UInt8} {k : Nat} {acc : List UInt8} (h : NmAt l k acc) (hk : l.length ≤ k) : normL l = some acc := by
  rw [h.2, List.drop_of_length_le hk]; simp [normL]
theorem NmAt.bad {s : ByteArray} {k : Nat} {acc : List UInt8} (h : NmAt s.data.toList k acc) (hk : k < s.size) (hc : okB s[k] = false) : normL s.data.toList = none := by
  rw [h.2, drop_cons s k hk, norm_bad hc]; rfl
theorem Own.drewN {w : World} {B n : Nat} {v : Value} {l : List UInt8} (h : Own w B v l) : Own (w.drewN n) B v l := h
theorem size_more (w : World) (o : Obj) : w.heap.size ≤ (w.alloc o).heap.size := ((Below.refl w.heap.size w).alloc (Nat.le_refl _) o).size
end
section
open Go.RowKit
def Ss (w : World) (a : Option Addr) (L : List ByteArray) : Prop :=
  ∀ i (h : i < L.length), ∃ g off, a = some ⟨g, off, none⟩ ∧ w.cell? ⟨g, off + i, none⟩ = some (.string L[i])
theorem cell_lt {w : World} {p : Addr} {v : Value} (h : w.cell? p = some v) : p.block < w.heap.size := by
  rcases Nat.lt_or_ge p.block w.heap.size with q | q
  · exact q
  · simp [World.cell?, Array.getElem?_eq_none q] at h
theorem Ss.below {w w' : World} {a : Option Addr} {L : List ByteArray} (h : Ss w a L) (hb : Below w.heap.size w w') : Ss w' a L := fun i hi => by
  obtain ⟨g, off, e, c0⟩ := h i hi
  exact ⟨g, off, e, (hb.cell (cell_lt c0)).trans c0⟩
theorem info_str : (Tryz.prog.info? 9).map (fun i => (i.zero, i.size, i.bytes)) = some (some (.string ⟨#[]⟩), 1, 16) := by kernel_rfl
def OwnS (w : World) (B : Nat) (v : Value) (L : List ByteArray) : Prop := w.ownsRow B 9 1 v L.length (L.map Value.string)
section
variable {w w' : World} {B : Nat} {v : Value}
theorem OwnS.nil (w : World) (B : Nat) : OwnS w B (.slice none 0 0) [] := World.ownsRow_nil _ _ _ _
theorem own_block {e : TypeId} {size n : Nat} {xs : List Value} (h : w.ownsRow B e size v n xs) : ∀ k, v.ownBlock = some k → B ≤ k := by
  intro k hk
  rcases h.2 with ⟨rfl, _⟩ | ⟨g, cap, cur, rfl, hb, _⟩
  · simp [Value.ownBlock] at hk
  · simp [Value.ownBlock] at hk; omega
theorem own_below {e : TypeId} {size n : Nat} {xs : List Value} (h : w.ownsRow B e size v n xs) (hb : Below w.heap.size w w') : w'.ownsRow B e size v n xs := by
  refine ⟨h.1, ?_⟩
  rcases h.2 with q | ⟨g, cap, cur, hv, hB, hg, r⟩
  · exact .inl q
  · refine .inr ⟨g, cap, cur, hv, hB, ?_, r⟩
    have : g < w.heap.size := by
      rcases Nat.lt_or_ge g w.heap.size with q | q
      · exact q
      · rw [Array.getElem?_eq_none q] at hg; cases hg
    rw [hb.block g this]; exact hg
theorem OwnS.ss {L : List ByteArray} (h : OwnS w B v L) : ∃ a cap, v = .slice a L.length cap ∧ Ss w a L ∧ L.length ≤ cap := by
  rcases h.2 with ⟨rfl, hn⟩ | ⟨g, cap, cur, rfl, hB, hg, hc, hm, hs, ht⟩
  · exact ⟨none, 0, by rw [hn], fun i hi => by omega, by omega⟩
  · refine ⟨_, cap, rfl, fun i hi => ⟨g, 0, rfl, ?_⟩, hc⟩
    have q0 : (L.map Value.string)[i]? = some (.string L[i]) := by simp [hi]
    rw [← ht, List.getElem?_take, if_pos (by omega)] at q0
    simp only [World.cell?, hg]
    simpa using q0
end
/-- append of one string that lies in a block of its own -/
theorem wpList_append_str (w : World) {ops : Array Oper} {rest : List Oper} {o : Oper} {a : Act} {Q : Exit → Act → World → Prop} (hgd : o.guard = none) (s x : Operand)
    (ho : o.op = .call { callee := .builtin .append, args := #[s, x], argTypes := #[44, 44] })
    (B : Nat) (v : Value) (L : List ByteArray) (hs : a.eval s = v) (hown : OwnS w B v L)
    (g : Nat) (c : Nat) (hx : a.eval x = .slice (some ⟨g, 0, none⟩) 1 c) (u : ByteArray) (h0 : w.cell? ⟨g, 0, none⟩ = some (.string u)) (hl : L.length ≤ 65536) (hB : B ≤ w.heap.size)
    (h : ∀ v' w', OwnS w' B v' (L ++ [u]) → Below B w w' → wpList Tryz.prog ops Q rest (a.put o.dst v') w') : wpList Tryz.prog ops Q (o :: rest) a w := by
  obtain ⟨i0, hi0, hz0, hz1, hz2⟩ := info_parts info_str
  refine wpList_append_own (P := Tryz.prog) w hgd s x 44 ho B 9 i0 _ 1 16 Tryz.underlying44 hi0 hz0 hz1 hz2 rfl (by decide) v L.length (L.map Value.string) hs hown ⟨g, 0, none⟩ 1 c [.string u] hx rfl ?_ ?_ (by unfold maxLen; omega) (by omega) hB ?_
  · intro j u hj
    match j, hj with
    | 0, hj => simp at hj; subst hj; simpa [Addr.add] using h0
  · intro u hu; simp at hu; subst hu; rfl
  · intro v' w' q1 q2 _
    refine h v' w' (by simpa [OwnS] using q1) ((Below.refl _ _).grown q2 hB (fun k hk => own_block hown k hk))
end
section
open Go.RowKit
def outL (ob : List ByteArray) : List (List UInt8) := ob.map (·.data.toList)
/-- out has been left of the pieces of r0; rest is to come -/
def SegAt (r0 : List UInt8) (ob : List ByteArray) (rest : List UInt8) : Bool → Prop
  | true => dotsL [] (piecesL r0) = dotsL (outL ob) (piecesL rest) ∧ (joinL (outL ob)).length + rest.length ≤ r0.length
  | false => dotsL [] (piecesL r0) = outL ob ∧ (joinL (outL ob)).length ≤ r0.length + 1
theorem SegAt.start (r0 : List UInt8) : SegAt r0 [] r0 true := ⟨rfl, by simp [outL, joinL]⟩
theorem len_join (a : List (List UInt8)) : a.length ≤ (joinL a).length := by
  induction a with
  | nil => simp [joinL]
  | cons x a ih => simp only [joinL, List.flatMap_cons, List.length_append, List.length_cons] at *; omega
theorem SegAt.len {r0 rest : List UInt8} {ob : List ByteArray} {m : Bool} (h : SegAt r0 ob rest m) : ob.length ≤ r0.length + 1 := by
  have h1 := len_join (outL ob)
  have h2 : (outL ob).length = ob.length := by simp [outL]
  cases m
  · have := h.2; omega
  · have := h.2; omega
end
section
open Go.RowKit
def preB (l p : List UInt8) : Bool := p.isPrefixOf l
theorem pre_take (l p : List UInt8) : preB l p = (l.take p.length == p) := by
  unfold preB
  rw [Bool.eq_iff_iff, List.isPrefixOf_iff_prefix, List.prefix_iff_eq_take, beq_iff_eq]
  exact eq_comm
theorem str_cells (s : ByteArray) : Lib.strCells s = s.data.toList.map bv := rfl
/-- append of a string's bytes -/
theorem wpList_append_sb (w : World) {ops : Array Oper} {rest : List Oper} {o : Oper} {a : Act} {Q : Exit → Act → World → Prop} (hgd : o.guard = none) (sl x : Operand)
    (ho : o.op = .call { callee := .builtin .append, args := #[sl, x], argTypes := #[104, 9] })
    (B : Nat) (v : Value) (l : List UInt8) (hs : a.eval sl = v) (hown : Own w B v l) (s : ByteArray) (hx : a.eval x = .string s) (hl : l.length + s.size < 8589934592) (hB : B ≤ w.heap.size)
    (h : ∀ v' w', Own w' B v' (l ++ s.data.toList) → Below B w w' → wpList Tryz.prog ops Q rest (a.put o.dst v') w') : wpList Tryz.prog ops Q (o :: rest) a w := by
  obtain ⟨i0, hi0, hz0, hz1, hz2⟩ := info_parts info_u8
  refine Lib.wpList_append_own_string (P := Tryz.prog) w hgd sl x 104 9 ho B 5 i0 Tryz.underlying104 Tryz.underlying9 hi0 hz0 hz1 hz2 v l.length (l.map bv) hs hown s hx (by unfold maxLen; omega) (by omega) hB ?_
  intro v' w' h1 h2 _
  refine h v' w' ?_ ((Below.refl _ _).grown h2 hB (fun k hk => Own.block hown k hk))
  rw [str_cells] at h1
  have e : (l ++ s.data.toList).length = l.length + s.size := by rw [List.length_append]; simp
  unfold Own
  rw [e, List.map_append]; exact h1
end
end Go.Proofs.YtjabcfabenobiaaGreat.Asc
