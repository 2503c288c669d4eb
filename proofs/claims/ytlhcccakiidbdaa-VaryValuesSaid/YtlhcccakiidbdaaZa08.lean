/- Merged texts: LisApp LisApp2 BldMem BldJoin LisMine AccKN LisKeep. -/
import Derived.Test.YtlhcccakiidbdaaZa03
import Derived.Test.YtlhcccakiidbdaaZa04
import Derived.Test.YtlhcccakiidbdaaZa06
import Derived.Test.YtlhcccakiidbdaaZa07
import Derived.BigQuiet
import Derived.Deep.QuietTactic
import Derived.Deep.RegionHeld3
import Derived.Laws.Externs
import Derived.Laws.IdiomCopy
import Derived.Lib.AppendStr
import Derived.Lib.Builder
import Derived.Lib.MakeNoZero
import Derived.Lib.UnsafeStr
set_option linter.unusedVariables false
set_option linter.unusedSimpArgs false
set_option maxRecDepth 100000
namespace Go.Proofs.Ytlhcccakiidbdaa.Asc
section
open Go.RowKit
theorem after_any (st : Nat) (c : UInt8) (w : World) (h : st ≤ 2) :
    Calls Try.prog 74 #[.int .i64 (st : Int), .int .u8 (c.toNat : Int)] w fun e w' => e = .returned (.int .i64 ((stepQ st c : Nat) : Int)) ∧ w = w' := by
  obtain ⟨v, hv⟩ : ∃ v, stepQ st c = v := ⟨_, rfl⟩
  rw [hv]
  rcases h34 : ((c.toNat : Int) == 34) with _ | _
  · have n34 : c ≠ 34 := byte_no (d := 34) h34
    rcases h92 : ((c.toNat : Int) == 92) with _ | _
    · have n92 : c ≠ 92 := byte_no (d := 92) h92
      have hs : st = 0 ∧ v = 0 ∨ st = 1 ∧ v = 1 ∨ st = 2 ∧ v = 1 := by
        unfold stepQ at hv
        rw [if_neg n34, if_neg n34, if_neg n92] at hv
        split at hv
        · omega
        · split at hv <;> omega
      clear n34 n92 hv h
      rcases hs with ⟨rfl, rfl⟩ | ⟨rfl, rfl⟩ | ⟨rfl, rfl⟩
      all_goals
        go_enter Try.func74, Try.ntmps74
        go_wp2
        go_ret
        exact ⟨rfl, rfl⟩
    · have e92 : c = 92 := byte_is (d := 92) h92
      have hs : st = 0 ∧ v = 0 ∨ st = 1 ∧ v = 2 ∨ st = 2 ∧ v = 1 := by
        unfold stepQ at hv
        rw [if_neg n34, if_neg n34, if_pos e92] at hv
        split at hv
        · omega
        · split at hv <;> omega
      clear n34 e92 hv h
      rcases hs with ⟨rfl, rfl⟩ | ⟨rfl, rfl⟩ | ⟨rfl, rfl⟩
      all_goals
        go_enter Try.func74, Try.ntmps74
        go_wp2
        go_ret
        exact ⟨rfl, rfl⟩
  · have e34 : c = 34 := byte_is (d := 34) h34
    have hs : st = 0 ∧ v = 1 ∨ st = 1 ∧ v = 0 ∨ st = 2 ∧ v = 1 := by
      unfold stepQ at hv
      rw [if_pos e34, if_pos e34] at hv
      split at hv
      · omega
      · split at hv <;> omega
    clear e34 hv h
    rcases hs with ⟨rfl, rfl⟩ | ⟨rfl, rfl⟩ | ⟨rfl, rfl⟩
    all_goals
      go_enter Try.func74, Try.ntmps74
      go_wp2
      go_ret
      exact ⟨rfl, rfl⟩
def pcV (sep : UInt8) (l : List UInt8) : Value := .tuple #[.string (bs (pcL sep l).1), .string (bs (pcL sep l).2.1), .bool (pcL sep l).2.2]
set_option maxHeartbeats 1000000 in
theorem pieceCut_any (s : ByteArray) (sep : UInt8) (w : World) (hs : s.size ≤ 65000) :
    Calls Try.prog 53 #[.string s, .int .u8 (sep.toNat : Int)] w fun e w' => e = .returned (pcV sep s.data.toList) ∧ Below w.heap.size w w' := by
  have hz : s.data.toList.length = s.size := by simp
  go_enter Try.func53, Try.ntmps53
  go_wp2
  go_loop [7, 11] (fun p i => ∃ k st : Nat, k ≤ s.size ∧ st ≤ 2 ∧ p = .int .i64 (st : Int) ∧ i = .int .i64 k ∧ Box (pcL sep s.data.toList = pcAt sep st s.data.toList k)) (fun _ i => s.size - (intOf i).toNat)
  case atStart => exact ⟨0, 0, Nat.zero_le _, by omega, rfl, rfl, box (pc_start _ _)⟩
  case round =>
    obtain ⟨k, st, hk, hst, rfl, rfl, HC⟩ := hrel
    by_cases hlt : k < s.size
    · have hlt' : k < s.data.toList.length := by rw [hz]; exact hlt
      have hbk : s.data.toList[k] = s[k] := rfl
      rcases h0 : ((st : Int) == 0) with _ | _
      · have n0 : st ≠ 0 := by intro h; subst h; simp at h0
        have HX := box (HC.out.trans (pc_step hlt' (fun h => n0 h.1)))
        have hle := stepQ_le st s[k]
        rw [hbk] at HX
        clear hbk n0
        go_wp2_with fail
        refine (after_any st s[k] _ hst).mono ?_; rintro e w1 ⟨rfl, rfl⟩
        go_wp2
        go_round
        case rel => exact ⟨k + 1, stepQ st s[k], by omega, hle, rfl, by go_num, HX⟩
        case measure => simp [intOf]; omega
      · have e0 : st = 0 := by simpa using h0
        subst e0
        rcases h44 : ((s[k].toNat : Int) == (sep.toNat : Int)) with _ | _
        · have n44 : s[k] ≠ sep := byte_no h44
          have HX := box (HC.out.trans (pc_step hlt' (fun h => n44 h.2)))
          have hle := stepQ_le 0 s[k]
          rw [hbk] at HX
          clear hbk n44
          go_wp2_with fail
          refine (after_any 0 s[k] _ hst).mono ?_; rintro e w1 ⟨rfl, rfl⟩
          go_wp2
          go_round
          case rel => exact ⟨k + 1, stepQ 0 s[k], by omega, hle, rfl, by go_num, HX⟩
          case measure => simp [intOf]; omega
        · have HX := box (HC.out.trans (pc_sep hlt' (byte_is h44)))
          clear hbk
          go_wp2
          go_quiet (fail)
          go_wp2
          go_ret3
          refine ⟨?_, below_drewN _ _⟩
          unfold pcV
          rw [HX.out]
          show Ending.returned (.tuple #[.string (s.extract 0 k), .string (s.extract (k + 1) s.size), .bool true]) = _
          rw [ext_bs, ext_bs, List.drop_zero, List.take_of_length_le (i := s.size) (by simp)]
    · have HX := box (HC.out.trans (pc_end (l := s.data.toList) (by rw [hz]; omega)))
      go_wp2
      go_ret3
      refine ⟨?_, Below.refl _ _⟩
      unfold pcV
      rw [HX.out]
      rfl
end
section
open Go.RowKit
theorem aTrim_is {s x : ByteArray} {w : World} (hs : s.size ≤ maxLen) (h : Box (bs (trimL s.data.toList) = x)) :
    Calls Try.prog 54 #[.string s] w fun e w' => e = .returned (.string x) ∧ w = w' :=
  (Trim_any s w hs).mono fun e w' ⟨h1, h2⟩ => ⟨by rw [h1, ← h.out]; rfl, by first | exact h2 | exact h2.symm⟩
def AppRel (T : List (List UInt8)) (B n : Nat) (w : World) (v r m : Value) (wr : World) : Prop :=
  ∃ (M : List (List UInt8)) (t : ByteArray) (b : Bool), r = .string t ∧ m = .bool b ∧ t.size ≤ n ∧ M.length ≤ 64 ∧ T = addL M (moreL 44 b t.data.toList) ∧ OwnS wr B v (M.map bs) ∧ Below B w wr
def msr (m r : Value) : Nat := match m, r with | .bool true, .string t => t.size + 1 | _, _ => 0
set_option maxHeartbeats 4000000 in
theorem appMem_any (B : Nat) (v : Value) (A : List (List UInt8)) (s : ByteArray) (w : World) (hs : s.size ≤ 65000) (hO : Box (OwnS w B v (A.map bs))) (hB : B ≤ w.heap.size) (hA : A.length ≤ 64) :
    Calls Try.prog 40 #[v, .string s] w fun e w' => ∃ v', e = .returned v' ∧ OwnS w' B v' ((addL A (cutL 44 s.data.toList)).map bs) ∧ Below B w w' := by
  obtain ⟨T, hT⟩ : ∃ T, addL A (cutL 44 s.data.toList) = T := ⟨_, rfl⟩
  have HT := box hT
  rw [hT]
  clear hT
  obtain ⟨av, cv, rfl, _, _⟩ := hO.out.ss
  rw [List.length_map] at hO ⊢
  go_enter Try.func40, Try.ntmps40
  go_wp2
  go_loopw [0, 5, 6] (fun v r m wr => AppRel T B s.size w v r m wr) (fun _ r m _ => msr m r)
  case atStart => exact ⟨A, s, true, rfl, rfl, Nat.le_refl _, hA, HT.out.symm, hO.out, Below.refl _ _⟩
  case round =>
    obtain ⟨M, t, b, rfl, rfl, hts, hM, hTM, hOM, hbel⟩ := hrel
    have O0 := box hOM
    have BL := box hbel
    have HM := box hTM
    have hBw := Nat.le_trans hB hbel.size
    obtain ⟨av, cv, rfl, _, _⟩ := hOM.ss
    rw [List.length_map] at O0 ⊢
    clear hOM hbel hTM
    rcases b with _ | _
    · have HF : Box (T = M) := box (by rw [HM.out]; exact addL_nil hM)
      go_wp2
      go_ret
      exact ⟨_, rfl, by rw [HF.out]; exact O0.out, BL.out⟩
    · by_cases hm : M.length = 64
      · have hmi : ¬ (M.length : Int) < 64 := by omega
        have HF : Box (T = M) := box (by rw [HM.out]; exact addL_full hm)
        clear hm
        go_wp2
        go_ret
        exact ⟨_, rfl, by rw [HF.out]; exact O0.out, BL.out⟩
      · have hmi : (M.length : Int) < 64 := by omega
        have ht6 : t.size ≤ 65000 := by omega
        obtain ⟨p, r, m, hp⟩ : ∃ p r m, pcL 44 t.data.toList = (p, r, m) := ⟨_, _, _, rfl⟩
        have HV : Box (pcV 44 t.data.toList = .tuple #[.string (bs p), .string (bs r), .bool m]) := box (by unfold pcV; rw [hp])
        have hcut : T = addL M (p :: moreL 44 m r) := by
          have := cutL_pc (sep := 44) (by decide) t.data.toList
          rw [hp] at this
          rw [HM.out]
          show addL M (cutL 44 t.data.toList) = _
          rw [this]
        have hsz := pcF_size 44 t.data.toList 0 []
        rw [show pcF 44 0 t.data.toList [] = (p, r, m) from hp] at hsz
        simp only [List.length_nil, Nat.zero_add] at hsz
        rw [show t.data.toList.length = t.size from by simp] at hsz
        have hrz : (bs r).size ≤ s.size := by rw [bs_size]; omega
        have hms : Box (msr (.bool m) (.string (bs r)) < t.size + 1) := box (by
          cases m
          · exact Nat.zero_lt_succ _
          · show (bs r).size + 1 < t.size + 1
            rw [bs_size]; have := hsz.2 rfl; omega)
        have hpz : (bs p).size ≤ maxLen := by rw [bs_size]; unfold maxLen; omega
        have HCut := box hcut
        clear hp hcut hsz HM
        by_cases htr : trimL p = []
        · have HTr : Box (bs (trimL (bs p).data.toList) = ⟨#[]⟩) := box (by rw [bs_toList, htr]; rfl)
          have HN : Box (T = addL M (moreL 44 m (bs r).data.toList)) := box (by rw [HCut.out, addL_blank htr, bs_toList])
          clear HCut
          go_wp2_with fail
          refine (pieceCut_any t 44 _ ht6).mono ?_; rintro e w1 ⟨rfl, hb1⟩
          rw [HV.out]
          have O1 := box (own_below O0.out hb1)
          have B1 := box (BL.out.trans (hb1.mono hBw))
          clear hb1
          go_wp2_with fail
          refine (aTrim_is hpz HTr).mono ?_; rintro e w2 ⟨rfl, rfl⟩
          go_wp2
          go_roundw
          case rel => exact ⟨M, bs r, m, rfl, rfl, hrz, hM, HN.out, O1.out, B1.out⟩
          case measure => exact hms.out
        · obtain ⟨x, hx⟩ : ∃ x, bs (trimL p) = x := ⟨_, rfl⟩
          have HTr : Box (bs (trimL (bs p).data.toList) = x) := box (by rw [bs_toList, hx])
          have hxe : x.toList.isEmpty = false := by
            rw [← hx, toList_bs]
            cases h : trimL p with
            | nil => exact absurd h htr
            | cons c r => rfl
          have HN : Box (T = addL (M ++ [trimL p]) (moreL 44 m (bs r).data.toList)) := box (by rw [HCut.out, addL_more htr, bs_toList])
          have HX : Box ((M ++ [trimL p]).map bs = M.map bs ++ [x]) := box (by rw [List.map_append, List.map_cons, List.map_nil, hx])
          have hm6 : Box ((M.map bs).length ≤ 65536) := box (by rw [List.length_map]; omega)
          have hml : Box ((M ++ [trimL p]).length ≤ 64) := box (by rw [List.length_append]; simp; omega)
          clear HCut hx
          go_wp2_with fail
          refine (pieceCut_any t 44 _ ht6).mono ?_; rintro e w1 ⟨rfl, hb1⟩
          rw [HV.out]
          have O1 := box (own_below O0.out hb1)
          have B1 := box (BL.out.trans (hb1.mono hBw))
          have hBw1 := Nat.le_trans hBw hb1.size
          clear hb1
          go_wp2_with fail
          refine (aTrim_is hpz HTr).mono ?_; rintro e w2 ⟨rfl, rfl⟩
          go_wp2_with (at_builtin; refine wpList_append_str _ rfl (.tmp 26) (.tmp 28) rfl B _ (M.map bs) rfl ?a1 _ _ rfl x ?b1 ?c1 ?d1 ?_)
          case a1 => exact own_below O1.out (below_new _ _)
          case b1 => go_simp
          case c1 => exact hm6.out
          case d1 => simp; omega
          intro v3 w3 hO3 hb3
          have O3 := box hO3
          have B3 := box ((B1.out.alloc hBw1 _).trans hb3)
          clear hO3 hb3
          go_wp2
          go_roundw
          case rel => exact ⟨M ++ [trimL p], bs r, m, rfl, rfl, hrz, hml.out, HN.out, by rw [HX.out]; exact O3.out, B3.out⟩
          case measure => exact hms.out
set_option maxHeartbeats 4000000 in
theorem mAll_any (a : Option Addr) (cap : Nat) (L : List F) (nm : ByteArray) (w : World) (S : Box (Sm L)) (hv : Box (∀ x ∈ getL nm L, x.size ≤ 65000)) (M : Box (nm.size ≤ 65536)) (hF : Box (Fs w a L)) :
    Calls Try.prog 24 #[.slice a L.length cap, .string nm] w fun e w' => ∃ v, e = .returned v ∧ OwnS w' w.heap.size v (allB nm L) ∧ Below w.heap.size w w' := by
  obtain ⟨vs, hvs⟩ : ∃ vs, getL nm L = vs := ⟨_, rfl⟩
  have HVS := box hvs
  have HAL : Box (allB nm L = ((allF vs).take 64).map bs) := box (by unfold allB allL; rw [hvs])
  have hvl : vs.length ≤ 65536 := by
    have := get_le (nm := nm) (L := L) (k := L.length)
    rw [List.take_length, hvs] at this
    have := S.out.1; omega
  rw [hvs] at hv
  clear hvs
  have hl := S.out.1
  go_enter Try.func24, Try.ntmps24
  go_wp2_with fail
  refine (Get_any a cap L nm _ hl S M hF).mono ?_; rintro e w1 ⟨v1, rfl, hO1, hb1⟩
  rw [HVS.out] at hO1
  obtain ⟨a1, cap1, rfl, hS1, hc1⟩ := hO1.ss
  have S1 := box hS1
  have B1 := box hb1
  have hB1 := hb1.size
  clear hO1 hS1 hb1
  go_wp2
  go_loopw [5, 12] (fun v i wr => AllRel vs w1.heap.size w1 v i wr) (fun _ i _ => vs.length - (intOf i).toNat)
  case atStart => exact ⟨0, rfl, Nat.zero_le _, OwnS.nil _ _, Below.refl _ _⟩
  case round =>
    obtain ⟨k, rfl, hk, hO, hbel⟩ := hrel
    have O0 := box hO
    have BL := box hbel
    have hBw := hbel.size
    clear hO hbel
    by_cases hlt : k < vs.length
    · obtain ⟨q, off, rfl, c0⟩ := (S1.out.below BL.out) k hlt
      have hxz := hv.out vs[k] (List.getElem_mem hlt)
      have HN := box (addL_all hlt)
      have hA64 : ((allF (vs.take k)).take 64).length ≤ 64 := by rw [List.length_take]; omega
      go_wp2_with fail
      refine (appMem_any w1.heap.size _ _ vs[k] _ hxz O0 hBw hA64).mono ?_; rintro e w2 ⟨v2, rfl, hO2, hb2⟩
      have O2 := box hO2
      have B2 := box (BL.out.trans hb2)
      clear hO2 hb2 c0
      go_wp2
      go_roundw
      case rel => exact ⟨k + 1, by go_num, by omega, by rw [HN.out]; exact O2.out, B2.out⟩
      case measure => simp [intOf]; omega
    · have HF : Box ((allF (vs.take k)).take 64 = (allF vs).take 64) := box (by rw [List.take_of_length_le (l := vs) (by omega)])
      rw [HF.out] at O0
      go_wp2
      go_ret
      exact ⟨_, rfl, by rw [HAL.out]; exact Go.Joins.ownsRow_le O0.out hB1, B1.out.trans (BL.out.mono hB1)⟩
end
section
open Go.RowKit
theorem bld_info : ∃ j, Try.prog.info? 87 = some j ∧ j.size = 2 := by
  obtain ⟨j, h1, h2⟩ := Option.map_eq_some_iff.1 (show (Try.prog.info? 87).map (·.size) = some 2 by kernel_rfl)
  exact ⟨j, h1, h2⟩
theorem bld_lies : liesAt Try.prog Try.prog.depth 87 (2 / Try.prog.cellsOf 87) 0 87 1 = true := by kernel_rfl
/-- the builder of block b: not yet written, or in use; its bytes l -/
def BldAt (w : World) (B b : Nat) (p : Value) (l : List UInt8) : Prop := Lib.BuilderAt 87 5 B b p (Lib.byteCells l) w
def Bld (w : World) (B b : Nat) (l : List UInt8) : Prop := BldAt w B b (.pointer none) l ∨ BldAt w B b (.pointer (some ⟨b, 0, none⟩)) l
theorem check_used (b : Nat) (w : World) (h0 : w.cell? ⟨b, 0, none⟩ = some (.pointer (some ⟨b, 0, none⟩))) :
    Calls Try.prog 86 #[.pointer (some ⟨b, 0, none⟩)] w fun e w' => e = .returned (.tuple #[]) ∧ w' = w := by
  obtain ⟨j, hj, hjs⟩ := bld_info
  go_enter Try.func86, Try.ntmps86
  go_wp2
  rw [Lib.run_neq_ptr_same w _ Try.underlying85 hj]
  go_wp2
  go_end0
  exact ⟨rfl, rfl⟩
theorem check_new (b : Nat) (w : World) (h0 : w.cell? ⟨b, 0, none⟩ = some (.pointer none)) (hsh : w.shape? b = some (87, 2)) (hf : w.frozen? ⟨b, 0, none⟩ = false) :
    Calls Try.prog 86 #[.pointer (some ⟨b, 0, none⟩)] w fun e w' => e = .returned (.tuple #[]) ∧ w' = w.setCell ⟨b, 0, none⟩ (.pointer (some ⟨b, 0, none⟩)) := by
  obtain ⟨j, hj, hjs⟩ := bld_info
  have hj0 : j.size ≠ 0 := by omega
  go_enter Try.func86, Try.ntmps86
  go_wp2
  rw [Lib.run_to_unsafe w ⟨b, 0, none⟩ Try.underlying85 Try.underlying98 hj hj0 hsh (Nat.zero_lt_succ 1)]
  simp only [Result.andThen]
  rw [Oper.upon_value]
  go_wp2
  rw [run_callFunc_extern Try.func88 (by kernel_rfl) (by kernel_rfl) (by kernel_rfl) (e := Extern.AbiNoEscape.same) (by kernel_rfl), Lib.run_noEscape]
  simp only [Result.andThen]
  rw [Oper.upon_value]
  go_wp2
  rw [Lib.run_from_unsafe w ⟨b, 0, none⟩ Try.underlying98 Try.underlying85 hj hsh bld_lies]
  simp only [Result.andThen]
  rw [Oper.upon_value]
  go_wp2
  go_end0
  exact ⟨rfl, rfl⟩
/-- behind copyCheck the builder is in use -/
theorem check_any (B b : Nat) (l : List UInt8) (w : World) (h : Bld w B b l) :
    Calls Try.prog 86 #[.pointer (some ⟨b, 0, none⟩)] w fun e w' => e = .returned (.tuple #[]) ∧ BldAt w' B b (.pointer (some ⟨b, 0, none⟩)) l ∧ Below B w w' := by
  rcases h with h | h
  · refine (check_new b w h.cell0 h.shape h.frozen0).mono ?_
    rintro e w' ⟨rfl, rfl⟩
    exact ⟨rfl, h.used _, (Below.refl B w).setCell (p := ⟨b, 0, none⟩) h.1 _⟩
  · refine (check_used b w h.cell0).mono ?_
    rintro e w' ⟨rfl, rfl⟩
    exact ⟨rfl, h, Below.refl B _⟩
theorem blk_lt {w : World} {b : Nat} {o : Obj} (h : w.heap[b]? = some o) : b < w.heap.size := by
  rcases Nat.lt_or_ge b w.heap.size with q | q
  · exact q
  · rw [Array.getElem?_eq_none q] at h; cases h
set_option maxHeartbeats 4000000 in
/-- grow, at a builder in use that has no buffer yet -/
theorem grow_new (B b n : Nat) (w : World) (hB : B ≤ b) (hb : w.heap[b]? = some (.cells #[.pointer (some ⟨b, 0, none⟩), .slice none 0 0] 87 (0, 0))) (hBw : B ≤ w.heap.size) (hn : n ≤ 281474976710656) :
    Calls Try.prog 87 #[.pointer (some ⟨b, 0, none⟩), .int .i64 n] w fun e w' => e = .returned (.tuple #[]) ∧ BldAt w' B b (.pointer (some ⟨b, 0, none⟩)) [] ∧ Below B w w' := by
  obtain ⟨cs, hrun, hle, hmax⟩ := Lib.run_makeNoZero (P := Try.prog) w.drew #[3] 46 5 Try.underlying46 n hn
  have hlt := blk_lt hb
  have hw : IntKind.i64.wrap (IntKind.i64.wrap 0 + (n : Int)) = n := by rw [IntKind.wrap_i64, IntKind.wrap_i64]; omega
  have hcall : (callFunc 89 #[.int .i64 (IntKind.i64.wrap (IntKind.i64.wrap 0 + (n : Int)))]).run Try.prog w.drew = .ok (.value (.slice (some ⟨w.drew.heap.size, 0, none⟩) n cs.size)) (w.drew.drew.drew.alloc (.cells cs 5)) := by
    rw [hw, run_callFunc_extern Try.func89 (by kernel_rfl) (by kernel_rfl) (by kernel_rfl) (e := Extern.BytealgMakeNoZero.makeNoZero #[3] #[46]) (by kernel_rfl), hrun]
    rfl
  have c1 : w.drew.cell? ⟨b, 1, none⟩ = some (.slice none 0 0) := by
    rw [Lib.cell_of_heap (w := w.drew) hb]; rfl
  have hb2 : (w.alloc (.cells cs 5)).heap[b]? = _ := (Lib.alloc_old w _ b hlt).trans hb
  have c2 : (w.alloc (.cells cs 5)).cell? ⟨b, 1, none⟩ = some (.slice none 0 0) := by rw [Lib.cell_of_heap hb2]; rfl
  have f2 : (w.alloc (.cells cs 5)).frozen? ⟨b, 1, none⟩ = false := Lib.frozen_of_heap hb2 1
  have hcopy : ∀ W : World, (Builtin.copy_ #[46, 46] 3 #[.slice (some ⟨w.heap.size, 0, none⟩) 0 cs.size, .slice none 0 0]).run Try.prog W = .ok (goInt 0) W :=
    fun W => run_copy_none W 46 46 3 5 _ _ 0 cs.size 0 0 Try.underlying46 (by kernel_rfl) rfl
  have hfin := Lib.grown_fresh (T := 87) (e := 5) (cs := cs) hB hb hBw (hmax (by unfold maxLen; omega)) (by decide)
  rw [World.setCell_alloc_past _ _ _ _ hlt] at hfin
  have HF := box hfin
  clear hw hb2 hfin
  go_enter Try.func87, Try.ntmps87
  go_wp2
  go_region_held3 (fun w' => w'.cell? ⟨b, 1, none⟩ = some (.slice none 0 0)) (first | exact c1 | exact c2) (fail)
  go_wp2
  go_end0
  exact ⟨rfl, HF.out⟩
/-- Grow, at a builder that has not been written -/
theorem Grow_new (B b n : Nat) (w : World) (hB : B ≤ b) (hb : w.heap[b]? = some (.cells #[.pointer none, .slice none 0 0] 87 (0, 0))) (hBw : B ≤ w.heap.size) (hn : n ≤ 281474976710656) :
    Calls Try.prog 82 #[.pointer (some ⟨b, 0, none⟩), .int .i64 n] w fun e w' => e = .returned (.tuple #[]) ∧ BldAt w' B b (.pointer (some ⟨b, 0, none⟩)) [] ∧ Below B w w' := by
  obtain ⟨w1, hw1⟩ : ∃ w1, w.setCell ⟨b, 0, none⟩ (.pointer (some ⟨b, 0, none⟩)) = w1 := ⟨_, rfl⟩
  have hb1 : w1.heap[b]? = some (.cells #[.pointer (some ⟨b, 0, none⟩), .slice none 0 0] 87 (0, 0)) := by
    rw [← hw1]; simp [World.setCell, Array.getElem?_modify, hb]
  have HB1 : Box (Below B w w1) := box (by rw [← hw1]; exact (Below.refl B w).setCell (p := ⟨b, 0, none⟩) hB _)
  have hBw1 : B ≤ w1.heap.size := Nat.le_trans hBw HB1.out.size
  have hA1 : BldAt w1 B b (.pointer (some ⟨b, 0, none⟩)) [] := ⟨hB, .slice none 0 0, hb1, World.ownsRow_nil _ _ _ _, by simp [Value.ownBlock]⟩
  have A1 := box hA1
  have c1 : w1.cell? ⟨b, 1, none⟩ = some (.slice none 0 0) := by rw [Lib.cell_of_heap hb1]; rfl
  have h0 : w.cell? ⟨b, 0, none⟩ = some (.pointer none) := by rw [Lib.cell_of_heap hb]; rfl
  have h1 : w.shape? b = some (87, 2) := by simp [World.shape?, hb]
  have h2 : w.frozen? ⟨b, 0, none⟩ = false := Lib.frozen_of_heap hb 0
  have H := box h1
  have HB := box hb1
  clear h1 hb hA1 hb1
  go_enter Try.func82, Try.ntmps82
  go_wp2_with fail
  refine (check_new b w h0 H.out h2).mono ?_; rintro e w2 ⟨rfl, rfl⟩
  rw [hw1]
  clear h0 h2 hw1
  by_cases hn0 : n = 0
  · subst hn0
    go_wp2
    go_quiet (fail)
    go_wp2
    go_end0
    exact ⟨rfl, A1.out, HB1.out.trans (Below.mono (below_drewN _ _) hBw1)⟩
  · have hp : (0 : Int) < (n : Int) := by omega
    go_wp2
    go_quiet (fail)
    go_wp2_with fail
    refine (grow_new B b n (w1.drewN _) hB HB.out hBw1 hn).mono ?_; rintro e w3 ⟨rfl, hA, hb3⟩
    have A3 := box hA
    have B3 := box (HB1.out.trans ((Below.mono (below_drewN _ _) hBw1).trans hb3))
    clear hA hb3
    go_wp2
    go_end0
    exact ⟨rfl, A3.out, B3.out⟩
/-- WriteString: the string's bytes behind those that are there -/
theorem WriteString_any (B b : Nat) (l : List UInt8) (s : ByteArray) (w : World) (h : Box (Bld w B b l)) (hl : l.length + s.size ≤ 140737488355328) (hBw : B ≤ w.heap.size) :
    Calls Try.prog 83 #[.pointer (some ⟨b, 0, none⟩), .string s] w fun e w' => e = .returned (.tuple #[.int .i64 s.size, .nilIface]) ∧ BldAt w' B b (.pointer (some ⟨b, 0, none⟩)) (l ++ s.data.toList) ∧ Below B w w' := by
  obtain ⟨i0, hi0, hz0, hz1, hz2⟩ := info_parts info_u8
  go_enter Try.func83, Try.ntmps83
  go_wp2_with fail
  refine (check_any B b l _ h.out).mono ?_; rintro e w1 ⟨rfl, hA, hb1⟩
  obtain ⟨hB, v, hbk, hown, hne⟩ := hA
  have c0 : w1.cell? ⟨b, 0, none⟩ = some (.pointer (some ⟨b, 0, none⟩)) := by rw [Lib.cell_of_heap hbk]; rfl
  have c1 : w1.cell? ⟨b, 1, none⟩ = some v := by rw [Lib.cell_of_heap hbk]; rfl
  have hbw := hb1.size
  have B1 := box hb1
  have H1 := box hown
  have HN := box hne
  have HK := box hbk
  have hll : (Lib.byteCells l).length = l.length := Lib.byteCells_length l
  have hlt := blk_lt hbk
  clear hb1 hown hne hbk
  go_wp2_with (at_builtin; refine Lib.wpList_append_own_string _ rfl _ _ 46 9 rfl B 5 i0 Try.underlying46 Try.underlying9 hi0 hz0 hz1 hz2 _ _ _ rfl H1.out s rfl ?c3 ?c4 ?c5 ?_)
  case c3 => unfold maxLen; omega
  case c4 => omega
  case c5 => omega
  intro v' w2 hown' hgrow _
  have hb2 : w2.heap[b]? = some (.cells #[.pointer (some ⟨b, 0, none⟩), v] 87 (0, 0)) := by
    rw [hgrow.block b hlt (fun e => HN.out e.symm)]
    exact HK.out
  have d1 : w2.cell? ⟨b, 1, none⟩ = some v := by rw [Lib.cell_of_heap hb2]; rfl
  have f1 : w2.frozen? ⟨b, 1, none⟩ = false := Lib.frozen_of_heap hb2 1
  have A2 : Box (BldAt (w2.setCell ⟨b, 1, none⟩ v') B b (.pointer (some ⟨b, 0, none⟩)) (l ++ s.data.toList)) := box
    (Lib.BuilderAt.put (T := 87) (e := 5) hB hb2 (bs' := Lib.byteCells (l ++ s.data.toList)) (by
      rw [Lib.byteCells_append, List.length_append, ← Lib.strCells_eq, Lib.strCells_length, hll]; exact hown') (by decide))
  have B2 : Box (Below B w (w2.setCell ⟨b, 1, none⟩ v')) := box ((B1.out.grown hgrow (by omega) (fun k hk => (H1.out.lt k hk).1)).setCell (p := ⟨b, 1, none⟩) hB _)
  obtain ⟨ax, nx, cx, rfl⟩ : ∃ a n c, v' = .slice a n c := by
    rcases hown'.2 with ⟨hv, _⟩ | ⟨g, cap, cur, hv, _⟩
    · exact ⟨_, _, _, hv⟩
    · exact ⟨_, _, _, hv⟩
  clear hown' hgrow hb2
  go_wp2
  go_ret2
  exact ⟨rfl, A2.out, B2.out⟩
theorem String_some (B b g cap : Nat) (p : Value) (l : List UInt8) (cur : Array Value) (w : World) (hb : w.heap[b]? = some (.cells #[p, .slice (some ⟨g, 0, none⟩) l.length cap] 87 (0, 0))) (hBg : B ≤ g) (hg : w.heap[g]? = some (.cells cur 5 (0, 0))) (h0 : l ≠ []) (hlc : l.length ≤ cap) (hcap : cap ≤ maxLen) (hcs : cur.size = cap)
    (hc : ∀ j x, l[j]? = some x → w.cell? ((⟨g, 0, none⟩ : Addr).add j) = some (.int .u8 (x.toNat : Int))) :
    Calls Try.prog 84 #[.pointer (some ⟨b, 0, none⟩)] w fun e w' => e = .returned (.string ⟨l.toArray⟩) ∧ Below B w w' := by
  have hl0 : l.length ≠ 0 := by simpa using h0
  have c1 : w.drew.cell? ⟨b, 1, none⟩ = some (.slice (some ⟨g, 0, none⟩) l.length cap) := by rw [Lib.cell_of_heap (w := w.drew) hb]; rfl
  have hSD : (Builtin.unsafeSliceData_ #[46] 97 #[.slice (some ⟨g, 0, none⟩) l.length cap]).run Try.prog w.drew = .ok (.pointer (some ⟨g, 0, none⟩)) w.drew :=
    Lib.run_unsafeSliceData_row _ _ _ _ _ _ (by omega)
  have hUS : (Builtin.unsafeString_ #[97, 3] 9 #[.pointer (some ⟨g, 0, none⟩), .int .i64 l.length]).run Try.prog w.drew = .ok (.string ⟨l.toArray⟩) (w.drew.freeze ⟨g, 0, none⟩ l.length) :=
    Lib.run_unsafeString_row w.drew 97 3 9 5 Try.underlying97 (by kernel_rfl) g cur.size (by simp [World.shape?, show w.drew.heap[g]? = _ from hg]) l h0 (by omega) (by unfold maxLen at hcap; omega) hc
  have HB : Box (Below B w (w.drew.freeze ⟨g, 0, none⟩ l.length)) := box (Lib.below_freeze (Below.drew (Below.refl B w)) (p := ⟨g, 0, none⟩) hBg _)
  clear hc hb hg hcap
  go_enter Try.func84, Try.ntmps84
  go_wp2
  go_region
  all_goals (go_wp2; go_ret; exact ⟨rfl, HB.out⟩)
/-- String, at a builder that holds bytes; what they lie in is closed to later stores -/
theorem String_any (B b : Nat) (l : List UInt8) (w : World) (h : Box (Bld w B b l)) (h0 : l ≠ []) :
    Calls Try.prog 84 #[.pointer (some ⟨b, 0, none⟩)] w fun e w' => e = .returned (.string ⟨l.toArray⟩) ∧ Below B w w' := by
  obtain ⟨p, hB, v, hbk, hown, hne⟩ : ∃ p, BldAt w B b p l := by
    rcases h.out with q | q
    · exact ⟨_, q⟩
    · exact ⟨_, q⟩
  rw [Lib.byteCells_length] at hown
  rcases hown.2 with ⟨_, hz⟩ | ⟨g, cap, cur, rfl, hbg, hg, hnc, hcm, hcs, htk⟩
  · exact absurd (by simpa using hz) h0
  · refine String_some B b g cap p l cur w hbk hbg hg h0 hnc hcm (by omega) (fun j x hx => ?_)
    exact hown.cells (g := g) rfl j (.int .u8 x.toNat) (by simp [Lib.byteCells, hx])
end
section
open Go.RowKit
/-- the lengths of the first k -/
def lenT (L : List ByteArray) (k : Nat) : Nat := ((L.take k).map (·.size)).sum
theorem lenT_next {L : List ByteArray} {k : Nat} (h : k < L.length) : lenT L (k + 1) = lenT L k + L[k].size := by
  unfold lenT; rw [List.take_add_one, List.getElem?_eq_getElem h, Option.toList_some, List.map_append, List.sum_append]; rfl
theorem lenT_le {L : List ByteArray} (hz : ∀ x ∈ L, x.size ≤ 65536) : ∀ k, lenT L k ≤ k * 65536
  | 0 => by simp [lenT]
  | k + 1 => by
    have ih := lenT_le hz k
    by_cases h : k < L.length
    · rw [lenT_next h]; have := hz L[k] (List.getElem_mem h); omega
    · have e : lenT L (k + 1) = lenT L k := by unfold lenT; rw [List.take_of_length_le (by omega), List.take_of_length_le (by omega)]
      omega
theorem joinC_len {ms : List (List UInt8)} (hz : ∀ x ∈ ms, x.length ≤ 65536) : ∀ k, (joinC (ms.take k)).length ≤ k * 65540
  | 0 => by simp [joinC]
  | k + 1 => by
    have ih := joinC_len hz k
    by_cases h : k < ms.length
    · have := hz ms[k] (List.getElem_mem h)
      rw [joinC_more h]
      split
      · omega
      · simp only [List.length_append, List.length_cons, List.length_nil]; omega
    · have e : ms.take (k + 1) = ms.take k := by rw [List.take_of_length_le (by omega), List.take_of_length_le (by omega)]
      rw [e]
      exact Nat.le_trans ih (Nat.mul_le_mul_right _ (Nat.le_succ k))
theorem joinC_two {a b : List UInt8} {r : List (List UInt8)} : joinC (a :: b :: r) ≠ [] := by
  show a ++ [44, 32] ++ joinC (b :: r) ≠ []
  simp
theorem Join0_any (a : Option Addr) (cap : Nat) (w : World) :
    Calls Try.prog 72 #[.slice a 0 cap, .string ⟨#[44, 32]⟩] w fun e w' => e = .returned (.string ⟨#[]⟩) ∧ w = w' := by
  go_enter Try.func72, Try.ntmps72
  go_wp2
  go_ret
  exact ⟨rfl, rfl⟩
theorem Join1_any (q off cap : Nat) (x : ByteArray) (w : World) (c0 : w.cell? ⟨q, off, none⟩ = some (.string x)) :
    Calls Try.prog 72 #[.slice (some ⟨q, off, none⟩) 1 cap, .string ⟨#[44, 32]⟩] w fun e w' => e = .returned (.string x) ∧ w = w' := by
  go_enter Try.func72, Try.ntmps72
  go_wp2
  go_ret
  exact ⟨rfl, rfl⟩
def Jn1 (L : List ByteArray) (n i : Value) : Prop := ∃ k : Nat, k ≤ L.length ∧ i = .int .i64 k ∧ n = .int .i64 ((2 * (L.length - 1) + lenT L k : Nat) : Int)
def Jn2 (ms : List (List UInt8)) (B : Nat) (w : World) (i : Value) (wr : World) : Prop := ∃ k : Nat, k + 1 ≤ ms.length ∧ i = .int .i64 k ∧ Box (Bld wr B B (joinC (ms.take (k + 1)))) ∧ Box (Below B w wr)
set_option maxHeartbeats 2000000 in
theorem JoinN_any (q off cap : Nat) (L : List ByteArray) (w : World) (h2 : 2 ≤ L.length) (hl : L.length ≤ 65536) (hcap : L.length ≤ cap) (hz : Box (∀ x ∈ L, x.size ≤ 65536)) (hF : Box (Ss w (some ⟨q, off, none⟩) L)) :
    Calls Try.prog 72 #[.slice (some ⟨q, off, none⟩) L.length cap, .string ⟨#[44, 32]⟩] w fun e w' => e = .returned (.string (joinB L)) ∧ Below w.heap.size w w' := by
  have hdv : ¬ (9223372036854775807 / ((L.length : Int) - 1) ≤ 2) := by
    have : 3 ≤ 9223372036854775807 / ((L.length : Int) - 1) := by
      rw [Int.le_ediv_iff_mul_le (by omega)]; omega
    omega
  have hne0 : ((L.length : Int) == 0) = false := beq_eq_false_iff_ne.2 (by omega)
  have hne1 : ((L.length : Int) == 1) = false := beq_eq_false_iff_ne.2 (by omega)
  go_enter Try.func72, Try.ntmps72
  go_wp2_with fail
  go_loop [5, 41] (fun n i => Jn1 L n i) (fun _ i => L.length - (intOf i).toNat)
  case atStart => exact ⟨0, Nat.zero_le _, rfl, by unfold lenT; simp; omega⟩
  case round =>
    obtain ⟨k, hk, rfl, rfl⟩ := hrel
    have hlz := lenT_le hz.out k
    by_cases hlt : k < L.length
    · obtain ⟨q', off', e, c0⟩ := hF.out k hlt
      cases e
      have hx := hz.out L[k] (List.getElem_mem hlt)
      have HN := box (lenT_next hlt)
      obtain ⟨A, hA⟩ : ∃ A, lenT L k = A := ⟨_, rfl⟩
      have HA := box hA
      rw [hA] at hlz ⊢
      clear hA
      go_wp2
      go_round
      case rel => exact ⟨k + 1, by omega, by go_num, by rw [HN.out, HA.out]; go_num⟩
      case measure => simp [intOf]; omega
    · obtain rfl : k = L.length := by omega
      obtain ⟨n, hn⟩ : ∃ n, 2 * (L.length - 1) + lenT L L.length = n := ⟨_, rfl⟩
      have hn8 : n ≤ 281474976710656 := by omega
      rw [hn]
      clear hn hlz
      obtain ⟨ms, hms⟩ : ∃ ms, (L.map fun x => x.data.toList) = ms := ⟨_, rfl⟩
      have HJ : Box (joinB L = bs (joinC ms)) := box (by unfold joinB; rw [hms])
      have hml : ms.length = L.length := by rw [← hms, List.length_map]
      have HME : Box (∀ k (h : k < L.length), ms[k]'(by omega) = L[k].data.toList) := box (fun k h => by simp only [← hms, List.getElem_map])
      have HML : Box (∀ x ∈ ms, x.length ≤ 65536) := box (fun x hx => by
        rw [← hms] at hx
        obtain ⟨y, hy, rfl⟩ := List.mem_map.mp hx
        have := hz.out y hy
        simpa using this)
      clear hms
      have hq : q < w.heap.size := by
        obtain ⟨q', off', e, c0⟩ := hF.out 0 (by omega)
        cases e
        exact cell_lt c0
      go_wp2_with fail
      refine (Grow_new w.heap.size w.heap.size n _ (Nat.le_refl _) (heap_alloc_new w _) (by simp) hn8).mono ?_; rintro e w1 ⟨rfl, hA1, hb1⟩
      have A1 : Box (Bld w1 w.heap.size w.heap.size []) := box (.inr hA1)
      have B1 := box ((below_new w _).trans hb1)
      have hs1 := B1.out.size
      clear hA1 hb1
      have hl0 : 0 < L.length := by omega
      obtain ⟨q', off', e, c0⟩ := (hF.out.below B1.out) 0 hl0
      cases e
      rw [Nat.add_zero] at c0
      have hx0 := hz.out L[0] (List.getElem_mem hl0)
      go_wp2_with fail
      refine (WriteString_any w.heap.size w.heap.size [] L[0] _ A1 (by rw [List.length_nil]; omega) hs1).mono ?_; rintro e w2 ⟨rfl, hA2, hb2⟩
      have A2 : Box (Bld w2 w.heap.size w.heap.size (joinC (ms.take 1))) := box (.inr (by
        rw [joinC_more (k := 0) (by omega), if_pos rfl, HME.out 0 hl0]; exact hA2))
      have B2 := box (B1.out.trans hb2)
      clear hA2 hb2 c0
      go_wp2_with fail
      go_loopw [65] (fun i wr => Jn2 ms w.heap.size w i wr) (fun i _ => L.length - (intOf i).toNat)
      case atStart => exact ⟨0, by omega, rfl, A2, B2⟩
      case round =>
        obtain ⟨k, hk, rfl, A3, B3⟩ := hrel
        have hs3 := B3.out.size
        have hjl := joinC_len HML.out (k + 1)
        by_cases hlt : k + 1 < L.length
        · obtain ⟨q', off', e, c0⟩ := (hF.out.below B3.out) (k + 1) hlt
          cases e
          rw [show off + (k + 1) = off + 1 + k from by omega] at c0
          have hxk := hz.out L[k + 1] (List.getElem_mem hlt)
          go_wp2_with fail
          refine (WriteString_any w.heap.size w.heap.size _ ⟨#[44, 32]⟩ _ A3 (by show _ + 2 ≤ _; omega) hs3).mono ?_; rintro e w4 ⟨rfl, hA4, hb4⟩
          have A4 : Box (Bld w4 w.heap.size w.heap.size (joinC (ms.take (k + 1)) ++ [44, 32])) := box (.inr hA4)
          have B4 := box (B3.out.trans hb4)
          have hs4 := B4.out.size
          clear hA4 hb4
          go_wp2_with fail
          refine (WriteString_any w.heap.size w.heap.size _ L[k + 1] _ A4 (by rw [List.length_append]; show _ + 2 + _ ≤ _; omega) hs4).mono ?_; rintro e w5 ⟨rfl, hA5, hb5⟩
          have A5 : Box (Bld w5 w.heap.size w.heap.size (joinC (ms.take (k + 1 + 1)))) := box (.inr (by
            rw [joinC_more (k := k + 1) (by omega), if_neg (by omega), HME.out (k + 1) hlt]; exact hA5))
          have B5 := box (B4.out.trans hb5)
          clear hA5 hb5 c0
          go_wp2
          go_roundw
          case rel => exact ⟨k + 1, by omega, by go_num, A5, B5⟩
          case measure => simp [intOf]; omega
        · have hfull : ms.take (k + 1) = ms := List.take_of_length_le (by omega)
          rw [hfull] at A3
          have hne : joinC ms ≠ [] := by
            match ms, hml, h2 with
            | [], e, _ => simp at e; omega
            | [a], e, _ => simp at e; omega
            | a :: b :: r, _, _ => exact joinC_two
          go_wp2_with fail
          refine (String_any w.heap.size w.heap.size _ _ A3 hne).mono ?_; rintro e w6 ⟨rfl, hb6⟩
          have B6 := box (B3.out.trans hb6)
          clear hb6
          go_wp2
          go_ret
          exact ⟨by rw [HJ.out]; rfl, B6.out⟩
end
section
open Go.RowKit
theorem sJoin_any (a : Option Addr) (cap : Nat) (L : List ByteArray) (w : World) (hl : L.length ≤ 65536) (hc : L.length ≤ cap) (hz : Box (∀ x ∈ L, x.size ≤ 65536)) (hF : Box (Ss w a L)) :
    Calls Try.prog 72 #[.slice a L.length cap, .string ⟨#[44, 32]⟩] w fun e w' => e = .returned (.string (joinB L)) ∧ Below w.heap.size w w' := by
  match L, hl, hc, hz, hF with
  | [], _, _, _, _ => exact (Join0_any a cap w).mono fun e w' ⟨h1, h2⟩ => ⟨h1, h2 ▸ Below.refl _ _⟩
  | [x], _, _, _, hF =>
    obtain ⟨q, off, rfl, c0⟩ := hF.out 0 (Nat.zero_lt_succ 0)
    exact (Join1_any q off cap x w c0).mono fun e w' ⟨h1, h2⟩ => ⟨h1, h2 ▸ Below.refl _ _⟩
  | x :: y :: r, hl, hc, hz, hF =>
    obtain ⟨q, off, rfl, c0⟩ := hF.out 0 (Nat.zero_lt_succ _)
    exact JoinN_any q off cap (x :: y :: r) w (Nat.le_add_left 2 r.length) hl hc hz hF
theorem mJoin_any (a : Option Addr) (cap : Nat) (L : List ByteArray) (w : World) (hl : L.length ≤ 65536) (hc : L.length ≤ cap) (hz : Box (∀ x ∈ L, x.size ≤ 65536)) (hF : Box (Ss w a L)) :
    Calls Try.prog 48 #[.slice a L.length cap] w fun e w' => e = .returned (.string (joinB L)) ∧ Below w.heap.size w w' := by
  go_enter Try.func48, Try.ntmps48
  go_wp2_with fail
  refine (sJoin_any a cap L _ hl hc hz hF).mono ?_; rintro e w1 ⟨rfl, hb⟩
  have B := box hb
  clear hb
  go_wp2
  go_ret
  exact ⟨rfl, B.out⟩
end
section
open Go.RowKit
theorem mName0_any (k : Int) (w : World) (hk : InI64 k) :
    Calls Try.prog 71 #[.int .i64 k] w fun e w' => e = .returned (.string (nameK k)) ∧ w = w' := by
  by_cases h1 : k = 1
  · subst h1
    go_enter Try.func71, Try.ntmps71
    go_wp2
    go_ret
    exact ⟨rfl, rfl⟩
  · by_cases h2 : k = 2
    · subst h2
      go_enter Try.func71, Try.ntmps71
      go_wp2
      go_ret
      exact ⟨rfl, rfl⟩
    · by_cases h3 : k = 3
      · subst h3
        go_enter Try.func71, Try.ntmps71
        go_wp2
        go_ret
        exact ⟨rfl, rfl⟩
      · by_cases h4 : k = 4
        · subst h4
          go_enter Try.func71, Try.ntmps71
          go_wp2
          go_ret
          exact ⟨rfl, rfl⟩
        · have HV := box (name_no h1 h2 h3 h4)
          have e1 : (k == 1) = false := by rw [beq_eq_false_iff_ne]; exact h1
          have e2 : (k == 2) = false := by rw [beq_eq_false_iff_ne]; exact h2
          have e3 : (k == 3) = false := by rw [beq_eq_false_iff_ne]; exact h3
          have e4 : (k == 4) = false := by rw [beq_eq_false_iff_ne]; exact h4
          clear h1 h2 h3 h4
          go_enter Try.func71, Try.ntmps71
          go_wp2
          go_ret
          exact ⟨by rw [HV.out]; rfl, rfl⟩
theorem mName0_is {k : Int} {x : ByteArray} {w : World} (hk : InI64 k) (h : Box (nameK k = x)) :
    Calls Try.prog 71 #[.int .i64 k] w fun e w' => e = .returned (.string x) ∧ w = w' :=
  (mName0_any k w hk).mono fun e w' ⟨h1, h2⟩ => ⟨by rw [h1, h.out], h2⟩
theorem mFold13_is {a b : ByteArray} {q : Bool} {w : World} (ha : a.size ≤ 65536) (hb : b.size ≤ 65536) (h : Box (foldL a.data.toList b.data.toList = q)) :
    Calls Try.prog 70 #[.string a, .string b] w fun e w' => e = .returned (.bool q) ∧ Below w.heap.size w w' :=
  (Fold_any a b w (by unfold maxLen; omega) (by unfold maxLen; omega)).mono fun e w' ⟨h1, h2⟩ => ⟨by rw [h1, h.out], h2⟩
/-- the names up to j are others -/
def KdMRel (n : ByteArray) (W : World) (i : Value) (wr : World) : Prop := ∃ j : Int, i = .int .i64 j ∧ (j = 0 ∨ j = 1 ∨ j = 2 ∨ j = 3 ∨ j = 4) ∧ Box (∀ i : Int, 1 ≤ i → i ≤ j → foldL n.data.toList (nameK i).data.toList = false) ∧ Below W.heap.size W wr
theorem kind_atI {n : ByteArray} {j : Int} (h1 : 1 ≤ j) (h4 : j ≤ 4) (hn : ∀ i : Int, 1 ≤ i → i < j → foldL n.data.toList (nameK i).data.toList = false) (h : foldL n.data.toList (nameK j).data.toList = true) : kindN n = j := by
  have e : ((j.toNat : Nat) : Int) = j := by omega
  have := kind_at (n := n) (j := j.toNat) (by omega) (by omega) (fun i a b => hn i (by omega) (by omega)) (by rw [e]; exact h)
  rw [e] at this; exact this
theorem kind_moreI {n x : ByteArray} {j k : Int} (hk : k = j + 1) (hx : nameK k = x) (hn : ∀ i : Int, 1 ≤ i → i ≤ j → foldL n.data.toList (nameK i).data.toList = false) (h : foldL n.data.toList x.data.toList = false) : ∀ i : Int, 1 ≤ i → i ≤ k → foldL n.data.toList (nameK i).data.toList = false := by
  intro i h1 h2
  by_cases e : i = k
  · rw [e, hx]; exact h
  · exact hn i h1 (by omega)
set_option maxHeartbeats 1000000 in
theorem mKind_any (n : ByteArray) (w : World) (hn : n.size ≤ 65536) :
    Calls Try.prog 47 #[.string n] w fun e w' => e = .returned (.int .i64 (kindN n)) ∧ Below w.heap.size w w' := by
  have ix0 : ∀ w, (Instr.index 75 (.agg #[.int .i64 1, .int .i64 2, .int .i64 3, .int .i64 4]) (.int .i64 0)).run Try.prog w = .ok (.int .i64 1) w := fun w => by rfl
  have ix1 : ∀ w, (Instr.index 75 (.agg #[.int .i64 1, .int .i64 2, .int .i64 3, .int .i64 4]) (.int .i64 1)).run Try.prog w = .ok (.int .i64 2) w := fun w => by rfl
  have ix2 : ∀ w, (Instr.index 75 (.agg #[.int .i64 1, .int .i64 2, .int .i64 3, .int .i64 4]) (.int .i64 2)).run Try.prog w = .ok (.int .i64 3) w := fun w => by rfl
  have ix3 : ∀ w, (Instr.index 75 (.agg #[.int .i64 1, .int .i64 2, .int .i64 3, .int .i64 4]) (.int .i64 3)).run Try.prog w = .ok (.int .i64 4) w := fun w => by rfl
  go_enter Try.func47, Try.ntmps47
  go_wp2
  go_loopw [6] (fun i wr => KdMRel n w i wr) (fun i _ => 4 - (intOf i).toNat)
  case atStart => exact ⟨0, rfl, .inl rfl, box (fun i h1 h2 => by omega), Below.refl _ _⟩
  case round =>
    obtain ⟨j, rfl, hj, HNO, hbel⟩ := hrel
    have BL := box hbel
    clear hbel
    rcases hj with rfl | rfl | rfl | rfl | rfl
    · obtain ⟨x, hx⟩ : ∃ x, nameK 1 = x := ⟨_, rfl⟩
      have HX := box hx
      have hxz : x.size ≤ 65536 := by have := name_size 1; rw [hx] at this; omega
      cases hf : foldL n.data.toList x.data.toList with
      | true =>
        have HF := box hf
        have HV : Box (kindN n = 1) := box (kind_atI (by omega) (by omega) (fun i h1 h2 => HNO.out i h1 (by omega)) (by rw [hx]; exact hf))
        clear hf hx
        go_wp2_with fail
        refine (mName0_is ⟨by omega, by omega⟩ HX).mono ?_; rintro e w1 ⟨rfl, rfl⟩
        go_wp2_with fail
        refine (mFold13_is hn hxz HF).mono ?_; rintro e w2 ⟨rfl, hb2⟩
        have B2 := box (BL.out.trans (hb2.mono BL.out.size))
        clear hb2
        go_wp2
        go_ret
        exact ⟨by rw [HV.out]; rfl, B2.out⟩
      | false =>
        have HF := box hf
        have HN2 := box (kind_moreI (k := 1) (by omega) hx HNO.out hf)
        clear hf hx
        go_wp2_with fail
        refine (mName0_is ⟨by omega, by omega⟩ HX).mono ?_; rintro e w1 ⟨rfl, rfl⟩
        go_wp2_with fail
        refine (mFold13_is hn hxz HF).mono ?_; rintro e w2 ⟨rfl, hb2⟩
        have B2 := box (BL.out.trans (hb2.mono BL.out.size))
        clear hb2
        go_wp2
        go_roundw
        case rel => exact ⟨1, by go_num, by omega, HN2, B2.out⟩
        case measure => simp [intOf]
    · obtain ⟨x, hx⟩ : ∃ x, nameK 2 = x := ⟨_, rfl⟩
      have HX := box hx
      have hxz : x.size ≤ 65536 := by have := name_size 2; rw [hx] at this; omega
      cases hf : foldL n.data.toList x.data.toList with
      | true =>
        have HF := box hf
        have HV : Box (kindN n = 2) := box (kind_atI (by omega) (by omega) (fun i h1 h2 => HNO.out i h1 (by omega)) (by rw [hx]; exact hf))
        clear hf hx
        go_wp2_with fail
        refine (mName0_is ⟨by omega, by omega⟩ HX).mono ?_; rintro e w1 ⟨rfl, rfl⟩
        go_wp2_with fail
        refine (mFold13_is hn hxz HF).mono ?_; rintro e w2 ⟨rfl, hb2⟩
        have B2 := box (BL.out.trans (hb2.mono BL.out.size))
        clear hb2
        go_wp2
        go_ret
        exact ⟨by rw [HV.out]; rfl, B2.out⟩
      | false =>
        have HF := box hf
        have HN2 := box (kind_moreI (k := 2) (by omega) hx HNO.out hf)
        clear hf hx
        go_wp2_with fail
        refine (mName0_is ⟨by omega, by omega⟩ HX).mono ?_; rintro e w1 ⟨rfl, rfl⟩
        go_wp2_with fail
        refine (mFold13_is hn hxz HF).mono ?_; rintro e w2 ⟨rfl, hb2⟩
        have B2 := box (BL.out.trans (hb2.mono BL.out.size))
        clear hb2
        go_wp2
        go_roundw
        case rel => exact ⟨2, by go_num, by omega, HN2, B2.out⟩
        case measure => simp [intOf]
    · obtain ⟨x, hx⟩ : ∃ x, nameK 3 = x := ⟨_, rfl⟩
      have HX := box hx
      have hxz : x.size ≤ 65536 := by have := name_size 3; rw [hx] at this; omega
      cases hf : foldL n.data.toList x.data.toList with
      | true =>
        have HF := box hf
        have HV : Box (kindN n = 3) := box (kind_atI (by omega) (by omega) (fun i h1 h2 => HNO.out i h1 (by omega)) (by rw [hx]; exact hf))
        clear hf hx
        go_wp2_with fail
        refine (mName0_is ⟨by omega, by omega⟩ HX).mono ?_; rintro e w1 ⟨rfl, rfl⟩
        go_wp2_with fail
        refine (mFold13_is hn hxz HF).mono ?_; rintro e w2 ⟨rfl, hb2⟩
        have B2 := box (BL.out.trans (hb2.mono BL.out.size))
        clear hb2
        go_wp2
        go_ret
        exact ⟨by rw [HV.out]; rfl, B2.out⟩
      | false =>
        have HF := box hf
        have HN2 := box (kind_moreI (k := 3) (by omega) hx HNO.out hf)
        clear hf hx
        go_wp2_with fail
        refine (mName0_is ⟨by omega, by omega⟩ HX).mono ?_; rintro e w1 ⟨rfl, rfl⟩
        go_wp2_with fail
        refine (mFold13_is hn hxz HF).mono ?_; rintro e w2 ⟨rfl, hb2⟩
        have B2 := box (BL.out.trans (hb2.mono BL.out.size))
        clear hb2
        go_wp2
        go_roundw
        case rel => exact ⟨3, by go_num, by omega, HN2, B2.out⟩
        case measure => simp [intOf]
    · obtain ⟨x, hx⟩ : ∃ x, nameK 4 = x := ⟨_, rfl⟩
      have HX := box hx
      have hxz : x.size ≤ 65536 := by have := name_size 4; rw [hx] at this; omega
      cases hf : foldL n.data.toList x.data.toList with
      | true =>
        have HF := box hf
        have HV : Box (kindN n = 4) := box (kind_atI (by omega) (by omega) (fun i h1 h2 => HNO.out i h1 (by omega)) (by rw [hx]; exact hf))
        clear hf hx
        go_wp2_with fail
        refine (mName0_is ⟨by omega, by omega⟩ HX).mono ?_; rintro e w1 ⟨rfl, rfl⟩
        go_wp2_with fail
        refine (mFold13_is hn hxz HF).mono ?_; rintro e w2 ⟨rfl, hb2⟩
        have B2 := box (BL.out.trans (hb2.mono BL.out.size))
        clear hb2
        go_wp2
        go_ret
        exact ⟨by rw [HV.out]; rfl, B2.out⟩
      | false =>
        have HF := box hf
        have HN2 := box (kind_moreI (k := 4) (by omega) hx HNO.out hf)
        clear hf hx
        go_wp2_with fail
        refine (mName0_is ⟨by omega, by omega⟩ HX).mono ?_; rintro e w1 ⟨rfl, rfl⟩
        go_wp2_with fail
        refine (mFold13_is hn hxz HF).mono ?_; rintro e w2 ⟨rfl, hb2⟩
        have B2 := box (BL.out.trans (hb2.mono BL.out.size))
        clear hb2
        go_wp2
        go_roundw
        case rel => exact ⟨4, by go_num, by omega, HN2, B2.out⟩
        case measure => simp [intOf]
    · have HV : Box (kindN n = 0) := box (kind_no fun i hi1 hi2 => HNO.out i (by omega) (by omega))
      go_wp2
      go_ret
      exact ⟨by rw [HV.out]; rfl, BL.out⟩
end
section
open Go.RowKit
def okS (x : ByteArray) : Bool := decide (x.size ≤ 100)
def keepS (L : List ByteArray) : Bool := decide (L.length ≤ 20) && L.all okS
theorem keepS_bad {L : List ByteArray} {k : Nat} (h : k < L.length) (e : ¬ L[k].size ≤ 100) : keepS L = false := by
  unfold keepS
  have : L.all okS = false := by
    rw [List.all_eq_false]
    exact ⟨L[k], List.getElem_mem h, by unfold okS; simpa using e⟩
  rw [this, Bool.and_false]
theorem keepS_long {L : List ByteArray} (h : ¬ L.length ≤ 20) : keepS L = false := by unfold keepS; rw [decide_eq_false h, Bool.false_and]
theorem keepS_more {L : List ByteArray} {k : Nat} (h : k < L.length) (ha : (L.take k).all okS = true) (e : L[k].size ≤ 100) : (L.take (k + 1)).all okS = true := by
  rw [List.take_add_one, List.getElem?_eq_getElem h, List.all_append, ha]
  simp [okS, e]
theorem keepS_end {L : List ByteArray} (ha : (L.take L.length).all okS = true) (h : L.length ≤ 20) : keepS L = true := by
  rw [List.take_length] at ha
  unfold keepS; rw [ha, decide_eq_true h]; rfl
theorem keepS_small {L : List ByteArray} (h : keepS L = true) : L.length ≤ 20 ∧ ∀ x ∈ L, x.size ≤ 100 := by
  unfold keepS at h
  rw [Bool.and_eq_true, decide_eq_true_eq, List.all_eq_true] at h
  exact ⟨h.1, fun x hx => by have := h.2 x hx; unfold okS at this; simpa using this⟩
theorem keepStrings_any (a : Option Addr) (cap : Nat) (L : List ByteArray) (w : World) (hl : L.length ≤ maxLen) (hF : Box (Ss w a L)) :
    Calls Try.prog 12 #[.slice a L.length cap] w fun e w' => e = .returned (.bool (keepS L)) ∧ w = w' := by
  unfold maxLen at hl
  go_enter Try.func12, Try.ntmps12
  go_wp2
  go_loop [3] (fun i => ∃ k : Nat, k ≤ L.length ∧ k ≤ 21 ∧ i = .int .i64 k ∧ (L.take k).all okS = true) (fun i => 21 - (intOf i).toNat)
  case atStart => exact ⟨0, Nat.zero_le _, Nat.zero_le _, rfl, rfl⟩
  case round =>
    obtain ⟨k, hk, hk71, rfl, hall⟩ := hrel
    have HA := box hall
    clear hall
    by_cases hlt : k < L.length
    · by_cases h71 : k < 21
      · obtain ⟨g, off, rfl, c0⟩ := hF.out k hlt
        by_cases e1 : L[k].size ≤ 100
        · have ei : ¬ (100 : Int) < (L[k].size : Int) := by omega
          have HN := box (keepS_more hlt HA.out e1)
          clear e1
          go_wp2
          go_round
          case rel => exact ⟨k + 1, by omega, by omega, by go_num, HN.out⟩
          case measure => simp [intOf]; omega
        · have ei : (100 : Int) < (L[k].size : Int) := by omega
          have HN := box (keepS_bad hlt e1)
          clear e1
          go_wp2
          go_ret
          exact ⟨ret_bool HN.out.symm, rfl⟩
      · go_wp2
        go_ret
        exact ⟨ret_bool (by rw [keepS_long (by omega)]; simp; omega), rfl⟩
    · have e : k = L.length := by omega
      have E := box e
      clear e
      by_cases h70 : L.length ≤ 20
      · go_wp2
        go_ret
        refine ⟨ret_bool ?_, rfl⟩
        have ha := HA.out
        rw [E.out] at ha
        rw [keepS_end ha h70]
        simp; omega
      · go_wp2
        go_ret
        exact ⟨ret_bool (by rw [keepS_long h70]; simp; omega), rfl⟩
end
end Go.Proofs.Ytlhcccakiidbdaa.Asc
