/- Merged texts: LisApp LisApp2 LisLaws LisSz HopMine LstRem LstClo. -/
import Derived.Test.YtgagaebgiioeoaaZs01
import Derived.Test.YtgagaebgiioeoaaZs02
import Derived.Test.YtgagaebgiioeoaaZs03
import Derived.Test.YtgagaebgiioeoaaZs04
import Derived.Test.YtgagaebgiioeoaaZs05
import Derived.BigQuiet
import Derived.Deep.QuietTactic
import Derived.Deep.RegionHeld3
import Derived.Laws.EntriesVeiled
import Derived.Laws.Externs
import Derived.Laws.IdiomCopy
import Derived.Lib.AppendStr
import Derived.Lib.Builder
import Derived.Lib.MakeNoZero
import Derived.Lib.SliceRun
import Derived.Lib.UnsafeStr
set_option linter.unusedVariables false
set_option linter.unusedSimpArgs false
set_option maxRecDepth 100000
namespace Go.Proofs.Ytgagaebgiioeoaa.Asc
section
open Go.RowKit
theorem after_any (st : Nat) (c : UInt8) (w : World) (h : st ≤ 2) :
    Calls Try.prog 49 #[.int .i64 (st : Int), .int .u8 (c.toNat : Int)] w fun e w' => e = .returned (.int .i64 ((stepQ st c : Nat) : Int)) ∧ w = w' := by
  obtain ⟨v, hv⟩ : ∃ v, stepQ st c = v := ⟨_, rfl⟩
  rw [hv]
  rcases h34 : ((c.toNat : Int) == 34) with _ | _
  · have n34 : c ≠ 34 := byte_no (d := 34) h34
    rcases h92 : ((c.toNat : Int) == 92) with _ | _
    · have n92 : c ≠ 92 := byte_no (d := 92) h92
      have hs : st = 0 ∧ v = 0 ∨ st = 1 ∧ v = 1 ∨ st = 2 ∧ v = 1 := by
        unfold stepQ at hv
        rw [if_neg n34, if_neg n34, if_neg n92] at hv
        split at hv
        · omega
        · split at hv <;> omega
      clear n34 n92 hv h
      rcases hs with ⟨rfl, rfl⟩ | ⟨rfl, rfl⟩ | ⟨rfl, rfl⟩
      all_goals
        go_enter Try.func49, Try.ntmps49
        go_wp2
        go_ret
        exact ⟨rfl, rfl⟩
    · have e92 : c = 92 := byte_is (d := 92) h92
      have hs : st = 0 ∧ v = 0 ∨ st = 1 ∧ v = 2 ∨ st = 2 ∧ v = 1 := by
        unfold stepQ at hv
        rw [if_neg n34, if_neg n34, if_pos e92] at hv
        split at hv
        · omega
        · split at hv <;> omega
      clear n34 e92 hv h
      rcases hs with ⟨rfl, rfl⟩ | ⟨rfl, rfl⟩ | ⟨rfl, rfl⟩
      all_goals
        go_enter Try.func49, Try.ntmps49
        go_wp2
        go_ret
        exact ⟨rfl, rfl⟩
  · have e34 : c = 34 := byte_is (d := 34) h34
    have hs : st = 0 ∧ v = 1 ∨ st = 1 ∧ v = 0 ∨ st = 2 ∧ v = 1 := by
      unfold stepQ at hv
      rw [if_pos e34, if_pos e34] at hv
      split at hv
      · omega
      · split at hv <;> omega
    clear e34 hv h
    rcases hs with ⟨rfl, rfl⟩ | ⟨rfl, rfl⟩ | ⟨rfl, rfl⟩
    all_goals
      go_enter Try.func49, Try.ntmps49
      go_wp2
      go_ret
      exact ⟨rfl, rfl⟩
def pcV (sep : UInt8) (l : List UInt8) : Value := .tuple #[.string (bs (pcL sep l).1), .string (bs (pcL sep l).2.1), .bool (pcL sep l).2.2]
set_option maxHeartbeats 1000000 in
theorem pieceCut_any (s : ByteArray) (sep : UInt8) (w : World) (hs : s.size ≤ 65000) :
    Calls Try.prog 43 #[.string s, .int .u8 (sep.toNat : Int)] w fun e w' => e = .returned (pcV sep s.data.toList) ∧ Below w.heap.size w w' := by
  have hz : s.data.toList.length = s.size := by simp
  go_enter Try.func43, Try.ntmps43
  go_wp2
  go_loop [7, 11] (fun p i => ∃ k st : Nat, k ≤ s.size ∧ st ≤ 2 ∧ p = .int .i64 (st : Int) ∧ i = .int .i64 k ∧ Box (pcL sep s.data.toList = pcAt sep st s.data.toList k)) (fun _ i => s.size - (intOf i).toNat)
  case atStart => exact ⟨0, 0, Nat.zero_le _, by omega, rfl, rfl, box (pc_start _ _)⟩
  case round =>
    obtain ⟨k, st, hk, hst, rfl, rfl, HC⟩ := hrel
    by_cases hlt : k < s.size
    · have hlt' : k < s.data.toList.length := by rw [hz]; exact hlt
      have hbk : s.data.toList[k] = s[k] := rfl
      rcases h0 : ((st : Int) == 0) with _ | _
      · have n0 : st ≠ 0 := by intro h; subst h; simp at h0
        have HX := box (HC.out.trans (pc_step hlt' (fun h => n0 h.1)))
        have hle := stepQ_le st s[k]
        rw [hbk] at HX
        clear hbk n0
        go_wp2_with fail
        refine (after_any st s[k] _ hst).mono ?_; rintro e w1 ⟨rfl, rfl⟩
        go_wp2
        go_round
        case rel => exact ⟨k + 1, stepQ st s[k], by omega, hle, rfl, by go_num, HX⟩
        case measure => simp [intOf]; omega
      · have e0 : st = 0 := by simpa using h0
        subst e0
        rcases h44 : ((s[k].toNat : Int) == (sep.toNat : Int)) with _ | _
        · have n44 : s[k] ≠ sep := byte_no h44
          have HX := box (HC.out.trans (pc_step hlt' (fun h => n44 h.2)))
          have hle := stepQ_le 0 s[k]
          rw [hbk] at HX
          clear hbk n44
          go_wp2_with fail
          refine (after_any 0 s[k] _ hst).mono ?_; rintro e w1 ⟨rfl, rfl⟩
          go_wp2
          go_round
          case rel => exact ⟨k + 1, stepQ 0 s[k], by omega, hle, rfl, by go_num, HX⟩
          case measure => simp [intOf]; omega
        · have HX := box (HC.out.trans (pc_sep hlt' (byte_is h44)))
          clear hbk
          go_wp2
          go_quiet (fail)
          go_wp2
          go_ret3
          refine ⟨?_, below_drewN _ _⟩
          unfold pcV
          rw [HX.out]
          show Ending.returned (.tuple #[.string (s.extract 0 k), .string (s.extract (k + 1) s.size), .bool true]) = _
          rw [ext_bs, ext_bs, List.drop_zero, List.take_of_length_le (i := s.size) (by simp)]
    · have HX := box (HC.out.trans (pc_end (l := s.data.toList) (by rw [hz]; omega)))
      go_wp2
      go_ret3
      refine ⟨?_, Below.refl _ _⟩
      unfold pcV
      rw [HX.out]
      rfl
end
section
open Go.RowKit
theorem aTrim_is {s x : ByteArray} {w : World} (hs : s.size ≤ maxLen) (h : Box (bs (trimL s.data.toList) = x)) :
    Calls Try.prog 44 #[.string s] w fun e w' => e = .returned (.string x) ∧ w = w' :=
  (Trim_any s w hs).mono fun e w' ⟨h1, h2⟩ => ⟨by rw [h1, ← h.out]; rfl, by first | exact h2 | exact h2.symm⟩
def AppRel (T : List (List UInt8)) (B n : Nat) (w : World) (v r m : Value) (wr : World) : Prop :=
  ∃ (M : List (List UInt8)) (t : ByteArray) (b : Bool), r = .string t ∧ m = .bool b ∧ t.size ≤ n ∧ M.length ≤ 64 ∧ T = addL M (moreL 44 b t.data.toList) ∧ OwnS wr B v (M.map bs) ∧ Below B w wr
def msr (m r : Value) : Nat := match m, r with | .bool true, .string t => t.size + 1 | _, _ => 0
set_option maxHeartbeats 4000000 in
theorem appMem_any (B : Nat) (v : Value) (A : List (List UInt8)) (s : ByteArray) (w : World) (hs : s.size ≤ 65000) (hO : Box (OwnS w B v (A.map bs))) (hB : B ≤ w.heap.size) (hA : A.length ≤ 64) :
    Calls Try.prog 36 #[v, .string s] w fun e w' => ∃ v', e = .returned v' ∧ OwnS w' B v' ((addL A (cutL 44 s.data.toList)).map bs) ∧ Below B w w' := by
  obtain ⟨T, hT⟩ : ∃ T, addL A (cutL 44 s.data.toList) = T := ⟨_, rfl⟩
  have HT := box hT
  rw [hT]
  clear hT
  obtain ⟨av, cv, rfl, _, _⟩ := hO.out.ss
  rw [List.length_map] at hO ⊢
  go_enter Try.func36, Try.ntmps36
  go_wp2
  go_loopw [0, 5, 6] (fun v r m wr => AppRel T B s.size w v r m wr) (fun _ r m _ => msr m r)
  case atStart => exact ⟨A, s, true, rfl, rfl, Nat.le_refl _, hA, HT.out.symm, hO.out, Below.refl _ _⟩
  case round =>
    obtain ⟨M, t, b, rfl, rfl, hts, hM, hTM, hOM, hbel⟩ := hrel
    have O0 := box hOM
    have BL := box hbel
    have HM := box hTM
    have hBw := Nat.le_trans hB hbel.size
    obtain ⟨av, cv, rfl, _, _⟩ := hOM.ss
    rw [List.length_map] at O0 ⊢
    clear hOM hbel hTM
    rcases b with _ | _
    · have HF : Box (T = M) := box (by rw [HM.out]; exact addL_nil hM)
      go_wp2
      go_ret
      exact ⟨_, rfl, by rw [HF.out]; exact O0.out, BL.out⟩
    · by_cases hm : M.length = 64
      · have hmi : ¬ (M.length : Int) < 64 := by omega
        have HF : Box (T = M) := box (by rw [HM.out]; exact addL_full hm)
        clear hm
        go_wp2
        go_ret
        exact ⟨_, rfl, by rw [HF.out]; exact O0.out, BL.out⟩
      · have hmi : (M.length : Int) < 64 := by omega
        have ht6 : t.size ≤ 65000 := by omega
        obtain ⟨p, r, m, hp⟩ : ∃ p r m, pcL 44 t.data.toList = (p, r, m) := ⟨_, _, _, rfl⟩
        have HV : Box (pcV 44 t.data.toList = .tuple #[.string (bs p), .string (bs r), .bool m]) := box (by unfold pcV; rw [hp])
        have hcut : T = addL M (p :: moreL 44 m r) := by
          have := cutL_pc (sep := 44) (by decide) t.data.toList
          rw [hp] at this
          rw [HM.out]
          show addL M (cutL 44 t.data.toList) = _
          rw [this]
        have hsz := pcF_size 44 t.data.toList 0 []
        rw [show pcF 44 0 t.data.toList [] = (p, r, m) from hp] at hsz
        simp only [List.length_nil, Nat.zero_add] at hsz
        rw [show t.data.toList.length = t.size from by simp] at hsz
        have hrz : (bs r).size ≤ s.size := by rw [bs_size]; omega
        have hms : Box (msr (.bool m) (.string (bs r)) < t.size + 1) := box (by
          cases m
          · exact Nat.zero_lt_succ _
          · show (bs r).size + 1 < t.size + 1
            rw [bs_size]; have := hsz.2 rfl; omega)
        have hpz : (bs p).size ≤ maxLen := by rw [bs_size]; unfold maxLen; omega
        have HCut := box hcut
        clear hp hcut hsz HM
        by_cases htr : trimL p = []
        · have HTr : Box (bs (trimL (bs p).data.toList) = ⟨#[]⟩) := box (by rw [bs_toList, htr]; rfl)
          have HN : Box (T = addL M (moreL 44 m (bs r).data.toList)) := box (by rw [HCut.out, addL_blank htr, bs_toList])
          clear HCut
          go_wp2_with fail
          refine (pieceCut_any t 44 _ ht6).mono ?_; rintro e w1 ⟨rfl, hb1⟩
          rw [HV.out]
          have O1 := box (own_below O0.out hb1)
          have B1 := box (BL.out.trans (hb1.mono hBw))
          clear hb1
          go_wp2_with fail
          refine (aTrim_is hpz HTr).mono ?_; rintro e w2 ⟨rfl, rfl⟩
          go_wp2
          go_roundw
          case rel => exact ⟨M, bs r, m, rfl, rfl, hrz, hM, HN.out, O1.out, B1.out⟩
          case measure => exact hms.out
        · obtain ⟨x, hx⟩ : ∃ x, bs (trimL p) = x := ⟨_, rfl⟩
          have HTr : Box (bs (trimL (bs p).data.toList) = x) := box (by rw [bs_toList, hx])
          have hxe : x.toList.isEmpty = false := by
            rw [← hx, toList_bs]
            cases h : trimL p with
            | nil => exact absurd h htr
            | cons c r => rfl
          have HN : Box (T = addL (M ++ [trimL p]) (moreL 44 m (bs r).data.toList)) := box (by rw [HCut.out, addL_more htr, bs_toList])
          have HX : Box ((M ++ [trimL p]).map bs = M.map bs ++ [x]) := box (by rw [List.map_append, List.map_cons, List.map_nil, hx])
          have hm6 : Box ((M.map bs).length ≤ 65536) := box (by rw [List.length_map]; omega)
          have hml : Box ((M ++ [trimL p]).length ≤ 64) := box (by rw [List.length_append]; simp; omega)
          clear HCut hx
          go_wp2_with fail
          refine (pieceCut_any t 44 _ ht6).mono ?_; rintro e w1 ⟨rfl, hb1⟩
          rw [HV.out]
          have O1 := box (own_below O0.out hb1)
          have B1 := box (BL.out.trans (hb1.mono hBw))
          have hBw1 := Nat.le_trans hBw hb1.size
          clear hb1
          go_wp2_with fail
          refine (aTrim_is hpz HTr).mono ?_; rintro e w2 ⟨rfl, rfl⟩
          go_wp2_with (at_builtin; refine wpList_append_str _ rfl (.tmp 26) (.tmp 28) rfl B _ (M.map bs) rfl ?a1 _ _ rfl x ?b1 ?c1 ?d1 ?_)
          case a1 => exact own_below O1.out (below_new _ _)
          case b1 => go_simp
          case c1 => exact hm6.out
          case d1 => simp; omega
          intro v3 w3 hO3 hb3
          have O3 := box hO3
          have B3 := box ((B1.out.alloc hBw1 _).trans hb3)
          clear hO3 hb3
          go_wp2
          go_roundw
          case rel => exact ⟨M ++ [trimL p], bs r, m, rfl, rfl, hrz, hml.out, HN.out, by rw [HX.out]; exact O3.out, B3.out⟩
          case measure => exact hms.out
set_option maxHeartbeats 4000000 in
theorem mAll_any (a : Option Addr) (cap : Nat) (L : List F) (nm : ByteArray) (w : World) (S : Box (Sm L)) (hv : Box (∀ x ∈ getL nm L, x.size ≤ 65000)) (M : Box (nm.size ≤ 65536)) (hF : Box (Fs w a L)) :
    Calls Try.prog 29 #[.slice a L.length cap, .string nm] w fun e w' => ∃ v, e = .returned v ∧ OwnS w' w.heap.size v (allB nm L) ∧ Below w.heap.size w w' := by
  obtain ⟨vs, hvs⟩ : ∃ vs, getL nm L = vs := ⟨_, rfl⟩
  have HVS := box hvs
  have HAL : Box (allB nm L = ((allF vs).take 64).map bs) := box (by unfold allB allL; rw [hvs])
  have hvl : vs.length ≤ 65536 := by
    have := get_le (nm := nm) (L := L) (k := L.length)
    rw [List.take_length, hvs] at this
    have := S.out.1; omega
  rw [hvs] at hv
  clear hvs
  have hl := S.out.1
  go_enter Try.func29, Try.ntmps29
  go_wp2_with fail
  refine (Get_any a cap L nm _ hl S M hF).mono ?_; rintro e w1 ⟨v1, rfl, hO1, hb1⟩
  rw [HVS.out] at hO1
  obtain ⟨a1, cap1, rfl, hS1, hc1⟩ := hO1.ss
  have S1 := box hS1
  have B1 := box hb1
  have hB1 := hb1.size
  clear hO1 hS1 hb1
  go_wp2
  go_loopw [5, 12] (fun v i wr => AllRel vs w1.heap.size w1 v i wr) (fun _ i _ => vs.length - (intOf i).toNat)
  case atStart => exact ⟨0, rfl, Nat.zero_le _, OwnS.nil _ _, Below.refl _ _⟩
  case round =>
    obtain ⟨k, rfl, hk, hO, hbel⟩ := hrel
    have O0 := box hO
    have BL := box hbel
    have hBw := hbel.size
    clear hO hbel
    by_cases hlt : k < vs.length
    · obtain ⟨q, off, rfl, c0⟩ := (S1.out.below BL.out) k hlt
      have hxz := hv.out vs[k] (List.getElem_mem hlt)
      have HN := box (addL_all hlt)
      have hA64 : ((allF (vs.take k)).take 64).length ≤ 64 := by rw [List.length_take]; omega
      go_wp2_with fail
      refine (appMem_any w1.heap.size _ _ vs[k] _ hxz O0 hBw hA64).mono ?_; rintro e w2 ⟨v2, rfl, hO2, hb2⟩
      have O2 := box hO2
      have B2 := box (BL.out.trans hb2)
      clear hO2 hb2 c0
      go_wp2
      go_roundw
      case rel => exact ⟨k + 1, by go_num, by omega, by rw [HN.out]; exact O2.out, B2.out⟩
      case measure => simp [intOf]; omega
    · have HF : Box ((allF (vs.take k)).take 64 = (allF vs).take 64) := box (by rw [List.take_of_length_le (l := vs) (by omega)])
      rw [HF.out] at O0
      go_wp2
      go_ret
      exact ⟨_, rfl, by rw [HAL.out]; exact Go.Joins.ownsRow_le O0.out hB1, B1.out.trans (BL.out.mono hB1)⟩
end
section
open Go.RowKit
theorem mAll_is {a : Option Addr} {cap : Nat} {L : List F} {nm : ByteArray} {K : List ByteArray} {w : World} (S : Box (Sm L)) (hv : Box (∀ x ∈ getL nm L, x.size ≤ 65000)) (M : Box (nm.size ≤ 65536)) (hF : Fs w a L) (h : Box (allB nm L = K)) :
    Calls Try.prog 29 #[.slice a L.length cap, .string nm] w fun e w' => ∃ a2 cap2, e = .returned (.slice a2 K.length cap2) ∧ Ss w' a2 K ∧ Below w.heap.size w w' :=
  (mAll_any a cap L nm w S hv M (box hF)).mono fun e w' ⟨v, h1, h2, h3⟩ => by
    rw [h.out] at h2
    obtain ⟨a2, cap2, rfl, hS, _⟩ := h2.ss
    exact ⟨a2, cap2, h1, hS, h3⟩
theorem rAll_is {a : Option Addr} {cap : Nat} {L : List F} {nm : ByteArray} {K : List ByteArray} {w : World} (S : Box (Sm L)) (hv : Box (∀ x ∈ getL nm L, x.size ≤ 65000)) (M : Box (nm.size ≤ 65536)) (hF : Fs w a L) (h : Box (allB nm L = K)) :
    Calls Try.prog 16 #[.slice a L.length cap, .string nm] w fun e w' => ∃ a2 cap2, e = .returned (.slice a2 K.length cap2) ∧ Ss w' a2 K ∧ Below w.heap.size w w' :=
  (rAll_any a cap L nm w S hv M (box hF)).mono fun e w' ⟨v, h1, h2, h3⟩ => by
    rw [h.out] at h2
    obtain ⟨a2, cap2, rfl, hS, _⟩ := h2.ss
    exact ⟨a2, cap2, h1, hS, h3⟩
theorem all_count (nm : ByteArray) (L : List F) : (allB nm L).length ≤ 65536 := by unfold allB allL; rw [List.length_map, List.length_take]; omega
end
section
theorem all_mem {nm : ByteArray} {L : List F} {m : List UInt8} (h : m ∈ allL nm L) : ∃ x ∈ getL nm L, m.length ≤ x.size := by
  unfold allL at h
  have h := List.mem_of_mem_take h
  unfold allF at h
  obtain ⟨x, hx, hm⟩ := List.mem_flatMap.1 h
  refine ⟨x, hx, ?_⟩
  unfold splitL memL at hm
  have hm := (List.mem_filter.1 (List.mem_of_mem_take hm)).1
  obtain ⟨p, hp, rfl⟩ := List.mem_map.1 hm
  have h1 := cut_small _ _ _ _ p hp
  have h2 := trim_le p
  have hz : x.data.toList.length = x.size := by simp
  simp only [List.length_nil, Nat.zero_add] at h1
  omega
theorem allB_mem19 {n : ByteArray} {L : List F} {k : Nat} (hv : ∀ x ∈ getL n L, x.size ≤ k) : ∀ x ∈ allB n L, x.size ≤ k := fun x hx => by
  unfold allB at hx
  obtain ⟨m, hm, rfl⟩ := List.mem_map.1 hx
  obtain ⟨y, hy, hle⟩ := all_mem hm
  have := hv y hy
  rw [bs_size]; omega
end
section
open Go.RowKit
theorem contains25_is {s sub : ByteArray} {q : Bool} {w : World} (hs : s.size ≤ 65536) (hm : MxL w) (h : Box (Lib.contains s.data.toList sub.data.toList = q)) :
    Calls Try.prog 38 #[.string s, .string sub] w fun e w' => e = .returned (.bool q) ∧ w' = w :=
  (contains25_any s sub w (by omega) hm).mono fun e w' ⟨h1, h2⟩ => ⟨by rw [h1, h.out], h2⟩
theorem tok25_is {s : ByteArray} {q : Bool} {w : World} (hs : s.size ≤ 65536) (h : Box (tokL s.data.toList = q)) :
    Calls Try.prog 37 #[.string s] w fun e w' => e = .returned (.bool q) ∧ w = w' :=
  (Token_any s w (by unfold maxLen; omega)).mono fun e w' ⟨h1, h2⟩ => ⟨by rw [h1, h.out], h2⟩
theorem isAmong_any (names x : ByteArray) (NS : List (List UInt8)) (q : Bool) (w : World) (hm : MxL w) (hn : names.size ≤ 65536) (hx : x.size ≤ 65536) (hN : Box (names.data.toList = commas NS)) (hT : Box (∀ y ∈ NS, tokL y = true)) (hQ : Box (decide (x.data.toList ∈ NS) = q)) :
    Calls Try.prog 30 #[.string names, .string x] w fun e w' => e = .returned (.bool q) ∧ Below w.heap.size w w' := by
  have HM := box hm
  rcases ht : tokL x.data.toList with _ | _
  · have HT := box ht
    have HQ : Box (q = false) := box (by
      rw [← hQ.out]
      have := among_list hT.out x.data.toList
      rw [ht, Bool.false_and] at this
      exact this.symm)
    clear ht hm
    go_enter Try.func30, Try.ntmps30
    go_wp2_with fail
    refine (tok25_is hx HT).mono ?_; rintro e w1 ⟨rfl, rfl⟩
    go_wp2
    go_ret
    exact ⟨ret_bool HQ.out.symm, Below.refl _ _⟩
  · have HT := box ht
    have HC : Box (Lib.contains names.data.toList (⟨#[44]⟩ ++ x ++ ⟨#[44]⟩ : ByteArray).data.toList = q) := box (by
      rw [← hQ.out, hN.out]
      have := among_list hT.out x.data.toList
      rw [ht, Bool.true_and] at this
      rw [← this]
      congr 1)
    have r1 : ∀ w, (Op.stringOp .add ⟨#[44]⟩ x).run Try.prog w = .ok (.string (⟨#[44]⟩ ++ x)) w := fun w => run_string_add_sum w _ _ (by show 1 + x.size ≤ 9223372036854775807; omega)
    have r2 : ∀ w, (Op.stringOp .add (⟨#[44]⟩ ++ x) ⟨#[44]⟩).run Try.prog w = .ok (.string (⟨#[44]⟩ ++ x ++ ⟨#[44]⟩)) w := fun w => run_string_add_sum w _ _ (by rw [ByteArray.size_append]; show 1 + x.size + 1 ≤ 9223372036854775807; omega)
    clear ht hm
    go_enter Try.func30, Try.ntmps30
    go_wp2_with fail
    refine (tok25_is hx HT).mono ?_; rintro e w1 ⟨rfl, rfl⟩
    go_wp2_with (go_at_call 38; refine (contains25_is hn HM.out HC).mono ?_; rintro e w2 ⟨rfl, rfl⟩)
    go_ret
    exact ⟨rfl, Below.refl _ _⟩
theorem isAmong_is {names x : ByteArray} {NS : List (List UInt8)} {q : Bool} {w : World} (hm : MxL w) (hn : names.size ≤ 65536) (hx : x.size ≤ 65536) (hN : Box (names.data.toList = commas NS)) (hT : Box (∀ y ∈ NS, tokL y = true)) (hQ : Box (decide (x.data.toList ∈ NS) = q)) :
    Calls Try.prog 30 #[.string names, .string x] w fun e w' => e = .returned (.bool q) ∧ Below w.heap.size w w' :=
  isAmong_any names x NS q w hm hn hx hN hT hQ
theorem con_any (a : Option Addr) (cap n : Nat) (K : List ByteArray) (x : ByteArray) (q : Bool) (w : World) (hm : MxL w) (hx : x.size ≤ 65536) (hK : K.length ≤ 65536) (hS : Box (Ss w a K)) (hn : Box (K.length = n)) (hQ : Box (conB x K = q)) :
    Calls Try.prog 19 #[.string x, .slice a n cap] w fun e w' => e = .returned (.bool q) ∧ Below w.heap.size w w' := by
  have HM := box hm
  clear hm
  rcases h1 : decide (x.data.toList ∈ lowN25 fixN) with _ | _
  · have H1 := box h1
    rcases h2 : hasS K x with _ | _
    · have H2 := box h2
      have HQ : Box (q = false) := box (by rw [← hQ.out]; unfold conB; rw [h1, h2]; rfl)
      clear h1 h2
      go_enter Try.func19, Try.ntmps19
      go_wp2_with fail
      refine (isAmong_is HM.out (by decide) hx (box (by decide +kernel)) (box fix_tok) H1).mono ?_; rintro e w1 ⟨rfl, hb1⟩
      have B1 := box hb1
      clear hb1
      go_wp2_with fail
      refine (contains17_is (V := K) hK (hS.out.below B1.out) H2 hn).mono ?_; rintro e w2 ⟨rfl, rfl⟩
      go_wp2
      go_ret
      exact ⟨ret_bool HQ.out.symm, B1.out⟩
    · have H2 := box h2
      obtain ⟨k, hk⟩ : ∃ k, decide (x.data.toList ∈ lowN25 kepN) = k := ⟨_, rfl⟩
      have H3 := box hk
      have HQ : Box (q = !k) := box (by rw [← hQ.out]; unfold conB; rw [h1, h2, hk]; rfl)
      clear h1 h2 hk
      go_enter Try.func19, Try.ntmps19
      go_wp2_with fail
      refine (isAmong_is HM.out (by decide) hx (box (by decide +kernel)) (box fix_tok) H1).mono ?_; rintro e w1 ⟨rfl, hb1⟩
      have B1 := box hb1
      have M1 := box (HM.out.below hb1 (Nat.le_refl _))
      clear hb1
      go_wp2_with (first | (go_at_call 31; refine (contains17_is (V := K) hK (hS.out.below B1.out) H2 hn).mono ?_; rintro e w2 ⟨rfl, rfl⟩) | (go_at_call 30; refine (isAmong_is M1.out (by decide) hx (box (by decide +kernel)) (box kep_tok) H3).mono ?_; rintro e w3 ⟨rfl, hb3⟩; have B3 := box (B1.out.trans (hb3.mono B1.out.size)); clear hb3))
      all_goals (go_ret; exact ⟨ret_bool HQ.out.symm, B3.out⟩)
  · have H1 := box h1
    have HQ : Box (q = true) := box (by rw [← hQ.out]; unfold conB; rw [h1]; rfl)
    clear h1
    go_enter Try.func19, Try.ntmps19
    go_wp2_with fail
    refine (isAmong_is HM.out (by decide) hx (box (by decide +kernel)) (box fix_tok) H1).mono ?_; rintro e w1 ⟨rfl, hb1⟩
    have B1 := box hb1
    clear hb1
    go_wp2
    go_ret
    exact ⟨ret_bool HQ.out.symm, B1.out⟩
theorem con_is {a : Option Addr} {cap n : Nat} {K : List ByteArray} {x : ByteArray} {q : Bool} {w : World} (hm : MxL w) (hx : x.size ≤ 65536) (hK : K.length ≤ 65536) (hS : Ss w a K) (hn : Box (K.length = n)) (hQ : Box (conB x K = q)) :
    Calls Try.prog 19 #[.string x, .slice a n cap] w fun e w' => e = .returned (.bool q) ∧ Below w.heap.size w w' :=
  con_any a cap n K x q w hm hx hK (box hS) hn hQ
def LstRel (M : List ByteArray) (B : Nat) (W : World) (v i : Value) (wr : World) : Prop := ∃ k : Nat, k ≤ M.length ∧ i = .int .i64 k ∧ OwnS wr B v ((M.take k).map lowBs) ∧ Below W.heap.size W wr
theorem lows_more {M : List ByteArray} {k : Nat} (h : k < M.length) : (M.take (k + 1)).map lowBs = (M.take k).map lowBs ++ [lowBs M[k]] := by
  rw [List.take_succ_eq_append_getElem h, List.map_append]; rfl
theorem low25_is {x y : ByteArray} {w : World} (hs : x.size ≤ 65536) (h : Box (lowBs x = y)) :
    Calls Try.prog 20 #[.string x] w fun e w' => e = .returned (.string y) ∧ Below w.heap.size w w' :=
  (Lower_any x w (by omega)).mono fun e w' ⟨h1, h2⟩ => ⟨by rw [h1, ← h.out]; rfl, h2⟩
set_option maxHeartbeats 2000000 in
theorem listed_any (a : Option Addr) (cap n : Nat) (L : List F) (w : World) (S : Box (Sm L)) (hv : Box (∀ x ∈ getL conN L, x.size ≤ 65000)) (hF : Box (Fs w a L)) (hn : Box (L.length = n)) :
    Calls Try.prog 18 #[.slice a n cap] w fun e w' => ∃ v, e = .returned v ∧ OwnS w' w.heap.size v ((allB conN L).map lowBs) ∧ Below w.heap.size w w' := by
  obtain ⟨M, hM⟩ : ∃ M, allB conN L = M := ⟨_, rfl⟩
  have HM := box hM
  have HL : Box (M.length ≤ 65536) := box (by rw [← hM]; exact all_count _ _)
  have hl := HL.out
  have HZ : Box (∀ x ∈ M, x.size ≤ 65536) := box (by rw [← hM]; exact fun x hx => Nat.le_trans (allB_mem19 hv.out x hx) (by decide))
  rw [hM]
  clear hM
  have HC := mAll_is (nm := conN) (cap := cap) S hv (box (by decide)) hF.out HM
  rw [hn.out] at HC
  have HC := box HC
  go_enter Try.func18, Try.ntmps18
  go_wp2_with fail
  refine HC.out.mono ?_; rintro e w1 ⟨a1, cap1, rfl, hS1, hb1⟩
  have S1 := box hS1
  have B1 := box hb1
  have hs1 := hb1.size
  clear hS1 hb1
  go_wp2
  go_loopw [3, 9] (fun v i wr => LstRel M w1.heap.size w1 v i wr) (fun _ i _ => M.length - (intOf i).toNat)
  case atStart => exact ⟨0, Nat.zero_le _, rfl, OwnS.nil _ _, Below.refl _ _⟩
  case round =>
    obtain ⟨k, hk, rfl, hO, hbel⟩ := hrel
    have O := box hO
    have BL := box hbel
    have hbs := hbel.size
    clear hO hbel
    by_cases hlt : k < M.length
    · obtain ⟨g, off, rfl, c0⟩ := (S1.out.below BL.out) k hlt
      have HX : Box (M[k].size ≤ 65536) := box (HZ.out _ (List.getElem_mem hlt))
      have HMK := box (lows_more hlt)
      obtain ⟨y, hy⟩ : ∃ y, lowBs M[k] = y := ⟨_, rfl⟩
      have HY := box hy
      clear hy
      go_wp2_with fail
      refine (low25_is HX.out HY).mono ?_; rintro e w2 ⟨rfl, hb2⟩
      have O2 := box (own_below O.out hb2)
      have B2 := box (BL.out.trans (hb2.mono BL.out.size))
      have hbs2 := B2.out.size
      clear hb2 c0
      go_wp2_with (at_builtin; refine wpList_append_str _ rfl (.tmp 13) (.tmp 16) rfl w1.heap.size _ ((M.take k).map lowBs) rfl ?a1 _ _ rfl y ?b1 ?c1 ?d1 ?_)
      case a1 => exact own_below O2.out (below_new _ _)
      case b1 => go_simp
      case c1 => rw [List.length_map, List.length_take]; omega
      case d1 => simp; omega
      intro v' w3 hO3 hb3
      have O3 := box hO3
      clear hO3
      go_wp2
      go_roundw
      case rel => exact ⟨k + 1, by omega, by go_num, by rw [HMK.out, HY.out, List.map_take]; exact O3.out, (B2.out.alloc B2.out.size _).trans hb3⟩
      case measure => simp [intOf]; omega
    · have e : k = M.length := by omega
      have OE := O.out
      rw [e, List.take_length] at OE
      replace OE := box OE
      clear O e
      go_wp2
      go_ret
      exact ⟨_, rfl, Go.Joins.ownsRow_le OE.out hs1, B1.out.trans (BL.out.mono B1.out.size)⟩
end
section
open Go.RowKit
/-- what the function value of Remove has captured: a variable that holds the function value of named -/
def Cap (g2 g1 : Nat) (nm : ByteArray) (w : World) : Prop := w.cell? ⟨g2, 0, none⟩ = some (nmV g1) ∧ Nm g1 nm w
theorem Cap.below {w w' : World} {g2 g1 : Nat} {nm : ByteArray} (h : Cap g2 g1 nm w) (hb : Below w.heap.size w w') : Cap g2 g1 nm w' := ⟨(hb.cell (cell_lt h.1)).trans h.1, h.2.below hb⟩
theorem rem_more {nm : ByteArray} {L : List F} {k : Nat} (h : k < L.length) : remL nm (L.take (k + 1)) = remL nm (L.take k) ++ (if nmd nm L[k] then [] else [L[k]]) := by
  unfold remL; rw [filter_more h]; cases nmd nm L[k] <;> rfl
theorem rem_le {nm : ByteArray} {L : List F} {k : Nat} : (remL nm (L.take k)).length ≤ L.length := by
  unfold remL; exact filter_le
set_option maxHeartbeats 800000 in
theorem rRemove_any (a : Option Addr) (cap : Nat) (L : List F) (nm : ByteArray) (w : World) (hl : L.length ≤ 65536) (S : Box (Sm L)) (M : Box (nm.size ≤ 65536)) (hF : Box (Fs w a L)) :
    Calls Try.prog 17 #[.slice a L.length cap, .string nm] w fun e w' => ∃ v, e = .returned v ∧ OwnF w' w.heap.size v (remL nm L) ∧ Below w.heap.size w w' := by
  go_enter Try.func17, Try.ntmps17
  go_wp2
  go_loopw [5, 6] (fun v i wr => ∃ k : Nat, k ≤ L.length ∧ i = .int .i64 k ∧ OwnF wr w.heap.size v (remL nm (L.take k)) ∧ Below w.heap.size w wr) (fun _ i _ => L.length - (intOf i).toNat)
  case atStart => exact ⟨0, Nat.zero_le _, rfl, OwnF.nil _ _, Below.refl _ _⟩
  case round =>
    obtain ⟨k, hk, rfl, hO, hbel⟩ := hrel
    by_cases hlt : k < L.length
    · obtain ⟨q, off, rfl, c0, c1⟩ := (hF.out.below hbel) k hlt
      have B1 := box ((S.out.2 k hlt).1)
      have O := box hO
      have BL := box hbel
      clear hO hbel
      go_wp2_with fail
      refine (rFold_any L[k].1 nm _ (small_4g B1.out) (small_4g M.out)).mono ?_; rintro e w1 ⟨rfl, hb1⟩
      have c2 := hb1.cell (p := ⟨q, off + k * 2 + 1, none⟩) (cell_lt c1)
      have c3 := hb1.cell (p := ⟨q, off + k * 2, none⟩) (cell_lt c0)
      have O1 := box (own_below O.out hb1)
      have BL1 := box (BL.out.trans (hb1.mono BL.out.size))
      have hbs := BL1.out.size
      rw [c1] at c2
      rw [c0] at c3
      clear hb1 c0 c1
      rcases hp : nmd nm L[k] with _ | _
      · rw [show foldL L[k].1.data.toList nm.data.toList = false from hp]
        have HP := box hp
        clear hp
        go_wp2_with (at_builtin; refine wpList_append_fld _ rfl (.tmp 21) (.tmp 26) rfl w.heap.size _ (remL nm (L.take k)) rfl ?a1 _ _ rfl L[k].1 L[k].2 ?b1 ?b2 ?c1 ?d1 ?_)
        case a1 => exact own_below O1.out (below_new _ _)
        case b1 => go_simp
        case b2 => go_simp
        case c1 => exact Nat.le_trans rem_le hl
        case d1 => simp; omega
        intro v' w3 hO2 hb2
        have O2 := box hO2
        clear hO2
        go_wp2
        go_roundw
        case rel => exact ⟨k + 1, by omega, by go_num, by rw [rem_more hlt, HP.out]; exact O2.out, (BL1.out.alloc BL1.out.size _).trans hb2⟩
        case measure => simp [intOf]; omega
      · rw [show foldL L[k].1.data.toList nm.data.toList = true from hp]
        have HP := box hp
        clear hp
        go_wp2
        go_roundw
        case rel => exact ⟨k + 1, by omega, by go_num, by rw [rem_more hlt, HP.out, if_pos rfl, List.append_nil]; exact O1.out, BL1.out⟩
        case measure => simp [intOf]; omega
    · have e : k = L.length := by omega
      subst e
      rw [List.take_length] at hO
      go_wp2
      go_ret
      exact ⟨_, rfl, hO, hbel⟩
end
section
open Go.RowKit
theorem eql_nil (w : World) (a : Option Addr) (n c n' c' : Nat) : (binOp .eql 22 (.slice a n c) (.slice none n' c')).run Try.prog w = .ok (.bool a.isNone) w := Lib.run_eql_slice_nil w _ _ a n c n' c' Try.underlying22
theorem add_at (g off j : Nat) : (⟨g, off, none⟩ : Addr).add j = ⟨g, off + j, none⟩ := by
  unfold Addr.add; split <;> simp_all
/-- the cells of a list of fields, out of memory -/
theorem Fs.news {w : World} {ad : Addr} {M : List F} (h : Fs w (some ad) M) : ∀ j u, (cellsF M)[j]? = some u → w.cell? (ad.add j) = some u := by
  intro j u hj
  have hlen := (List.getElem?_eq_some_iff.mp hj).1
  rw [cellsF_len] at hlen
  have hi : j / 2 < M.length := by omega
  obtain ⟨g, off, e, c0, c1⟩ := h (j / 2) hi
  obtain ⟨q0, q1⟩ := cellsF_at M (j / 2) hi
  cases e
  rw [add_at]
  rcases Nat.mod_two_eq_zero_or_one j with r | r
  · have ej : j = j / 2 * 2 := by omega
    rw [← ej] at q0 c0
    rw [q0] at hj; cases hj; exact c0
  · have ej : j = j / 2 * 2 + 1 := by omega
    rw [← ej] at q1
    rw [Nat.add_assoc, ← ej] at c1
    rw [q1] at hj; cases hj; exact c1
theorem cellsF_one (M : List F) : ∀ u ∈ cellsF M, u.oneCell' = true := by
  intro u hu
  obtain ⟨p, _, hp⟩ := List.mem_flatMap.mp hu
  simp at hp; rcases hp with rfl | rfl <;> rfl
/-- append of a list of fields -/
theorem wpList_append_flds (w : World) {ops : Array Oper} {rest : List Oper} {o : Oper} {a : Act} {Q : Exit → Act → World → Prop} (hgd : o.guard = none) (s x : Operand)
    (ho : o.op = .call { callee := .builtin .append, args := #[s, x], argTypes := #[22, 22] })
    (B : Nat) (v : Value) (L M : List F) (hs : a.eval s = v) (hown : OwnF w B v L)
    (ad : Option Addr) (c : Nat) (hx : a.eval x = .slice ad M.length c) (hn : ad = none → c = 0) (hM : Fs w ad M) (hl : L.length ≤ 65536) (hm : M.length ≤ 65536) (hB : B ≤ w.heap.size)
    (h : ∀ v' w', OwnF w' B v' (L ++ M) → Below B w w' → wpList Try.prog ops Q rest (a.put o.dst v') w') : wpList Try.prog ops Q (o :: rest) a w := by
  obtain ⟨i0, hi0, hz0, hz1, hz2⟩ := info_parts info_fld
  rcases ad with _ | ad
  · have hc := hn rfl
    subst hc
    have he : M = [] := by
      rcases M with _ | ⟨p, M⟩
      · rfl
      · obtain ⟨g, off, e, _⟩ := hM 0 (by simp)
        cases e
    subst he
    rw [List.append_nil] at h
    exact wpList_append_own_none (P := Try.prog) hgd s x 22 ho B 35 i0 2 Try.underlying22 hi0 v L.length (cellsF L) hs hown hx (h v w hown (Below.refl _ _))
  · refine wpList_append_own (P := Try.prog) w hgd s x 22 ho B 35 i0 _ 2 32 Try.underlying22 hi0 hz0 hz1 hz2 rfl (by decide) v L.length (cellsF L) hs hown ad M.length c (cellsF M) hx (cellsF_len M) hM.news (cellsF_one M) (by unfold maxLen; omega) (by omega) hB ?_
    intro v' w' q1 q2 _
    refine h v' w' (by simpa [OwnF, cellsF_app] using q1) ((Below.refl _ _).grown q2 hB (fun k hk => own_block hown k hk))
theorem OwnF.empty (w : World) : OwnF (w.alloc (.cells #[] 35)) w.heap.size (.slice (some ⟨w.heap.size, 0, none⟩) 0 0) [] :=
  ⟨rfl, .inr ⟨_, _, _, rfl, Nat.le_refl _, heap_alloc_new w _, Nat.zero_le _, by unfold maxLen; omega, rfl, rfl⟩⟩
theorem Clone_nil (cap : Nat) (w : World) :
    Calls Try.prog 22 #[.slice none 0 cap] w fun e w' => ∃ v, e = .returned v ∧ OwnF w' w.heap.size v [] ∧ Below w.heap.size w w' := by
  have hq := eql_nil
  go_enter Try.func22, Try.ntmps22
  go_wp2
  go_ret
  exact ⟨_, rfl, OwnF.nil _ _, Below.refl _ _⟩
theorem Clone_some (a : Addr) (cap : Nat) (L : List F) (w : World) (hl : L.length ≤ 65536) (hF : Box (Fs w (some a) L)) :
    Calls Try.prog 22 #[.slice (some a) L.length cap] w fun e w' => ∃ v, e = .returned v ∧ OwnF w' w.heap.size v L ∧ Below w.heap.size w w' := by
  have hq := eql_nil
  go_enter Try.func22, Try.ntmps22
  go_wp2_with (at_builtin; refine wpList_append_flds _ rfl (.tmp 5) (.tmp 6) rfl w.heap.size _ [] L rfl (OwnF.empty w) (some a) cap rfl (fun h => by cases h) (hF.out.below (below_new _ _)) (by simp) hl (by simp) ?_)
  intro v' w2 hO hb
  have O := box hO
  clear hO
  go_wp2
  go_ret
  exact ⟨_, rfl, O.out, (below_new w _).trans hb⟩
theorem Clone_any (a : Option Addr) (cap : Nat) (L : List F) (w : World) (hl : L.length ≤ 65536) (hF : Box (Fs w a L)) :
    Calls Try.prog 22 #[.slice a L.length cap] w fun e w' => ∃ v, e = .returned v ∧ OwnF w' w.heap.size v L ∧ Below w.heap.size w w' := by
  rcases a with _ | a
  · have he : L = [] := by
      rcases L with _ | ⟨p, L⟩
      · rfl
      · obtain ⟨g, off, e, _⟩ := hF.out 0 (by simp)
        cases e
    subst he
    exact Clone_nil cap w
  · exact Clone_some a cap L w hl hF
end
end Go.Proofs.Ytgagaebgiioeoaa.Asc
