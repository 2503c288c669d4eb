/- Merged texts: LisApp LisApp2 BldMore ParMine MedMine LanMT CodMine. -/
import Derived.Test.YtcnohcbhnldglaaGreatM03
import Derived.Test.YtcnohcbhnldglaaGreatM04
import Derived.Test.YtcnohcbhnldglaaGreatM07
import Derived.Test.YtcnohcbhnldglaaGreatM08
import Derived.Test.YtcnohcbhnldglaaGreatM09
import Derived.Test.YtcnohcbhnldglaaGreatM10
import Derived.Test.YtcnohcbhnldglaaGreatM11
import Derived.Test.YtcnohcbhnldglaaGreatM13
set_option linter.unusedVariables false
set_option linter.unusedSimpArgs false
set_option maxRecDepth 100000
namespace Go.Proofs.YtcnohcbhnldglaaGreat.Asc
section
open Go.RowKit
theorem after_any (st : Nat) (c : UInt8) (w : World) (h : st ≤ 2) :
    Calls Tryz.prog 67 #[.int .i64 (st : Int), .int .u8 (c.toNat : Int)] w fun e w' => e = .returned (.int .i64 ((stepQ st c : Nat) : Int)) ∧ w = w' := by
  obtain ⟨v, hv⟩ : ∃ v, stepQ st c = v := ⟨_, rfl⟩
  rw [hv]
  rcases h34 : ((c.toNat : Int) == 34) with _ | _
  · have n34 : c ≠ 34 := byte_no (d := 34) h34
    rcases h92 : ((c.toNat : Int) == 92) with _ | _
    · have n92 : c ≠ 92 := byte_no (d := 92) h92
      have hs : st = 0 ∧ v = 0 ∨ st = 1 ∧ v = 1 ∨ st = 2 ∧ v = 1 := by
        unfold stepQ at hv
        rw [if_neg n34, if_neg n34, if_neg n92] at hv
        split at hv
        · omega
        · split at hv <;> omega
      clear n34 n92 hv h
      rcases hs with ⟨rfl, rfl⟩ | ⟨rfl, rfl⟩ | ⟨rfl, rfl⟩
      all_goals
        go_enter Tryz.func67, Tryz.ntmps67
        go_wp2
        go_ret
        exact ⟨rfl, rfl⟩
    · have e92 : c = 92 := byte_is (d := 92) h92
      have hs : st = 0 ∧ v = 0 ∨ st = 1 ∧ v = 2 ∨ st = 2 ∧ v = 1 := by
        unfold stepQ at hv
        rw [if_neg n34, if_neg n34, if_pos e92] at hv
        split at hv
        · omega
        · split at hv <;> omega
      clear n34 e92 hv h
      rcases hs with ⟨rfl, rfl⟩ | ⟨rfl, rfl⟩ | ⟨rfl, rfl⟩
      all_goals
        go_enter Tryz.func67, Tryz.ntmps67
        go_wp2
        go_ret
        exact ⟨rfl, rfl⟩
  · have e34 : c = 34 := byte_is (d := 34) h34
    have hs : st = 0 ∧ v = 1 ∨ st = 1 ∧ v = 0 ∨ st = 2 ∧ v = 1 := by
      unfold stepQ at hv
      rw [if_pos e34, if_pos e34] at hv
      split at hv
      · omega
      · split at hv <;> omega
    clear e34 hv h
    rcases hs with ⟨rfl, rfl⟩ | ⟨rfl, rfl⟩ | ⟨rfl, rfl⟩
    all_goals
      go_enter Tryz.func67, Tryz.ntmps67
      go_wp2
      go_ret
      exact ⟨rfl, rfl⟩
def pcV (sep : UInt8) (l : List UInt8) : Value := .tuple #[.string (bs (pcL sep l).1), .string (bs (pcL sep l).2.1), .bool (pcL sep l).2.2]
set_option maxHeartbeats 1000000 in
theorem pieceCut_any (s : ByteArray) (sep : UInt8) (w : World) (hs : s.size ≤ 65000) :
    Calls Tryz.prog 42 #[.string s, .int .u8 (sep.toNat : Int)] w fun e w' => e = .returned (pcV sep s.data.toList) ∧ Below w.heap.size w w' := by
  have hz : s.data.toList.length = s.size := by simp
  go_enter Tryz.func42, Tryz.ntmps42
  go_wp2
  go_loop [7, 11] (fun p i => ∃ k st : Nat, k ≤ s.size ∧ st ≤ 2 ∧ p = .int .i64 (st : Int) ∧ i = .int .i64 k ∧ Box (pcL sep s.data.toList = pcAt sep st s.data.toList k)) (fun _ i => s.size - (intOf i).toNat)
  case atStart => exact ⟨0, 0, Nat.zero_le _, by omega, rfl, rfl, box (pc_start _ _)⟩
  case round =>
    obtain ⟨k, st, hk, hst, rfl, rfl, HC⟩ := hrel
    by_cases hlt : k < s.size
    · have hlt' : k < s.data.toList.length := by rw [hz]; exact hlt
      have hbk : s.data.toList[k] = s[k] := rfl
      rcases h0 : ((st : Int) == 0) with _ | _
      · have n0 : st ≠ 0 := by intro h; subst h; simp at h0
        have HX := box (HC.out.trans (pc_step hlt' (fun h => n0 h.1)))
        have hle := stepQ_le st s[k]
        rw [hbk] at HX
        clear hbk n0
        go_wp2_with fail
        refine (after_any st s[k] _ hst).mono ?_; rintro e w1 ⟨rfl, rfl⟩
        go_wp2
        go_round
        case rel => exact ⟨k + 1, stepQ st s[k], by omega, hle, rfl, by go_num, HX⟩
        case measure => simp [intOf]; omega
      · have e0 : st = 0 := by simpa using h0
        subst e0
        rcases h44 : ((s[k].toNat : Int) == (sep.toNat : Int)) with _ | _
        · have n44 : s[k] ≠ sep := byte_no h44
          have HX := box (HC.out.trans (pc_step hlt' (fun h => n44 h.2)))
          have hle := stepQ_le 0 s[k]
          rw [hbk] at HX
          clear hbk n44
          go_wp2_with fail
          refine (after_any 0 s[k] _ hst).mono ?_; rintro e w1 ⟨rfl, rfl⟩
          go_wp2
          go_round
          case rel => exact ⟨k + 1, stepQ 0 s[k], by omega, hle, rfl, by go_num, HX⟩
          case measure => simp [intOf]; omega
        · have HX := box (HC.out.trans (pc_sep hlt' (byte_is h44)))
          clear hbk
          go_wp2
          go_quiet (fail)
          go_wp2
          go_ret3
          refine ⟨?_, below_drewN _ _⟩
          unfold pcV
          rw [HX.out]
          show Ending.returned (.tuple #[.string (s.extract 0 k), .string (s.extract (k + 1) s.size), .bool true]) = _
          rw [ext_bs, ext_bs, List.drop_zero, List.take_of_length_le (i := s.size) (by simp)]
    · have HX := box (HC.out.trans (pc_end (l := s.data.toList) (by rw [hz]; omega)))
      go_wp2
      go_ret3
      refine ⟨?_, Below.refl _ _⟩
      unfold pcV
      rw [HX.out]
      rfl
end
section
open Go.RowKit
theorem aTrim_is {s x : ByteArray} {w : World} (hs : s.size ≤ maxLen) (h : Box (bs (trimL s.data.toList) = x)) :
    Calls Tryz.prog 64 #[.string s] w fun e w' => e = .returned (.string x) ∧ w = w' :=
  (Trim_any s w hs).mono fun e w' ⟨h1, h2⟩ => ⟨by rw [h1, ← h.out]; rfl, by first | exact h2 | exact h2.symm⟩
def AppRel (T : List (List UInt8)) (B n : Nat) (w : World) (v r m : Value) (wr : World) : Prop :=
  ∃ (M : List (List UInt8)) (t : ByteArray) (b : Bool), r = .string t ∧ m = .bool b ∧ t.size ≤ n ∧ M.length ≤ 64 ∧ T = addL M (moreL 44 b t.data.toList) ∧ OwnS wr B v (M.map bs) ∧ Below B w wr
def msr (m r : Value) : Nat := match m, r with | .bool true, .string t => t.size + 1 | _, _ => 0
set_option maxHeartbeats 4000000 in
theorem appMem_any (B : Nat) (v : Value) (A : List (List UInt8)) (s : ByteArray) (w : World) (hs : s.size ≤ 65000) (hO : Box (OwnS w B v (A.map bs))) (hB : B ≤ w.heap.size) (hA : A.length ≤ 64) :
    Calls Tryz.prog 39 #[v, .string s] w fun e w' => ∃ v', e = .returned v' ∧ OwnS w' B v' ((addL A (cutL 44 s.data.toList)).map bs) ∧ Below B w w' := by
  obtain ⟨T, hT⟩ : ∃ T, addL A (cutL 44 s.data.toList) = T := ⟨_, rfl⟩
  have HT := box hT
  rw [hT]
  clear hT
  obtain ⟨av, cv, rfl, _, _⟩ := hO.out.ss
  rw [List.length_map] at hO ⊢
  go_enter Tryz.func39, Tryz.ntmps39
  go_wp2
  go_loopw [0, 5, 6] (fun v r m wr => AppRel T B s.size w v r m wr) (fun _ r m _ => msr m r)
  case atStart => exact ⟨A, s, true, rfl, rfl, Nat.le_refl _, hA, HT.out.symm, hO.out, Below.refl _ _⟩
  case round =>
    obtain ⟨M, t, b, rfl, rfl, hts, hM, hTM, hOM, hbel⟩ := hrel
    have O0 := box hOM
    have BL := box hbel
    have HM := box hTM
    have hBw := Nat.le_trans hB hbel.size
    obtain ⟨av, cv, rfl, _, _⟩ := hOM.ss
    rw [List.length_map] at O0 ⊢
    clear hOM hbel hTM
    rcases b with _ | _
    · have HF : Box (T = M) := box (by rw [HM.out]; exact addL_nil hM)
      go_wp2
      go_ret
      exact ⟨_, rfl, by rw [HF.out]; exact O0.out, BL.out⟩
    · by_cases hm : M.length = 64
      · have hmi : ¬ (M.length : Int) < 64 := by omega
        have HF : Box (T = M) := box (by rw [HM.out]; exact addL_full hm)
        clear hm
        go_wp2
        go_ret
        exact ⟨_, rfl, by rw [HF.out]; exact O0.out, BL.out⟩
      · have hmi : (M.length : Int) < 64 := by omega
        have ht6 : t.size ≤ 65000 := by omega
        obtain ⟨p, r, m, hp⟩ : ∃ p r m, pcL 44 t.data.toList = (p, r, m) := ⟨_, _, _, rfl⟩
        have HV : Box (pcV 44 t.data.toList = .tuple #[.string (bs p), .string (bs r), .bool m]) := box (by unfold pcV; rw [hp])
        have hcut : T = addL M (p :: moreL 44 m r) := by
          have := cutL_pc (sep := 44) (by decide) t.data.toList
          rw [hp] at this
          rw [HM.out]
          show addL M (cutL 44 t.data.toList) = _
          rw [this]
        have hsz := pcF_size 44 t.data.toList 0 []
        rw [show pcF 44 0 t.data.toList [] = (p, r, m) from hp] at hsz
        simp only [List.length_nil, Nat.zero_add] at hsz
        rw [show t.data.toList.length = t.size from by simp] at hsz
        have hrz : (bs r).size ≤ s.size := by rw [bs_size]; omega
        have hms : Box (msr (.bool m) (.string (bs r)) < t.size + 1) := box (by
          cases m
          · exact Nat.zero_lt_succ _
          · show (bs r).size + 1 < t.size + 1
            rw [bs_size]; have := hsz.2 rfl; omega)
        have hpz : (bs p).size ≤ maxLen := by rw [bs_size]; unfold maxLen; omega
        have HCut := box hcut
        clear hp hcut hsz HM
        by_cases htr : trimL p = []
        · have HTr : Box (bs (trimL (bs p).data.toList) = ⟨#[]⟩) := box (by rw [bs_toList, htr]; rfl)
          have HN : Box (T = addL M (moreL 44 m (bs r).data.toList)) := box (by rw [HCut.out, addL_blank htr, bs_toList])
          clear HCut
          go_wp2_with fail
          refine (pieceCut_any t 44 _ ht6).mono ?_; rintro e w1 ⟨rfl, hb1⟩
          rw [HV.out]
          have O1 := box (own_below O0.out hb1)
          have B1 := box (BL.out.trans (hb1.mono hBw))
          clear hb1
          go_wp2_with fail
          refine (aTrim_is hpz HTr).mono ?_; rintro e w2 ⟨rfl, rfl⟩
          go_wp2
          go_roundw
          case rel => exact ⟨M, bs r, m, rfl, rfl, hrz, hM, HN.out, O1.out, B1.out⟩
          case measure => exact hms.out
        · obtain ⟨x, hx⟩ : ∃ x, bs (trimL p) = x := ⟨_, rfl⟩
          have HTr : Box (bs (trimL (bs p).data.toList) = x) := box (by rw [bs_toList, hx])
          have hxe : x.toList.isEmpty = false := by
            rw [← hx, toList_bs]
            cases h : trimL p with
            | nil => exact absurd h htr
            | cons c r => rfl
          have HN : Box (T = addL (M ++ [trimL p]) (moreL 44 m (bs r).data.toList)) := box (by rw [HCut.out, addL_more htr, bs_toList])
          have HX : Box ((M ++ [trimL p]).map bs = M.map bs ++ [x]) := box (by rw [List.map_append, List.map_cons, List.map_nil, hx])
          have hm6 : Box ((M.map bs).length ≤ 65536) := box (by rw [List.length_map]; omega)
          have hml : Box ((M ++ [trimL p]).length ≤ 64) := box (by rw [List.length_append]; simp; omega)
          clear HCut hx
          go_wp2_with fail
          refine (pieceCut_any t 44 _ ht6).mono ?_; rintro e w1 ⟨rfl, hb1⟩
          rw [HV.out]
          have O1 := box (own_below O0.out hb1)
          have B1 := box (BL.out.trans (hb1.mono hBw))
          have hBw1 := Nat.le_trans hBw hb1.size
          clear hb1
          go_wp2_with fail
          refine (aTrim_is hpz HTr).mono ?_; rintro e w2 ⟨rfl, rfl⟩
          go_wp2_with (at_builtin; refine wpList_append_str _ rfl (.tmp 26) (.tmp 28) rfl B _ (M.map bs) rfl ?a1 _ _ rfl x ?b1 ?c1 ?d1 ?_)
          case a1 => exact own_below O1.out (below_new _ _)
          case b1 => go_simp
          case c1 => exact hm6.out
          case d1 => simp; omega
          intro v3 w3 hO3 hb3
          have O3 := box hO3
          have B3 := box ((B1.out.alloc hBw1 _).trans hb3)
          clear hO3 hb3
          go_wp2
          go_roundw
          case rel => exact ⟨M ++ [trimL p], bs r, m, rfl, rfl, hrz, hml.out, HN.out, by rw [HX.out]; exact O3.out, B3.out⟩
          case measure => exact hms.out
set_option maxHeartbeats 4000000 in
theorem mAll_any (a : Option Addr) (cap : Nat) (L : List F) (nm : ByteArray) (w : World) (S : Box (Sm L)) (hv : Box (∀ x ∈ getL nm L, x.size ≤ 65000)) (M : Box (nm.size ≤ 65536)) (hF : Box (Fs w a L)) :
    Calls Tryz.prog 21 #[.slice a L.length cap, .string nm] w fun e w' => ∃ v, e = .returned v ∧ OwnS w' w.heap.size v (allB nm L) ∧ Below w.heap.size w w' := by
  obtain ⟨vs, hvs⟩ : ∃ vs, getL nm L = vs := ⟨_, rfl⟩
  have HVS := box hvs
  have HAL : Box (allB nm L = ((allF vs).take 64).map bs) := box (by unfold allB allL; rw [hvs])
  have hvl : vs.length ≤ 65536 := by
    have := get_le (nm := nm) (L := L) (k := L.length)
    rw [List.take_length, hvs] at this
    have := S.out.1; omega
  rw [hvs] at hv
  clear hvs
  have hl := S.out.1
  go_enter Tryz.func21, Tryz.ntmps21
  go_wp2_with fail
  refine (Get_any a cap L nm _ hl S M hF).mono ?_; rintro e w1 ⟨v1, rfl, hO1, hb1⟩
  rw [HVS.out] at hO1
  obtain ⟨a1, cap1, rfl, hS1, hc1⟩ := hO1.ss
  have S1 := box hS1
  have B1 := box hb1
  have hB1 := hb1.size
  clear hO1 hS1 hb1
  go_wp2
  go_loopw [5, 12] (fun v i wr => AllRel vs w1.heap.size w1 v i wr) (fun _ i _ => vs.length - (intOf i).toNat)
  case atStart => exact ⟨0, rfl, Nat.zero_le _, OwnS.nil _ _, Below.refl _ _⟩
  case round =>
    obtain ⟨k, rfl, hk, hO, hbel⟩ := hrel
    have O0 := box hO
    have BL := box hbel
    have hBw := hbel.size
    clear hO hbel
    by_cases hlt : k < vs.length
    · obtain ⟨q, off, rfl, c0⟩ := (S1.out.below BL.out) k hlt
      have hxz := hv.out vs[k] (List.getElem_mem hlt)
      have HN := box (addL_all hlt)
      have hA64 : ((allF (vs.take k)).take 64).length ≤ 64 := by rw [List.length_take]; omega
      go_wp2_with fail
      refine (appMem_any w1.heap.size _ _ vs[k] _ hxz O0 hBw hA64).mono ?_; rintro e w2 ⟨v2, rfl, hO2, hb2⟩
      have O2 := box hO2
      have B2 := box (BL.out.trans hb2)
      clear hO2 hb2 c0
      go_wp2
      go_roundw
      case rel => exact ⟨k + 1, by go_num, by omega, by rw [HN.out]; exact O2.out, B2.out⟩
      case measure => simp [intOf]; omega
    · have HF : Box ((allF (vs.take k)).take 64 = (allF vs).take 64) := box (by rw [List.take_of_length_le (l := vs) (by omega)])
      rw [HF.out] at O0
      go_wp2
      go_ret
      exact ⟨_, rfl, by rw [HAL.out]; exact Go.Joins.ownsRow_le O0.out hB1, B1.out.trans (BL.out.mono hB1)⟩
end
section
open Go.RowKit
/-- all blocks but b that hold no bytes are as they were -/
def KeepU (b : Nat) (w w' : World) : Prop := ∀ k cs T fr, k ≠ b → T ≠ 5 → w.heap[k]? = some (.cells cs T fr) → w'.heap[k]? = some (.cells cs T fr)
theorem KeepU.refl (b : Nat) (w : World) : KeepU b w w := fun _ _ _ _ _ _ h => h
theorem KeepU.trans {b : Nat} {w w1 w2 : World} (h1 : KeepU b w w1) (h2 : KeepU b w1 w2) : KeepU b w w2 := fun k cs T fr hk hT h => h2 k cs T fr hk hT (h1 k cs T fr hk hT h)
theorem KeepU.below {b : Nat} {w w' : World} (h : Below w.heap.size w w') : KeepU b w w' := fun k cs T fr _ _ hk => (h.block k (blk_lt hk)).trans hk
def BldV (w : World) (B b : Nat) (p v : Value) (l : List UInt8) : Prop :=
  B ≤ b ∧ w.heap[b]? = some (.cells #[p, v] 90 (0, 0)) ∧ w.ownsRow B 5 1 v (Lib.byteCells l).length (Lib.byteCells l) ∧ v.ownBlock ≠ some b ∧ (v = .slice none 0 0 ↔ l = [])
/-- the builder of block b, made by the call itself and never grown: its bytes l -/
def BldZ (w : World) (B b : Nat) (l : List UInt8) : Prop := ∃ p v, (p = .pointer none ∨ p = .pointer (some ⟨b, 0, none⟩)) ∧ BldV w B b p v l
theorem BldV.at {w : World} {B b : Nat} {p v : Value} {l : List UInt8} (h : BldV w B b p v l) : BldAt w B b p l := ⟨h.1, v, h.2.1, h.2.2.1, h.2.2.2.1⟩
theorem BldZ.lt {w : World} {B b : Nat} {l : List UInt8} (h : BldZ w B b l) : b < w.heap.size := by
  obtain ⟨p, v, hp, hV⟩ := h
  exact blk_lt hV.2.1
theorem BldZ.next {w w' : World} {B b : Nat} {l : List UInt8} (h : BldZ w B b l) (hb : Below w.heap.size w w') : BldZ w' B b l := by
  obtain ⟨p, v, hp, h1, h2, h3, h4, h5⟩ := h
  exact ⟨p, v, hp, h1, (hb.block b (blk_lt h2)).trans h2, own_below h3 hb, h4, h5⟩
end
section
open Go.RowKit
/-- what a token or a quoted string stands for -/
def contO (l : List UInt8) : Option (List UInt8) := if tokL l = true then some l else unqL l
theorem cont_nil : contO [] = none := rfl
theorem cut2_nil {x : List UInt8} (h : cutB 61 x = false) : cut2 61 x = [] := by
  rcases idx_cases x 61 with hi | ⟨o, hi, ho⟩
  · exact (cut_no hi).2.1
  · rw [(cut_at hi).2.2.2] at h; exact absurd h (by decide)
theorem param_cont0 {x : List UInt8} (h : contO (cut2 61 x) = none) : paramL x = none := by
  unfold paramL
  split
  · rfl
  · unfold contO at h
    split at h
    · cases h
    · rename_i q; rw [if_neg q, h]
theorem param_cont1 {x : List UInt8} (h : tokL (cut1 61 x) = false) : paramL x = none := by
  unfold paramL; rw [if_pos (.inr h)]
theorem param_cont2 {x u : List UInt8} (h : tokL (cut1 61 x) = true) (hu : contO (cut2 61 x) = some u) : paramL x = some (bs (lowL (cut1 61 x)), bs u) := by
  have hb : cutB 61 x = true := by
    rcases q : cutB 61 x with _ | _
    · rw [cut2_nil q, cont_nil] at hu; cases hu
    · rfl
  unfold paramL
  rw [if_neg (by rw [hb, h]; simp)]
  unfold contO at hu
  split at hu
  · rename_i q; rw [if_pos q]; cases hu; rfl
  · rename_i q; rw [if_neg q, hu]
theorem aToken_is {s : ByteArray} {b : Bool} {w : World} (hs : s.size ≤ maxLen) (h : Box (tokL s.data.toList = b)) :
    Calls Tryz.prog 90 #[.string s] w fun e w' => e = .returned (.bool b) ∧ w = w' :=
  (Token_any s w hs).mono fun e w' ⟨h1, h2⟩ => ⟨by rw [h1, h.out], h2⟩
theorem aUnq_is {s : ByteArray} {o : Option (List UInt8)} {w : World} (hs : s.size ≤ 4294967296) (h : Box (unqL s.data.toList = o)) :
    Calls Tryz.prog 70 #[.string s] w fun e w' => e = .returned (optV o) ∧ Below w.heap.size w w' :=
  (Unquote_any s w hs).mono fun e w' ⟨h1, h2⟩ => ⟨by rw [h1, h.out], h2⟩
theorem aLower_is {s x : ByteArray} {w : World} (hs : s.size ≤ 4294967296) (h : Box (bs (lowL s.data.toList) = x)) :
    Calls Tryz.prog 91 #[.string s] w fun e w' => e = .returned (.string x) ∧ Below w.heap.size w w' :=
  (Lower_any s w hs).mono fun e w' ⟨h1, h2⟩ => ⟨by rw [h1, ← h.out]; rfl, h2⟩
theorem aQuote_is {s x : ByteArray} {w : World} (hs : s.size ≤ 1073741824) (h : Box (bs (quoteL s.data.toList) = x)) :
    Calls Tryz.prog 81 #[.string s] w fun e w' => e = .returned (.string x) ∧ Below w.heap.size w w' :=
  (Quote_any s w hs).mono fun e w' ⟨h1, h2⟩ => ⟨by rw [h1, ← h.out]; rfl, h2⟩
theorem parseContent_is (s : ByteArray) (o : Option (List UInt8)) (w : World) (hs : s.size ≤ 4294967296) (h : Box (contO s.data.toList = o)) :
    Calls Tryz.prog 140 #[.string s] w fun e w' => e = .returned (optV o) ∧ Below w.heap.size w w' := by
  have hm : s.size ≤ maxLen := by unfold maxLen; omega
  have HM := box hm
  clear hm
  rcases htk : tokL s.data.toList with _ | _
  · have HT := box htk
    have hu : unqL s.data.toList = o := by
      have := h.out
      unfold contO at this
      rwa [if_neg (by rw [htk]; decide)] at this
    have HU := box hu
    clear htk hu h
    rcases o with _ | u
    · go_enter Tryz.func140, Tryz.ntmps140
      go_wp2_with fail
      refine (aToken_is HM.out HT).mono ?_; rintro e w1 ⟨rfl, rfl⟩
      go_wp2_with fail
      refine (aUnq_is hs HU).mono ?_; rintro e w2 ⟨rfl, hb⟩
      have B := box hb
      clear hb
      unfold optV
      go_wp2
      go_ret2
      exact ⟨rfl, B.out⟩
    · go_enter Tryz.func140, Tryz.ntmps140
      go_wp2_with fail
      refine (aToken_is HM.out HT).mono ?_; rintro e w1 ⟨rfl, rfl⟩
      go_wp2_with fail
      refine (aUnq_is hs HU).mono ?_; rintro e w2 ⟨rfl, hb⟩
      have B := box hb
      clear hb
      unfold optV
      go_wp2
      go_ret2
      exact ⟨rfl, B.out⟩
  · have HT := box htk
    have ho : o = some s.data.toList := by
      rw [← h.out]; unfold contO; rw [if_pos htk]
    subst ho
    clear htk h
    go_enter Tryz.func140, Tryz.ntmps140
    go_wp2_with fail
    refine (aToken_is HM.out HT).mono ?_; rintro e w1 ⟨rfl, rfl⟩
    go_wp2
    go_ret2
    exact ⟨rfl, Below.refl _ _⟩
def pieceV : Option F → Value
  | some f => .tuple #[.string f.1, .string f.2, .bool true]
  | none => .tuple #[.string ⟨#[]⟩, .string ⟨#[]⟩, .bool false]
set_option maxHeartbeats 1000000 in
theorem parsePiece_is (x : ByteArray) (o : Option F) (w : World) (hs : x.size ≤ 65000) (h : Box (paramL x.data.toList = o)) :
    Calls Tryz.prog 138 #[.string x] w fun e w' => e = .returned (pieceV o) ∧ Below w.heap.size w w' := by
  have hm : x.size ≤ maxLen := by unfold maxLen; omega
  obtain ⟨n, hn⟩ : ∃ n, bs (cut1 61 x.data.toList) = n := ⟨_, rfl⟩
  obtain ⟨f, hf⟩ : ∃ f, bs (cut2 61 x.data.toList) = f := ⟨_, rfl⟩
  obtain ⟨b, hb⟩ : ∃ b, cutB 61 x.data.toList = b := ⟨_, rfl⟩
  have HV : Box (cutV 61 x.data.toList = .tuple #[.string n, .string f, .bool b]) := box (by unfold cutV; rw [hn, hf, hb])
  have hxl : x.data.toList.length = x.size := by simp
  have hnz : n.size ≤ 65000 := by
    rw [← hn, bs_size]
    have : (cut1 61 x.data.toList).length ≤ x.data.toList.length := by unfold cut1; exact (List.takeWhile_sublist _).length_le
    omega
  have hfz : f.size ≤ 65000 := by
    rw [← hf, bs_size]
    have : (cut2 61 x.data.toList).length ≤ x.data.toList.length := by
      unfold cut2; rw [List.length_drop]; have := (List.dropWhile_sublist (· != (61 : UInt8)) (l := x.data.toList)).length_le; omega
    omega
  have hn1 : n.data.toList = cut1 61 x.data.toList := by rw [← hn]; rfl
  have hf1 : f.data.toList = cut2 61 x.data.toList := by rw [← hf]; rfl
  have hnm : n.size ≤ maxLen := by unfold maxLen; omega
  have hn4 : n.size ≤ 4294967296 := by omega
  have hf4 : f.size ≤ 4294967296 := by omega
  have HNM := box hnm
  have HN4 := box hn4
  have HF4 := box hf4
  have HM := box hm
  clear hn hf hb hxl hnm hn4 hf4 hm hnz hfz hs
  rcases hc : contO (cut2 61 x.data.toList) with _ | u
  · have HC : Box (contO f.data.toList = none) := box (by rw [hf1, hc])
    obtain rfl : o = none := by rw [← h.out]; exact param_cont0 hc
    clear hc hn1 hf1 h
    go_enter Tryz.func138, Tryz.ntmps138
    go_wp2_with fail
    refine (Cut_any x 61 _ HM.out).mono ?_; rintro e w1 ⟨rfl, hb1⟩; rw [HV.out]
    have B1 := box hb1
    clear hb1
    go_wp2_with fail
    refine (parseContent_is f none _ HF4.out HC).mono ?_; rintro e w2 ⟨rfl, hb2⟩
    have B2 := box (B1.out.trans (hb2.mono B1.out.size))
    clear hb2
    unfold optV
    go_wp2
    go_ret3
    exact ⟨rfl, B2.out⟩
  · have HC : Box (contO f.data.toList = some u) := box (by rw [hf1, hc])
    rcases ht : tokL (cut1 61 x.data.toList) with _ | _
    · have HT : Box (tokL n.data.toList = false) := box (by rw [hn1, ht])
      obtain rfl : o = none := by rw [← h.out]; exact param_cont1 ht
      clear hc ht hn1 hf1 h
      go_enter Tryz.func138, Tryz.ntmps138
      go_wp2_with fail
      refine (Cut_any x 61 _ HM.out).mono ?_; rintro e w1 ⟨rfl, hb1⟩; rw [HV.out]
      have B1 := box hb1
      clear hb1
      go_wp2_with fail
      refine (parseContent_is f (some u) _ HF4.out HC).mono ?_; rintro e w2 ⟨rfl, hb2⟩
      have B2 := box (B1.out.trans (hb2.mono B1.out.size))
      clear hb2
      unfold optV
      go_wp2_with fail
      refine (aToken_is HNM.out HT).mono ?_; rintro e w3 ⟨rfl, rfl⟩
      go_wp2
      go_ret3
      exact ⟨rfl, B2.out⟩
    · have HT : Box (tokL n.data.toList = true) := box (by rw [hn1, ht])
      obtain ⟨nm, hnm⟩ : ∃ nm, bs (lowL n.data.toList) = nm := ⟨_, rfl⟩
      have HL := box hnm
      obtain ⟨ub, hub⟩ : ∃ ub, bs u = ub := ⟨_, rfl⟩
      have HU : Box (optV (some u) = .tuple #[.string ub, .bool true]) := box (by rw [← hub]; rfl)
      obtain rfl : o = some (nm, ub) := by rw [← h.out, param_cont2 ht hc, ← hnm, hn1, hub]
      clear hc ht hn1 hf1 h hnm hub
      go_enter Tryz.func138, Tryz.ntmps138
      go_wp2_with fail
      refine (Cut_any x 61 _ HM.out).mono ?_; rintro e w1 ⟨rfl, hb1⟩; rw [HV.out]
      have B1 := box hb1
      clear hb1
      go_wp2_with fail
      refine (parseContent_is f (some u) _ HF4.out HC).mono ?_; rintro e w2 ⟨rfl, hb2⟩; rw [HU.out]
      have B2 := box (B1.out.trans (hb2.mono B1.out.size))
      clear hb2
      go_wp2_with fail
      refine (aToken_is HNM.out HT).mono ?_; rintro e w3 ⟨rfl, rfl⟩
      go_wp2_with fail
      refine (aLower_is HN4.out HL).mono ?_; rintro e w4 ⟨rfl, hb4⟩
      have B4 := box (B2.out.trans (hb4.mono B2.out.size))
      clear hb4
      go_wp2
      go_ret3
      exact ⟨rfl, B4.out⟩
def ParRelM (T : Option (List F)) (B n : Nat) (w : World) (r m v : Value) (wr : World) : Prop :=
  ∃ (acc : List F) (t : ByteArray) (b : Bool), r = .string t ∧ m = .bool b ∧ acc.length + t.size ≤ n ∧ T = parF (moreL 59 b t.data.toList) acc ∧ OwnP wr B v acc ∧ Below B w wr
set_option maxHeartbeats 4000000 in
theorem mPar_any (s : ByteArray) (w : World) (hs : s.size ≤ 65000) :
    Calls Tryz.prog 136 #[.string s] w fun e w' => parW w w' s.data.toList e := by
  obtain ⟨p, r0, m0, hp⟩ : ∃ p r m, pcL 59 s.data.toList = (p, r, m) := ⟨_, _, _, rfl⟩
  have HV : Box (pcV 59 s.data.toList = .tuple #[.string (bs p), .string (bs r0), .bool m0]) := box (by unfold pcV; rw [hp])
  have hcut : cutL 59 s.data.toList = p :: moreL 59 m0 r0 := by
    have := cutL_pc (sep := 59) (by decide) s.data.toList
    rwa [hp] at this
  have HQ := box hcut
  have hsz := pcF_size 59 s.data.toList 0 []
  rw [show pcF 59 0 s.data.toList [] = (p, r0, m0) from hp] at hsz
  simp only [List.length_nil, Nat.zero_add] at hsz
  rw [show s.data.toList.length = s.size from by simp] at hsz
  have hrz : (bs r0).size ≤ 65000 := by rw [bs_size]; omega
  have hpz : (bs p).size ≤ maxLen := by rw [bs_size]; unfold maxLen; omega
  clear hp hcut hsz
  by_cases ht : trimL p = []
  · have HT : Box (bs (trimL (bs p).data.toList) = ⟨#[]⟩) := box (by rw [bs_toList, ht]; rfl)
    have HN := box (par_none0 HQ.out ht)
    clear ht
    go_enter Tryz.func136, Tryz.ntmps136
    go_wp2_with fail
    refine (pieceCut_any s 59 _ hs).mono ?_; rintro e w1 ⟨rfl, hb1⟩
    rw [HV.out]
    have B1 := box hb1
    clear hb1
    go_wp2_with fail
    refine (aTrim_is hpz HT).mono ?_; rintro e w2 ⟨rfl, rfl⟩
    go_wp2
    go_ret3
    exact parW_none HN.out B1.out
  · obtain ⟨x0, hx0⟩ : ∃ x0, bs (trimL p) = x0 := ⟨_, rfl⟩
    have HT : Box (bs (trimL (bs p).data.toList) = x0) := box (by rw [bs_toList, hx0])
    have hxe : x0.toList.isEmpty = false := by
      rw [← hx0, toList_bs]
      cases h : trimL p with
      | nil => exact absurd h ht
      | cons c r => rfl
    have HX0 := box hx0
    have HNE := box ht
    obtain ⟨T, hT⟩ : ∃ T, parF (moreL 59 m0 r0) [] = T := ⟨_, rfl⟩
    have HTT := box hT
    clear hx0 ht hT
    go_enter Tryz.func136, Tryz.ntmps136
    go_wp2_with fail
    refine (pieceCut_any s 59 _ hs).mono ?_; rintro e w1 ⟨rfl, hb1⟩
    rw [HV.out]
    have B1 := box hb1
    have hB1 := hb1.size
    clear hb1
    go_wp2_with fail
    refine (aTrim_is hpz HT).mono ?_; rintro e w2 ⟨rfl, rfl⟩
    go_wp2
    go_loopw [6, 7, 9] (fun r m v wr => ParRelM T w1.heap.size 65000 w1 r m v wr) (fun r m _ _ => msr m r)
    case atStart => exact ⟨[], bs r0, m0, rfl, rfl, by simpa using hrz, by rw [bs_toList]; exact HTT.out.symm, OwnP.nil _ _, Below.refl _ _⟩
    case round =>
      obtain ⟨acc, t, b, rfl, rfl, hat, hTM, hO, hbel⟩ := hrel
      have O0 := box hO
      have BL := box hbel
      have HM := box hTM
      have hBw := hbel.size
      obtain ⟨av, cv, rfl, _, _⟩ := hO.fs
      clear hO hbel hTM
      rcases b with _ | _
      · have HD : Box (parA s.data.toList = x0 ∧ parB s.data.toList = acc ∧ parO s.data.toList = true) := box (by
          have := par_some HQ.out HNE.out (HTT.out.trans HM.out)
          rwa [HX0.out] at this)
        go_wp2
        go_ret3
        obtain ⟨d1, d2, d3⟩ := HD.out
        exact ⟨_, by rw [d1, d3]; rfl, by rw [d2]; exact Go.Joins.ownsRow_le O0.out hB1, B1.out.trans (BL.out.mono hB1)⟩
      · have ht6 : t.size ≤ 65000 := by omega
        obtain ⟨p, r, m, hp⟩ : ∃ p r m, pcL 59 t.data.toList = (p, r, m) := ⟨_, _, _, rfl⟩
        have HV : Box (pcV 59 t.data.toList = .tuple #[.string (bs p), .string (bs r), .bool m]) := box (by unfold pcV; rw [hp])
        have hcut : T = parF (p :: moreL 59 m r) acc := by
          have := cutL_pc (sep := 59) (by decide) t.data.toList
          rw [hp] at this
          rw [HM.out]
          show parF (cutL 59 t.data.toList) acc = _
          rw [this]
        have hsz := pcF_size 59 t.data.toList 0 []
        rw [show pcF 59 0 t.data.toList [] = (p, r, m) from hp] at hsz
        simp only [List.length_nil, Nat.zero_add] at hsz
        rw [show t.data.toList.length = t.size from by simp] at hsz
        have hrz : acc.length + (bs r).size ≤ 65000 := by rw [bs_size]; omega
        have hms : Box (msr (.bool m) (.string (bs r)) < t.size + 1) := box (by
          cases m
          · exact Nat.zero_lt_succ _
          · show (bs r).size + 1 < t.size + 1
            rw [bs_size]; have := hsz.2 rfl; omega)
        have hpz : (bs p).size ≤ maxLen := by rw [bs_size]; unfold maxLen; omega
        have HSZ := box hsz.1
        have HCut := box hcut
        clear hp hcut hsz HM
        by_cases htr : trimL p = []
        · have HTr : Box (bs (trimL (bs p).data.toList) = ⟨#[]⟩) := box (by rw [bs_toList, htr]; rfl)
          have HN : Box (T = parF (moreL 59 m (bs r).data.toList) acc) := box (by rw [HCut.out, parF_skip htr, bs_toList])
          clear HCut htr
          go_wp2_with fail
          refine (pieceCut_any t 59 _ ht6).mono ?_; rintro e w3 ⟨rfl, hb3⟩
          rw [HV.out]
          have O3 := box (own_below O0.out hb3)
          have B3 := box (BL.out.trans (hb3.mono hBw))
          clear hb3
          go_wp2_with fail
          refine (aTrim_is hpz HTr).mono ?_; rintro e w4 ⟨rfl, rfl⟩
          go_wp2
          go_roundw
          case rel => exact ⟨acc, bs r, m, rfl, rfl, hrz, HN.out, O3.out, B3.out⟩
          case measure => exact hms.out
        · obtain ⟨x, hx⟩ : ∃ x, bs (trimL p) = x := ⟨_, rfl⟩
          have hxd : x.data.toList = trimL p := by rw [← hx]; rfl
          have HTr : Box (bs (trimL (bs p).data.toList) = x) := box (by rw [bs_toList, hx])
          have hxe : x.toList.isEmpty = false := by
            rw [← hx, toList_bs]
            cases h : trimL p with
            | nil => exact absurd h htr
            | cons c r => rfl
          have hxz : x.size ≤ 65000 := by
            have h1 := trim_le p
            have h2 : x.size = (trimL p).length := by rw [← hx, bs_size]
            have := HSZ.out
            omega
          have hp1 : 1 ≤ p.length := by
            cases h : p with
            | nil => rw [h] at htr; exact absurd rfl htr
            | cons c r => simp
          have hmz : acc.length + 1 + (bs r).size ≤ 65000 := by rw [bs_size]; have := HSZ.out; omega
          rcases hpm : paramL x.data.toList with _ | f
          · have HP := box hpm
            have HB := box (par_none1 HQ.out HNE.out (HTT.out.trans (HCut.out.trans (parF_bad htr (by rw [← hxd]; exact hpm)))))
            clear HCut hx hxd hpm htr
            go_wp2_with fail
            refine (pieceCut_any t 59 _ ht6).mono ?_; rintro e w3 ⟨rfl, hb3⟩
            rw [HV.out]
            have B3 := box (BL.out.trans (hb3.mono hBw))
            clear hb3
            go_wp2_with fail
            refine (aTrim_is hpz HTr).mono ?_; rintro e w4 ⟨rfl, rfl⟩
            go_wp2_with fail
            refine (parsePiece_is x none _ hxz HP).mono ?_; rintro e w5 ⟨rfl, hb5⟩
            have B5 := box (B3.out.trans (hb5.mono B3.out.size))
            clear hb5
            unfold pieceV
            go_wp2
            go_ret3
            exact parW_none HB.out (B1.out.trans (B5.out.mono hB1))
          · have HP := box hpm
            obtain ⟨nm, ub⟩ := f
            have HN : Box (T = parF (moreL 59 m (bs r).data.toList) (acc ++ [(nm, ub)])) := box (by rw [HCut.out, parF_step htr (by rw [← hxd]; exact hpm), bs_toList])
            have hml : Box ((acc ++ [(nm, ub)]).length + (bs r).size ≤ 65000) := box (by rw [List.length_append]; simp only [List.length_cons, List.length_nil]; omega)
            clear HCut hx hxd hpm htr
            go_wp2_with fail
            refine (pieceCut_any t 59 _ ht6).mono ?_; rintro e w3 ⟨rfl, hb3⟩
            rw [HV.out]
            have O3 := box (own_below O0.out hb3)
            have B3 := box (BL.out.trans (hb3.mono hBw))
            clear hb3
            go_wp2_with fail
            refine (aTrim_is hpz HTr).mono ?_; rintro e w4 ⟨rfl, rfl⟩
            go_wp2_with fail
            refine (parsePiece_is x (some (nm, ub)) _ hxz HP).mono ?_; rintro e w5 ⟨rfl, hb5⟩
            have O5 := box (own_below O3.out hb5)
            have B5 := box (B3.out.trans (hb5.mono B3.out.size))
            clear hb5
            unfold pieceV
            go_wp2_with (at_builtin; refine wpList_append_prm _ rfl (.tmp 44) (.tmp 48) rfl w1.heap.size _ acc rfl ?a1 _ _ rfl nm ub ?b1 ?b2 ?c1 ?d1 ?_)
            case a1 => exact own_below O5.out (below_new _ _)
            case b1 => go_simp
            case b2 => go_simp
            case c1 => omega
            case d1 => have := B5.out.size; simp; omega
            intro v6 w6 hO6 hb6
            have O6 := box hO6
            have B6 := box ((B5.out.alloc B5.out.size _).trans hb6)
            clear hO6 hb6
            go_wp2
            go_roundw
            case rel => exact ⟨acc ++ [(nm, ub)], bs r, m, rfl, rfl, hml.out, HN.out, O6.out, B6.out⟩
            case measure => exact hms.out
end
section
open Go.RowKit
/-- Parse of param with its results as letters -/
theorem mParO_is {s x : ByteArray} {K : List F} {b : Bool} {w : World} (hs : s.size ≤ 65000) (h : Box (parA s.data.toList = x ∧ parB s.data.toList = K ∧ parO s.data.toList = b)) :
    Calls Tryz.prog 136 #[.string s] w fun e w' => ∃ a cap, e = .returned (.tuple #[.string x, .slice a K.length cap, .bool b]) ∧ OwnP w' w.heap.size (.slice a K.length cap) K ∧ Below w.heap.size w w' :=
  (mPar_any s w hs).mono fun e w' ⟨v, h1, h2, h3⟩ => by
    obtain ⟨rfl, rfl, rfl⟩ := h.out
    obtain ⟨a, cap, rfl, hS, hc⟩ := h2.fs
    exact ⟨a, cap, h1, h2, h3⟩
theorem tok_nil : tokL [] = false := rfl
/-- a range without a slash is none, by its empty subtype -/
theorem type_as (v : List UInt8) : typeL v = if tokL (cut1 47 v) = false ∨ tokL (cut2 47 v) = false then none
    else if cut1 47 v = [42] ∧ cut2 47 v ≠ [42] then none else some (bs (lowL (cut1 47 v)), bs (lowL (cut2 47 v))) := by
  unfold typeL
  rcases hb : cutB 47 v with _ | _
  · have : cut2 47 v = [] := by
      rcases idx_cases v 47 with hi | ⟨o, hi, ho⟩
      · exact (cut_no hi).2.1
      · rw [(cut_at hi).2.2.2] at hb; exact absurd hb (by decide)
    rw [this, tok_nil]
    simp
  · rcases h1 : tokL (cut1 47 v) with _ | _ <;> rcases h2 : tokL (cut2 47 v) with _ | _ <;> simp
theorem mRange_0 (s x : ByteArray) (K : List F) (w : World) (hs : s.size ≤ 65000) (H : Box (parA s.data.toList = x ∧ parB s.data.toList = K ∧ parO s.data.toList = false)) (HR : Box (rangeL s.data.toList = none)) :
    Calls Tryz.prog 135 #[.string s] w fun e w' => medW w w' (rangeL s.data.toList) e := by
  go_enter Tryz.func135, Tryz.ntmps135
  go_wp2_with fail
  refine (mParO_is hs H).mono ?_; rintro e w1 ⟨a1, cap1, rfl, hO1, hb1⟩
  have O1 := box hO1
  have C1 := box ((C3.new (.string ⟨#[]⟩) (.string ⟨#[]⟩) (.slice none 0 0) w 105).next hb1)
  have B1 := box ((below_new w _).trans (hb1.mono (below_new w _).size))
  clear hO1 hb1
  obtain ⟨⟨r0, r1, r2⟩, ⟨f0, f1, f2⟩⟩ := C1.out
  go_wp2
  (try simp only [Exit.inBlock, Exit.then])
  refine bodyPost_ret (v := .tuple #[.agg #[.string ⟨#[]⟩, .string ⟨#[]⟩, .slice none 0 0], .bool false]) (by rw [results_cell_tmp rfl]; go_simp) rfl ?_
  exact medW_none HR (below3 B1.out (Nat.le_refl _) _ _ _)
theorem mRange_1 (s x m n : ByteArray) (K : List F) (q : Bool) (w : World) (hs : s.size ≤ 65000) (H : Box (parA s.data.toList = x ∧ parB s.data.toList = K ∧ parO s.data.toList = true)) (HXM : Box (x.size ≤ maxLen)) (HMM : Box (m.size ≤ maxLen)) (HNM : Box (n.size ≤ maxLen)) (HV : Box (cutV 47 x.data.toList = .tuple #[.string m, .string n, .bool q])) (HT1 : Box (tokL m.data.toList = false)) (HR : Box (rangeL s.data.toList = none)) :
    Calls Tryz.prog 135 #[.string s] w fun e w' => medW w w' (rangeL s.data.toList) e := by
  go_enter Tryz.func135, Tryz.ntmps135
  go_wp2_with fail
  refine (mParO_is hs H).mono ?_; rintro e w1 ⟨a1, cap1, rfl, hO1, hb1⟩
  have O1 := box hO1
  have C1 := box ((C3.new (.string ⟨#[]⟩) (.string ⟨#[]⟩) (.slice none 0 0) w 105).next hb1)
  have B1 := box ((below_new w _).trans (hb1.mono (below_new w _).size))
  clear hO1 hb1
  go_wp2_with fail
  refine (Cut_any x 47 _ HXM.out).mono ?_; rintro e w2 ⟨rfl, hb2⟩; rw [HV.out]
  have O2 := box (own_below O1.out hb2)
  have C2 := box (C1.out.next hb2)
  have B2 := box (B1.out.trans (hb2.mono B1.out.size))
  clear hb2 O1 C1 B1
  go_wp2_with fail
  refine (aToken_is HMM.out HT1).mono ?_; rintro e w3 ⟨rfl, rfl⟩
  obtain ⟨⟨r0, r1, r2⟩, ⟨f0, f1, f2⟩⟩ := C2.out
  go_wp2
  (try simp only [Exit.inBlock, Exit.then])
  refine bodyPost_ret (v := .tuple #[.agg #[.string ⟨#[]⟩, .string ⟨#[]⟩, .slice none 0 0], .bool false]) (by rw [results_cell_tmp rfl]; go_simp) rfl ?_
  exact medW_none HR (below3 B2.out (Nat.le_refl _) _ _ _)
theorem mRange_2 (s x m n : ByteArray) (K : List F) (q : Bool) (w : World) (hs : s.size ≤ 65000) (H : Box (parA s.data.toList = x ∧ parB s.data.toList = K ∧ parO s.data.toList = true)) (HXM : Box (x.size ≤ maxLen)) (HMM : Box (m.size ≤ maxLen)) (HNM : Box (n.size ≤ maxLen)) (HV : Box (cutV 47 x.data.toList = .tuple #[.string m, .string n, .bool q])) (HT1 : Box (tokL m.data.toList = true)) (HT2 : Box (tokL n.data.toList = false)) (HR : Box (rangeL s.data.toList = none)) :
    Calls Tryz.prog 135 #[.string s] w fun e w' => medW w w' (rangeL s.data.toList) e := by
  go_enter Tryz.func135, Tryz.ntmps135
  go_wp2_with fail
  refine (mParO_is hs H).mono ?_; rintro e w1 ⟨a1, cap1, rfl, hO1, hb1⟩
  have O1 := box hO1
  have C1 := box ((C3.new (.string ⟨#[]⟩) (.string ⟨#[]⟩) (.slice none 0 0) w 105).next hb1)
  have B1 := box ((below_new w _).trans (hb1.mono (below_new w _).size))
  clear hO1 hb1
  go_wp2_with fail
  refine (Cut_any x 47 _ HXM.out).mono ?_; rintro e w2 ⟨rfl, hb2⟩; rw [HV.out]
  have O2 := box (own_below O1.out hb2)
  have C2 := box (C1.out.next hb2)
  have B2 := box (B1.out.trans (hb2.mono B1.out.size))
  clear hb2 O1 C1 B1
  go_wp2_with fail
  refine (aToken_is HMM.out HT1).mono ?_; rintro e w3 ⟨rfl, rfl⟩
  go_wp2_with fail
  refine (aToken_is HNM.out HT2).mono ?_; rintro e w3 ⟨rfl, rfl⟩
  obtain ⟨⟨r0, r1, r2⟩, ⟨f0, f1, f2⟩⟩ := C2.out
  go_wp2
  (try simp only [Exit.inBlock, Exit.then])
  refine bodyPost_ret (v := .tuple #[.agg #[.string ⟨#[]⟩, .string ⟨#[]⟩, .slice none 0 0], .bool false]) (by rw [results_cell_tmp rfl]; go_simp) rfl ?_
  exact medW_none HR (below3 B2.out (Nat.le_refl _) _ _ _)
theorem mRange_3 (s x m n : ByteArray) (K : List F) (q : Bool) (w : World) (hs : s.size ≤ 65000) (H : Box (parA s.data.toList = x ∧ parB s.data.toList = K ∧ parO s.data.toList = true)) (HXM : Box (x.size ≤ maxLen)) (HMM : Box (m.size ≤ maxLen)) (HNM : Box (n.size ≤ maxLen)) (HV : Box (cutV 47 x.data.toList = .tuple #[.string m, .string n, .bool q])) (HT1 : Box (tokL m.data.toList = true)) (HT2 : Box (tokL n.data.toList = true)) (q1 : (m.toList == [42]) = true) (q2 : (n.toList == [42]) = false) (HR : Box (rangeL s.data.toList = none)) :
    Calls Tryz.prog 135 #[.string s] w fun e w' => medW w w' (rangeL s.data.toList) e := by
  have q3 : (n.toList != [42]) = true := by unfold bne; rw [q2]; rfl
  go_enter Tryz.func135, Tryz.ntmps135
  go_wp2_with fail
  refine (mParO_is hs H).mono ?_; rintro e w1 ⟨a1, cap1, rfl, hO1, hb1⟩
  have O1 := box hO1
  have C1 := box ((C3.new (.string ⟨#[]⟩) (.string ⟨#[]⟩) (.slice none 0 0) w 105).next hb1)
  have B1 := box ((below_new w _).trans (hb1.mono (below_new w _).size))
  clear hO1 hb1
  go_wp2_with fail
  refine (Cut_any x 47 _ HXM.out).mono ?_; rintro e w2 ⟨rfl, hb2⟩; rw [HV.out]
  have O2 := box (own_below O1.out hb2)
  have C2 := box (C1.out.next hb2)
  have B2 := box (B1.out.trans (hb2.mono B1.out.size))
  clear hb2 O1 C1 B1
  go_wp2_with fail
  refine (aToken_is HMM.out HT1).mono ?_; rintro e w3 ⟨rfl, rfl⟩
  go_wp2_with fail
  refine (aToken_is HNM.out HT2).mono ?_; rintro e w3 ⟨rfl, rfl⟩
  obtain ⟨⟨r0, r1, r2⟩, ⟨f0, f1, f2⟩⟩ := C2.out
  go_wp2
  (try simp only [Exit.inBlock, Exit.then])
  refine bodyPost_ret (v := .tuple #[.agg #[.string ⟨#[]⟩, .string ⟨#[]⟩, .slice none 0 0], .bool false]) (by rw [results_cell_tmp rfl]; go_simp) rfl ?_
  exact medW_none HR (below3 B2.out (Nat.le_refl _) _ _ _)
theorem mRange_4 (s x m n : ByteArray) (K : List F) (q : Bool) (w : World) (hs : s.size ≤ 65000) (H : Box (parA s.data.toList = x ∧ parB s.data.toList = K ∧ parO s.data.toList = true)) (HXM : Box (x.size ≤ maxLen)) (HMM : Box (m.size ≤ maxLen)) (HNM : Box (n.size ≤ maxLen)) (HV : Box (cutV 47 x.data.toList = .tuple #[.string m, .string n, .bool q])) (HT1 : Box (tokL m.data.toList = true)) (HT2 : Box (tokL n.data.toList = true)) (b1 b2 : Bool) (q1 : (m.toList == [42]) = b1) (q2 : (n.toList == [42]) = b2) (hb : b1 = false ∨ b2 = true) (hm4 : m.size ≤ 4294967296) (hn4 : n.size ≤ 4294967296)
    (nm sb : ByteArray) (HL1 : Box (bs (lowL m.data.toList) = nm)) (HL2 : Box (bs (lowL n.data.toList) = sb)) (HR : Box (rangeL s.data.toList = some (nm, sb, K))) :
    Calls Tryz.prog 135 #[.string s] w fun e w' => medW w w' (rangeL s.data.toList) e := by
  have q3 : (n.toList != [42]) = !b2 := by unfold bne; rw [q2]
  rcases b1 with _ | _ <;> rcases b2 with _ | _
  all_goals first | (exfalso; simp at hb; done) | skip
  all_goals
    go_enter Tryz.func135, Tryz.ntmps135
    go_wp2_with fail
    refine (mParO_is hs H).mono ?_; rintro e w1 ⟨a1, cap1, rfl, hO1, hb1⟩
    have O1 := box hO1
    have C1 := box ((C3.new (.string ⟨#[]⟩) (.string ⟨#[]⟩) (.slice none 0 0) w 105).next hb1)
    have B1 := box ((below_new w _).trans (hb1.mono (below_new w _).size))
    clear hO1 hb1
    go_wp2_with fail
    refine (Cut_any x 47 _ HXM.out).mono ?_; rintro e w2 ⟨rfl, hb2⟩; rw [HV.out]
    have O2 := box (own_below O1.out hb2)
    have C2 := box (C1.out.next hb2)
    have B2 := box (B1.out.trans (hb2.mono B1.out.size))
    clear hb2 O1 C1 B1
    go_wp2_with fail
    refine (aToken_is HMM.out HT1).mono ?_; rintro e w3 ⟨rfl, rfl⟩
    go_wp2_with fail
    refine (aToken_is HNM.out HT2).mono ?_; rintro e w3 ⟨rfl, rfl⟩
    go_wp2_with fail
    refine (aLower_is hm4 HL1).mono ?_; rintro e w4 ⟨rfl, hb4⟩
    go_wp2_with fail
    refine (aLower_is hn4 HL2).mono ?_; rintro e w5 ⟨rfl, hb5⟩
    have hb6 := hb4.trans (hb5.mono hb4.size)
    have O6 := own_below O2.out hb6
    have B6 := B2.out.trans (hb6.mono B2.out.size)
    obtain ⟨⟨r0, r1, r2⟩, ⟨f0, f1, f2⟩⟩ := C2.out.next hb6
    clear hb4 hb5 hb6
    go_wp2
    (try simp only [Exit.inBlock, Exit.then])
    refine bodyPost_ret (v := .tuple #[.agg #[.string nm, .string sb, .slice a1 K.length cap1], .bool true]) (by rw [results_cell_tmp rfl]; go_simp) rfl ?_
    exact medW_some HR (own_le (own_only O6 (only3 _ _ _ _ _) (by simp)) (by simp)) (below3 B6 (Nat.le_refl _) _ _ _)
theorem mRange_any (s : ByteArray) (w : World) (hs : s.size ≤ 65000) :
    Calls Tryz.prog 135 #[.string s] w fun e w' => medW w w' (rangeL s.data.toList) e := by
  obtain ⟨x, hx⟩ : ∃ x, parA s.data.toList = x := ⟨_, rfl⟩
  obtain ⟨K, hK⟩ : ∃ K, parB s.data.toList = K := ⟨_, rfl⟩
  have hxz : x.size ≤ 65000 := by rw [← hx]; exact Nat.le_trans (parA_size s) hs
  rcases hb : parO s.data.toList with _ | _
  · exact mRange_0 s x K w hs (box ⟨hx, hK, hb⟩) (box (range_par hb))
  · obtain ⟨m, hm⟩ : ∃ m, bs (cut1 47 x.data.toList) = m := ⟨_, rfl⟩
    obtain ⟨n, hn⟩ : ∃ n, bs (cut2 47 x.data.toList) = n := ⟨_, rfl⟩
    have HV : Box (cutV 47 x.data.toList = .tuple #[.string m, .string n, .bool (cutB 47 x.data.toList)]) := box (by unfold cutV; rw [hm, hn])
    have hxl : x.data.toList.length = x.size := by simp
    have hmz : m.size ≤ 65000 := by
      rw [← hm, bs_size]
      have : (cut1 47 x.data.toList).length ≤ x.data.toList.length := by unfold cut1; exact (List.takeWhile_sublist _).length_le
      omega
    have hnz : n.size ≤ 65000 := by
      rw [← hn, bs_size]
      have : (cut2 47 x.data.toList).length ≤ x.data.toList.length := by
        unfold cut2; rw [List.length_drop]; have := (List.dropWhile_sublist (· != (47 : UInt8)) (l := x.data.toList)).length_le; omega
      omega
    have hm1 : m.data.toList = cut1 47 x.data.toList := by rw [← hm]; rfl
    have hn1 : n.data.toList = cut2 47 x.data.toList := by rw [← hn]; rfl
    have hr := range_type hb hx
    rw [type_as, ← hm1, ← hn1, hK] at hr
    have H := box (And.intro hx (And.intro hK hb))
    have m1 : Box (x.size ≤ maxLen) := box (by unfold maxLen; omega)
    have m2 : Box (m.size ≤ maxLen) := box (by unfold maxLen; omega)
    have m3 : Box (n.size ≤ maxLen) := box (by unfold maxLen; omega)
    rcases h1 : tokL m.data.toList with _ | _
    · rw [if_pos (.inl h1)] at hr
      exact mRange_1 s x m n K _ w hs H m1 m2 m3 HV (box h1) (box hr)
    · rcases h2 : tokL n.data.toList with _ | _
      · rw [if_pos (.inr h2)] at hr
        exact mRange_2 s x m n K _ w hs H m1 m2 m3 HV (box h1) (box h2) (box hr)
      · rw [if_neg (by rw [h1, h2]; simp)] at hr
        rcases q1 : (m.toList == [42]) with _ | _
        · rw [if_neg (fun h => by have := (star_is q1).1 h.1; cases this)] at hr
          exact mRange_4 s x m n K _ w hs H m1 m2 m3 HV (box h1) (box h2) _ _ q1 rfl (.inl rfl) (by omega) (by omega) _ _ (box rfl) (box rfl) (box hr)
        · rcases q2 : (n.toList == [42]) with _ | _
          · rw [if_pos ⟨(star_is q1).2 rfl, fun h => by have := (star_is q2).1 h; cases this⟩] at hr
            exact mRange_3 s x m n K _ w hs H m1 m2 m3 HV (box h1) (box h2) q1 q2 (box hr)
          · rw [if_neg (fun h => h.2 ((star_is q2).2 rfl))] at hr
            exact mRange_4 s x m n K _ w hs H m1 m2 m3 HV (box h1) (box h2) _ _ q1 q2 (.inr rfl) (by omega) (by omega) _ _ (box rfl) (box rfl) (box hr)
theorem mRange_is {s : ByteArray} {a b : ByteArray} {L : List F} {q : Bool} {w : World} (hs : s.size ≤ 65000) (h : Box (ofM (rangeL s.data.toList) = (a, b, L) ∧ (rangeL s.data.toList).isSome = q)) :
    Calls Tryz.prog 135 #[.string s] w fun e w' => ∃ p cap, e = .returned (.tuple #[.agg #[.string a, .string b, .slice p L.length cap], .bool q]) ∧ OwnP w' w.heap.size (.slice p L.length cap) L ∧ Below w.heap.size w w' :=
  (mRange_any s w hs).mono fun e w' ⟨v, h1, h2, h3⟩ => by
    rw [h.out.1] at h1 h2
    rw [h.out.2] at h1
    obtain ⟨p, cap, rfl, _, _⟩ := h2.fs
    exact ⟨p, cap, h1, h2, h3⟩
/-- a range with a star for its type has one for its subtype -/
theorem range_stars {l : List UInt8} {a b : ByteArray} {L : List F} (h : rangeL l = some (a, b, L)) (ha : a = star) : b = star := by
  unfold rangeL at h
  split at h
  · cases h
  · rename_i v K _
    rw [type_as] at h
    split at h
    · cases h
    · rename_i x y hxy
      split at hxy
      · cases hxy
      · rename_i ht
        split at hxy
        · cases hxy
        · rename_i hs
          simp only [Option.some.injEq, Prod.mk.injEq] at hxy h
          obtain ⟨rfl, rfl⟩ := hxy
          obtain ⟨rfl, rfl, _⟩ := h
          have t1 : tokL (cut1 47 v) = true := by
            rcases q : tokL (cut1 47 v) with _ | _
            · exact absurd (.inl q) ht
            · rfl
          have e1 : lowL (cut1 47 v) = [42] := bs_inj (b := [42]) ha
          have e2 := (low_star t1).1 e1
          have e3 : cut2 47 v = [42] := by
            rcases Classical.em (cut2 47 v = [42]) with q | q
            · exact q
            · exact absurd ⟨e2, q⟩ hs
          rw [e3]; rfl
theorem media_alt (l : List UInt8) : mediaL l = if (rangeL l).isSome = true then (if (ofM (rangeL l)).2.1 = star then none else some (ofM (rangeL l))) else none := by
  rw [media_cases]
  cases h : rangeL l with
  | none => rfl
  | some x =>
    obtain ⟨a, b, L⟩ := x
    show (if a = star ∨ b = star then none else some (a, b, L)) = (if b = star then none else some (a, b, L))
    by_cases hb : b = star
    · rw [if_pos (.inr hb), if_pos hb]
    · rw [if_neg (fun q => q.elim (fun ha => hb (range_stars h ha)) hb), if_neg hb]
set_option maxHeartbeats 1000000 in
theorem mMedia_any (s : ByteArray) (w : World) (hs : s.size ≤ 65000) :
    Calls Tryz.prog 133 #[.string s] w fun e w' => medW w w' (mediaL s.data.toList) e := by
  obtain ⟨⟨a, b, L⟩, hM⟩ : ∃ m, ofM (rangeL s.data.toList) = m := ⟨_, rfl⟩
  obtain ⟨q, hq⟩ : ∃ q, (rangeL s.data.toList).isSome = q := ⟨_, rfl⟩
  have H := box (And.intro hM hq)
  have HC := media_alt s.data.toList
  rw [hM, hq] at HC
  clear hM hq
  rcases q with _ | _
  · have HR : Box (mediaL s.data.toList = none) := box (by rw [HC]; rfl)
    clear HC
    go_enter Tryz.func133, Tryz.ntmps133
    go_wp2_with fail
    refine (mRange_is hs H).mono ?_; rintro e w1 ⟨p, cap, rfl, hO1, hb1⟩
    have C1 := box (((C3.new (.string ⟨#[]⟩) (.string ⟨#[]⟩) (.slice none 0 0) w 105).next hb1).next (below_new w1 (.cells #[.string a, .string b, .slice p L.length cap] 105)))
    have B1 := box (((below_new w _).trans (hb1.mono (below_new w _).size)).alloc ((below_new w _).trans (hb1.mono (below_new w _).size)).size (.cells #[.string a, .string b, .slice p L.length cap] 105))
    have O1 := box (own_below hO1 (below_new w1 (.cells #[.string a, .string b, .slice p L.length cap] 105)))
    clear hO1 hb1
    obtain ⟨⟨r0, r1, r2⟩, ⟨f0, f1, f2⟩⟩ := C1.out
    go_wp2
    (try simp only [Exit.inBlock, Exit.then])
    refine bodyPost_ret (v := .tuple #[.agg #[.string ⟨#[]⟩, .string ⟨#[]⟩, .slice none 0 0], .bool false]) (by rw [results_cell_tmp rfl]; go_simp) rfl ?_
    exact medW_none HR (below3 B1.out (Nat.le_refl _) _ _ _)
  · rcases h2 : (b.toList == [42]) with _ | _
    · have HR : Box (mediaL s.data.toList = some (a, b, L)) := box (by
        rw [HC, if_pos rfl, if_neg (by intro e; have := (star_eq h2).mp e; simp at this)])
      clear HC
      go_enter Tryz.func133, Tryz.ntmps133
      go_wp2_with fail
      refine (mRange_is hs H).mono ?_; rintro e w1 ⟨p, cap, rfl, hO1, hb1⟩
      have C1 := box (((C3.new (.string ⟨#[]⟩) (.string ⟨#[]⟩) (.slice none 0 0) w 105).next hb1).next (below_new w1 (.cells #[.string a, .string b, .slice p L.length cap] 105)))
      have B1 := box (((below_new w _).trans (hb1.mono (below_new w _).size)).alloc ((below_new w _).trans (hb1.mono (below_new w _).size)).size (.cells #[.string a, .string b, .slice p L.length cap] 105))
      have O1 := box (own_below hO1 (below_new w1 (.cells #[.string a, .string b, .slice p L.length cap] 105)))
      clear hO1 hb1
      obtain ⟨⟨r0, r1, r2⟩, ⟨f0, f1, f2⟩⟩ := C1.out
      go_wp2
      (try simp only [Exit.inBlock, Exit.then])
      refine bodyPost_ret (v := .tuple #[.agg #[.string a, .string b, .slice p L.length cap], .bool true]) (by rw [results_cell_tmp rfl]; go_simp) rfl ?_
      exact medW_some HR (own_le (own_only O1.out (only3 _ _ _ _ _) (by simp)) (by simp)) (below3 B1.out (Nat.le_refl _) _ _ _)
    · have HR : Box (mediaL s.data.toList = none) := box (by rw [HC, if_pos rfl, if_pos ((star_eq h2).mpr rfl)])
      clear HC
      go_enter Tryz.func133, Tryz.ntmps133
      go_wp2_with fail
      refine (mRange_is hs H).mono ?_; rintro e w1 ⟨p, cap, rfl, hO1, hb1⟩
      have C1 := box (((C3.new (.string ⟨#[]⟩) (.string ⟨#[]⟩) (.slice none 0 0) w 105).next hb1).next (below_new w1 (.cells #[.string a, .string b, .slice p L.length cap] 105)))
      have B1 := box (((below_new w _).trans (hb1.mono (below_new w _).size)).alloc ((below_new w _).trans (hb1.mono (below_new w _).size)).size (.cells #[.string a, .string b, .slice p L.length cap] 105))
      have O1 := box (own_below hO1 (below_new w1 (.cells #[.string a, .string b, .slice p L.length cap] 105)))
      clear hO1 hb1
      obtain ⟨⟨r0, r1, r2⟩, ⟨f0, f1, f2⟩⟩ := C1.out
      go_wp2
      (try simp only [Exit.inBlock, Exit.then])
      refine bodyPost_ret (v := .tuple #[.agg #[.string ⟨#[]⟩, .string ⟨#[]⟩, .slice none 0 0], .bool false]) (by rw [results_cell_tmp rfl]; go_simp) rfl ?_
      exact medW_none HR (below3 B1.out (Nat.le_refl _) _ _ _)
end
section
open Go.RowKit
theorem mLetter_any (b : Int) (w : World) (h0 : 0 ≤ b) (h1 : b ≤ 255) :
    Calls Tryz.prog 151 #[.int .u8 b] w fun e w' => e = .returned (.bool (lettI b)) ∧ w = w' := by
  go_enter Tryz.func151, Tryz.ntmps151
  go_wp2
  all_goals (go_ret; exact ⟨ret_bool (by rw [Bool.eq_iff_iff]; simp [lettI]; omega), rfl⟩)
theorem mLetterC (c : UInt8) (w : World) :
    Calls Tryz.prog 151 #[.int .u8 (c.toNat : Int)] w fun e w' => e = .returned (.bool (chOk true c)) ∧ w = w' :=
  (mLetter_any _ w (c_bd c).1 (c_bd c).2).mono fun e w' ⟨h1, h2⟩ => ⟨by rw [h1]; unfold chOk; rw [Bool.not_true, Bool.false_and, Bool.or_false], h2⟩
theorem mLetter_is {c : UInt8} {q : Bool} {w : World} (h : Box (lettI (c.toNat : Int) = q)) :
    Calls Tryz.prog 151 #[.int .u8 (c.toNat : Int)] w fun e w' => e = .returned (.bool q) ∧ w = w' :=
  (mLetter_any _ w (c_bd c).1 (c_bd c).2).mono fun e w' ⟨h1, h2⟩ => ⟨by rw [h1, h.out], h2⟩
theorem mLetDigC (c : UInt8) (w : World) :
    Calls Tryz.prog 152 #[.int .u8 (c.toNat : Int)] w fun e w' => e = .returned (.bool (chOk false c)) ∧ w = w' := by
  have hb := c_bd c
  have HD : Box (∀ b : Int, digitI b = decide (48 ≤ b ∧ b ≤ 57)) := box (fun _ => rfl)
  cases hl : lettI (c.toNat : Int) with
  | true =>
    have HL := box hl
    have HV : Box (chOk false c = true) := box (by unfold chOk; rw [hl]; rfl)
    clear hl
    go_enter Tryz.func152, Tryz.ntmps152
    go_wp2_with fail
    refine (mLetter_is HL).mono ?_; rintro e w1 ⟨rfl, rfl⟩
    go_wp2
    go_ret
    exact ⟨ret_bool HV.out.symm, rfl⟩
  | false =>
    have HL := box hl
    have HV : Box (chOk false c = digitI (c.toNat : Int)) := box (by unfold chOk; rw [hl]; rfl)
    clear hl
    go_enter Tryz.func152, Tryz.ntmps152
    go_wp2_with fail
    refine (mLetter_is HL).mono ?_; rintro e w1 ⟨rfl, rfl⟩
    go_wp2
    all_goals (go_ret; exact ⟨ret_bool (by rw [HV.out, HD.out, Bool.eq_iff_iff]; simp; omega), rfl⟩)
theorem mIsSub_true (s : ByteArray) (w : World) (hs : s.size ≤ 65000) :
    Calls Tryz.prog 150 #[.string s, .func (.func 151) #[] #[]] w fun e w' => e = .returned (.bool (subOk true s.data.toList)) ∧ w = w' := by
  have hz : s.data.toList.length = s.size := by simp
  have HE : Box (s.toList = s.data.toList) := box (toList_data s)
  by_cases h0 : s.size = 0
  · have hse : (s.toList.isEmpty) = true := by rw [HE.out]; cases hl : s.data.toList with
      | nil => rfl
      | cons a b => rw [hl] at hz; simp at hz; omega
    have hse2 : s.toList = [] := by rw [List.isEmpty_iff] at hse; exact hse
    have HV : Box (subOk true s.data.toList = false) := box (sub_size (.inl (by omega)))
    clear hz
    go_enter Tryz.func150, Tryz.ntmps150
    go_wp2
    go_ret
    exact ⟨ret_bool HV.out.symm, rfl⟩
  · have hse : (s.toList.isEmpty) = false := by rw [HE.out]; cases hl : s.data.toList with
      | nil => rw [hl] at hz; simp at hz; omega
      | cons a b => rfl
    have hse2 : ¬ s.toList = [] := by rw [List.isEmpty_eq_false_iff] at hse; exact hse
    by_cases h8 : 8 < s.size
    · have HV : Box (subOk true s.data.toList = false) := box (sub_size (.inr (by omega)))
      have h8i : (8 : Int) < (s.size : Int) := by omega
      clear hz
      go_enter Tryz.func150, Tryz.ntmps150
      go_wp2
      go_ret
      exact ⟨ret_bool HV.out.symm, rfl⟩
    · have HV : Box (subOk true s.data.toList = s.data.toList.all (chOk true)) := box (sub_chars (by omega) (by omega))
      have h8i : ¬ (8 : Int) < (s.size : Int) := by omega
      clear hz
      go_enter Tryz.func150, Tryz.ntmps150
      go_wp2
      go_loop [5, 15] (fun _ m => TagI s true m) (fun _ m => s.size - (intOf m).toNat)
      case atStart => exact ⟨0, rfl, Nat.zero_le _, rfl⟩
      case round =>
        obtain ⟨m, rfl, hm, hc⟩ := hrel
        have HM := box hc
        clear hc
        by_cases hml : m < s.size
        · have hmi : (m : Int) < (s.size : Int) := by omega
          obtain ⟨c, hcq⟩ : ∃ c, s[m] = c := ⟨_, rfl⟩
          cases hk : chOk true c with
          | true =>
            have HN := box (allC_more HM.out hml (by rw [hcq, hk]))
            have HK := box hk
            clear hk
            go_wp2_with fail
            refine (mLetterC _ _).mono ?_; rintro e w1 ⟨rfl, rfl⟩
            rw [HK.out]
            go_wp2
            go_round
            case rel => exact ⟨m + 1, by go_num, hml, HN.out⟩
            case measure => simp [intOf]; omega
          | false =>
            have HN : Box (subOk true s.data.toList = false) := box (by rw [HV.out]; exact allC_not hml (by rw [hcq, hk]))
            have HK := box hk
            clear hk
            go_wp2_with fail
            refine (mLetterC _ _).mono ?_; rintro e w1 ⟨rfl, rfl⟩
            rw [HK.out]
            go_wp2
            go_ret
            exact ⟨ret_bool HN.out.symm, rfl⟩
        · have hmi : ¬ (m : Int) < (s.size : Int) := by omega
          have HN : Box (subOk true s.data.toList = true) := box (by
            have h := HM.out
            rw [List.take_of_length_le (by simp; omega)] at h
            rw [HV.out, h])
          go_wp2
          go_ret
          exact ⟨ret_bool HN.out.symm, rfl⟩
theorem mIsSub_false (s : ByteArray) (w : World) (hs : s.size ≤ 65000) :
    Calls Tryz.prog 150 #[.string s, .func (.func 152) #[] #[]] w fun e w' => e = .returned (.bool (subOk false s.data.toList)) ∧ w = w' := by
  have hz : s.data.toList.length = s.size := by simp
  have HE : Box (s.toList = s.data.toList) := box (toList_data s)
  by_cases h0 : s.size = 0
  · have hse : (s.toList.isEmpty) = true := by rw [HE.out]; cases hl : s.data.toList with
      | nil => rfl
      | cons a b => rw [hl] at hz; simp at hz; omega
    have hse2 : s.toList = [] := by rw [List.isEmpty_iff] at hse; exact hse
    have HV : Box (subOk false s.data.toList = false) := box (sub_size (.inl (by omega)))
    clear hz
    go_enter Tryz.func150, Tryz.ntmps150
    go_wp2
    go_ret
    exact ⟨ret_bool HV.out.symm, rfl⟩
  · have hse : (s.toList.isEmpty) = false := by rw [HE.out]; cases hl : s.data.toList with
      | nil => rw [hl] at hz; simp at hz; omega
      | cons a b => rfl
    have hse2 : ¬ s.toList = [] := by rw [List.isEmpty_eq_false_iff] at hse; exact hse
    by_cases h8 : 8 < s.size
    · have HV : Box (subOk false s.data.toList = false) := box (sub_size (.inr (by omega)))
      have h8i : (8 : Int) < (s.size : Int) := by omega
      clear hz
      go_enter Tryz.func150, Tryz.ntmps150
      go_wp2
      go_ret
      exact ⟨ret_bool HV.out.symm, rfl⟩
    · have HV : Box (subOk false s.data.toList = s.data.toList.all (chOk false)) := box (sub_chars (by omega) (by omega))
      have h8i : ¬ (8 : Int) < (s.size : Int) := by omega
      clear hz
      go_enter Tryz.func150, Tryz.ntmps150
      go_wp2
      go_loop [5, 15] (fun _ m => TagI s false m) (fun _ m => s.size - (intOf m).toNat)
      case atStart => exact ⟨0, rfl, Nat.zero_le _, rfl⟩
      case round =>
        obtain ⟨m, rfl, hm, hc⟩ := hrel
        have HM := box hc
        clear hc
        by_cases hml : m < s.size
        · have hmi : (m : Int) < (s.size : Int) := by omega
          obtain ⟨c, hcq⟩ : ∃ c, s[m] = c := ⟨_, rfl⟩
          cases hk : chOk false c with
          | true =>
            have HN := box (allC_more HM.out hml (by rw [hcq, hk]))
            have HK := box hk
            clear hk
            go_wp2_with fail
            refine (mLetDigC _ _).mono ?_; rintro e w1 ⟨rfl, rfl⟩
            rw [HK.out]
            go_wp2
            go_round
            case rel => exact ⟨m + 1, by go_num, hml, HN.out⟩
            case measure => simp [intOf]; omega
          | false =>
            have HN : Box (subOk false s.data.toList = false) := box (by rw [HV.out]; exact allC_not hml (by rw [hcq, hk]))
            have HK := box hk
            clear hk
            go_wp2_with fail
            refine (mLetDigC _ _).mono ?_; rintro e w1 ⟨rfl, rfl⟩
            rw [HK.out]
            go_wp2
            go_ret
            exact ⟨ret_bool HN.out.symm, rfl⟩
        · have hmi : ¬ (m : Int) < (s.size : Int) := by omega
          have HN : Box (subOk false s.data.toList = true) := box (by
            have h := HM.out
            rw [List.take_of_length_le (by simp; omega)] at h
            rw [HV.out, h])
          go_wp2
          go_ret
          exact ⟨ret_bool HN.out.symm, rfl⟩
theorem mIsSub1_is {s : ByteArray} {q : Bool} {w : World} (hs : s.size ≤ 65000) (h : Box (subOk true s.data.toList = q)) :
    Calls Tryz.prog 150 #[.string s, .func (.func 151) #[] #[]] w fun e w' => e = .returned (.bool q) ∧ w = w' :=
  (mIsSub_true s w hs).mono fun e w' ⟨h1, h2⟩ => ⟨by rw [h1, h.out], h2⟩
theorem mIsSub0_is {s : ByteArray} {q : Bool} {w : World} (hs : s.size ≤ 65000) (h : Box (subOk false s.data.toList = q)) :
    Calls Tryz.prog 150 #[.string s, .func (.func 152) #[] #[]] w fun e w' => e = .returned (.bool q) ∧ w = w' :=
  (mIsSub_false s w hs).mono fun e w' ⟨h1, h2⟩ => ⟨by rw [h1, h.out], h2⟩
/-- what is left to be judged: the pieces of t, if there is a piece at all -/
def moreT (more : Bool) (t : List UInt8) : Bool := !more || (subL t).all (subOk false)
theorem cut_sub (l : List UInt8) : subL l = cut1 45 l :: (if cutB 45 l = true then subL (cut2 45 l) else []) := by
  by_cases h : cutB 45 l = true
  · rw [if_pos h]
    conv => lhs; rw [cut_join h]
    exact sub_at (cut1_not 45 l)
  · rw [if_neg h]
    have h2 : cutB 45 l = false := by cases e : cutB 45 l with
      | true => exact absurd e h
      | false => rfl
    have hn : (45 : UInt8) ∉ l := by simpa [cutB] using h2
    have e : Lib.indexByte l 45 = -1 := by
      by_cases q : Lib.indexByte l 45 = -1
      · exact q
      · exfalso
        obtain ⟨k, hk⟩ : ∃ k : Nat, Lib.indexByte l 45 = k := ⟨(Lib.indexByte l 45).toNat, by have := Lib.indexByte_ge l 45; omega⟩
        have := (cut_at hk).2.2.2
        rw [h2] at this; cases this
    rw [(cut_no e).1, sub_no hn]
theorem tag_cut (l : List UInt8) : tagL l = (subOk true (cut1 45 l) && moreT (cutB 45 l) (cut2 45 l)) := by
  unfold tagL moreT
  rw [cut_sub l]
  show (subOk true (cut1 45 l) && _) = _
  congr 1
  cases cutB 45 l <;> rfl
theorem more_cut (l : List UInt8) : moreT true l = (subOk false (cut1 45 l) && moreT (cutB 45 l) (cut2 45 l)) := by
  unfold moreT
  rw [Bool.not_true, Bool.false_or, cut_sub l, List.all_cons]
  congr 1
  cases cutB 45 l <;> rfl
theorem cut_small45 (l : List UInt8) : (cut1 45 l).length ≤ l.length ∧ (cut2 45 l).length ≤ l.length ∧ (cutB 45 l = true → (cut2 45 l).length < l.length) := by
  refine ⟨(List.takeWhile_prefix _).length_le, ?_, ?_⟩
  · unfold cut2; have := (List.dropWhile_suffix (l := l) (fun x => x != (45 : UInt8))).length_le; simp; omega
  · intro h; have := congrArg List.length (cut_join h); rw [List.length_append, List.length_cons] at this; omega
/-- the loop over the pieces: rest and more -/
def MtR (m : Bool) (n : Nat) (W : World) (t b : Value) (wr : World) : Prop :=
  ∃ (r : ByteArray) (q : Bool), t = .string r ∧ b = .bool q ∧ r.size ≤ n ∧ moreT q r.data.toList = m ∧ Below W.heap.size W wr
def boolV : Value → Bool
  | .bool b => b
  | _ => false
set_option maxHeartbeats 1000000 in
theorem mTag_any (s : ByteArray) (w : World) (hs : s.size ≤ 65000) :
    Calls Tryz.prog 149 #[.string s] w fun e w' => e = .returned (.bool (tagL s.data.toList)) ∧ Below w.heap.size w w' := by
  obtain ⟨v, hv⟩ : ∃ v, tagL s.data.toList = v := ⟨_, rfl⟩
  have hT := tag_cut s.data.toList
  have hC := cut_small45 s.data.toList
  have hz : s.data.toList.length = s.size := by simp
  have hsm : s.size ≤ maxLen := by unfold maxLen; omega
  rw [hv] at hT
  have HCV : Box (cutV 45 s.data.toList = .tuple #[.string (bs (cut1 45 s.data.toList)), .string (bs (cut2 45 s.data.toList)), .bool (cutB 45 s.data.toList)]) := box rfl
  obtain ⟨x, hx⟩ : ∃ x, cut1 45 s.data.toList = x := ⟨_, rfl⟩
  obtain ⟨y, hy⟩ : ∃ y, cut2 45 s.data.toList = y := ⟨_, rfl⟩
  obtain ⟨b, hb⟩ : ∃ b, cutB 45 s.data.toList = b := ⟨_, rfl⟩
  rw [hx, hy, hb] at HCV
  rw [hx, hy, hb] at hT
  rw [hx, hy] at hC
  have hxz : (bs x).size ≤ 65000 := by rw [bs_size]; omega
  have hyz : (bs y).size ≤ 65000 := by rw [bs_size]; omega
  have HV : Box (∀ q, subOk true x = q → v = (q && moreT b y)) := box (fun q hq => by rw [← hq, hT])
  have HVV := box hv
  rw [hv]
  clear hx hy hb hv hT hC hz
  go_enter Tryz.func149, Tryz.ntmps149
  go_wp2_with fail
  refine (Cut_any s 45 _ hsm).mono ?_; rintro e w1 ⟨rfl, hb1⟩
  rw [HCV.out]
  have B1 := box hb1
  clear hb1
  cases hq : subOk true x with
  | false =>
    have HQ : Box (subOk true (bs x).data.toList = false) := box hq
    have HR : Box (v = false) := box (by rw [HV.out _ hq]; rfl)
    clear hq
    go_wp2_with fail
    refine (mIsSub1_is hxz HQ).mono ?_; rintro e w2 ⟨rfl, rfl⟩
    go_wp2
    go_ret
    exact ⟨ret_bool HR.out.symm, B1.out⟩
  | true =>
    have HQ : Box (subOk true (bs x).data.toList = true) := box hq
    have HR : Box (moreT b (bs y).data.toList = v) := box (by rw [HV.out _ hq]; rfl)
    clear hq
    go_wp2_with fail
    refine (mIsSub1_is hxz HQ).mono ?_; rintro e w2 ⟨rfl, rfl⟩
    go_wp2
    go_loopw [4, 5, 6] (fun t q _ wr => MtR v 65000 w1 t q wr) (fun t q _ _ => (strLen t) + (if boolV q = true then 1 else 0))
    case atStart => exact ⟨bs y, b, rfl, rfl, hyz, HR.out, Below.refl _ _⟩
    case round =>
      obtain ⟨r, q, rfl, rfl, hr, hm, hbel⟩ := hrel
      have BL := box hbel
      have HM := box hm
      clear hm hbel
      cases q with
      | false =>
        have HF : Box (v = true) := box (by rw [← HM.out]; rfl)
        go_wp2
        go_ret
        exact ⟨ret_bool HF.out.symm, B1.out.trans (BL.out.mono B1.out.size)⟩
      | true =>
        have hT := more_cut r.data.toList
        rw [HM.out] at hT
        have hC := cut_small45 r.data.toList
        have hz : r.data.toList.length = r.size := by simp
        have hrm : r.size ≤ maxLen := by unfold maxLen; omega
        have HCV : Box (cutV 45 r.data.toList = .tuple #[.string (bs (cut1 45 r.data.toList)), .string (bs (cut2 45 r.data.toList)), .bool (cutB 45 r.data.toList)]) := box rfl
        obtain ⟨x', hx⟩ : ∃ x', cut1 45 r.data.toList = x' := ⟨_, rfl⟩
        obtain ⟨y', hy⟩ : ∃ y', cut2 45 r.data.toList = y' := ⟨_, rfl⟩
        obtain ⟨b', hb⟩ : ∃ b', cutB 45 r.data.toList = b' := ⟨_, rfl⟩
        rw [hx, hy, hb] at HCV
        rw [hx, hy, hb] at hT
        rw [hx, hy, hb] at hC
        have hxz' : (bs x').size ≤ 65000 := by rw [bs_size]; omega
        have hyz' : (bs y').size ≤ 65000 := by rw [bs_size]; omega
        have HY : Box ((bs y').size + (if b' = true then 1 else 0) < r.size + 1) := box (by
          rw [bs_size]
          cases b' with
          | true => have := hC.2.2 rfl; simp; omega
          | false => simp; omega)
        have HV2 : Box (∀ q, subOk false x' = q → v = (q && moreT b' y')) := box (fun q hq => by rw [← hq, hT])
        clear hx hy hb hT hC hz
        go_wp2_with fail
        refine (Cut_any r 45 _ hrm).mono ?_; rintro e w3 ⟨rfl, hb3⟩
        rw [HCV.out]
        have B3 := box (BL.out.trans (hb3.mono BL.out.size))
        clear hb3
        cases hq : subOk false x' with
        | false =>
          have HQ : Box (subOk false (bs x').data.toList = false) := box hq
          have HR : Box (v = false) := box (by rw [HV2.out _ hq]; rfl)
          clear hq
          go_wp2_with fail
          refine (mIsSub0_is hxz' HQ).mono ?_; rintro e w2 ⟨rfl, rfl⟩
          go_wp2
          go_ret
          exact ⟨ret_bool HR.out.symm, B1.out.trans (B3.out.mono B1.out.size)⟩
        | true =>
          have HQ : Box (subOk false (bs x').data.toList = true) := box hq
          have HR : Box (moreT b' (bs y').data.toList = v) := box (by rw [HV2.out _ hq]; rfl)
          clear hq
          go_wp2_with fail
          refine (mIsSub0_is hxz' HQ).mono ?_; rintro e w2 ⟨rfl, rfl⟩
          go_wp2
          go_roundw
          case rel => exact ⟨bs y', b', rfl, rfl, hyz', HR.out, B3.out⟩
          case measure => exact HY.out
theorem mTagM_is {s : ByteArray} {b : Bool} {w : World} (hs : s.size ≤ 65000) (h : Box (tagL s.data.toList = b)) :
    Calls Tryz.prog 149 #[.string s] w fun e w' => e = .returned (.bool b) ∧ Below w.heap.size w w' :=
  (mTag_any s w hs).mono fun e w' ⟨h1, h2⟩ => ⟨by rw [h1, h.out], h2⟩
end
section
open Go.RowKit
theorem mLow12_is {s x : ByteArray} {w : World} (hs : s.size ≤ 4294967296) (h : Box (bs (lowL s.data.toList) = x)) :
    Calls Tryz.prog 91 #[.string s] w fun e w' => e = .returned (.string x) ∧ Below w.heap.size w w' :=
  (Lower_any s w hs).mono fun e w' ⟨h1, h2⟩ => ⟨by rw [h1, ← h.out]; rfl, h2⟩
theorem mCan_any (k : Int) (s : ByteArray) (w : World) (hk : InI64 k) (hs : s.size ≤ 65536) :
    Calls Tryz.prog 154 #[.int .i64 k, .string s] w fun e w' => e = .returned (.string (bs (canL k s.data.toList))) ∧ Below w.heap.size w w' := by
  have hs4 : s.size ≤ 4294967296 := by omega
  obtain ⟨l, hl⟩ : ∃ l, lowL s.data.toList = l := ⟨_, rfl⟩
  have HX : Box (bs (lowL s.data.toList) = bs l) := box (by rw [hl])
  by_cases h4 : k = 4
  · subst h4
    by_cases h1 : l = xgzL
    · have HV : Box (canL 4 s.data.toList = gzL) := box (by unfold canL; rw [hl, if_pos ⟨rfl, h1⟩])
      subst h1
      clear hl
      go_enter Tryz.func154, Tryz.ntmps154
      go_wp2_with fail
      refine (mLow12_is hs4 HX).mono ?_; rintro e w1 ⟨rfl, hb1⟩; rw [show bs xgzL = ⟨#[120, 45, 103, 122, 105, 112]⟩ from rfl]
      go_wp2
      go_ret
      exact ⟨by rw [HV.out]; rfl, hb1⟩
    · have e1 : ((bs l).toList == [120, 45, 103, 122, 105, 112]) = false := by rw [bs_list]; exact beq_list (decide_eq_false h1)
      by_cases h2 : l = xcoL
      · have HV : Box (canL 4 s.data.toList = coL) := box (by unfold canL; rw [hl, if_neg (fun q => h1 q.2), if_pos ⟨rfl, h2⟩])
        subst h2
        clear hl e1
        go_enter Tryz.func154, Tryz.ntmps154
        go_wp2_with fail
        refine (mLow12_is hs4 HX).mono ?_; rintro e w1 ⟨rfl, hb1⟩; rw [show bs xcoL = ⟨#[120, 45, 99, 111, 109, 112, 114, 101, 115, 115]⟩ from rfl]
        go_wp2
        go_ret
        exact ⟨by rw [HV.out]; rfl, hb1⟩
      · have e2 : ((bs l).toList == [120, 45, 99, 111, 109, 112, 114, 101, 115, 115]) = false := by rw [bs_list]; exact beq_list (decide_eq_false h2)
        have HV : Box (canL 4 s.data.toList = l) := box (by unfold canL; rw [hl, if_neg (fun q => h1 q.2), if_neg (fun q => h2 q.2)])
        clear hl h1 h2
        go_enter Tryz.func154, Tryz.ntmps154
        go_wp2_with fail
        refine (mLow12_is hs4 HX).mono ?_; rintro e w1 ⟨rfl, hb1⟩
        go_wp2
        go_ret
        exact ⟨by rw [HV.out]; rfl, hb1⟩
  · have e4 : (k != 4) = true := by rw [bne_iff_ne]; exact h4
    have HV : Box (canL k s.data.toList = l) := box (by unfold canL; rw [hl, if_neg (fun q => h4 q.1), if_neg (fun q => h4 q.1)])
    clear hl h4
    go_enter Tryz.func154, Tryz.ntmps154
    go_wp2_with fail
    refine (mLow12_is hs4 HX).mono ?_; rintro e w1 ⟨rfl, hb1⟩
    go_wp2
    go_ret
    exact ⟨by rw [HV.out]; rfl, hb1⟩
end
end Go.Proofs.YtcnohcbhnldglaaGreat.Asc
