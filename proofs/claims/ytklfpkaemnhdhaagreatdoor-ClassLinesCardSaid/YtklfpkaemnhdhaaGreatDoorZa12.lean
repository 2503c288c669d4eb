/- Merged texts: LisApp2 BldMore ParMine MedHas MedMine LanMT LanMM CodMine QvaMine AccPar. -/
import Derived.Test.YtklfpkaemnhdhaaGreatDoorZa02
import Derived.Test.YtklfpkaemnhdhaaGreatDoorZa03
import Derived.Test.YtklfpkaemnhdhaaGreatDoorZa05
import Derived.Test.YtklfpkaemnhdhaaGreatDoorZa06
import Derived.Test.YtklfpkaemnhdhaaGreatDoorZa07
import Derived.Test.YtklfpkaemnhdhaaGreatDoorZa08
import Derived.Test.YtklfpkaemnhdhaaGreatDoorZa11
set_option linter.unusedVariables false
set_option linter.unusedSimpArgs false
set_option maxRecDepth 100000
namespace Go.Proofs.YtklfpkaemnhdhaaGreatDoor.Asc
section
open Go.RowKit
theorem aTrim_is {s x : ByteArray} {w : World} (hs : s.size ≤ maxLen) (h : Box (bs (trimL s.data.toList) = x)) :
    Calls Tryz.prog 137 #[.string s] w fun e w' => e = .returned (.string x) ∧ w = w' :=
  (Trim_any s w hs).mono fun e w' ⟨h1, h2⟩ => ⟨by rw [h1, ← h.out]; rfl, by first | exact h2 | exact h2.symm⟩
def AppRel (T : List (List UInt8)) (B n : Nat) (w : World) (v r m : Value) (wr : World) : Prop :=
  ∃ (M : List (List UInt8)) (t : ByteArray) (b : Bool), r = .string t ∧ m = .bool b ∧ t.size ≤ n ∧ M.length ≤ 64 ∧ T = addL M (moreL 44 b t.data.toList) ∧ OwnS wr B v (M.map bs) ∧ Below B w wr
def msr (m r : Value) : Nat := match m, r with | .bool true, .string t => t.size + 1 | _, _ => 0
set_option maxHeartbeats 4000000 in
theorem appMem_any (B : Nat) (v : Value) (A : List (List UInt8)) (s : ByteArray) (w : World) (hs : s.size ≤ 65000) (hO : Box (OwnS w B v (A.map bs))) (hB : B ≤ w.heap.size) (hA : A.length ≤ 64) :
    Calls Tryz.prog 115 #[v, .string s] w fun e w' => ∃ v', e = .returned v' ∧ OwnS w' B v' ((addL A (cutL 44 s.data.toList)).map bs) ∧ Below B w w' := by
  obtain ⟨T, hT⟩ : ∃ T, addL A (cutL 44 s.data.toList) = T := ⟨_, rfl⟩
  have HT := box hT
  rw [hT]
  clear hT
  obtain ⟨av, cv, rfl, _, _⟩ := hO.out.ss
  rw [List.length_map] at hO ⊢
  go_enter Tryz.func115, Tryz.ntmps115
  go_wp2
  go_loopw [0, 5, 6] (fun v r m wr => AppRel T B s.size w v r m wr) (fun _ r m _ => msr m r)
  case atStart => exact ⟨A, s, true, rfl, rfl, Nat.le_refl _, hA, HT.out.symm, hO.out, Below.refl _ _⟩
  case round =>
    obtain ⟨M, t, b, rfl, rfl, hts, hM, hTM, hOM, hbel⟩ := hrel
    have O0 := box hOM
    have BL := box hbel
    have HM := box hTM
    have hBw := Nat.le_trans hB hbel.size
    obtain ⟨av, cv, rfl, _, _⟩ := hOM.ss
    rw [List.length_map] at O0 ⊢
    clear hOM hbel hTM
    rcases b with _ | _
    · have HF : Box (T = M) := box (by rw [HM.out]; exact addL_nil hM)
      go_wp2
      go_ret
      exact ⟨_, rfl, by rw [HF.out]; exact O0.out, BL.out⟩
    · by_cases hm : M.length = 64
      · have hmi : ¬ (M.length : Int) < 64 := by omega
        have HF : Box (T = M) := box (by rw [HM.out]; exact addL_full hm)
        clear hm
        go_wp2
        go_ret
        exact ⟨_, rfl, by rw [HF.out]; exact O0.out, BL.out⟩
      · have hmi : (M.length : Int) < 64 := by omega
        have ht6 : t.size ≤ 65000 := by omega
        obtain ⟨p, r, m, hp⟩ : ∃ p r m, pcL 44 t.data.toList = (p, r, m) := ⟨_, _, _, rfl⟩
        have HV : Box (pcV 44 t.data.toList = .tuple #[.string (bs p), .string (bs r), .bool m]) := box (by unfold pcV; rw [hp])
        have hcut : T = addL M (p :: moreL 44 m r) := by
          have := cutL_pc (sep := 44) (by decide) t.data.toList
          rw [hp] at this
          rw [HM.out]
          show addL M (cutL 44 t.data.toList) = _
          rw [this]
        have hsz := pcF_size 44 t.data.toList 0 []
        rw [show pcF 44 0 t.data.toList [] = (p, r, m) from hp] at hsz
        simp only [List.length_nil, Nat.zero_add] at hsz
        rw [show t.data.toList.length = t.size from by simp] at hsz
        have hrz : (bs r).size ≤ s.size := by rw [bs_size]; omega
        have hms : Box (msr (.bool m) (.string (bs r)) < t.size + 1) := box (by
          cases m
          · exact Nat.zero_lt_succ _
          · show (bs r).size + 1 < t.size + 1
            rw [bs_size]; have := hsz.2 rfl; omega)
        have hpz : (bs p).size ≤ maxLen := by rw [bs_size]; unfold maxLen; omega
        have HCut := box hcut
        clear hp hcut hsz HM
        by_cases htr : trimL p = []
        · have HTr : Box (bs (trimL (bs p).data.toList) = ⟨#[]⟩) := box (by rw [bs_toList, htr]; rfl)
          have HN : Box (T = addL M (moreL 44 m (bs r).data.toList)) := box (by rw [HCut.out, addL_blank htr, bs_toList])
          clear HCut
          go_wp2_with fail
          refine (pieceCut_any t 44 _ ht6).mono ?_; rintro e w1 ⟨rfl, hb1⟩
          rw [HV.out]
          have O1 := box (own_below O0.out hb1)
          have B1 := box (BL.out.trans (hb1.mono hBw))
          clear hb1
          go_wp2_with fail
          refine (aTrim_is hpz HTr).mono ?_; rintro e w2 ⟨rfl, rfl⟩
          go_wp2
          go_roundw
          case rel => exact ⟨M, bs r, m, rfl, rfl, hrz, hM, HN.out, O1.out, B1.out⟩
          case measure => exact hms.out
        · obtain ⟨x, hx⟩ : ∃ x, bs (trimL p) = x := ⟨_, rfl⟩
          have HTr : Box (bs (trimL (bs p).data.toList) = x) := box (by rw [bs_toList, hx])
          have hxe : x.toList.isEmpty = false := by
            rw [← hx, toList_bs]
            cases h : trimL p with
            | nil => exact absurd h htr
            | cons c r => rfl
          have HN : Box (T = addL (M ++ [trimL p]) (moreL 44 m (bs r).data.toList)) := box (by rw [HCut.out, addL_more htr, bs_toList])
          have HX : Box ((M ++ [trimL p]).map bs = M.map bs ++ [x]) := box (by rw [List.map_append, List.map_cons, List.map_nil, hx])
          have hm6 : Box ((M.map bs).length ≤ 65536) := box (by rw [List.length_map]; omega)
          have hml : Box ((M ++ [trimL p]).length ≤ 64) := box (by rw [List.length_append]; simp; omega)
          clear HCut hx
          go_wp2_with fail
          refine (pieceCut_any t 44 _ ht6).mono ?_; rintro e w1 ⟨rfl, hb1⟩
          rw [HV.out]
          have O1 := box (own_below O0.out hb1)
          have B1 := box (BL.out.trans (hb1.mono hBw))
          have hBw1 := Nat.le_trans hBw hb1.size
          clear hb1
          go_wp2_with fail
          refine (aTrim_is hpz HTr).mono ?_; rintro e w2 ⟨rfl, rfl⟩
          go_wp2_with (at_builtin; refine wpList_append_str _ rfl (.tmp 26) (.tmp 28) rfl B _ (M.map bs) rfl ?a1 _ _ rfl x ?b1 ?c1 ?d1 ?_)
          case a1 => exact own_below O1.out (below_new _ _)
          case b1 => go_simp
          case c1 => exact hm6.out
          case d1 => simp; omega
          intro v3 w3 hO3 hb3
          have O3 := box hO3
          have B3 := box ((B1.out.alloc hBw1 _).trans hb3)
          clear hO3 hb3
          go_wp2
          go_roundw
          case rel => exact ⟨M ++ [trimL p], bs r, m, rfl, rfl, hrz, hml.out, HN.out, by rw [HX.out]; exact O3.out, B3.out⟩
          case measure => exact hms.out
set_option maxHeartbeats 4000000 in
theorem mAll_any (a : Option Addr) (cap : Nat) (L : List F) (nm : ByteArray) (w : World) (S : Box (Sm L)) (hv : Box (∀ x ∈ getL nm L, x.size ≤ 65000)) (M : Box (nm.size ≤ 65536)) (hF : Box (Fs w a L)) :
    Calls Tryz.prog 77 #[.slice a L.length cap, .string nm] w fun e w' => ∃ v, e = .returned v ∧ OwnS w' w.heap.size v (allB nm L) ∧ Below w.heap.size w w' := by
  obtain ⟨vs, hvs⟩ : ∃ vs, getL nm L = vs := ⟨_, rfl⟩
  have HVS := box hvs
  have HAL : Box (allB nm L = ((allF vs).take 64).map bs) := box (by unfold allB allL; rw [hvs])
  have hvl : vs.length ≤ 65536 := by
    have := get_le (nm := nm) (L := L) (k := L.length)
    rw [List.take_length, hvs] at this
    have := S.out.1; omega
  rw [hvs] at hv
  clear hvs
  have hl := S.out.1
  go_enter Tryz.func77, Tryz.ntmps77
  go_wp2_with fail
  refine (Get_any a cap L nm _ hl S M hF).mono ?_; rintro e w1 ⟨v1, rfl, hO1, hb1⟩
  rw [HVS.out] at hO1
  obtain ⟨a1, cap1, rfl, hS1, hc1⟩ := hO1.ss
  have S1 := box hS1
  have B1 := box hb1
  have hB1 := hb1.size
  clear hO1 hS1 hb1
  go_wp2
  go_loopw [5, 12] (fun v i wr => AllRel vs w1.heap.size w1 v i wr) (fun _ i _ => vs.length - (intOf i).toNat)
  case atStart => exact ⟨0, rfl, Nat.zero_le _, OwnS.nil _ _, Below.refl _ _⟩
  case round =>
    obtain ⟨k, rfl, hk, hO, hbel⟩ := hrel
    have O0 := box hO
    have BL := box hbel
    have hBw := hbel.size
    clear hO hbel
    by_cases hlt : k < vs.length
    · obtain ⟨q, off, rfl, c0⟩ := (S1.out.below BL.out) k hlt
      have hxz := hv.out vs[k] (List.getElem_mem hlt)
      have HN := box (addL_all hlt)
      have hA64 : ((allF (vs.take k)).take 64).length ≤ 64 := by rw [List.length_take]; omega
      go_wp2_with fail
      refine (appMem_any w1.heap.size _ _ vs[k] _ hxz O0 hBw hA64).mono ?_; rintro e w2 ⟨v2, rfl, hO2, hb2⟩
      have O2 := box hO2
      have B2 := box (BL.out.trans hb2)
      clear hO2 hb2 c0
      go_wp2
      go_roundw
      case rel => exact ⟨k + 1, by go_num, by omega, by rw [HN.out]; exact O2.out, B2.out⟩
      case measure => simp [intOf]; omega
    · have HF : Box ((allF (vs.take k)).take 64 = (allF vs).take 64) := box (by rw [List.take_of_length_le (l := vs) (by omega)])
      rw [HF.out] at O0
      go_wp2
      go_ret
      exact ⟨_, rfl, by rw [HAL.out]; exact Go.Joins.ownsRow_le O0.out hB1, B1.out.trans (BL.out.mono hB1)⟩
end
section
open Go.RowKit
/-- all blocks but b that hold no bytes are as they were -/
def KeepU (b : Nat) (w w' : World) : Prop := ∀ k cs T fr, k ≠ b → T ≠ 5 → w.heap[k]? = some (.cells cs T fr) → w'.heap[k]? = some (.cells cs T fr)
theorem KeepU.refl (b : Nat) (w : World) : KeepU b w w := fun _ _ _ _ _ _ h => h
theorem KeepU.trans {b : Nat} {w w1 w2 : World} (h1 : KeepU b w w1) (h2 : KeepU b w1 w2) : KeepU b w w2 := fun k cs T fr hk hT h => h2 k cs T fr hk hT (h1 k cs T fr hk hT h)
theorem KeepU.below {b : Nat} {w w' : World} (h : Below w.heap.size w w') : KeepU b w w' := fun k cs T fr _ _ hk => (h.block k (blk_lt hk)).trans hk
def BldV (w : World) (B b : Nat) (p v : Value) (l : List UInt8) : Prop :=
  B ≤ b ∧ w.heap[b]? = some (.cells #[p, v] 61 (0, 0)) ∧ w.ownsRow B 5 1 v (Lib.byteCells l).length (Lib.byteCells l) ∧ v.ownBlock ≠ some b ∧ (v = .slice none 0 0 ↔ l = [])
/-- the builder of block b, made by the call itself and never grown: its bytes l -/
def BldZ (w : World) (B b : Nat) (l : List UInt8) : Prop := ∃ p v, (p = .pointer none ∨ p = .pointer (some ⟨b, 0, none⟩)) ∧ BldV w B b p v l
theorem BldV.at {w : World} {B b : Nat} {p v : Value} {l : List UInt8} (h : BldV w B b p v l) : BldAt w B b p l := ⟨h.1, v, h.2.1, h.2.2.1, h.2.2.2.1⟩
theorem BldV.of {w : World} {B b : Nat} {p v : Value} {l : List UInt8} (h : BldAt w B b p l) (hb : w.heap[b]? = some (.cells #[p, v] 61 (0, 0))) (hn : v = .slice none 0 0 ↔ l = []) : BldV w B b p v l := by
  obtain ⟨hB, v2, hb2, hown, hne⟩ := h
  rw [hb] at hb2
  simp at hb2
  subst hb2
  exact ⟨hB, hb, hown, hne, hn⟩
theorem BldZ.bld {w : World} {B b : Nat} {l : List UInt8} (h : BldZ w B b l) : Bld w B b l := by
  obtain ⟨p, v, hp, hV⟩ := h
  rcases hp with rfl | rfl
  · exact .inl hV.at
  · exact .inr hV.at
theorem BldZ.lt {w : World} {B b : Nat} {l : List UInt8} (h : BldZ w B b l) : b < w.heap.size := by
  obtain ⟨p, v, hp, hV⟩ := h
  exact blk_lt hV.2.1
theorem BldZ.next {w w' : World} {B b : Nat} {l : List UInt8} (h : BldZ w B b l) (hb : Below w.heap.size w w') : BldZ w' B b l := by
  obtain ⟨p, v, hp, h1, h2, h3, h4, h5⟩ := h
  exact ⟨p, v, hp, h1, (hb.block b (blk_lt h2)).trans h2, own_below h3 hb, h4, h5⟩
theorem BldZ.fresh (w : World) : BldZ (w.alloc (.cells #[.pointer none, .slice none 0 0] 61)) w.heap.size w.heap.size [] :=
  ⟨.pointer none, .slice none 0 0, .inl rfl, Nat.le_refl _, heap_alloc_new w _, World.ownsRow_nil _ _ _ _, by simp [Value.ownBlock], by simp⟩
theorem check_z (B b : Nat) (l : List UInt8) (w : World) (h : BldZ w B b l) :
    Calls Tryz.prog 69 #[.pointer (some ⟨b, 0, none⟩)] w fun e w' => e = .returned (.tuple #[]) ∧ (∃ v, BldV w' B b (.pointer (some ⟨b, 0, none⟩)) v l) ∧ Below B w w' ∧ KeepU b w w' := by
  obtain ⟨p, v, hp, hV⟩ := h
  rcases hp with rfl | rfl
  · refine (check_new b w hV.at.cell0 hV.at.shape hV.at.frozen0).mono ?_
    rintro e w' ⟨rfl, rfl⟩
    refine ⟨rfl, ⟨v, BldV.of (hV.at.used _) ?_ hV.2.2.2.2⟩, (Below.refl B w).setCell (p := ⟨b, 0, none⟩) hV.1 _, fun k cs T fr hk hT hh => ?_⟩
    · simp [World.setCell, Array.getElem?_modify, hV.2.1]
    · simp only [World.setCell, Array.getElem?_modify]
      rw [if_neg (fun e => hk e.symm)]; exact hh
  · refine (check_used b w hV.at.cell0).mono ?_
    rintro e w' ⟨rfl, rfl⟩
    exact ⟨rfl, ⟨v, hV⟩, Below.refl B _, KeepU.refl _ _⟩
/-- WriteString: the string's bytes behind those that are there; what other blocks hold stays -/
theorem WriteString_z (B b : Nat) (l : List UInt8) (s : ByteArray) (w : World) (h : Box (BldZ w B b l)) (hl : l.length + s.size ≤ 140737488355328) (hBw : B ≤ w.heap.size) :
    Calls Tryz.prog 35 #[.pointer (some ⟨b, 0, none⟩), .string s] w fun e w' => e = .returned (.tuple #[.int .i64 s.size, .nilIface]) ∧ BldZ w' B b (l ++ s.data.toList) ∧ Below B w w' ∧ KeepU b w w' := by
  obtain ⟨i0, hi0, hz0, hz1, hz2⟩ := info_parts info_u8
  go_enter Tryz.func35, Tryz.ntmps35
  go_wp2_with fail
  refine (check_z B b l _ h.out).mono ?_; rintro e w1 ⟨rfl, ⟨v, hB, hbk, hown, hne, hnil⟩, hb1, hk1⟩
  have c0 : w1.cell? ⟨b, 0, none⟩ = some (.pointer (some ⟨b, 0, none⟩)) := by rw [Lib.cell_of_heap hbk]; rfl
  have c1 : w1.cell? ⟨b, 1, none⟩ = some v := by rw [Lib.cell_of_heap hbk]; rfl
  have hbw := hb1.size
  have B1 := box hb1
  have K1 := box hk1
  have H1 := box hown
  have HN := box hne
  have HK := box hbk
  have HNL := box hnil
  have hll : (Lib.byteCells l).length = l.length := Lib.byteCells_length l
  have hlt := blk_lt hbk
  clear hb1 hk1 hown hne hbk hnil
  go_wp2_with (at_builtin; refine Lib.wpList_append_own_string _ rfl _ _ 59 9 rfl B 5 i0 Tryz.underlying59 Tryz.underlying9 hi0 hz0 hz1 hz2 _ _ _ rfl H1.out s rfl ?c3 ?c4 ?c5 ?_)
  case c3 => unfold maxLen; omega
  case c4 => omega
  case c5 => omega
  intro v' w2 hown' hgrow hiff
  have hb2 : w2.heap[b]? = some (.cells #[.pointer (some ⟨b, 0, none⟩), v] 61 (0, 0)) := by
    rw [hgrow.block b hlt (fun e => HN.out e.symm)]
    exact HK.out
  have d1 : w2.cell? ⟨b, 1, none⟩ = some v := by rw [Lib.cell_of_heap hb2]; rfl
  have f1 : w2.frozen? ⟨b, 1, none⟩ = false := Lib.frozen_of_heap hb2 1
  have A2 : Box (BldAt (w2.setCell ⟨b, 1, none⟩ v') B b (.pointer (some ⟨b, 0, none⟩)) (l ++ s.data.toList)) := box
    (Lib.BuilderAt.put (T := 61) (e := 5) hB hb2 (bs' := Lib.byteCells (l ++ s.data.toList)) (by
      rw [Lib.byteCells_append, List.length_append, ← Lib.strCells_eq, Lib.strCells_length, hll]; exact hown') (by decide))
  have Z2 : Box (BldZ (w2.setCell ⟨b, 1, none⟩ v') B b (l ++ s.data.toList)) := box ⟨_, v', .inr rfl, BldV.of A2.out (by simp [World.setCell, Array.getElem?_modify, hb2]) (by
    rw [hiff, HNL.out, List.append_eq_nil_iff]
    have e : s.data.toList = [] ↔ s = ByteArray.empty := ⟨fun q => ByteArray.ext (Array.toList_inj.mp q), fun q => by rw [q]; rfl⟩
    rw [e])⟩
  have B2 : Box (Below B w (w2.setCell ⟨b, 1, none⟩ v')) := box ((B1.out.grown hgrow (by omega) (fun k hk => (H1.out.lt k hk).1)).setCell (p := ⟨b, 1, none⟩) hB _)
  have K2 : Box (KeepU b w (w2.setCell ⟨b, 1, none⟩ v')) := box (K1.out.trans (fun k cs T fr hk hT hh => by
    simp only [World.setCell, Array.getElem?_modify]
    rw [if_neg (fun e => hk e.symm), hgrow.block k (blk_lt hh) (fun e => Lib.ownBlock_ne H1.out hh hT e.symm)]; exact hh))
  obtain ⟨ax, nx, cx, rfl⟩ : ∃ a n c, v' = .slice a n c := by
    rcases hown'.2 with ⟨hv, _⟩ | ⟨g, cap, cur, hv, _⟩
    · exact ⟨_, _, _, hv⟩
    · exact ⟨_, _, _, hv⟩
  clear hown' hgrow hb2 hiff A2
  go_wp2
  go_ret2
  exact ⟨rfl, Z2.out, B2.out, K2.out⟩
theorem String_nil (b : Nat) (p : Value) (w : World) (hb : w.heap[b]? = some (.cells #[p, .slice none 0 0] 61 (0, 0))) :
    Calls Tryz.prog 38 #[.pointer (some ⟨b, 0, none⟩)] w fun e w' => e = .returned (.string ⟨#[]⟩) ∧ Below w.heap.size w w' := by
  have c1 : w.drew.cell? ⟨b, 1, none⟩ = some (.slice none 0 0) := by rw [Lib.cell_of_heap (w := w.drew) hb]; rfl
  have hSD : (Builtin.unsafeSliceData_ #[59] 95 #[.slice none 0 0]).run Tryz.prog w.drew = .ok (.pointer none) w.drew := Lib.run_unsafeSliceData_nil _ _ _ _ _
  have hUS : (Builtin.unsafeString_ #[95, 3] 9 #[.pointer none, .int .i64 0]).run Tryz.prog w.drew = .ok (.string ⟨#[]⟩) w.drew := Lib.run_unsafeString_none _ _ _ _ _
  clear hb
  go_enter Tryz.func38, Tryz.ntmps38
  go_wp2
  go_region
  all_goals (go_wp2; go_ret; exact ⟨rfl, below_drewN w 1⟩)
theorem String_z (B b : Nat) (l : List UInt8) (w : World) (h : Box (BldZ w B b l)) (hB : B ≤ w.heap.size) :
    Calls Tryz.prog 38 #[.pointer (some ⟨b, 0, none⟩)] w fun e w' => e = .returned (.string ⟨l.toArray⟩) ∧ Below B w w' := by
  by_cases h0 : l = []
  · obtain ⟨p, v, hp, hV⟩ := h.out
    have hv := hV.2.2.2.2.mpr h0
    subst hv h0
    exact (String_nil b p w hV.2.1).mono fun e w' ⟨h1, h2⟩ => ⟨h1, h2.mono hB⟩
  · exact String_any B b l w (box h.out.bld) h0
end
section
open Go.RowKit
/-- what a token or a quoted string stands for -/
def contO (l : List UInt8) : Option (List UInt8) := if tokL l = true then some l else unqL l
theorem cont_nil : contO [] = none := rfl
theorem cut2_nil {x : List UInt8} (h : cutB 61 x = false) : cut2 61 x = [] := by
  rcases idx_cases x 61 with hi | ⟨o, hi, ho⟩
  · exact (cut_no hi).2.1
  · rw [(cut_at hi).2.2.2] at h; exact absurd h (by decide)
theorem param_cont0 {x : List UInt8} (h : contO (cut2 61 x) = none) : paramL x = none := by
  unfold paramL
  split
  · rfl
  · unfold contO at h
    split at h
    · cases h
    · rename_i q; rw [if_neg q, h]
theorem param_cont1 {x : List UInt8} (h : tokL (cut1 61 x) = false) : paramL x = none := by
  unfold paramL; rw [if_pos (.inr h)]
theorem param_cont2 {x u : List UInt8} (h : tokL (cut1 61 x) = true) (hu : contO (cut2 61 x) = some u) : paramL x = some (bs (lowL (cut1 61 x)), bs u) := by
  have hb : cutB 61 x = true := by
    rcases q : cutB 61 x with _ | _
    · rw [cut2_nil q, cont_nil] at hu; cases hu
    · rfl
  unfold paramL
  rw [if_neg (by rw [hb, h]; simp)]
  unfold contO at hu
  split at hu
  · rename_i q; rw [if_pos q]; cases hu; rfl
  · rename_i q; rw [if_neg q, hu]
theorem aToken_is {s : ByteArray} {b : Bool} {w : World} (hs : s.size ≤ maxLen) (h : Box (tokL s.data.toList = b)) :
    Calls Tryz.prog 122 #[.string s] w fun e w' => e = .returned (.bool b) ∧ w = w' :=
  (Token_any s w hs).mono fun e w' ⟨h1, h2⟩ => ⟨by rw [h1, h.out], h2⟩
theorem aUnq_is {s : ByteArray} {o : Option (List UInt8)} {w : World} (hs : s.size ≤ 4294967296) (h : Box (unqL s.data.toList = o)) :
    Calls Tryz.prog 178 #[.string s] w fun e w' => e = .returned (optV o) ∧ Below w.heap.size w w' :=
  (Unquote_any s w hs).mono fun e w' ⟨h1, h2⟩ => ⟨by rw [h1, h.out], h2⟩
theorem aLower_is {s x : ByteArray} {w : World} (hs : s.size ≤ 4294967296) (h : Box (bs (lowL s.data.toList) = x)) :
    Calls Tryz.prog 130 #[.string s] w fun e w' => e = .returned (.string x) ∧ Below w.heap.size w w' :=
  (Lower_any s w hs).mono fun e w' ⟨h1, h2⟩ => ⟨by rw [h1, ← h.out]; rfl, h2⟩
theorem aQuote_is {s x : ByteArray} {w : World} (hs : s.size ≤ 1073741824) (h : Box (bs (quoteL s.data.toList) = x)) :
    Calls Tryz.prog 105 #[.string s] w fun e w' => e = .returned (.string x) ∧ Below w.heap.size w w' :=
  (Quote_any s w hs).mono fun e w' ⟨h1, h2⟩ => ⟨by rw [h1, ← h.out]; rfl, h2⟩
theorem parseContent_is (s : ByteArray) (o : Option (List UInt8)) (w : World) (hs : s.size ≤ 4294967296) (h : Box (contO s.data.toList = o)) :
    Calls Tryz.prog 164 #[.string s] w fun e w' => e = .returned (optV o) ∧ Below w.heap.size w w' := by
  have hm : s.size ≤ maxLen := by unfold maxLen; omega
  have HM := box hm
  clear hm
  rcases htk : tokL s.data.toList with _ | _
  · have HT := box htk
    have hu : unqL s.data.toList = o := by
      have := h.out
      unfold contO at this
      rwa [if_neg (by rw [htk]; decide)] at this
    have HU := box hu
    clear htk hu h
    rcases o with _ | u
    · go_enter Tryz.func164, Tryz.ntmps164
      go_wp2_with fail
      refine (aToken_is HM.out HT).mono ?_; rintro e w1 ⟨rfl, rfl⟩
      go_wp2_with fail
      refine (aUnq_is hs HU).mono ?_; rintro e w2 ⟨rfl, hb⟩
      have B := box hb
      clear hb
      unfold optV
      go_wp2
      go_ret2
      exact ⟨rfl, B.out⟩
    · go_enter Tryz.func164, Tryz.ntmps164
      go_wp2_with fail
      refine (aToken_is HM.out HT).mono ?_; rintro e w1 ⟨rfl, rfl⟩
      go_wp2_with fail
      refine (aUnq_is hs HU).mono ?_; rintro e w2 ⟨rfl, hb⟩
      have B := box hb
      clear hb
      unfold optV
      go_wp2
      go_ret2
      exact ⟨rfl, B.out⟩
  · have HT := box htk
    have ho : o = some s.data.toList := by
      rw [← h.out]; unfold contO; rw [if_pos htk]
    subst ho
    clear htk h
    go_enter Tryz.func164, Tryz.ntmps164
    go_wp2_with fail
    refine (aToken_is HM.out HT).mono ?_; rintro e w1 ⟨rfl, rfl⟩
    go_wp2
    go_ret2
    exact ⟨rfl, Below.refl _ _⟩
def pieceV : Option F → Value
  | some f => .tuple #[.string f.1, .string f.2, .bool true]
  | none => .tuple #[.string ⟨#[]⟩, .string ⟨#[]⟩, .bool false]
set_option maxHeartbeats 1000000 in
theorem parsePiece_is (x : ByteArray) (o : Option F) (w : World) (hs : x.size ≤ 65000) (h : Box (paramL x.data.toList = o)) :
    Calls Tryz.prog 138 #[.string x] w fun e w' => e = .returned (pieceV o) ∧ Below w.heap.size w w' := by
  have hm : x.size ≤ maxLen := by unfold maxLen; omega
  obtain ⟨n, hn⟩ : ∃ n, bs (cut1 61 x.data.toList) = n := ⟨_, rfl⟩
  obtain ⟨f, hf⟩ : ∃ f, bs (cut2 61 x.data.toList) = f := ⟨_, rfl⟩
  obtain ⟨b, hb⟩ : ∃ b, cutB 61 x.data.toList = b := ⟨_, rfl⟩
  have HV : Box (cutV 61 x.data.toList = .tuple #[.string n, .string f, .bool b]) := box (by unfold cutV; rw [hn, hf, hb])
  have hxl : x.data.toList.length = x.size := by simp
  have hnz : n.size ≤ 65000 := by
    rw [← hn, bs_size]
    have : (cut1 61 x.data.toList).length ≤ x.data.toList.length := by unfold cut1; exact (List.takeWhile_sublist _).length_le
    omega
  have hfz : f.size ≤ 65000 := by
    rw [← hf, bs_size]
    have : (cut2 61 x.data.toList).length ≤ x.data.toList.length := by
      unfold cut2; rw [List.length_drop]; have := (List.dropWhile_sublist (· != (61 : UInt8)) (l := x.data.toList)).length_le; omega
    omega
  have hn1 : n.data.toList = cut1 61 x.data.toList := by rw [← hn]; rfl
  have hf1 : f.data.toList = cut2 61 x.data.toList := by rw [← hf]; rfl
  have hnm : n.size ≤ maxLen := by unfold maxLen; omega
  have hn4 : n.size ≤ 4294967296 := by omega
  have hf4 : f.size ≤ 4294967296 := by omega
  have HNM := box hnm
  have HN4 := box hn4
  have HF4 := box hf4
  have HM := box hm
  clear hn hf hb hxl hnm hn4 hf4 hm hnz hfz hs
  rcases hc : contO (cut2 61 x.data.toList) with _ | u
  · have HC : Box (contO f.data.toList = none) := box (by rw [hf1, hc])
    obtain rfl : o = none := by rw [← h.out]; exact param_cont0 hc
    clear hc hn1 hf1 h
    go_enter Tryz.func138, Tryz.ntmps138
    go_wp2_with fail
    refine (Cut_any x 61 _ HM.out).mono ?_; rintro e w1 ⟨rfl, hb1⟩; rw [HV.out]
    have B1 := box hb1
    clear hb1
    go_wp2_with fail
    refine (parseContent_is f none _ HF4.out HC).mono ?_; rintro e w2 ⟨rfl, hb2⟩
    have B2 := box (B1.out.trans (hb2.mono B1.out.size))
    clear hb2
    unfold optV
    go_wp2
    go_ret3
    exact ⟨rfl, B2.out⟩
  · have HC : Box (contO f.data.toList = some u) := box (by rw [hf1, hc])
    rcases ht : tokL (cut1 61 x.data.toList) with _ | _
    · have HT : Box (tokL n.data.toList = false) := box (by rw [hn1, ht])
      obtain rfl : o = none := by rw [← h.out]; exact param_cont1 ht
      clear hc ht hn1 hf1 h
      go_enter Tryz.func138, Tryz.ntmps138
      go_wp2_with fail
      refine (Cut_any x 61 _ HM.out).mono ?_; rintro e w1 ⟨rfl, hb1⟩; rw [HV.out]
      have B1 := box hb1
      clear hb1
      go_wp2_with fail
      refine (parseContent_is f (some u) _ HF4.out HC).mono ?_; rintro e w2 ⟨rfl, hb2⟩
      have B2 := box (B1.out.trans (hb2.mono B1.out.size))
      clear hb2
      unfold optV
      go_wp2_with fail
      refine (aToken_is HNM.out HT).mono ?_; rintro e w3 ⟨rfl, rfl⟩
      go_wp2
      go_ret3
      exact ⟨rfl, B2.out⟩
    · have HT : Box (tokL n.data.toList = true) := box (by rw [hn1, ht])
      obtain ⟨nm, hnm⟩ : ∃ nm, bs (lowL n.data.toList) = nm := ⟨_, rfl⟩
      have HL := box hnm
      obtain ⟨ub, hub⟩ : ∃ ub, bs u = ub := ⟨_, rfl⟩
      have HU : Box (optV (some u) = .tuple #[.string ub, .bool true]) := box (by rw [← hub]; rfl)
      obtain rfl : o = some (nm, ub) := by rw [← h.out, param_cont2 ht hc, ← hnm, hn1, hub]
      clear hc ht hn1 hf1 h hnm hub
      go_enter Tryz.func138, Tryz.ntmps138
      go_wp2_with fail
      refine (Cut_any x 61 _ HM.out).mono ?_; rintro e w1 ⟨rfl, hb1⟩; rw [HV.out]
      have B1 := box hb1
      clear hb1
      go_wp2_with fail
      refine (parseContent_is f (some u) _ HF4.out HC).mono ?_; rintro e w2 ⟨rfl, hb2⟩; rw [HU.out]
      have B2 := box (B1.out.trans (hb2.mono B1.out.size))
      clear hb2
      go_wp2_with fail
      refine (aToken_is HNM.out HT).mono ?_; rintro e w3 ⟨rfl, rfl⟩
      go_wp2_with fail
      refine (aLower_is HN4.out HL).mono ?_; rintro e w4 ⟨rfl, hb4⟩
      have B4 := box (B2.out.trans (hb4.mono B2.out.size))
      clear hb4
      go_wp2
      go_ret3
      exact ⟨rfl, B4.out⟩
def ParRelM (T : Option (List F)) (B n : Nat) (w : World) (r m v : Value) (wr : World) : Prop :=
  ∃ (acc : List F) (t : ByteArray) (b : Bool), r = .string t ∧ m = .bool b ∧ acc.length + t.size ≤ n ∧ T = parF (moreL 59 b t.data.toList) acc ∧ OwnP wr B v acc ∧ Below B w wr
set_option maxHeartbeats 4000000 in
theorem mPar_any (s : ByteArray) (w : World) (hs : s.size ≤ 65000) :
    Calls Tryz.prog 116 #[.string s] w fun e w' => parW w w' s.data.toList e := by
  obtain ⟨p, r0, m0, hp⟩ : ∃ p r m, pcL 59 s.data.toList = (p, r, m) := ⟨_, _, _, rfl⟩
  have HV : Box (pcV 59 s.data.toList = .tuple #[.string (bs p), .string (bs r0), .bool m0]) := box (by unfold pcV; rw [hp])
  have hcut : cutL 59 s.data.toList = p :: moreL 59 m0 r0 := by
    have := cutL_pc (sep := 59) (by decide) s.data.toList
    rwa [hp] at this
  have HQ := box hcut
  have hsz := pcF_size 59 s.data.toList 0 []
  rw [show pcF 59 0 s.data.toList [] = (p, r0, m0) from hp] at hsz
  simp only [List.length_nil, Nat.zero_add] at hsz
  rw [show s.data.toList.length = s.size from by simp] at hsz
  have hrz : (bs r0).size ≤ 65000 := by rw [bs_size]; omega
  have hpz : (bs p).size ≤ maxLen := by rw [bs_size]; unfold maxLen; omega
  clear hp hcut hsz
  by_cases ht : trimL p = []
  · have HT : Box (bs (trimL (bs p).data.toList) = ⟨#[]⟩) := box (by rw [bs_toList, ht]; rfl)
    have HN := box (par_none0 HQ.out ht)
    clear ht
    go_enter Tryz.func116, Tryz.ntmps116
    go_wp2_with fail
    refine (pieceCut_any s 59 _ hs).mono ?_; rintro e w1 ⟨rfl, hb1⟩
    rw [HV.out]
    have B1 := box hb1
    clear hb1
    go_wp2_with fail
    refine (aTrim_is hpz HT).mono ?_; rintro e w2 ⟨rfl, rfl⟩
    go_wp2
    go_ret3
    exact parW_none HN.out B1.out
  · obtain ⟨x0, hx0⟩ : ∃ x0, bs (trimL p) = x0 := ⟨_, rfl⟩
    have HT : Box (bs (trimL (bs p).data.toList) = x0) := box (by rw [bs_toList, hx0])
    have hxe : x0.toList.isEmpty = false := by
      rw [← hx0, toList_bs]
      cases h : trimL p with
      | nil => exact absurd h ht
      | cons c r => rfl
    have HX0 := box hx0
    have HNE := box ht
    obtain ⟨T, hT⟩ : ∃ T, parF (moreL 59 m0 r0) [] = T := ⟨_, rfl⟩
    have HTT := box hT
    clear hx0 ht hT
    go_enter Tryz.func116, Tryz.ntmps116
    go_wp2_with fail
    refine (pieceCut_any s 59 _ hs).mono ?_; rintro e w1 ⟨rfl, hb1⟩
    rw [HV.out]
    have B1 := box hb1
    have hB1 := hb1.size
    clear hb1
    go_wp2_with fail
    refine (aTrim_is hpz HT).mono ?_; rintro e w2 ⟨rfl, rfl⟩
    go_wp2
    go_loopw [6, 7, 9] (fun r m v wr => ParRelM T w1.heap.size 65000 w1 r m v wr) (fun r m _ _ => msr m r)
    case atStart => exact ⟨[], bs r0, m0, rfl, rfl, by simpa using hrz, by rw [bs_toList]; exact HTT.out.symm, OwnP.nil _ _, Below.refl _ _⟩
    case round =>
      obtain ⟨acc, t, b, rfl, rfl, hat, hTM, hO, hbel⟩ := hrel
      have O0 := box hO
      have BL := box hbel
      have HM := box hTM
      have hBw := hbel.size
      obtain ⟨av, cv, rfl, _, _⟩ := hO.fs
      clear hO hbel hTM
      rcases b with _ | _
      · have HD : Box (parA s.data.toList = x0 ∧ parB s.data.toList = acc ∧ parO s.data.toList = true) := box (by
          have := par_some HQ.out HNE.out (HTT.out.trans HM.out)
          rwa [HX0.out] at this)
        go_wp2
        go_ret3
        obtain ⟨d1, d2, d3⟩ := HD.out
        exact ⟨_, by rw [d1, d3]; rfl, by rw [d2]; exact Go.Joins.ownsRow_le O0.out hB1, B1.out.trans (BL.out.mono hB1)⟩
      · have ht6 : t.size ≤ 65000 := by omega
        obtain ⟨p, r, m, hp⟩ : ∃ p r m, pcL 59 t.data.toList = (p, r, m) := ⟨_, _, _, rfl⟩
        have HV : Box (pcV 59 t.data.toList = .tuple #[.string (bs p), .string (bs r), .bool m]) := box (by unfold pcV; rw [hp])
        have hcut : T = parF (p :: moreL 59 m r) acc := by
          have := cutL_pc (sep := 59) (by decide) t.data.toList
          rw [hp] at this
          rw [HM.out]
          show parF (cutL 59 t.data.toList) acc = _
          rw [this]
        have hsz := pcF_size 59 t.data.toList 0 []
        rw [show pcF 59 0 t.data.toList [] = (p, r, m) from hp] at hsz
        simp only [List.length_nil, Nat.zero_add] at hsz
        rw [show t.data.toList.length = t.size from by simp] at hsz
        have hrz : acc.length + (bs r).size ≤ 65000 := by rw [bs_size]; omega
        have hms : Box (msr (.bool m) (.string (bs r)) < t.size + 1) := box (by
          cases m
          · exact Nat.zero_lt_succ _
          · show (bs r).size + 1 < t.size + 1
            rw [bs_size]; have := hsz.2 rfl; omega)
        have hpz : (bs p).size ≤ maxLen := by rw [bs_size]; unfold maxLen; omega
        have HSZ := box hsz.1
        have HCut := box hcut
        clear hp hcut hsz HM
        by_cases htr : trimL p = []
        · have HTr : Box (bs (trimL (bs p).data.toList) = ⟨#[]⟩) := box (by rw [bs_toList, htr]; rfl)
          have HN : Box (T = parF (moreL 59 m (bs r).data.toList) acc) := box (by rw [HCut.out, parF_skip htr, bs_toList])
          clear HCut htr
          go_wp2_with fail
          refine (pieceCut_any t 59 _ ht6).mono ?_; rintro e w3 ⟨rfl, hb3⟩
          rw [HV.out]
          have O3 := box (own_below O0.out hb3)
          have B3 := box (BL.out.trans (hb3.mono hBw))
          clear hb3
          go_wp2_with fail
          refine (aTrim_is hpz HTr).mono ?_; rintro e w4 ⟨rfl, rfl⟩
          go_wp2
          go_roundw
          case rel => exact ⟨acc, bs r, m, rfl, rfl, hrz, HN.out, O3.out, B3.out⟩
          case measure => exact hms.out
        · obtain ⟨x, hx⟩ : ∃ x, bs (trimL p) = x := ⟨_, rfl⟩
          have hxd : x.data.toList = trimL p := by rw [← hx]; rfl
          have HTr : Box (bs (trimL (bs p).data.toList) = x) := box (by rw [bs_toList, hx])
          have hxe : x.toList.isEmpty = false := by
            rw [← hx, toList_bs]
            cases h : trimL p with
            | nil => exact absurd h htr
            | cons c r => rfl
          have hxz : x.size ≤ 65000 := by
            have h1 := trim_le p
            have h2 : x.size = (trimL p).length := by rw [← hx, bs_size]
            have := HSZ.out
            omega
          have hp1 : 1 ≤ p.length := by
            cases h : p with
            | nil => rw [h] at htr; exact absurd rfl htr
            | cons c r => simp
          have hmz : acc.length + 1 + (bs r).size ≤ 65000 := by rw [bs_size]; have := HSZ.out; omega
          rcases hpm : paramL x.data.toList with _ | f
          · have HP := box hpm
            have HB := box (par_none1 HQ.out HNE.out (HTT.out.trans (HCut.out.trans (parF_bad htr (by rw [← hxd]; exact hpm)))))
            clear HCut hx hxd hpm htr
            go_wp2_with fail
            refine (pieceCut_any t 59 _ ht6).mono ?_; rintro e w3 ⟨rfl, hb3⟩
            rw [HV.out]
            have B3 := box (BL.out.trans (hb3.mono hBw))
            clear hb3
            go_wp2_with fail
            refine (aTrim_is hpz HTr).mono ?_; rintro e w4 ⟨rfl, rfl⟩
            go_wp2_with fail
            refine (parsePiece_is x none _ hxz HP).mono ?_; rintro e w5 ⟨rfl, hb5⟩
            have B5 := box (B3.out.trans (hb5.mono B3.out.size))
            clear hb5
            unfold pieceV
            go_wp2
            go_ret3
            exact parW_none HB.out (B1.out.trans (B5.out.mono hB1))
          · have HP := box hpm
            obtain ⟨nm, ub⟩ := f
            have HN : Box (T = parF (moreL 59 m (bs r).data.toList) (acc ++ [(nm, ub)])) := box (by rw [HCut.out, parF_step htr (by rw [← hxd]; exact hpm), bs_toList])
            have hml : Box ((acc ++ [(nm, ub)]).length + (bs r).size ≤ 65000) := box (by rw [List.length_append]; simp only [List.length_cons, List.length_nil]; omega)
            clear HCut hx hxd hpm htr
            go_wp2_with fail
            refine (pieceCut_any t 59 _ ht6).mono ?_; rintro e w3 ⟨rfl, hb3⟩
            rw [HV.out]
            have O3 := box (own_below O0.out hb3)
            have B3 := box (BL.out.trans (hb3.mono hBw))
            clear hb3
            go_wp2_with fail
            refine (aTrim_is hpz HTr).mono ?_; rintro e w4 ⟨rfl, rfl⟩
            go_wp2_with fail
            refine (parsePiece_is x (some (nm, ub)) _ hxz HP).mono ?_; rintro e w5 ⟨rfl, hb5⟩
            have O5 := box (own_below O3.out hb5)
            have B5 := box (B3.out.trans (hb5.mono B3.out.size))
            clear hb5
            unfold pieceV
            go_wp2_with (at_builtin; refine wpList_append_prm _ rfl (.tmp 44) (.tmp 48) rfl w1.heap.size _ acc rfl ?a1 _ _ rfl nm ub ?b1 ?b2 ?c1 ?d1 ?_)
            case a1 => exact own_below O5.out (below_new _ _)
            case b1 => go_simp
            case b2 => go_simp
            case c1 => omega
            case d1 => have := B5.out.size; simp; omega
            intro v6 w6 hO6 hb6
            have O6 := box hO6
            have B6 := box ((B5.out.alloc B5.out.size _).trans hb6)
            clear hO6 hb6
            go_wp2
            go_roundw
            case rel => exact ⟨acc ++ [(nm, ub)], bs r, m, rfl, rfl, hml.out, HN.out, O6.out, B6.out⟩
            case measure => exact hms.out
theorem formatContent_is (s x : ByteArray) (w : World) (hs : s.size ≤ 65536) (h : Box (bs (valP s.data.toList) = x)) :
    Calls Tryz.prog 191 #[.string s] w fun e w' => e = .returned (.string x) ∧ Below w.heap.size w w' := by
  have hm : s.size ≤ maxLen := by unfold maxLen; omega
  have hq : s.size ≤ 1073741824 := by omega
  have HM := box hm
  clear hm
  rcases htk : tokL s.data.toList with _ | _
  · have HT := box htk
    have HX : Box (bs (quoteL s.data.toList) = x) := box (by rw [← h.out, val_not htk])
    clear htk h
    go_enter Tryz.func191, Tryz.ntmps191
    go_wp2_with fail
    refine (aToken_is HM.out HT).mono ?_; rintro e w1 ⟨rfl, rfl⟩
    go_wp2_with fail
    refine (aQuote_is hq HX).mono ?_; rintro e w2 ⟨rfl, hb⟩
    have B := box hb
    clear hb
    go_wp2
    go_ret
    exact ⟨rfl, B.out⟩
  · have HT := box htk
    have hx : s = x := by rw [← h.out, val_tok htk]; rfl
    subst hx
    clear htk h
    go_enter Tryz.func191, Tryz.ntmps191
    go_wp2_with fail
    refine (aToken_is HM.out HT).mono ?_; rintro e w1 ⟨rfl, rfl⟩
    go_wp2
    go_ret
    exact ⟨rfl, Below.refl _ _⟩
def FmtRelM (v : ByteArray) (L : List F) (B : Nat) (w : World) (i : Value) (wr : World) : Prop :=
  ∃ k : Nat, i = .int .i64 k ∧ k ≤ L.length ∧ Box (BldZ wr B B (fmtPL v.data.toList (L.take k))) ∧ Box ((fmtPL v.data.toList (L.take k)).length ≤ 65536 + 200000 * k) ∧ Box (Below B w wr)
set_option maxHeartbeats 4000000 in
theorem mFmt9_any (v : ByteArray) (a : Option Addr) (cap : Nat) (L : List F) (w : World) (hv : v.size ≤ 65536) (hl : L.length ≤ 65536) (hz : Box (∀ i (hi : i < L.length), L[i].1.size ≤ 65536 ∧ L[i].2.size ≤ 65536)) (hF : Box (Fs w a L)) :
    Calls Tryz.prog 180 #[.string v, .slice a L.length cap] w fun e w' => e = .returned (.string (fmtPB v L)) ∧ Below w.heap.size w w' := by
  have hvl : v.data.toList.length = v.size := by simp
  go_enter Tryz.func180, Tryz.ntmps180
  go_wp2_with fail
  refine (WriteString_z w.heap.size w.heap.size [] v _ (box (BldZ.fresh w)) (by rw [List.length_nil]; omega) (by simp)).mono ?_; rintro e w1 ⟨rfl, hZ1, hb1, _⟩
  have Z1 : Box (BldZ w1 w.heap.size w.heap.size (fmtPL v.data.toList (L.take 0))) := box (by simpa [fmtPL] using hZ1)
  have L1 : Box ((fmtPL v.data.toList (L.take 0)).length ≤ 65536 + 200000 * 0) := box (by simp [fmtPL]; omega)
  have B1 := box ((below_new w _).trans hb1)
  clear hZ1 hb1 hvl
  go_wp2
  go_loopw [12] (fun i wr => FmtRelM v L w.heap.size w i wr) (fun i _ => L.length - (intOf i).toNat)
  case atStart => exact ⟨0, rfl, Nat.zero_le _, Z1, L1, B1⟩
  case round =>
    obtain ⟨k, rfl, hk, Z2, L2, B2⟩ := hrel
    have hB2 := B2.out.size
    by_cases hlt : k < L.length
    · obtain ⟨q, off, rfl, c0, c1⟩ := (hF.out.below B2.out) k hlt
      obtain ⟨z1, z2⟩ := hz.out k hlt
      obtain ⟨nm, hnm⟩ : ∃ nm, L[k].1 = nm := ⟨_, rfl⟩
      obtain ⟨u, hu⟩ : ∃ u, L[k].2 = u := ⟨_, rfl⟩
      obtain ⟨vv, hvv⟩ : ∃ vv, bs (valP u.data.toList) = vv := ⟨_, rfl⟩
      have hvd : vv.data.toList = valP u.data.toList := by rw [← hvv]; rfl
      have hvz : vv.size ≤ 131074 := by
        rw [← hvv, bs_size]
        have h2 := val_len u.data.toList
        have e : u.data.toList.length = u.size := by simp
        rw [hu] at z2
        omega
      have HN : Box (fmtPL v.data.toList (L.take k) ++ [59] ++ nm.data.toList ++ [61] ++ vv.data.toList = fmtPL v.data.toList (L.take (k + 1))) := box (by
        rw [fmt_more hlt]
        unfold oneP
        rw [hnm, hu, hvd]
        simp)
      have HVV := box hvv
      have hnl : nm.data.toList.length = nm.size := by simp
      have hvl : vv.data.toList.length = vv.size := by simp
      have hL3 : Box ((fmtPL v.data.toList (L.take (k + 1))).length ≤ 65536 + 200000 * (k + 1)) := box (by
        rw [← HN.out]
        simp only [List.length_append, List.length_cons, List.length_nil]
        have := L2.out
        rw [hnm] at z1
        omega)
      obtain ⟨X, hX⟩ : ∃ X, fmtPL v.data.toList (L.take k) = X := ⟨_, rfl⟩
      rw [hX] at Z2 L2 HN
      have hXl : X.length ≤ 13200000000 := by have := L2.out; omega
      rw [hnm] at c0 z1
      rw [hu] at c1 z2
      clear hX hnm hu hvv hvd hnl hvl
      have hlt2 := Z2.out.lt
      have hne := Nat.ne_of_gt hlt2
      have h59 : (⟨#[59]⟩ : ByteArray).size = 1 := rfl
      have h61 : (⟨#[61]⟩ : ByteArray).size = 1 := rfl
      go_wp2_with fail
      refine (WriteString_z w.heap.size w.heap.size X ⟨#[59]⟩ _ (box (Z2.out.next (below_new _ _))) (by omega) (by simp; omega)).mono ?_; rintro e w3 ⟨rfl, hZ3, hb3, hk3⟩
      have hg3 := hk3 _ _ _ _ hne (by decide) (heap_alloc_new _ _)
      have d0 := (Lib.cell_of_heap hg3 0).trans rfl
      have G3 := box hg3
      have Z3 : Box (BldZ w3 w.heap.size w.heap.size (X ++ [59])) := box hZ3
      have B3 := box ((B2.out.alloc hB2 _).trans hb3)
      have hs3 := B3.out.size
      clear hZ3 hb3 hk3 hg3
      go_wp2_with fail
      refine (WriteString_z w.heap.size w.heap.size _ nm _ Z3 (by rw [List.length_append]; simp only [List.length_cons, List.length_nil]; omega) hs3).mono ?_; rintro e w4 ⟨rfl, hZ4, hb4, hk4⟩
      have G4 := box (hk4 _ _ _ _ hne (by decide) G3.out)
      have Z4 := box hZ4
      have B4 := box (B3.out.trans hb4)
      have hs4 := B4.out.size
      clear hZ4 hb4 hk4 d0
      go_wp2_with fail
      refine (WriteString_z w.heap.size w.heap.size _ ⟨#[61]⟩ _ Z4 (by rw [List.length_append, List.length_append]; simp only [List.length_cons, List.length_nil, Array.length_toList]; show _ + nm.size + 1 ≤ _; omega) hs4).mono ?_; rintro e w5 ⟨rfl, hZ5, hb5, hk5⟩
      have hg5 := hk5 _ _ _ _ hne (by decide) G4.out
      have d1 := (Lib.cell_of_heap hg5 1).trans rfl
      have Z5 : Box (BldZ w5 w.heap.size w.heap.size (X ++ [59] ++ nm.data.toList ++ [61])) := box hZ5
      have B5 := box (B4.out.trans hb5)
      have hs5 := B5.out.size
      clear hZ5 hb5 hk5 hg5
      go_wp2_with fail
      refine (formatContent_is u vv _ z2 HVV).mono ?_; rintro e w6 ⟨rfl, hb6⟩
      have Z6 := box (Z5.out.next hb6)
      have B6 := box (B5.out.trans (hb6.mono hs5))
      have hs6 := B6.out.size
      clear hb6 d1
      go_wp2_with fail
      refine (WriteString_z w.heap.size w.heap.size _ vv _ Z6 (by simp only [List.length_append, List.length_cons, List.length_nil, Array.length_toList]; show _ + 1 + nm.size + 1 + vv.size ≤ _; omega) hs6).mono ?_; rintro e w7 ⟨rfl, hZ7, hb7, _⟩
      rw [HN.out] at hZ7
      have Z7 := box hZ7
      have B7 := box (B6.out.trans hb7)
      clear hZ7 hb7
      go_wp2
      go_roundw
      case rel => exact ⟨k + 1, by go_num, by omega, Z7, hL3, B7⟩
      case measure => simp [intOf]; omega
    · have HE : Box (fmtPL v.data.toList (L.take k) = fmtPL v.data.toList L) := box (by rw [List.take_of_length_le (by omega)])
      rw [HE.out] at Z2
      go_wp2_with fail
      refine (String_z w.heap.size w.heap.size _ _ Z2 hB2).mono ?_; rintro e w6 ⟨rfl, hb6⟩
      have B6 := box (B2.out.trans hb6)
      clear hb6
      go_wp2
      go_ret
      exact ⟨rfl, B6.out⟩
end
section
open Go.RowKit
theorem results_cell1 {fn : Func} {p : Tmp} {ty : TypeId} (h : fn.results = #[.cell p ty]) (tmps : Array Value) (P : Program) (w : World) :
    (results fn tmps).run P w = ((asAddr (tmps.getD p undef)).run P w).andThen fun a w₁ => (loadVar ty a).run P w₁ := by
  simp only [results, h]
  simp [Sem.run_bind, Result.andThen]
def foldP (p : F) : F := (p.1, bs (lowL p.2.data.toList))
theorem foldValue_any (a b x : ByteArray) (w : World) (hb : b.size ≤ 4294967296) (hx : Box (bs (lowL b.data.toList) = x)) :
    Calls Tryz.prog 196 #[.agg #[.string a, .string b]] w fun e w' => e = .returned (.agg #[.string a, .string x]) ∧ Below w.heap.size w w' := by
  have F0 := box ((Fld.new a b w 109).more (.cells #[.string ⟨#[]⟩, .string ⟨#[]⟩] 109))
  have R0 : Box (Fld (w.heap.size + 1) ⟨#[]⟩ ⟨#[]⟩ ((w.alloc (.cells #[.string a, .string b] 109)).alloc (.cells #[.string ⟨#[]⟩, .string ⟨#[]⟩] 109))) := box (by
    have h := Fld.new ⟨#[]⟩ ⟨#[]⟩ (w.alloc (.cells #[.string a, .string b] 109)) 109
    rwa [show (w.alloc (.cells #[.string a, .string b] 109)).heap.size = w.heap.size + 1 from by simp] at h)
  have B0 := box (((below_new w (.cells #[.string a, .string b] 109))).alloc (below_new w _).size (.cells #[.string ⟨#[]⟩, .string ⟨#[]⟩] 109))
  go_enter Tryz.func196, Tryz.ntmps196
  go_wp2_with fail
  go_region_held3 (fun w' => w'.cell? ⟨w.heap.size, 0, none⟩ = some (.string a) ∧ w'.cell? ⟨w.heap.size, 1, none⟩ = some (.string b))
    (first | (exact ⟨F1.out.1, F1.out.2.1⟩) | (exact ⟨F0.out.1, F0.out.2.1⟩) | go_keep)
    (first | (go_at_call 130; refine (aLower_is hb hx).mono ?_; rintro e w1 ⟨rfl, hb1⟩; have F1 := box ((F0.out.drew).below hb1 (F0.out.drew).lt); obtain ⟨r0, r1, f0, f1⟩ := (R0.out.drew).below hb1 (R0.out.drew).lt))
  have B1 := (B0.out.drew).trans (hb1.mono (B0.out.drew).size)
  go_wp2
  (try simp only [Exit.inBlock, Exit.then])
  refine bodyPost_ret (v := .agg #[.string a, .string x]) (by rw [results_cell1 rfl]; go_simp) rfl ?_
  exact ⟨rfl, ((B1.setCell (p := ⟨w.heap.size + 1, 0, none⟩) (by simp) _).setCell (p := ⟨w.heap.size + 1, 1, none⟩) (by simp) _)⟩
/-- which parameters the first loop has laid by, and which of them are left behind the second's first k rounds -/
def inK (K : List F) (k : Nat) (p : F) : Prop := ∃ i, ∃ h : i < K.length, i < k ∧ foldP K[i] = p
def HasRel (K : List F) (w : World) (i : Value) (wr : World) : Prop := ∃ k : Nat, i = .int .i64 k ∧ k ≤ K.length ∧ Box (PSet wr (w.heap.size + 1) k (inK K k)) ∧ Box (Below w.heap.size w wr)
def DelRel (K L : List F) (w : World) (i : Value) (wr : World) : Prop := ∃ k : Nat, i = .int .i64 k ∧ k ≤ L.length ∧ Box (PSet wr (w.heap.size + 1) K.length (fun p => inK K K.length p ∧ ¬ inK L k p)) ∧ Box (Below w.heap.size w wr)
def HasIs (z : Bool) (K L : List F) : Prop := z = true ↔ ∀ p, inK K K.length p → inK L L.length p
theorem inK_zero (K : List F) (p : F) : ¬ inK K 0 p := fun ⟨_, _, h, _⟩ => by omega
theorem inK_more {K : List F} {k : Nat} (hk : k < K.length) (p : F) : inK K (k + 1) p ↔ inK K k p ∨ p = foldP K[k] := by
  constructor
  · rintro ⟨i, h, hi, rfl⟩
    by_cases e : i = k
    · subst e; exact .inr rfl
    · exact .inl ⟨i, h, by omega, rfl⟩
  · rintro (⟨i, h, hi, e⟩ | rfl)
    · exact ⟨i, h, by omega, e⟩
    · exact ⟨k, hk, by omega, rfl⟩
theorem fold_sml {p : F} (h1 : p.1.size ≤ 65536) (h2 : p.2.size ≤ 65536) : Sml (foldP p) := by
  refine ⟨by unfold maxLen foldP; simp only; omega, ?_⟩
  unfold maxLen foldP
  simp only [bs_size]
  have : (lowL p.2.data.toList).length = p.2.size := by unfold lowL; simp
  omega
theorem inK_sml {K : List F} (hz : ∀ i (hi : i < K.length), K[i].1.size ≤ 65536 ∧ K[i].2.size ≤ 65536) {k : Nat} {p : F} (h : inK K k p) : Sml p := by
  obtain ⟨i, hi, _, rfl⟩ := h
  exact fold_sml (hz i hi).1 (hz i hi).2
theorem inK_prm {K L : List F} : (∀ p, inK K K.length p → inK L L.length p) ↔ (K.all fun p => prmIn p L) = true := by
  have key : ∀ p q : F, prmOk p q = true ↔ foldP p = foldP q := fun p q => by
    unfold prmOk foldP
    rw [Bool.and_eq_true, Prod.mk.injEq]
    constructor
    · rintro ⟨h1, h2⟩
      unfold foldL at h2
      exact ⟨str_eq h1, by rw [of_decide_eq_true h2]⟩
    · rintro ⟨h1, h2⟩
      unfold foldL
      exact ⟨by rw [h1]; simp, decide_eq_true (bs_inj h2)⟩
  rw [List.all_eq_true]
  constructor
  · intro h x hx
    obtain ⟨i, hi, rfl⟩ := List.getElem_of_mem hx
    obtain ⟨j, hj, _, e⟩ := h _ ⟨i, hi, hi, rfl⟩
    unfold prmIn
    rw [List.any_eq_true]
    exact ⟨_, List.getElem_mem hj, (key _ _).2 e.symm⟩
  · rintro h p ⟨i, hi, _, rfl⟩
    have := h _ (List.getElem_mem hi)
    unfold prmIn at this
    rw [List.any_eq_true] at this
    obtain ⟨x, hx, hk⟩ := this
    obtain ⟨j, hj, rfl⟩ := List.getElem_of_mem hx
    exact ⟨j, hj, hj, ((key _ _).1 hk).symm⟩
set_option maxHeartbeats 1000000 in
theorem hasParams_any (c d : ByteArray) (p q : Option Addr) (cp cq : Nat) (K L : List F) (w : World) (z : Bool) (hk : K.length ≤ 65536) (hl : L.length ≤ 65536)
    (hzK : Box (∀ i (hi : i < K.length), K[i].1.size ≤ 65536 ∧ K[i].2.size ≤ 65536)) (hzL : Box (∀ i (hi : i < L.length), L[i].1.size ≤ 65536 ∧ L[i].2.size ≤ 65536)) (hK : Box (Fs w p K)) (hL : Box (Fs w q L))
    (hz : Box (HasIs z K L)) :
    Calls Tryz.prog 182 #[.agg #[.string c, .string d, .slice q L.length cq], .slice p K.length cp] w fun e w' => e = .returned (.bool z) ∧ Below w.heap.size w w' := by
  have hmm := makeHint10 K.length
  have BW := box (below_new w (.cells #[.string c, .string d, .slice q L.length cq] 77))
  have C0 := box (C3.new (.string c) (.string d) (.slice q L.length cq) w 77)
  have P0 : Box (PSet ((w.alloc (.cells #[.string c, .string d, .slice q L.length cq] 77)).alloc (.map #[] 0)) (w.heap.size + 1) 0 (inK K 0)) := box (by
    have h := PSet.made (w.alloc (.cells #[.string c, .string d, .slice q L.length cq] 77))
    rw [show (w.alloc (.cells #[.string c, .string d, .slice q L.length cq] 77)).heap.size = w.heap.size + 1 from by simp] at h
    exact h.iff (fun p => ⟨fun h => h.elim, fun h => absurd h (inK_zero K p)⟩))
  go_enter Tryz.func182, Tryz.ntmps182
  go_wp2
  go_loopw [15] (fun i wr => HasRel K w i wr ∧ Box (C3 w.heap.size (.string c) (.string d) (.slice q L.length cq) wr)) (fun i _ => K.length - (intOf i).toNat)
  case atStart => exact ⟨⟨0, rfl, Nat.zero_le _, P0, box (BW.out.alloc BW.out.size _)⟩, box (C0.out.next (below_new _ _))⟩
  case round =>
    obtain ⟨⟨k, rfl, hk2, hP, hB⟩, hC⟩ := hrel
    have hw1 : w.heap.size + 1 < wr.heap.size := hP.out.lt
    by_cases hlt : k < K.length
    · obtain ⟨g, off, rfl, c0, c1⟩ := (hK.out.below hB.out) k hlt
      obtain ⟨s1, s2⟩ := hzK.out k hlt
      have HS := box (fold_sml s1 s2)
      have s3 : K[k].2.size ≤ 4294967296 := by omega
      have HX : Box (bs (lowL K[k].2.data.toList) = (foldP K[k]).2) := box rfl
      have H1 : Box (K[k].1 = (foldP K[k]).1) := box rfl
      obtain ⟨f, hf⟩ : ∃ f, foldP K[k] = f := ⟨_, rfl⟩
      rw [hf] at HX H1 HS
      have HF := box hf
      clear hf
      go_wp2_with fail
      refine (foldValue_any _ _ f.2 _ s3 HX).mono ?_; rintro e w1 ⟨rfl, hb1⟩
      rw [H1.out]
      have hb2 := (below_new wr _).trans (hb1.mono (below_new wr _).size)
      have P1 := box (hP.out.below hb2 hP.out.lt)
      have C1 := box (hC.out.next hb2)
      have B1 := box (hB.out.trans (hb2.mono hB.out.size))
      have z1 : w.heap.size + 1 ≤ w1.heap.size := by have := hb2.size; omega
      clear hb1 hb2
      go_wp2_with (first | (at_mapUpdate; refine wpList_put10 rfl _ _ _ rfl P1.out HS.out (by unfold maxLen; omega) (Nat.le_refl _) rfl rfl rfl ?_; intro w2 hP2 hg2) | go_in)
      have hb3 : Below (w.heap.size + 1) w1 w2 := (Below.refl _ _).grown hg2 z1 (fun k hk => by cases hk; exact Nat.le_refl _)
      have R1 := box (hP2.iff (T := inK K (k + 1)) (fun p => by rw [inK_more hlt, HF.out]))
      have R2 := box (B1.out.trans (hb3.mono (Nat.le_succ _)))
      have R3 := box (C1.out.below hb3 (Nat.lt_succ_self _))
      clear hP2 hg2 hb3
      go_wp2
      go_roundw
      case rel => exact ⟨⟨k + 1, by go_num, by omega, R1, R2⟩, R3⟩
      case measure => simp [intOf]; omega
    · obtain rfl : k = K.length := by omega
      obtain ⟨⟨d0, d1, d2⟩, _⟩ := hC.out
      have P1 : Box (PSet wr (w.heap.size + 1) K.length (fun p => inK K K.length p ∧ ¬ inK L 0 p)) := box (hP.out.iff (fun p => ⟨fun h => ⟨h, inK_zero L p⟩, fun h => h.1⟩))
      obtain ⟨W, hW⟩ : ∃ W, W = wr := ⟨_, rfl⟩
      subst hW
      go_wp2
      go_loopw [26] (fun i wr => DelRel K L w i wr ∧ Box (C3 w.heap.size (.string c) (.string d) (.slice q L.length cq) wr)) (fun i _ => L.length - (intOf i).toNat)
      case atStart => exact ⟨⟨0, rfl, Nat.zero_le _, P1, hB⟩, hC⟩
      case round =>
        obtain ⟨⟨k, rfl, hk3, hP, hB⟩, hC⟩ := hrel
        have hw1 : w.heap.size + 1 < wr.heap.size := hP.out.lt
        by_cases hlt : k < L.length
        · obtain ⟨g, off, rfl, c0, c1⟩ := (hL.out.below hB.out) k hlt
          obtain ⟨s1, s2⟩ := hzL.out k hlt
          have HS := box (fold_sml s1 s2)
          have s3 : L[k].2.size ≤ 4294967296 := by omega
          have HX : Box (bs (lowL L[k].2.data.toList) = (foldP L[k]).2) := box rfl
          have H1 : Box (L[k].1 = (foldP L[k]).1) := box rfl
          obtain ⟨f, hf⟩ : ∃ f, foldP L[k] = f := ⟨_, rfl⟩
          rw [hf] at HX H1 HS
          have HF := box hf
          clear hf
          go_wp2_with fail
          refine (foldValue_any _ _ f.2 _ s3 HX).mono ?_; rintro e w1 ⟨rfl, hb1⟩
          rw [H1.out]
          have hb2 := (below_new wr _).trans (hb1.mono (below_new wr _).size)
          have P2 := box (hP.out.below hb2 hP.out.lt)
          have C1 := box (hC.out.next hb2)
          have B1 := box (hB.out.trans (hb2.mono hB.out.size))
          have z1 : w.heap.size + 1 ≤ w1.heap.size := by have := hb2.size; omega
          clear hb1 hb2
          go_wp2_with (first | (at_delete; refine wpList_del10 rfl _ _ rfl P2.out HS.out rfl rfl ?_; intro w2 hP2 hg2) | go_in)
          have hb3 : Below (w.heap.size + 1) w1 w2 := (Below.refl _ _).grown hg2 z1 (fun k hk => by cases hk; exact Nat.le_refl _)
          have R1 := box (hP2.iff (T := fun p => inK K K.length p ∧ ¬ inK L (k + 1) p) (fun p => by
            rw [inK_more hlt, HF.out]
            constructor
            · rintro ⟨⟨q1, q2⟩, q3⟩; exact ⟨q1, fun h => h.elim q2 q3⟩
            · rintro ⟨q1, q2⟩; exact ⟨⟨q1, fun h => q2 (.inl h)⟩, fun h => q2 (.inr h)⟩))
          have R2 := box (B1.out.trans (hb3.mono (Nat.le_succ _)))
          have R3 := box (C1.out.below hb3 (Nat.lt_succ_self _))
          clear hP2 hg2 hb3
          go_wp2
          go_roundw
          case rel => exact ⟨⟨k + 1, by go_num, by omega, R1, R2⟩, R3⟩
          case measure => simp [intOf]; omega
        · obtain rfl : k = L.length := by omega
          go_wp2_with (first | (at_len; refine wpList_len10 rfl _ rfl hP.out rfl ?_; intro n hn) | go_in)
          have HN := box hn
          clear hn
          go_ret
          refine ⟨?_, hB.out⟩
          have e : n = 0 ↔ z = true := by
            rw [HN.out, show (z = true ↔ ∀ p, inK K K.length p → inK L L.length p) from hz.out]
            constructor
            · intro h p hp
              by_cases hh : inK L L.length p
              · exact hh
              · exact absurd ⟨hp, hh⟩ (h p (inK_sml hzK.out hp))
            · rintro h p _ ⟨h1, h2⟩
              exact h2 (h p h1)
          cases z
          · have : n ≠ 0 := fun h => by have := e.1 h; cases this
            simp [this]
          · have := e.2 rfl
            simp [this]
end
section
open Go.RowKit
/-- Parse of param with its results as letters -/
theorem mParO_is {s x : ByteArray} {K : List F} {b : Bool} {w : World} (hs : s.size ≤ 65000) (h : Box (parA s.data.toList = x ∧ parB s.data.toList = K ∧ parO s.data.toList = b)) :
    Calls Tryz.prog 116 #[.string s] w fun e w' => ∃ a cap, e = .returned (.tuple #[.string x, .slice a K.length cap, .bool b]) ∧ OwnP w' w.heap.size (.slice a K.length cap) K ∧ Below w.heap.size w w' :=
  (mPar_any s w hs).mono fun e w' ⟨v, h1, h2, h3⟩ => by
    obtain ⟨rfl, rfl, rfl⟩ := h.out
    obtain ⟨a, cap, rfl, hS, hc⟩ := h2.fs
    exact ⟨a, cap, h1, h2, h3⟩
theorem mFmt10_any (a b : ByteArray) (p : Option Addr) (cap : Nat) (L : List F) (w : World) (ha : a.size ≤ 30000) (hb : b.size ≤ 30000) (hl : L.length ≤ 65536) (hz : Box (∀ i (hi : i < L.length), L[i].1.size ≤ 65536 ∧ L[i].2.size ≤ 65536)) (hF : Box (Fs w p L)) :
    Calls Tryz.prog 167 #[.agg #[.string a, .string b, .slice p L.length cap]] w fun e w' => e = .returned (.string (fmtMB (a, b, L))) ∧ Below w.heap.size w w' := by
  have s1 : (a ++ (⟨#[47]⟩ : ByteArray)).size = a.size + 1 := by rw [ByteArray.size_append]; rfl
  have r1 : ∀ w, (Op.stringOp .add a ⟨#[47]⟩).run Tryz.prog w = .ok (.string (a ++ ⟨#[47]⟩)) w := fun w => run_string_add_sum w _ _ (by show a.size + 1 ≤ 9223372036854775807; omega)
  have r2 : ∀ w, (Op.stringOp .add (a ++ (⟨#[47]⟩ : ByteArray)) b).run Tryz.prog w = .ok (.string (a ++ ⟨#[47]⟩ ++ b)) w := fun w => run_string_add_sum w _ _ (by rw [s1]; show a.size + 1 + b.size ≤ 9223372036854775807; omega)
  have hv : (a ++ (⟨#[47]⟩ : ByteArray) ++ b).size ≤ 65536 := by rw [ByteArray.size_append, s1]; omega
  clear s1
  go_enter Tryz.func167, Tryz.ntmps167
  go_wp2_with fail
  refine (mFmt9_any (a ++ (⟨#[47]⟩ : ByteArray) ++ b) p cap L _ hv hl hz (box (hF.out.below (below_new w _)))).mono ?_; rintro e w1 ⟨rfl, hb1⟩
  have B1 := box ((below_new w _).trans (hb1.mono (below_new w _).size))
  clear hb1
  go_wp2
  go_ret
  exact ⟨rfl, B1.out⟩
/-- the ways that end before the parameters are looked at -/
theorem mMatch_early (a b c d : ByteArray) (p q : Option Addr) (cp cq : Nat) (K L : List F) (w : World) (q1 q2 q3 q4 : Bool) (h1 : (a.toList == [42]) = q1) (h2 : (b.toList == [42]) = q2) (h3 : (a.toList == c.toList) = q3) (h4 : (b.toList == d.toList) = q4)
    (hq : (q1 = true ∧ q2 = true) ∨ q3 = false ∨ q2 = true ∨ q4 = false) :
    Calls Tryz.prog 171 #[.agg #[.string a, .string b, .slice p K.length cp], .agg #[.string c, .string d, .slice q L.length cq]] w fun e w' => e = .returned (.int .i64 (matchI (a, b, K) (c, d, L))) ∧ Below w.heap.size w w' := by
  have B2 : Box (Below w.heap.size w ((w.alloc (.cells #[.string a, .string b, .slice p K.length cp] 77)).alloc (.cells #[.string c, .string d, .slice q L.length cq] 77))) := box ((below_new w _).alloc (below_new w _).size _)
  obtain ⟨x, hx⟩ : ∃ x, matchI (a, b, K) (c, d, L) = x := ⟨_, rfl⟩
  have HX := box hx
  unfold matchI at hx
  simp only [h1, h2, h3, h4] at hx
  rw [HX.out]
  clear HX
  have h5 : (a.toList != c.toList) = !q3 := by rw [← h3]; rfl
  cases q1 <;> cases q2 <;> cases q3 <;> cases q4
  all_goals first
    | (exfalso; simp at hq; done)
    | (simp at hx
       subst hx
       clear hq
       go_enter Tryz.func171, Tryz.ntmps171
       go_wp2
       go_ret
       exact ⟨rfl, B2.out⟩)
set_option maxHeartbeats 1000000 in
theorem mMatch_late (a b c d : ByteArray) (p q : Option Addr) (cp cq : Nat) (K L : List F) (w : World) (hk : K.length ≤ 65536) (hl : L.length ≤ 65536)
    (hzK : Box (∀ i (hi : i < K.length), K[i].1.size ≤ 65536 ∧ K[i].2.size ≤ 65536)) (hzL : Box (∀ i (hi : i < L.length), L[i].1.size ≤ 65536 ∧ L[i].2.size ≤ 65536)) (hK : Box (Fs w p K)) (hL : Box (Fs w q L))
    (q1 : Bool) (h1 : (a.toList == [42]) = q1) (h2 : (b.toList == [42]) = false) (h3 : (a.toList == c.toList) = true) (h4 : (b.toList == d.toList) = true) :
    Calls Tryz.prog 171 #[.agg #[.string a, .string b, .slice p K.length cp], .agg #[.string c, .string d, .slice q L.length cq]] w fun e w' => e = .returned (.int .i64 (matchI (a, b, K) (c, d, L))) ∧ Below w.heap.size w w' := by
  have h5 : (a.toList != c.toList) = false := by unfold bne; rw [h3]; rfl
  have b2 : Below w.heap.size w ((w.alloc (.cells #[.string a, .string b, .slice p K.length cp] 77)).alloc (.cells #[.string c, .string d, .slice q L.length cq] 77)) := (below_new w _).alloc (below_new w _).size _
  have B2 := box b2
  have FK := box (hK.out.below b2)
  have FL := box (hL.out.below b2)
  have C0 := box ((C3.new (.string a) (.string b) (.slice p K.length cp) w 77).next (below_new _ (.cells #[.string c, .string d, .slice q L.length cq] 77)))
  clear b2
  have HV : Box (matchI (a, b, K) (c, d, L) = if (K.all fun p => prmIn p L) = true then 2 + (K.length : Int) else -1) := box (by
    unfold matchI; simp [h2, h3, h4])
  rw [HV.out]
  clear HV
  obtain ⟨z, hz⟩ : ∃ z : Bool, (K.all fun p => prmIn p L) = z := ⟨_, rfl⟩
  have HZ : Box (HasIs z K L) := box (by unfold HasIs; rw [inK_prm, hz])
  rw [hz]
  clear hz
  have i4 : IntKind.i64.wrap (2 + (K.length : Int)) = 2 + (K.length : Int) := IntWalk.i64_in _ (by omega)
  rcases q1 with _ | _ <;> rcases z with _ | _
  all_goals
    go_enter Tryz.func171, Tryz.ntmps171
    go_wp2_with fail
    refine (hasParams_any c d p q cp cq K L _ _ hk hl hzK hzL FK FL HZ).mono ?_; rintro e w1 ⟨rfl, hb1⟩
    have B3 := box (B2.out.trans (hb1.mono B2.out.size))
    have C1 := box (C0.out.next hb1)
    obtain ⟨⟨d0, d1, d2⟩, _⟩ := C1.out
    clear hb1
    go_wp2
    go_ret
    exact ⟨by simp, B3.out⟩
theorem mMatch10_any (a b c d : ByteArray) (p q : Option Addr) (cp cq : Nat) (K L : List F) (w : World) (hk : K.length ≤ 65536) (hl : L.length ≤ 65536)
    (hzK : Box (∀ i (hi : i < K.length), K[i].1.size ≤ 65536 ∧ K[i].2.size ≤ 65536)) (hzL : Box (∀ i (hi : i < L.length), L[i].1.size ≤ 65536 ∧ L[i].2.size ≤ 65536)) (hK : Box (Fs w p K)) (hL : Box (Fs w q L)) :
    Calls Tryz.prog 171 #[.agg #[.string a, .string b, .slice p K.length cp], .agg #[.string c, .string d, .slice q L.length cq]] w fun e w' => e = .returned (.int .i64 (matchI (a, b, K) (c, d, L))) ∧ Below w.heap.size w w' := by
  by_cases h : (b.toList == [42]) = false ∧ (a.toList == c.toList) = true ∧ (b.toList == d.toList) = true
  · exact mMatch_late a b c d p q cp cq K L w hk hl hzK hzL hK hL _ rfl h.1 h.2.1 h.2.2
  · refine mMatch_early a b c d p q cp cq K L w _ _ _ _ rfl rfl rfl rfl ?_
    rcases h2 : (b.toList == [42]) with _ | _
    · rcases h3 : (a.toList == c.toList) with _ | _
      · exact .inr (.inl rfl)
      · rcases h4 : (b.toList == d.toList) with _ | _
        · exact .inr (.inr (.inr rfl))
        · exact absurd ⟨h2, h3, h4⟩ h
    · exact .inr (.inr (.inl rfl))
theorem tok_nil : tokL [] = false := rfl
/-- a range without a slash is none, by its empty subtype -/
theorem type_as (v : List UInt8) : typeL v = if tokL (cut1 47 v) = false ∨ tokL (cut2 47 v) = false then none
    else if cut1 47 v = [42] ∧ cut2 47 v ≠ [42] then none else some (bs (lowL (cut1 47 v)), bs (lowL (cut2 47 v))) := by
  unfold typeL
  rcases hb : cutB 47 v with _ | _
  · have : cut2 47 v = [] := by
      rcases idx_cases v 47 with hi | ⟨o, hi, ho⟩
      · exact (cut_no hi).2.1
      · rw [(cut_at hi).2.2.2] at hb; exact absurd hb (by decide)
    rw [this, tok_nil]
    simp
  · rcases h1 : tokL (cut1 47 v) with _ | _ <;> rcases h2 : tokL (cut2 47 v) with _ | _ <;> simp
theorem mRange_0 (s x : ByteArray) (K : List F) (w : World) (hs : s.size ≤ 65000) (H : Box (parA s.data.toList = x ∧ parB s.data.toList = K ∧ parO s.data.toList = false)) (HR : Box (rangeL s.data.toList = none)) :
    Calls Tryz.prog 147 #[.string s] w fun e w' => medW w w' (rangeL s.data.toList) e := by
  go_enter Tryz.func147, Tryz.ntmps147
  go_wp2_with fail
  refine (mParO_is hs H).mono ?_; rintro e w1 ⟨a1, cap1, rfl, hO1, hb1⟩
  have O1 := box hO1
  have C1 := box ((C3.new (.string ⟨#[]⟩) (.string ⟨#[]⟩) (.slice none 0 0) w 77).next hb1)
  have B1 := box ((below_new w _).trans (hb1.mono (below_new w _).size))
  clear hO1 hb1
  obtain ⟨⟨r0, r1, r2⟩, ⟨f0, f1, f2⟩⟩ := C1.out
  go_wp2
  (try simp only [Exit.inBlock, Exit.then])
  refine bodyPost_ret (v := .tuple #[.agg #[.string ⟨#[]⟩, .string ⟨#[]⟩, .slice none 0 0], .bool false]) (by rw [results_cell_tmp rfl]; go_simp) rfl ?_
  exact medW_none HR (below3 B1.out (Nat.le_refl _) _ _ _)
theorem mRange_1 (s x m n : ByteArray) (K : List F) (q : Bool) (w : World) (hs : s.size ≤ 65000) (H : Box (parA s.data.toList = x ∧ parB s.data.toList = K ∧ parO s.data.toList = true)) (HXM : Box (x.size ≤ maxLen)) (HMM : Box (m.size ≤ maxLen)) (HNM : Box (n.size ≤ maxLen)) (HV : Box (cutV 47 x.data.toList = .tuple #[.string m, .string n, .bool q])) (HT1 : Box (tokL m.data.toList = false)) (HR : Box (rangeL s.data.toList = none)) :
    Calls Tryz.prog 147 #[.string s] w fun e w' => medW w w' (rangeL s.data.toList) e := by
  go_enter Tryz.func147, Tryz.ntmps147
  go_wp2_with fail
  refine (mParO_is hs H).mono ?_; rintro e w1 ⟨a1, cap1, rfl, hO1, hb1⟩
  have O1 := box hO1
  have C1 := box ((C3.new (.string ⟨#[]⟩) (.string ⟨#[]⟩) (.slice none 0 0) w 77).next hb1)
  have B1 := box ((below_new w _).trans (hb1.mono (below_new w _).size))
  clear hO1 hb1
  go_wp2_with fail
  refine (Cut_any x 47 _ HXM.out).mono ?_; rintro e w2 ⟨rfl, hb2⟩; rw [HV.out]
  have O2 := box (own_below O1.out hb2)
  have C2 := box (C1.out.next hb2)
  have B2 := box (B1.out.trans (hb2.mono B1.out.size))
  clear hb2 O1 C1 B1
  go_wp2_with fail
  refine (aToken_is HMM.out HT1).mono ?_; rintro e w3 ⟨rfl, rfl⟩
  obtain ⟨⟨r0, r1, r2⟩, ⟨f0, f1, f2⟩⟩ := C2.out
  go_wp2
  (try simp only [Exit.inBlock, Exit.then])
  refine bodyPost_ret (v := .tuple #[.agg #[.string ⟨#[]⟩, .string ⟨#[]⟩, .slice none 0 0], .bool false]) (by rw [results_cell_tmp rfl]; go_simp) rfl ?_
  exact medW_none HR (below3 B2.out (Nat.le_refl _) _ _ _)
theorem mRange_2 (s x m n : ByteArray) (K : List F) (q : Bool) (w : World) (hs : s.size ≤ 65000) (H : Box (parA s.data.toList = x ∧ parB s.data.toList = K ∧ parO s.data.toList = true)) (HXM : Box (x.size ≤ maxLen)) (HMM : Box (m.size ≤ maxLen)) (HNM : Box (n.size ≤ maxLen)) (HV : Box (cutV 47 x.data.toList = .tuple #[.string m, .string n, .bool q])) (HT1 : Box (tokL m.data.toList = true)) (HT2 : Box (tokL n.data.toList = false)) (HR : Box (rangeL s.data.toList = none)) :
    Calls Tryz.prog 147 #[.string s] w fun e w' => medW w w' (rangeL s.data.toList) e := by
  go_enter Tryz.func147, Tryz.ntmps147
  go_wp2_with fail
  refine (mParO_is hs H).mono ?_; rintro e w1 ⟨a1, cap1, rfl, hO1, hb1⟩
  have O1 := box hO1
  have C1 := box ((C3.new (.string ⟨#[]⟩) (.string ⟨#[]⟩) (.slice none 0 0) w 77).next hb1)
  have B1 := box ((below_new w _).trans (hb1.mono (below_new w _).size))
  clear hO1 hb1
  go_wp2_with fail
  refine (Cut_any x 47 _ HXM.out).mono ?_; rintro e w2 ⟨rfl, hb2⟩; rw [HV.out]
  have O2 := box (own_below O1.out hb2)
  have C2 := box (C1.out.next hb2)
  have B2 := box (B1.out.trans (hb2.mono B1.out.size))
  clear hb2 O1 C1 B1
  go_wp2_with fail
  refine (aToken_is HMM.out HT1).mono ?_; rintro e w3 ⟨rfl, rfl⟩
  go_wp2_with fail
  refine (aToken_is HNM.out HT2).mono ?_; rintro e w3 ⟨rfl, rfl⟩
  obtain ⟨⟨r0, r1, r2⟩, ⟨f0, f1, f2⟩⟩ := C2.out
  go_wp2
  (try simp only [Exit.inBlock, Exit.then])
  refine bodyPost_ret (v := .tuple #[.agg #[.string ⟨#[]⟩, .string ⟨#[]⟩, .slice none 0 0], .bool false]) (by rw [results_cell_tmp rfl]; go_simp) rfl ?_
  exact medW_none HR (below3 B2.out (Nat.le_refl _) _ _ _)
theorem mRange_3 (s x m n : ByteArray) (K : List F) (q : Bool) (w : World) (hs : s.size ≤ 65000) (H : Box (parA s.data.toList = x ∧ parB s.data.toList = K ∧ parO s.data.toList = true)) (HXM : Box (x.size ≤ maxLen)) (HMM : Box (m.size ≤ maxLen)) (HNM : Box (n.size ≤ maxLen)) (HV : Box (cutV 47 x.data.toList = .tuple #[.string m, .string n, .bool q])) (HT1 : Box (tokL m.data.toList = true)) (HT2 : Box (tokL n.data.toList = true)) (q1 : (m.toList == [42]) = true) (q2 : (n.toList == [42]) = false) (HR : Box (rangeL s.data.toList = none)) :
    Calls Tryz.prog 147 #[.string s] w fun e w' => medW w w' (rangeL s.data.toList) e := by
  have q3 : (n.toList != [42]) = true := by unfold bne; rw [q2]; rfl
  go_enter Tryz.func147, Tryz.ntmps147
  go_wp2_with fail
  refine (mParO_is hs H).mono ?_; rintro e w1 ⟨a1, cap1, rfl, hO1, hb1⟩
  have O1 := box hO1
  have C1 := box ((C3.new (.string ⟨#[]⟩) (.string ⟨#[]⟩) (.slice none 0 0) w 77).next hb1)
  have B1 := box ((below_new w _).trans (hb1.mono (below_new w _).size))
  clear hO1 hb1
  go_wp2_with fail
  refine (Cut_any x 47 _ HXM.out).mono ?_; rintro e w2 ⟨rfl, hb2⟩; rw [HV.out]
  have O2 := box (own_below O1.out hb2)
  have C2 := box (C1.out.next hb2)
  have B2 := box (B1.out.trans (hb2.mono B1.out.size))
  clear hb2 O1 C1 B1
  go_wp2_with fail
  refine (aToken_is HMM.out HT1).mono ?_; rintro e w3 ⟨rfl, rfl⟩
  go_wp2_with fail
  refine (aToken_is HNM.out HT2).mono ?_; rintro e w3 ⟨rfl, rfl⟩
  obtain ⟨⟨r0, r1, r2⟩, ⟨f0, f1, f2⟩⟩ := C2.out
  go_wp2
  (try simp only [Exit.inBlock, Exit.then])
  refine bodyPost_ret (v := .tuple #[.agg #[.string ⟨#[]⟩, .string ⟨#[]⟩, .slice none 0 0], .bool false]) (by rw [results_cell_tmp rfl]; go_simp) rfl ?_
  exact medW_none HR (below3 B2.out (Nat.le_refl _) _ _ _)
theorem mRange_4 (s x m n : ByteArray) (K : List F) (q : Bool) (w : World) (hs : s.size ≤ 65000) (H : Box (parA s.data.toList = x ∧ parB s.data.toList = K ∧ parO s.data.toList = true)) (HXM : Box (x.size ≤ maxLen)) (HMM : Box (m.size ≤ maxLen)) (HNM : Box (n.size ≤ maxLen)) (HV : Box (cutV 47 x.data.toList = .tuple #[.string m, .string n, .bool q])) (HT1 : Box (tokL m.data.toList = true)) (HT2 : Box (tokL n.data.toList = true)) (b1 b2 : Bool) (q1 : (m.toList == [42]) = b1) (q2 : (n.toList == [42]) = b2) (hb : b1 = false ∨ b2 = true) (hm4 : m.size ≤ 4294967296) (hn4 : n.size ≤ 4294967296)
    (nm sb : ByteArray) (HL1 : Box (bs (lowL m.data.toList) = nm)) (HL2 : Box (bs (lowL n.data.toList) = sb)) (HR : Box (rangeL s.data.toList = some (nm, sb, K))) :
    Calls Tryz.prog 147 #[.string s] w fun e w' => medW w w' (rangeL s.data.toList) e := by
  have q3 : (n.toList != [42]) = !b2 := by unfold bne; rw [q2]
  rcases b1 with _ | _ <;> rcases b2 with _ | _
  all_goals first | (exfalso; simp at hb; done) | skip
  all_goals
    go_enter Tryz.func147, Tryz.ntmps147
    go_wp2_with fail
    refine (mParO_is hs H).mono ?_; rintro e w1 ⟨a1, cap1, rfl, hO1, hb1⟩
    have O1 := box hO1
    have C1 := box ((C3.new (.string ⟨#[]⟩) (.string ⟨#[]⟩) (.slice none 0 0) w 77).next hb1)
    have B1 := box ((below_new w _).trans (hb1.mono (below_new w _).size))
    clear hO1 hb1
    go_wp2_with fail
    refine (Cut_any x 47 _ HXM.out).mono ?_; rintro e w2 ⟨rfl, hb2⟩; rw [HV.out]
    have O2 := box (own_below O1.out hb2)
    have C2 := box (C1.out.next hb2)
    have B2 := box (B1.out.trans (hb2.mono B1.out.size))
    clear hb2 O1 C1 B1
    go_wp2_with fail
    refine (aToken_is HMM.out HT1).mono ?_; rintro e w3 ⟨rfl, rfl⟩
    go_wp2_with fail
    refine (aToken_is HNM.out HT2).mono ?_; rintro e w3 ⟨rfl, rfl⟩
    go_wp2_with fail
    refine (aLower_is hm4 HL1).mono ?_; rintro e w4 ⟨rfl, hb4⟩
    go_wp2_with fail
    refine (aLower_is hn4 HL2).mono ?_; rintro e w5 ⟨rfl, hb5⟩
    have hb6 := hb4.trans (hb5.mono hb4.size)
    have O6 := own_below O2.out hb6
    have B6 := B2.out.trans (hb6.mono B2.out.size)
    obtain ⟨⟨r0, r1, r2⟩, ⟨f0, f1, f2⟩⟩ := C2.out.next hb6
    clear hb4 hb5 hb6
    go_wp2
    (try simp only [Exit.inBlock, Exit.then])
    refine bodyPost_ret (v := .tuple #[.agg #[.string nm, .string sb, .slice a1 K.length cap1], .bool true]) (by rw [results_cell_tmp rfl]; go_simp) rfl ?_
    exact medW_some HR (own_le (own_only O6 (only3 _ _ _ _ _) (by simp)) (by simp)) (below3 B6 (Nat.le_refl _) _ _ _)
theorem mRange_any (s : ByteArray) (w : World) (hs : s.size ≤ 65000) :
    Calls Tryz.prog 147 #[.string s] w fun e w' => medW w w' (rangeL s.data.toList) e := by
  obtain ⟨x, hx⟩ : ∃ x, parA s.data.toList = x := ⟨_, rfl⟩
  obtain ⟨K, hK⟩ : ∃ K, parB s.data.toList = K := ⟨_, rfl⟩
  have hxz : x.size ≤ 65000 := by rw [← hx]; exact Nat.le_trans (parA_size s) hs
  rcases hb : parO s.data.toList with _ | _
  · exact mRange_0 s x K w hs (box ⟨hx, hK, hb⟩) (box (range_par hb))
  · obtain ⟨m, hm⟩ : ∃ m, bs (cut1 47 x.data.toList) = m := ⟨_, rfl⟩
    obtain ⟨n, hn⟩ : ∃ n, bs (cut2 47 x.data.toList) = n := ⟨_, rfl⟩
    have HV : Box (cutV 47 x.data.toList = .tuple #[.string m, .string n, .bool (cutB 47 x.data.toList)]) := box (by unfold cutV; rw [hm, hn])
    have hxl : x.data.toList.length = x.size := by simp
    have hmz : m.size ≤ 65000 := by
      rw [← hm, bs_size]
      have : (cut1 47 x.data.toList).length ≤ x.data.toList.length := by unfold cut1; exact (List.takeWhile_sublist _).length_le
      omega
    have hnz : n.size ≤ 65000 := by
      rw [← hn, bs_size]
      have : (cut2 47 x.data.toList).length ≤ x.data.toList.length := by
        unfold cut2; rw [List.length_drop]; have := (List.dropWhile_sublist (· != (47 : UInt8)) (l := x.data.toList)).length_le; omega
      omega
    have hm1 : m.data.toList = cut1 47 x.data.toList := by rw [← hm]; rfl
    have hn1 : n.data.toList = cut2 47 x.data.toList := by rw [← hn]; rfl
    have hr := range_type hb hx
    rw [type_as, ← hm1, ← hn1, hK] at hr
    have H := box (And.intro hx (And.intro hK hb))
    have m1 : Box (x.size ≤ maxLen) := box (by unfold maxLen; omega)
    have m2 : Box (m.size ≤ maxLen) := box (by unfold maxLen; omega)
    have m3 : Box (n.size ≤ maxLen) := box (by unfold maxLen; omega)
    rcases h1 : tokL m.data.toList with _ | _
    · rw [if_pos (.inl h1)] at hr
      exact mRange_1 s x m n K _ w hs H m1 m2 m3 HV (box h1) (box hr)
    · rcases h2 : tokL n.data.toList with _ | _
      · rw [if_pos (.inr h2)] at hr
        exact mRange_2 s x m n K _ w hs H m1 m2 m3 HV (box h1) (box h2) (box hr)
      · rw [if_neg (by rw [h1, h2]; simp)] at hr
        rcases q1 : (m.toList == [42]) with _ | _
        · rw [if_neg (fun h => by have := (star_is q1).1 h.1; cases this)] at hr
          exact mRange_4 s x m n K _ w hs H m1 m2 m3 HV (box h1) (box h2) _ _ q1 rfl (.inl rfl) (by omega) (by omega) _ _ (box rfl) (box rfl) (box hr)
        · rcases q2 : (n.toList == [42]) with _ | _
          · rw [if_pos ⟨(star_is q1).2 rfl, fun h => by have := (star_is q2).1 h; cases this⟩] at hr
            exact mRange_3 s x m n K _ w hs H m1 m2 m3 HV (box h1) (box h2) q1 q2 (box hr)
          · rw [if_neg (fun h => h.2 ((star_is q2).2 rfl))] at hr
            exact mRange_4 s x m n K _ w hs H m1 m2 m3 HV (box h1) (box h2) _ _ q1 q2 (.inr rfl) (by omega) (by omega) _ _ (box rfl) (box rfl) (box hr)
theorem mRange_is {s : ByteArray} {a b : ByteArray} {L : List F} {q : Bool} {w : World} (hs : s.size ≤ 65000) (h : Box (ofM (rangeL s.data.toList) = (a, b, L) ∧ (rangeL s.data.toList).isSome = q)) :
    Calls Tryz.prog 147 #[.string s] w fun e w' => ∃ p cap, e = .returned (.tuple #[.agg #[.string a, .string b, .slice p L.length cap], .bool q]) ∧ OwnP w' w.heap.size (.slice p L.length cap) L ∧ Below w.heap.size w w' :=
  (mRange_any s w hs).mono fun e w' ⟨v, h1, h2, h3⟩ => by
    rw [h.out.1] at h1 h2
    rw [h.out.2] at h1
    obtain ⟨p, cap, rfl, _, _⟩ := h2.fs
    exact ⟨p, cap, h1, h2, h3⟩
/-- a range with a star for its type has one for its subtype -/
theorem range_stars {l : List UInt8} {a b : ByteArray} {L : List F} (h : rangeL l = some (a, b, L)) (ha : a = star) : b = star := by
  unfold rangeL at h
  split at h
  · cases h
  · rename_i v K _
    rw [type_as] at h
    split at h
    · cases h
    · rename_i x y hxy
      split at hxy
      · cases hxy
      · rename_i ht
        split at hxy
        · cases hxy
        · rename_i hs
          simp only [Option.some.injEq, Prod.mk.injEq] at hxy h
          obtain ⟨rfl, rfl⟩ := hxy
          obtain ⟨rfl, rfl, _⟩ := h
          have t1 : tokL (cut1 47 v) = true := by
            rcases q : tokL (cut1 47 v) with _ | _
            · exact absurd (.inl q) ht
            · rfl
          have e1 : lowL (cut1 47 v) = [42] := bs_inj (b := [42]) ha
          have e2 := (low_star t1).1 e1
          have e3 : cut2 47 v = [42] := by
            rcases Classical.em (cut2 47 v = [42]) with q | q
            · exact q
            · exact absurd ⟨e2, q⟩ hs
          rw [e3]; rfl
theorem media_alt (l : List UInt8) : mediaL l = if (rangeL l).isSome = true then (if (ofM (rangeL l)).2.1 = star then none else some (ofM (rangeL l))) else none := by
  rw [media_cases]
  cases h : rangeL l with
  | none => rfl
  | some x =>
    obtain ⟨a, b, L⟩ := x
    show (if a = star ∨ b = star then none else some (a, b, L)) = (if b = star then none else some (a, b, L))
    by_cases hb : b = star
    · rw [if_pos (.inr hb), if_pos hb]
    · rw [if_neg (fun q => q.elim (fun ha => hb (range_stars h ha)) hb), if_neg hb]
set_option maxHeartbeats 1000000 in
theorem mMedia_any (s : ByteArray) (w : World) (hs : s.size ≤ 65000) :
    Calls Tryz.prog 120 #[.string s] w fun e w' => medW w w' (mediaL s.data.toList) e := by
  obtain ⟨⟨a, b, L⟩, hM⟩ : ∃ m, ofM (rangeL s.data.toList) = m := ⟨_, rfl⟩
  obtain ⟨q, hq⟩ : ∃ q, (rangeL s.data.toList).isSome = q := ⟨_, rfl⟩
  have H := box (And.intro hM hq)
  have HC := media_alt s.data.toList
  rw [hM, hq] at HC
  clear hM hq
  rcases q with _ | _
  · have HR : Box (mediaL s.data.toList = none) := box (by rw [HC]; rfl)
    clear HC
    go_enter Tryz.func120, Tryz.ntmps120
    go_wp2_with fail
    refine (mRange_is hs H).mono ?_; rintro e w1 ⟨p, cap, rfl, hO1, hb1⟩
    have C1 := box (((C3.new (.string ⟨#[]⟩) (.string ⟨#[]⟩) (.slice none 0 0) w 77).next hb1).next (below_new w1 (.cells #[.string a, .string b, .slice p L.length cap] 77)))
    have B1 := box (((below_new w _).trans (hb1.mono (below_new w _).size)).alloc ((below_new w _).trans (hb1.mono (below_new w _).size)).size (.cells #[.string a, .string b, .slice p L.length cap] 77))
    have O1 := box (own_below hO1 (below_new w1 (.cells #[.string a, .string b, .slice p L.length cap] 77)))
    clear hO1 hb1
    obtain ⟨⟨r0, r1, r2⟩, ⟨f0, f1, f2⟩⟩ := C1.out
    go_wp2
    (try simp only [Exit.inBlock, Exit.then])
    refine bodyPost_ret (v := .tuple #[.agg #[.string ⟨#[]⟩, .string ⟨#[]⟩, .slice none 0 0], .bool false]) (by rw [results_cell_tmp rfl]; go_simp) rfl ?_
    exact medW_none HR (below3 B1.out (Nat.le_refl _) _ _ _)
  · rcases h2 : (b.toList == [42]) with _ | _
    · have HR : Box (mediaL s.data.toList = some (a, b, L)) := box (by
        rw [HC, if_pos rfl, if_neg (by intro e; have := (star_eq h2).mp e; simp at this)])
      clear HC
      go_enter Tryz.func120, Tryz.ntmps120
      go_wp2_with fail
      refine (mRange_is hs H).mono ?_; rintro e w1 ⟨p, cap, rfl, hO1, hb1⟩
      have C1 := box (((C3.new (.string ⟨#[]⟩) (.string ⟨#[]⟩) (.slice none 0 0) w 77).next hb1).next (below_new w1 (.cells #[.string a, .string b, .slice p L.length cap] 77)))
      have B1 := box (((below_new w _).trans (hb1.mono (below_new w _).size)).alloc ((below_new w _).trans (hb1.mono (below_new w _).size)).size (.cells #[.string a, .string b, .slice p L.length cap] 77))
      have O1 := box (own_below hO1 (below_new w1 (.cells #[.string a, .string b, .slice p L.length cap] 77)))
      clear hO1 hb1
      obtain ⟨⟨r0, r1, r2⟩, ⟨f0, f1, f2⟩⟩ := C1.out
      go_wp2
      (try simp only [Exit.inBlock, Exit.then])
      refine bodyPost_ret (v := .tuple #[.agg #[.string a, .string b, .slice p L.length cap], .bool true]) (by rw [results_cell_tmp rfl]; go_simp) rfl ?_
      exact medW_some HR (own_le (own_only O1.out (only3 _ _ _ _ _) (by simp)) (by simp)) (below3 B1.out (Nat.le_refl _) _ _ _)
    · have HR : Box (mediaL s.data.toList = none) := box (by rw [HC, if_pos rfl, if_pos ((star_eq h2).mpr rfl)])
      clear HC
      go_enter Tryz.func120, Tryz.ntmps120
      go_wp2_with fail
      refine (mRange_is hs H).mono ?_; rintro e w1 ⟨p, cap, rfl, hO1, hb1⟩
      have C1 := box (((C3.new (.string ⟨#[]⟩) (.string ⟨#[]⟩) (.slice none 0 0) w 77).next hb1).next (below_new w1 (.cells #[.string a, .string b, .slice p L.length cap] 77)))
      have B1 := box (((below_new w _).trans (hb1.mono (below_new w _).size)).alloc ((below_new w _).trans (hb1.mono (below_new w _).size)).size (.cells #[.string a, .string b, .slice p L.length cap] 77))
      have O1 := box (own_below hO1 (below_new w1 (.cells #[.string a, .string b, .slice p L.length cap] 77)))
      clear hO1 hb1
      obtain ⟨⟨r0, r1, r2⟩, ⟨f0, f1, f2⟩⟩ := C1.out
      go_wp2
      (try simp only [Exit.inBlock, Exit.then])
      refine bodyPost_ret (v := .tuple #[.agg #[.string ⟨#[]⟩, .string ⟨#[]⟩, .slice none 0 0], .bool false]) (by rw [results_cell_tmp rfl]; go_simp) rfl ?_
      exact medW_none HR (below3 B1.out (Nat.le_refl _) _ _ _)
end
section
open Go.RowKit
theorem mLetter_any (b : Int) (w : World) (h0 : 0 ≤ b) (h1 : b ≤ 255) :
    Calls Tryz.prog 150 #[.int .u8 b] w fun e w' => e = .returned (.bool (lettI b)) ∧ w = w' := by
  go_enter Tryz.func150, Tryz.ntmps150
  go_wp2
  all_goals (go_ret; exact ⟨ret_bool (by rw [Bool.eq_iff_iff]; simp [lettI]; omega), rfl⟩)
theorem mLetterC (c : UInt8) (w : World) :
    Calls Tryz.prog 150 #[.int .u8 (c.toNat : Int)] w fun e w' => e = .returned (.bool (chOk true c)) ∧ w = w' :=
  (mLetter_any _ w (c_bd c).1 (c_bd c).2).mono fun e w' ⟨h1, h2⟩ => ⟨by rw [h1]; unfold chOk; rw [Bool.not_true, Bool.false_and, Bool.or_false], h2⟩
theorem mLetter_is {c : UInt8} {q : Bool} {w : World} (h : Box (lettI (c.toNat : Int) = q)) :
    Calls Tryz.prog 150 #[.int .u8 (c.toNat : Int)] w fun e w' => e = .returned (.bool q) ∧ w = w' :=
  (mLetter_any _ w (c_bd c).1 (c_bd c).2).mono fun e w' ⟨h1, h2⟩ => ⟨by rw [h1, h.out], h2⟩
theorem mLetDigC (c : UInt8) (w : World) :
    Calls Tryz.prog 151 #[.int .u8 (c.toNat : Int)] w fun e w' => e = .returned (.bool (chOk false c)) ∧ w = w' := by
  have hb := c_bd c
  have HD : Box (∀ b : Int, digitI b = decide (48 ≤ b ∧ b ≤ 57)) := box (fun _ => rfl)
  cases hl : lettI (c.toNat : Int) with
  | true =>
    have HL := box hl
    have HV : Box (chOk false c = true) := box (by unfold chOk; rw [hl]; rfl)
    clear hl
    go_enter Tryz.func151, Tryz.ntmps151
    go_wp2_with fail
    refine (mLetter_is HL).mono ?_; rintro e w1 ⟨rfl, rfl⟩
    go_wp2
    go_ret
    exact ⟨ret_bool HV.out.symm, rfl⟩
  | false =>
    have HL := box hl
    have HV : Box (chOk false c = digitI (c.toNat : Int)) := box (by unfold chOk; rw [hl]; rfl)
    clear hl
    go_enter Tryz.func151, Tryz.ntmps151
    go_wp2_with fail
    refine (mLetter_is HL).mono ?_; rintro e w1 ⟨rfl, rfl⟩
    go_wp2
    all_goals (go_ret; exact ⟨ret_bool (by rw [HV.out, HD.out, Bool.eq_iff_iff]; simp; omega), rfl⟩)
theorem mIsSub_true (s : ByteArray) (w : World) (hs : s.size ≤ 65000) :
    Calls Tryz.prog 149 #[.string s, .func (.func 150) #[] #[]] w fun e w' => e = .returned (.bool (subOk true s.data.toList)) ∧ w = w' := by
  have hz : s.data.toList.length = s.size := by simp
  have HE : Box (s.toList = s.data.toList) := box (toList_data s)
  by_cases h0 : s.size = 0
  · have hse : (s.toList.isEmpty) = true := by rw [HE.out]; cases hl : s.data.toList with
      | nil => rfl
      | cons a b => rw [hl] at hz; simp at hz; omega
    have hse2 : s.toList = [] := by rw [List.isEmpty_iff] at hse; exact hse
    have HV : Box (subOk true s.data.toList = false) := box (sub_size (.inl (by omega)))
    clear hz
    go_enter Tryz.func149, Tryz.ntmps149
    go_wp2
    go_ret
    exact ⟨ret_bool HV.out.symm, rfl⟩
  · have hse : (s.toList.isEmpty) = false := by rw [HE.out]; cases hl : s.data.toList with
      | nil => rw [hl] at hz; simp at hz; omega
      | cons a b => rfl
    have hse2 : ¬ s.toList = [] := by rw [List.isEmpty_eq_false_iff] at hse; exact hse
    by_cases h8 : 8 < s.size
    · have HV : Box (subOk true s.data.toList = false) := box (sub_size (.inr (by omega)))
      have h8i : (8 : Int) < (s.size : Int) := by omega
      clear hz
      go_enter Tryz.func149, Tryz.ntmps149
      go_wp2
      go_ret
      exact ⟨ret_bool HV.out.symm, rfl⟩
    · have HV : Box (subOk true s.data.toList = s.data.toList.all (chOk true)) := box (sub_chars (by omega) (by omega))
      have h8i : ¬ (8 : Int) < (s.size : Int) := by omega
      clear hz
      go_enter Tryz.func149, Tryz.ntmps149
      go_wp2
      go_loop [5, 15] (fun _ m => TagI s true m) (fun _ m => s.size - (intOf m).toNat)
      case atStart => exact ⟨0, rfl, Nat.zero_le _, rfl⟩
      case round =>
        obtain ⟨m, rfl, hm, hc⟩ := hrel
        have HM := box hc
        clear hc
        by_cases hml : m < s.size
        · have hmi : (m : Int) < (s.size : Int) := by omega
          obtain ⟨c, hcq⟩ : ∃ c, s[m] = c := ⟨_, rfl⟩
          cases hk : chOk true c with
          | true =>
            have HN := box (allC_more HM.out hml (by rw [hcq, hk]))
            have HK := box hk
            clear hk
            go_wp2_with fail
            refine (mLetterC _ _).mono ?_; rintro e w1 ⟨rfl, rfl⟩
            rw [HK.out]
            go_wp2
            go_round
            case rel => exact ⟨m + 1, by go_num, hml, HN.out⟩
            case measure => simp [intOf]; omega
          | false =>
            have HN : Box (subOk true s.data.toList = false) := box (by rw [HV.out]; exact allC_not hml (by rw [hcq, hk]))
            have HK := box hk
            clear hk
            go_wp2_with fail
            refine (mLetterC _ _).mono ?_; rintro e w1 ⟨rfl, rfl⟩
            rw [HK.out]
            go_wp2
            go_ret
            exact ⟨ret_bool HN.out.symm, rfl⟩
        · have hmi : ¬ (m : Int) < (s.size : Int) := by omega
          have HN : Box (subOk true s.data.toList = true) := box (by
            have h := HM.out
            rw [List.take_of_length_le (by simp; omega)] at h
            rw [HV.out, h])
          go_wp2
          go_ret
          exact ⟨ret_bool HN.out.symm, rfl⟩
theorem mIsSub_false (s : ByteArray) (w : World) (hs : s.size ≤ 65000) :
    Calls Tryz.prog 149 #[.string s, .func (.func 151) #[] #[]] w fun e w' => e = .returned (.bool (subOk false s.data.toList)) ∧ w = w' := by
  have hz : s.data.toList.length = s.size := by simp
  have HE : Box (s.toList = s.data.toList) := box (toList_data s)
  by_cases h0 : s.size = 0
  · have hse : (s.toList.isEmpty) = true := by rw [HE.out]; cases hl : s.data.toList with
      | nil => rfl
      | cons a b => rw [hl] at hz; simp at hz; omega
    have hse2 : s.toList = [] := by rw [List.isEmpty_iff] at hse; exact hse
    have HV : Box (subOk false s.data.toList = false) := box (sub_size (.inl (by omega)))
    clear hz
    go_enter Tryz.func149, Tryz.ntmps149
    go_wp2
    go_ret
    exact ⟨ret_bool HV.out.symm, rfl⟩
  · have hse : (s.toList.isEmpty) = false := by rw [HE.out]; cases hl : s.data.toList with
      | nil => rw [hl] at hz; simp at hz; omega
      | cons a b => rfl
    have hse2 : ¬ s.toList = [] := by rw [List.isEmpty_eq_false_iff] at hse; exact hse
    by_cases h8 : 8 < s.size
    · have HV : Box (subOk false s.data.toList = false) := box (sub_size (.inr (by omega)))
      have h8i : (8 : Int) < (s.size : Int) := by omega
      clear hz
      go_enter Tryz.func149, Tryz.ntmps149
      go_wp2
      go_ret
      exact ⟨ret_bool HV.out.symm, rfl⟩
    · have HV : Box (subOk false s.data.toList = s.data.toList.all (chOk false)) := box (sub_chars (by omega) (by omega))
      have h8i : ¬ (8 : Int) < (s.size : Int) := by omega
      clear hz
      go_enter Tryz.func149, Tryz.ntmps149
      go_wp2
      go_loop [5, 15] (fun _ m => TagI s false m) (fun _ m => s.size - (intOf m).toNat)
      case atStart => exact ⟨0, rfl, Nat.zero_le _, rfl⟩
      case round =>
        obtain ⟨m, rfl, hm, hc⟩ := hrel
        have HM := box hc
        clear hc
        by_cases hml : m < s.size
        · have hmi : (m : Int) < (s.size : Int) := by omega
          obtain ⟨c, hcq⟩ : ∃ c, s[m] = c := ⟨_, rfl⟩
          cases hk : chOk false c with
          | true =>
            have HN := box (allC_more HM.out hml (by rw [hcq, hk]))
            have HK := box hk
            clear hk
            go_wp2_with fail
            refine (mLetDigC _ _).mono ?_; rintro e w1 ⟨rfl, rfl⟩
            rw [HK.out]
            go_wp2
            go_round
            case rel => exact ⟨m + 1, by go_num, hml, HN.out⟩
            case measure => simp [intOf]; omega
          | false =>
            have HN : Box (subOk false s.data.toList = false) := box (by rw [HV.out]; exact allC_not hml (by rw [hcq, hk]))
            have HK := box hk
            clear hk
            go_wp2_with fail
            refine (mLetDigC _ _).mono ?_; rintro e w1 ⟨rfl, rfl⟩
            rw [HK.out]
            go_wp2
            go_ret
            exact ⟨ret_bool HN.out.symm, rfl⟩
        · have hmi : ¬ (m : Int) < (s.size : Int) := by omega
          have HN : Box (subOk false s.data.toList = true) := box (by
            have h := HM.out
            rw [List.take_of_length_le (by simp; omega)] at h
            rw [HV.out, h])
          go_wp2
          go_ret
          exact ⟨ret_bool HN.out.symm, rfl⟩
theorem mIsSub1_is {s : ByteArray} {q : Bool} {w : World} (hs : s.size ≤ 65000) (h : Box (subOk true s.data.toList = q)) :
    Calls Tryz.prog 149 #[.string s, .func (.func 150) #[] #[]] w fun e w' => e = .returned (.bool q) ∧ w = w' :=
  (mIsSub_true s w hs).mono fun e w' ⟨h1, h2⟩ => ⟨by rw [h1, h.out], h2⟩
theorem mIsSub0_is {s : ByteArray} {q : Bool} {w : World} (hs : s.size ≤ 65000) (h : Box (subOk false s.data.toList = q)) :
    Calls Tryz.prog 149 #[.string s, .func (.func 151) #[] #[]] w fun e w' => e = .returned (.bool q) ∧ w = w' :=
  (mIsSub_false s w hs).mono fun e w' ⟨h1, h2⟩ => ⟨by rw [h1, h.out], h2⟩
/-- what is left to be judged: the pieces of t, if there is a piece at all -/
def moreT (more : Bool) (t : List UInt8) : Bool := !more || (subL t).all (subOk false)
theorem cut_sub (l : List UInt8) : subL l = cut1 45 l :: (if cutB 45 l = true then subL (cut2 45 l) else []) := by
  by_cases h : cutB 45 l = true
  · rw [if_pos h]
    conv => lhs; rw [cut_join h]
    exact sub_at (cut1_not 45 l)
  · rw [if_neg h]
    have h2 : cutB 45 l = false := by cases e : cutB 45 l with
      | true => exact absurd e h
      | false => rfl
    have hn : (45 : UInt8) ∉ l := by simpa [cutB] using h2
    have e : Lib.indexByte l 45 = -1 := by
      by_cases q : Lib.indexByte l 45 = -1
      · exact q
      · exfalso
        obtain ⟨k, hk⟩ : ∃ k : Nat, Lib.indexByte l 45 = k := ⟨(Lib.indexByte l 45).toNat, by have := Lib.indexByte_ge l 45; omega⟩
        have := (cut_at hk).2.2.2
        rw [h2] at this; cases this
    rw [(cut_no e).1, sub_no hn]
theorem tag_cut (l : List UInt8) : tagL l = (subOk true (cut1 45 l) && moreT (cutB 45 l) (cut2 45 l)) := by
  unfold tagL moreT
  rw [cut_sub l]
  show (subOk true (cut1 45 l) && _) = _
  congr 1
  cases cutB 45 l <;> rfl
theorem more_cut (l : List UInt8) : moreT true l = (subOk false (cut1 45 l) && moreT (cutB 45 l) (cut2 45 l)) := by
  unfold moreT
  rw [Bool.not_true, Bool.false_or, cut_sub l, List.all_cons]
  congr 1
  cases cutB 45 l <;> rfl
theorem cut_small45 (l : List UInt8) : (cut1 45 l).length ≤ l.length ∧ (cut2 45 l).length ≤ l.length ∧ (cutB 45 l = true → (cut2 45 l).length < l.length) := by
  refine ⟨(List.takeWhile_prefix _).length_le, ?_, ?_⟩
  · unfold cut2; have := (List.dropWhile_suffix (l := l) (fun x => x != (45 : UInt8))).length_le; simp; omega
  · intro h; have := congrArg List.length (cut_join h); rw [List.length_append, List.length_cons] at this; omega
/-- the loop over the pieces: rest and more -/
def MtR (m : Bool) (n : Nat) (W : World) (t b : Value) (wr : World) : Prop :=
  ∃ (r : ByteArray) (q : Bool), t = .string r ∧ b = .bool q ∧ r.size ≤ n ∧ moreT q r.data.toList = m ∧ Below W.heap.size W wr
def boolV : Value → Bool
  | .bool b => b
  | _ => false
set_option maxHeartbeats 1000000 in
theorem mTag_any (s : ByteArray) (w : World) (hs : s.size ≤ 65000) :
    Calls Tryz.prog 121 #[.string s] w fun e w' => e = .returned (.bool (tagL s.data.toList)) ∧ Below w.heap.size w w' := by
  obtain ⟨v, hv⟩ : ∃ v, tagL s.data.toList = v := ⟨_, rfl⟩
  have hT := tag_cut s.data.toList
  have hC := cut_small45 s.data.toList
  have hz : s.data.toList.length = s.size := by simp
  have hsm : s.size ≤ maxLen := by unfold maxLen; omega
  rw [hv] at hT
  have HCV : Box (cutV 45 s.data.toList = .tuple #[.string (bs (cut1 45 s.data.toList)), .string (bs (cut2 45 s.data.toList)), .bool (cutB 45 s.data.toList)]) := box rfl
  obtain ⟨x, hx⟩ : ∃ x, cut1 45 s.data.toList = x := ⟨_, rfl⟩
  obtain ⟨y, hy⟩ : ∃ y, cut2 45 s.data.toList = y := ⟨_, rfl⟩
  obtain ⟨b, hb⟩ : ∃ b, cutB 45 s.data.toList = b := ⟨_, rfl⟩
  rw [hx, hy, hb] at HCV
  rw [hx, hy, hb] at hT
  rw [hx, hy] at hC
  have hxz : (bs x).size ≤ 65000 := by rw [bs_size]; omega
  have hyz : (bs y).size ≤ 65000 := by rw [bs_size]; omega
  have HV : Box (∀ q, subOk true x = q → v = (q && moreT b y)) := box (fun q hq => by rw [← hq, hT])
  have HVV := box hv
  rw [hv]
  clear hx hy hb hv hT hC hz
  go_enter Tryz.func121, Tryz.ntmps121
  go_wp2_with fail
  refine (Cut_any s 45 _ hsm).mono ?_; rintro e w1 ⟨rfl, hb1⟩
  rw [HCV.out]
  have B1 := box hb1
  clear hb1
  cases hq : subOk true x with
  | false =>
    have HQ : Box (subOk true (bs x).data.toList = false) := box hq
    have HR : Box (v = false) := box (by rw [HV.out _ hq]; rfl)
    clear hq
    go_wp2_with fail
    refine (mIsSub1_is hxz HQ).mono ?_; rintro e w2 ⟨rfl, rfl⟩
    go_wp2
    go_ret
    exact ⟨ret_bool HR.out.symm, B1.out⟩
  | true =>
    have HQ : Box (subOk true (bs x).data.toList = true) := box hq
    have HR : Box (moreT b (bs y).data.toList = v) := box (by rw [HV.out _ hq]; rfl)
    clear hq
    go_wp2_with fail
    refine (mIsSub1_is hxz HQ).mono ?_; rintro e w2 ⟨rfl, rfl⟩
    go_wp2
    go_loopw [4, 5, 6] (fun t q _ wr => MtR v 65000 w1 t q wr) (fun t q _ _ => (strLen t) + (if boolV q = true then 1 else 0))
    case atStart => exact ⟨bs y, b, rfl, rfl, hyz, HR.out, Below.refl _ _⟩
    case round =>
      obtain ⟨r, q, rfl, rfl, hr, hm, hbel⟩ := hrel
      have BL := box hbel
      have HM := box hm
      clear hm hbel
      cases q with
      | false =>
        have HF : Box (v = true) := box (by rw [← HM.out]; rfl)
        go_wp2
        go_ret
        exact ⟨ret_bool HF.out.symm, B1.out.trans (BL.out.mono B1.out.size)⟩
      | true =>
        have hT := more_cut r.data.toList
        rw [HM.out] at hT
        have hC := cut_small45 r.data.toList
        have hz : r.data.toList.length = r.size := by simp
        have hrm : r.size ≤ maxLen := by unfold maxLen; omega
        have HCV : Box (cutV 45 r.data.toList = .tuple #[.string (bs (cut1 45 r.data.toList)), .string (bs (cut2 45 r.data.toList)), .bool (cutB 45 r.data.toList)]) := box rfl
        obtain ⟨x', hx⟩ : ∃ x', cut1 45 r.data.toList = x' := ⟨_, rfl⟩
        obtain ⟨y', hy⟩ : ∃ y', cut2 45 r.data.toList = y' := ⟨_, rfl⟩
        obtain ⟨b', hb⟩ : ∃ b', cutB 45 r.data.toList = b' := ⟨_, rfl⟩
        rw [hx, hy, hb] at HCV
        rw [hx, hy, hb] at hT
        rw [hx, hy, hb] at hC
        have hxz' : (bs x').size ≤ 65000 := by rw [bs_size]; omega
        have hyz' : (bs y').size ≤ 65000 := by rw [bs_size]; omega
        have HY : Box ((bs y').size + (if b' = true then 1 else 0) < r.size + 1) := box (by
          rw [bs_size]
          cases b' with
          | true => have := hC.2.2 rfl; simp; omega
          | false => simp; omega)
        have HV2 : Box (∀ q, subOk false x' = q → v = (q && moreT b' y')) := box (fun q hq => by rw [← hq, hT])
        clear hx hy hb hT hC hz
        go_wp2_with fail
        refine (Cut_any r 45 _ hrm).mono ?_; rintro e w3 ⟨rfl, hb3⟩
        rw [HCV.out]
        have B3 := box (BL.out.trans (hb3.mono BL.out.size))
        clear hb3
        cases hq : subOk false x' with
        | false =>
          have HQ : Box (subOk false (bs x').data.toList = false) := box hq
          have HR : Box (v = false) := box (by rw [HV2.out _ hq]; rfl)
          clear hq
          go_wp2_with fail
          refine (mIsSub0_is hxz' HQ).mono ?_; rintro e w2 ⟨rfl, rfl⟩
          go_wp2
          go_ret
          exact ⟨ret_bool HR.out.symm, B1.out.trans (B3.out.mono B1.out.size)⟩
        | true =>
          have HQ : Box (subOk false (bs x').data.toList = true) := box hq
          have HR : Box (moreT b' (bs y').data.toList = v) := box (by rw [HV2.out _ hq]; rfl)
          clear hq
          go_wp2_with fail
          refine (mIsSub0_is hxz' HQ).mono ?_; rintro e w2 ⟨rfl, rfl⟩
          go_wp2
          go_roundw
          case rel => exact ⟨bs y', b', rfl, rfl, hyz', HR.out, B3.out⟩
          case measure => exact HY.out
theorem mTagM_is {s : ByteArray} {b : Bool} {w : World} (hs : s.size ≤ 65000) (h : Box (tagL s.data.toList = b)) :
    Calls Tryz.prog 121 #[.string s] w fun e w' => e = .returned (.bool b) ∧ Below w.heap.size w w' :=
  (mTag_any s w hs).mono fun e w' ⟨h1, h2⟩ => ⟨by rw [h1, h.out], h2⟩
theorem mRangeT_any (s : ByteArray) (w : World) (hs : s.size ≤ 65000) :
    Calls Tryz.prog 144 #[.string s] w fun e w' => e = .returned (.bool (rangeT s.data.toList)) ∧ Below w.heap.size w w' := by
  have hst := star_list (s := s)
  by_cases h : s.data.toList = [42]
  · rw [decide_eq_true h] at hst
    have HV : Box (rangeT s.data.toList = true) := box (by unfold rangeT; rw [decide_eq_true h, Bool.true_or])
    clear h
    go_enter Tryz.func144, Tryz.ntmps144
    go_wp2
    go_ret
    exact ⟨ret_bool HV.out.symm, Below.refl _ _⟩
  · rw [decide_eq_false h] at hst
    have HV : Box (rangeT s.data.toList = tagL s.data.toList) := box (by unfold rangeT; rw [decide_eq_false h, Bool.false_or])
    clear h
    go_enter Tryz.func144, Tryz.ntmps144
    go_wp2_with fail
    refine (mTag_any s _ hs).mono ?_; rintro e w1 ⟨rfl, hb1⟩
    go_wp2
    go_ret
    exact ⟨ret_bool HV.out.symm, hb1⟩
end
section
open Go.RowKit
/-- does t begin with the subtags r? byte by byte -/
def begL : List UInt8 → List UInt8 → Bool
  | [], [] => true
  | [], d :: _ => decide (d = 45)
  | _ :: _, [] => false
  | c :: r, d :: t => decide (lowB c = lowB d) && begL r t
theorem fold_nil (y : List UInt8) : foldL [] y = decide (y = []) := by
  unfold foldL
  cases y with
  | nil => rfl
  | cons d y => rw [lowL_cons]; rfl
theorem fold_cons (c d : UInt8) (x y : List UInt8) : foldL (c :: x) (d :: y) = (decide (lowB c = lowB d) && foldL x y) := by
  unfold foldL
  rw [lowL_cons, lowL_cons, Bool.eq_iff_iff]
  simp
theorem fold_one (c : UInt8) (x : List UInt8) : foldL (c :: x) [] = false := by
  unfold foldL
  rw [lowL_cons]; rfl
theorem pref_beg : ∀ r t : List UInt8, prefS (subL r) (subL t) = begL r t
  | [], [] => rfl
  | [], d :: t => by
    show prefS [[]] (subL (d :: t)) = decide (d = 45)
    by_cases hd : d = 45
    · subst hd; rw [subL_hyp]; rfl
    · obtain ⟨y, ys, e⟩ := subL_cons t
      rw [subL_chr hd e, decide_eq_false hd]
      show (foldL [] (d :: y) && _) = false
      rw [fold_nil]; rfl
  | c :: r, [] => by
    obtain ⟨x, xs, e⟩ := subL_cons r
    show prefS (subL (c :: r)) [[]] = false
    by_cases hc : c = 45
    · subst hc; rw [subL_hyp, e]; rfl
    · rw [subL_chr hc e]
      show (foldL (c :: x) [] && _) = false
      rw [fold_one]; rfl
  | c :: r, d :: t => by
    have ih := pref_beg r t
    obtain ⟨x, xs, e⟩ := subL_cons r
    obtain ⟨y, ys, e2⟩ := subL_cons t
    show _ = (decide (lowB c = lowB d) && begL r t)
    by_cases hc : c = 45
    · subst hc
      rw [subL_hyp]
      by_cases hd : d = 45
      · subst hd
        rw [subL_hyp, ← ih]; rfl
      · have hn : ¬ lowB 45 = lowB d := by
          intro q
          have : lowB (45 : UInt8) = 45 := by decide +kernel
          rw [this] at q
          exact hd ((low_more d).1.1 q.symm)
        rw [subL_chr hd e2, decide_eq_false hn, Bool.false_and]
        show (foldL [] (d :: y) && _) = false
        rw [fold_nil]; rfl
    · rw [subL_chr hc e]
      by_cases hd : d = 45
      · subst hd
        have hn : ¬ lowB c = lowB 45 := by
          intro q
          have : lowB (45 : UInt8) = 45 := by decide +kernel
          rw [this] at q
          exact hc ((low_more c).1.1 q)
        rw [subL_hyp, decide_eq_false hn, Bool.false_and]
        show (foldL (c :: x) [] && _) = false
        rw [fold_one]; rfl
      · rw [subL_chr hd e2]
        show (foldL (c :: x) (d :: y) && prefS xs ys) = _
        rw [fold_cons, Bool.and_assoc]
        rw [e, e2] at ih
        rw [← ih]; rfl
theorem beg_short : ∀ {r t : List UInt8}, t.length < r.length → begL r t = false
  | [], _, h => absurd h (Nat.not_lt_zero _)
  | _ :: _, [], _ => rfl
  | c :: r, d :: t, h => by show (_ && begL r t) = false; rw [beg_short (by simpa using h), Bool.and_false]
theorem beg_at : ∀ {r t : List UInt8}, r.length ≤ t.length → begL r t = (foldL (t.take r.length) r && (decide (t.length = r.length) || decide (t.getD r.length 0 = 45)))
  | [], [], _ => rfl
  | [], d :: t, _ => by simp [begL, fold_nil]
  | _ :: _, [], h => by simp at h
  | c :: r, d :: t, h => by
    have ih := beg_at (r := r) (t := t) (by simpa using h)
    have e1 : decide (lowB d = lowB c) = decide (lowB c = lowB d) := decide_eq_decide.2 eq_comm
    have e2 : decide ((d :: t).length = (c :: r).length) = decide (t.length = r.length) := decide_eq_decide.2 (by rw [List.length_cons, List.length_cons]; omega)
    have e3 : (d :: t).getD (c :: r).length 0 = t.getD r.length 0 := rfl
    have e4 : (d :: t).take (c :: r).length = d :: t.take r.length := rfl
    rw [e2, e3, e4, fold_cons, e1, Bool.and_assoc, ← ih]; rfl
theorem count_sub : ∀ l : List UInt8, (subL l).length = Lib.countByte l 45 + 1
  | [] => rfl
  | c :: r => by
    have ih := count_sub r
    obtain ⟨x, xs, e⟩ := subL_cons r
    unfold Lib.countByte at ih ⊢
    rw [List.count_cons]
    by_cases hc : c = 45
    · subst hc; rw [subL_hyp]; simp; omega
    · rw [subL_chr hc e]
      rw [e] at ih
      rw [if_neg (by simpa using hc)]
      simpa using ih
theorem mCount_any (s : ByteArray) (w : World) (hs : s.size ≤ 65000) :
    Calls Tryz.prog 173 #[.string s, .string ⟨#[45]⟩] w fun e w' => e = .returned (.int .i64 (Lib.countByte s.data.toList 45 : Nat)) ∧ w = w' := by
  have hone : ((⟨#[45]⟩ : ByteArray).size : Int) = 1 := rfl
  go_enter Tryz.func173, Tryz.ntmps173
  go_wp2
  rw [run_callFunc_extern Tryz.func184 (by kernel_rfl) (by kernel_rfl) (by kernel_rfl) (e := Extern.BytealgCount.count) (by kernel_rfl), Lib.run_countString]
  simp only [Result.andThen]
  rw [Oper.upon_value]
  go_wp2
  go_ret
  exact ⟨rfl, rfl⟩
theorem mFold11_is {a b : ByteArray} {q : Bool} {w : World} (ha : a.size ≤ 65000) (hb : b.size ≤ 65000) (h : Box (foldL a.data.toList b.data.toList = q)) :
    Calls Tryz.prog 126 #[.string a, .string b] w fun e w' => e = .returned (.bool q) ∧ Below w.heap.size w w' :=
  (Fold_any a b w (by unfold maxLen; omega) (by unfold maxLen; omega)).mono fun e w' ⟨h1, h2⟩ => ⟨by rw [h1, h.out], h2⟩
set_option maxHeartbeats 1000000 in
theorem mBeg_any (t r : ByteArray) (w : World) (ht : t.size ≤ 65000) (hr : r.size ≤ 65000) :
    Calls Tryz.prog 172 #[.string t, .string r] w fun e w' => e = .returned (.bool (begL r.data.toList t.data.toList)) ∧ Below w.heap.size w w' := by
  have hzr : r.data.toList.length = r.size := by simp
  have hzt : t.data.toList.length = t.size := by simp
  by_cases hlt : t.size < r.size
  · have HV : Box (begL r.data.toList t.data.toList = false) := box (beg_short (by omega))
    have hi : (t.size : Int) < (r.size : Int) := by omega
    clear hzr hzt
    go_enter Tryz.func172, Tryz.ntmps172
    go_wp2
    go_ret
    exact ⟨ret_bool HV.out.symm, Below.refl _ _⟩
  · have hV := beg_at (r := r.data.toList) (t := t.data.toList) (by omega)
    have hi : ¬ (t.size : Int) < (r.size : Int) := by omega
    have hi2 : (r.size : Int) ≤ (t.size : Int) := by omega
    have hi3 : (0 : Int) ≤ (r.size : Int) := by omega
    have hez : (t.extract 0 r.size).size ≤ 65000 := by rw [ByteArray.size_extract]; omega
    have HX : Box ((t.extract 0 r.size).data.toList = t.data.toList.take r.data.toList.length) := box (by rw [ext_bs, bs_toList, List.drop_zero, hzr])
    cases hf : foldL (t.data.toList.take r.data.toList.length) r.data.toList with
    | false =>
      have HF : Box (foldL (t.extract 0 r.size).data.toList r.data.toList = false) := box (by rw [HX.out, hf])
      have HV : Box (begL r.data.toList t.data.toList = false) := box (by rw [hV, hf, Bool.false_and])
      clear hzr hzt hV hf
      go_enter Tryz.func172, Tryz.ntmps172
      go_wp2_with fail
      refine (mFold11_is hez hr HF).mono ?_; rintro e w1 ⟨rfl, hb1⟩
      go_wp2
      go_ret
      exact ⟨ret_bool HV.out.symm, hb1⟩
    | true =>
      have HF : Box (foldL (t.extract 0 r.size).data.toList r.data.toList = true) := box (by rw [HX.out, hf])
      rw [hf, Bool.true_and] at hV
      by_cases he : t.size = r.size
      · have hei : ((t.size : Int) == (r.size : Int)) = true := by rw [he]; simp
        have HV : Box (begL r.data.toList t.data.toList = true) := box (by rw [hV, hzr, hzt, decide_eq_true he, Bool.true_or])
        clear hzr hzt hV hf he
        go_enter Tryz.func172, Tryz.ntmps172
        go_wp2_with fail
        refine (mFold11_is hez hr HF).mono ?_; rintro e w1 ⟨rfl, hb1⟩
        go_wp2
        go_ret
        exact ⟨ret_bool HV.out.symm, hb1⟩
      · have hei : ((t.size : Int) == (r.size : Int)) = false := by rw [beq_eq_false_iff_ne]; omega
        have hlt2 : r.size < t.size := by omega
        have hli : (r.size : Int) < (t.size : Int) := by omega
        have hg : t.data.toList.getD r.data.toList.length 0 = t[r.size] := by rw [hzr, getD_get _ _ (by omega)]; rfl
        obtain ⟨c, hc⟩ : ∃ c, t[r.size] = c := ⟨_, rfl⟩
        have HV : Box (begL r.data.toList t.data.toList = ((c.toNat : Int) == 45)) := box (by
          rw [hV, hzr, hzt, decide_eq_false he, Bool.false_or, ← hzr, hg, hc, Bool.eq_iff_iff]
          simp only [decide_eq_true_eq, beq_iff_eq]
          constructor
          · intro q; rw [q]; rfl
          · intro q; exact UInt8.toNat_inj.mp (by show c.toNat = 45; omega))
        have HCQ := box hc
        clear hzr hzt hV hf he hg
        go_enter Tryz.func172, Tryz.ntmps172
        go_wp2_with fail
        refine (mFold11_is hez hr HF).mono ?_; rintro e w1 ⟨rfl, hb1⟩
        go_wp2
        go_ret
        exact ⟨ret_bool HV.out.symm, hb1⟩
theorem mBeg_is {t r : ByteArray} {q : Bool} {w : World} (ht : t.size ≤ 65000) (hr : r.size ≤ 65000) (h : Box (begL r.data.toList t.data.toList = q)) :
    Calls Tryz.prog 172 #[.string t, .string r] w fun e w' => e = .returned (.bool q) ∧ Below w.heap.size w w' :=
  (mBeg_any t r w ht hr).mono fun e w' ⟨h1, h2⟩ => ⟨by rw [h1, h.out], h2⟩
theorem mRangeM_is {s : ByteArray} {b : Bool} {w : World} (hs : s.size ≤ 65000) (h : Box (rangeT s.data.toList = b)) :
    Calls Tryz.prog 144 #[.string s] w fun e w' => e = .returned (.bool b) ∧ Below w.heap.size w w' :=
  (mRangeT_any s w hs).mono fun e w' ⟨h1, h2⟩ => ⟨by rw [h1, h.out], h2⟩
theorem match_beg {r t : List UInt8} (h1 : rangeT r = true) (h2 : tagL t = true) (h3 : r ≠ [42]) : matchT r t = if begL r t = true then 1 + (Lib.countByte r 45 : Int) else -1 := by
  unfold matchT
  rw [h1, h2, if_neg (by simp), if_neg h3, pref_beg, count_sub]
  split
  · push_cast; omega
  · rfl
set_option maxHeartbeats 1000000 in
theorem mMatchT_any (r t : ByteArray) (w : World) (hr : r.size ≤ 65000) (ht : t.size ≤ 65000) :
    Calls Tryz.prog 154 #[.string r, .string t] w fun e w' => e = .returned (.int .i64 (matchT r.data.toList t.data.toList)) ∧ Below w.heap.size w w' := by
  cases h1 : rangeT r.data.toList with
  | false =>
    have HV : Box (matchT r.data.toList t.data.toList = -1) := box (match_no (by rw [h1]; rfl))
    have H1 := box h1
    clear h1
    go_enter Tryz.func154, Tryz.ntmps154
    go_wp2_with fail
    refine (mRangeM_is hr H1).mono ?_; rintro e w1 ⟨rfl, hb1⟩
    go_wp2
    go_ret
    exact ⟨by rw [HV.out]; rfl, hb1⟩
  | true =>
    have H1 := box h1
    cases h2 : tagL t.data.toList with
    | false =>
      have HV : Box (matchT r.data.toList t.data.toList = -1) := box (match_no (by rw [h1, h2]; rfl))
      have H2 := box h2
      clear h1 h2
      go_enter Tryz.func154, Tryz.ntmps154
      go_wp2_with fail
      refine (mRangeM_is hr H1).mono ?_; rintro e w1 ⟨rfl, hb1⟩
      have B1 := box hb1
      clear hb1
      go_wp2_with fail
      refine (mTagM_is ht H2).mono ?_; rintro e w2 ⟨rfl, hb2⟩
      have B2 := box (B1.out.trans (hb2.mono B1.out.size))
      clear hb2
      go_wp2
      go_ret
      exact ⟨by rw [HV.out]; rfl, B2.out⟩
    | true =>
      have H2 := box h2
      have hst := star_list (s := r)
      by_cases h3 : r.data.toList = [42]
      · have HV : Box (matchT r.data.toList t.data.toList = 0) := box (by rw [h3]; exact match_star h2)
        rw [decide_eq_true h3] at hst
        clear h1 h2 h3
        go_enter Tryz.func154, Tryz.ntmps154
        go_wp2_with fail
        refine (mRangeM_is hr H1).mono ?_; rintro e w1 ⟨rfl, hb1⟩
        have B1 := box hb1
        clear hb1
        go_wp2_with fail
        refine (mTagM_is ht H2).mono ?_; rintro e w2 ⟨rfl, hb2⟩
        have B2 := box (B1.out.trans (hb2.mono B1.out.size))
        clear hb2
        go_wp2
        go_ret
        exact ⟨by rw [HV.out]; rfl, B2.out⟩
      · rw [decide_eq_false h3] at hst
        have hM := match_beg h1 h2 h3
        have hcb : Lib.countByte r.data.toList 45 ≤ r.data.toList.length := List.count_le_length
        have hzr : r.data.toList.length = r.size := by simp
        cases hb : begL r.data.toList t.data.toList with
        | false =>
          have HB := box hb
          have HV : Box (matchT r.data.toList t.data.toList = -1) := box (by rw [hM, hb]; rfl)
          clear h1 h2 h3 hM hcb hzr hb
          go_enter Tryz.func154, Tryz.ntmps154
          go_wp2_with fail
          refine (mRangeM_is hr H1).mono ?_; rintro e w1 ⟨rfl, hb1⟩
          have B1 := box hb1
          clear hb1
          go_wp2_with fail
          refine (mTagM_is ht H2).mono ?_; rintro e w2 ⟨rfl, hb2⟩
          have B2 := box (B1.out.trans (hb2.mono B1.out.size))
          clear hb2
          go_wp2_with fail
          refine (mBeg_is ht hr HB).mono ?_; rintro e w3 ⟨rfl, hb3⟩
          have B3 := box (B2.out.trans (hb3.mono B2.out.size))
          clear hb3
          go_wp2
          go_ret
          exact ⟨by rw [HV.out]; rfl, B3.out⟩
        | true =>
          have HB := box hb
          obtain ⟨n, hn⟩ : ∃ n, Lib.countByte r.data.toList 45 = n := ⟨_, rfl⟩
          have HN := box hn
          rw [hn] at hM hcb
          have hnz : n ≤ 65000 := by omega
          have HV : Box (matchT r.data.toList t.data.toList = 1 + (n : Int)) := box (by rw [hM, hb]; rfl)
          have hwr : IntKind.i64.wrap (1 + (n : Int)) = 1 + (n : Int) := IntWalk.i64_in _ (by omega)
          clear h1 h2 h3 hM hcb hzr hb hn
          go_enter Tryz.func154, Tryz.ntmps154
          go_wp2_with fail
          refine (mRangeM_is hr H1).mono ?_; rintro e w1 ⟨rfl, hb1⟩
          have B1 := box hb1
          clear hb1
          go_wp2_with fail
          refine (mTagM_is ht H2).mono ?_; rintro e w2 ⟨rfl, hb2⟩
          have B2 := box (B1.out.trans (hb2.mono B1.out.size))
          clear hb2
          go_wp2_with fail
          refine (mBeg_is ht hr HB).mono ?_; rintro e w3 ⟨rfl, hb3⟩
          have B3 := box (B2.out.trans (hb3.mono B2.out.size))
          clear hb3
          go_wp2_with fail
          refine (mCount_any r _ hr).mono ?_; rintro e w4 ⟨rfl, rfl⟩
          rw [HN.out]
          go_wp2
          go_ret
          exact ⟨by rw [HV.out]; rfl, B3.out⟩
theorem mMatchM_is {r t : ByteArray} {i : Int} {w : World} (hr : r.size ≤ 65000) (ht : t.size ≤ 65000) (h : Box (matchT r.data.toList t.data.toList = i)) :
    Calls Tryz.prog 154 #[.string r, .string t] w fun e w' => e = .returned (.int .i64 i) ∧ Below w.heap.size w w' :=
  (mMatchT_any r t w hr ht).mono fun e w' ⟨h1, h2⟩ => ⟨by rw [h1, h.out], h2⟩
end
section
open Go.RowKit
theorem mLow12_is {s x : ByteArray} {w : World} (hs : s.size ≤ 4294967296) (h : Box (bs (lowL s.data.toList) = x)) :
    Calls Tryz.prog 130 #[.string s] w fun e w' => e = .returned (.string x) ∧ Below w.heap.size w w' :=
  (Lower_any s w hs).mono fun e w' ⟨h1, h2⟩ => ⟨by rw [h1, ← h.out]; rfl, h2⟩
theorem mCan_any (k : Int) (s : ByteArray) (w : World) (hk : InI64 k) (hs : s.size ≤ 65536) :
    Calls Tryz.prog 143 #[.int .i64 k, .string s] w fun e w' => e = .returned (.string (bs (canL k s.data.toList))) ∧ Below w.heap.size w w' := by
  have hs4 : s.size ≤ 4294967296 := by omega
  obtain ⟨l, hl⟩ : ∃ l, lowL s.data.toList = l := ⟨_, rfl⟩
  have HX : Box (bs (lowL s.data.toList) = bs l) := box (by rw [hl])
  by_cases h4 : k = 4
  · subst h4
    by_cases h1 : l = xgzL
    · have HV : Box (canL 4 s.data.toList = gzL) := box (by unfold canL; rw [hl, if_pos ⟨rfl, h1⟩])
      subst h1
      clear hl
      go_enter Tryz.func143, Tryz.ntmps143
      go_wp2_with fail
      refine (mLow12_is hs4 HX).mono ?_; rintro e w1 ⟨rfl, hb1⟩; rw [show bs xgzL = ⟨#[120, 45, 103, 122, 105, 112]⟩ from rfl]
      go_wp2
      go_ret
      exact ⟨by rw [HV.out]; rfl, hb1⟩
    · have e1 : ((bs l).toList == [120, 45, 103, 122, 105, 112]) = false := by rw [bs_list]; exact beq_list (decide_eq_false h1)
      by_cases h2 : l = xcoL
      · have HV : Box (canL 4 s.data.toList = coL) := box (by unfold canL; rw [hl, if_neg (fun q => h1 q.2), if_pos ⟨rfl, h2⟩])
        subst h2
        clear hl e1
        go_enter Tryz.func143, Tryz.ntmps143
        go_wp2_with fail
        refine (mLow12_is hs4 HX).mono ?_; rintro e w1 ⟨rfl, hb1⟩; rw [show bs xcoL = ⟨#[120, 45, 99, 111, 109, 112, 114, 101, 115, 115]⟩ from rfl]
        go_wp2
        go_ret
        exact ⟨by rw [HV.out]; rfl, hb1⟩
      · have e2 : ((bs l).toList == [120, 45, 99, 111, 109, 112, 114, 101, 115, 115]) = false := by rw [bs_list]; exact beq_list (decide_eq_false h2)
        have HV : Box (canL 4 s.data.toList = l) := box (by unfold canL; rw [hl, if_neg (fun q => h1 q.2), if_neg (fun q => h2 q.2)])
        clear hl h1 h2
        go_enter Tryz.func143, Tryz.ntmps143
        go_wp2_with fail
        refine (mLow12_is hs4 HX).mono ?_; rintro e w1 ⟨rfl, hb1⟩
        go_wp2
        go_ret
        exact ⟨by rw [HV.out]; rfl, hb1⟩
  · have e4 : (k != 4) = true := by rw [bne_iff_ne]; exact h4
    have HV : Box (canL k s.data.toList = l) := box (by unfold canL; rw [hl, if_neg (fun q => h4 q.1), if_neg (fun q => h4 q.1)])
    clear hl h4
    go_enter Tryz.func143, Tryz.ntmps143
    go_wp2_with fail
    refine (mLow12_is hs4 HX).mono ?_; rintro e w1 ⟨rfl, hb1⟩
    go_wp2
    go_ret
    exact ⟨by rw [HV.out]; rfl, hb1⟩
theorem mCan0_is {k : Int} {s x : ByteArray} {w : World} (hk : InI64 k) (hs : s.size ≤ 65536) (h : Box (bs (canL k s.data.toList) = x)) :
    Calls Tryz.prog 143 #[.int .i64 k, .string s] w fun e w' => e = .returned (.string x) ∧ Below w.heap.size w w' :=
  (mCan_any k s w hk hs).mono fun e w' ⟨h1, h2⟩ => ⟨by rw [h1, h.out], h2⟩
theorem mMatchC_any (k : Int) (r v : ByteArray) (w : World) (hk : InI64 k) (hr : r.size ≤ 65536) (hv : v.size ≤ 65536) :
    Calls Tryz.prog 174 #[.int .i64 k, .string r, .string v] w fun e w' => e = .returned (.int .i64 (matchC k r.data.toList v.data.toList)) ∧ Below w.heap.size w w' := by
  have hst := star12 (s := r)
  by_cases h : r.data.toList = [42]
  · have HV : Box (matchC k r.data.toList v.data.toList = 0) := box (by rw [h]; exact matchC_star _ _)
    rw [decide_eq_true h] at hst
    clear h
    go_enter Tryz.func174, Tryz.ntmps174
    go_wp2
    go_ret
    exact ⟨by rw [HV.out]; rfl, Below.refl _ _⟩
  · rw [decide_eq_false h] at hst
    obtain ⟨x, hx⟩ : ∃ x, canL k r.data.toList = x := ⟨_, rfl⟩
    obtain ⟨y, hy⟩ : ∃ y, canL k v.data.toList = y := ⟨_, rfl⟩
    have HX : Box (bs (canL k r.data.toList) = bs x) := box (by rw [hx])
    have HY : Box (bs (canL k v.data.toList) = bs y) := box (by rw [hy])
    have HV : Box (matchC k r.data.toList v.data.toList = if x = y then 1 else -1) := box (by rw [matchC_not h, hx, hy])
    clear hx hy h
    by_cases he : x = y
    · subst he
      rw [if_pos rfl] at HV
      have e1 : ((bs x).toList == (bs x).toList) = true := by simp
      go_enter Tryz.func174, Tryz.ntmps174
      go_wp2_with fail
      refine (mCan0_is hk hr HX).mono ?_; rintro e w1 ⟨rfl, hb1⟩
      have B1 := box hb1
      clear hb1
      go_wp2_with fail
      refine (mCan0_is hk hv HY).mono ?_; rintro e w2 ⟨rfl, hb2⟩
      have B2 := box (B1.out.trans (hb2.mono B1.out.size))
      clear hb2
      go_wp2
      go_ret
      exact ⟨by rw [HV.out]; rfl, B2.out⟩
    · rw [if_neg he] at HV
      have e1 : ((bs x).toList == (bs y).toList) = false := by rw [bs_list, bs_list]; exact beq_list (decide_eq_false he)
      clear he
      go_enter Tryz.func174, Tryz.ntmps174
      go_wp2_with fail
      refine (mCan0_is hk hr HX).mono ?_; rintro e w1 ⟨rfl, hb1⟩
      have B1 := box hb1
      clear hb1
      go_wp2_with fail
      refine (mCan0_is hk hv HY).mono ?_; rintro e w2 ⟨rfl, hb2⟩
      have B2 := box (B1.out.trans (hb2.mono B1.out.size))
      clear hb2
      go_wp2
      go_ret
      exact ⟨by rw [HV.out]; rfl, B2.out⟩
end
section
open Go.RowKit
/-- the table of weights, as the program's text lays it -/
def Wts (w : World) : Prop := w.cell? ⟨0, 0, none⟩ = some (.int .i64 100) ∧ w.cell? ⟨0, 1, none⟩ = some (.int .i64 10) ∧ w.cell? ⟨0, 2, none⟩ = some (.int .i64 1) ∧ 0 < w.heap.size
theorem Wts.below {w w' : World} (h : Wts w) (b : Below w.heap.size w w') : Wts w' := by
  obtain ⟨h0, h1, h2, hs⟩ := h
  have c : ∀ i, w'.cell? ⟨0, i, none⟩ = w.cell? ⟨0, i, none⟩ := fun i => b.cell hs
  exact ⟨by rw [c, h0], by rw [c, h1], by rw [c, h2], Nat.lt_of_lt_of_le hs b.size⟩
def cutQV (l : List UInt8) : Value := .tuple #[.string (bs (cutQ l).1), .string (bs (cutQ l).2)]
theorem cutPoint_any (s : ByteArray) (w : World) (hs : s.size ≤ 9223372036854775807) :
    Calls Tryz.prog 165 #[.string s] w fun e w' => e = .returned (cutQV s.data.toList) ∧ Below w.heap.size w w' := by
  have hz : s.data.toList.length = s.size := by simp
  by_cases h1 : 1 < s.size
  · have hl := list_second h1
    by_cases h46 : s[1] = 46
    · have HV : Box (cutQV s.data.toList = .tuple #[.string (s.extract 0 1), .string (s.extract 2 s.size)]) := box (by
        have e1 : s.extract 0 1 = bs [s[0]] := by rw [ext_bs, hl]; rfl
        have e2 : s.extract 2 s.size = bs (s.data.toList.drop 2) := by rw [ext_bs, List.take_of_length_le (by omega)]
        rw [e1, e2]
        unfold cutQV
        rw [hl]
        show Value.tuple #[.string (bs (if s[1] = 46 then ([s[0]], s.data.toList.drop 2) else (s[0] :: s[1] :: s.data.toList.drop 2, [])).1), .string (bs (if s[1] = 46 then ([s[0]], s.data.toList.drop 2) else (s[0] :: s[1] :: s.data.toList.drop 2, [])).2)] = _
        rw [if_pos h46]; rfl)
      have hb : ((s[1].toNat : Int) == 46) = true := by rw [h46]; rfl
      have hi : (1 : Int) < (s.size : Int) := by omega
      clear hl h46 hz
      go_enter Tryz.func165, Tryz.ntmps165
      go_wp2
      go_quiet (fail)
      go_wp2
      go_ret2
      exact ⟨by rw [HV.out]; rfl, below_drewN _ _⟩
    · have HV : Box (cutQV s.data.toList = .tuple #[.string s, .string ⟨#[]⟩]) := box (by
        unfold cutQV
        rw [hl]
        show Value.tuple #[.string (bs (if s[1] = 46 then ([s[0]], s.data.toList.drop 2) else (s[0] :: s[1] :: s.data.toList.drop 2, [])).1), .string (bs (if s[1] = 46 then ([s[0]], s.data.toList.drop 2) else (s[0] :: s[1] :: s.data.toList.drop 2, [])).2)] = _
        rw [if_neg h46, ← hl]; rfl)
      have hb : ((s[1].toNat : Int) == 46) = false := by rw [beq_eq_false_iff_ne]; exact fun e => h46 (byte8 (d := 46) e)
      have hi : (1 : Int) < (s.size : Int) := by omega
      clear hl h46 hz
      go_enter Tryz.func165, Tryz.ntmps165
      go_wp2
      go_ret2
      exact ⟨by rw [HV.out]; rfl, Below.refl _ _⟩
  · have HV : Box (cutQV s.data.toList = .tuple #[.string s, .string ⟨#[]⟩]) := box (by
      unfold cutQV
      match h : s.data.toList with
      | [] => show Value.tuple #[.string (bs []), .string (bs [])] = _; rw [← h]; rfl
      | [a] => show Value.tuple #[.string (bs [a]), .string (bs [])] = _; rw [← h]; rfl
      | a :: b :: r => exfalso; rw [h] at hz; simp only [List.length_cons] at hz; omega)
    have hi : ¬ (1 : Int) < (s.size : Int) := by omega
    clear hz
    go_enter Tryz.func165, Tryz.ntmps165
    go_wp2
    go_ret2
    exact ⟨by rw [HV.out]; rfl, Below.refl _ _⟩
/-- ahead of digit k: what has been read, and what the rest says -/
def FrRel (s : ByteArray) (v i : Value) : Prop :=
  ∃ (k : Nat) (q : Int), i = .int .i64 k ∧ v = .int .i64 q ∧ k ≤ s.size ∧ 0 ≤ q ∧ q ≤ 1000 * k ∧ fracO s.data.toList = qvD q (wt3 k) (s.data.toList.drop k)
theorem one_yes {s : ByteArray} {k : Nat} (hk : k < s.size) (h : digitI s[k].toNat = true) : numT (numL (s.extract k (k + 1)).data.toList) = .tuple #[.int .i64 ((s[k].toNat : Int) - 48), .bool true] := by
  have e : (s.extract k (k + 1)).data.toList = [s[k]] := by
    rw [ext_bs, bs_toList, List.take_succ_eq_append_getElem (by simpa using hk), List.drop_append_of_le_length (by simp; omega), List.drop_of_length_le (by simp; omega)]; rfl
  rw [e]
  have key : ∀ c : Fin 256, digitI c.1 = true → numL [UInt8.ofNat c.1] = some ((c.1 : Int) - 48) := by decide +kernel
  have := key ⟨s[k].toNat, s[k].toNat_lt⟩ h
  simp only [UInt8.ofNat_toNat] at this
  rw [this]; rfl
theorem one_no {s : ByteArray} {k : Nat} (hk : k < s.size) (h : digitI s[k].toNat = false) : numT (numL (s.extract k (k + 1)).data.toList) = .tuple #[.int .i64 0, .bool false] := by
  have e : (s.extract k (k + 1)).data.toList = [s[k]] := by
    rw [ext_bs, bs_toList, List.take_succ_eq_append_getElem (by simpa using hk), List.drop_append_of_le_length (by simp; omega), List.drop_of_length_le (by simp; omega)]; rfl
  rw [e]
  have : numL [s[k]] = none := by
    unfold numL
    rw [if_neg]
    rintro ⟨q, _⟩
    simp [allI] at q
    rw [h] at q; cases q
  rw [this]; rfl
theorem parseFraction_any (s : ByteArray) (w : World) (hs : s.size ≤ 9223372036854775807) (hW : Wts w) :
    Calls Tryz.prog 166 #[.string s] w fun e w' => e = .returned (qvT (fracO s.data.toList)) ∧ w = w' := by
  have hz : s.data.toList.length = s.size := by simp
  by_cases h3 : 3 < s.size
  · have HV : Box (fracO s.data.toList = none) := box (by unfold fracO; rw [if_pos (by omega)])
    have hi : (3 : Int) < (s.size : Int) := by omega
    clear hz
    go_enter Tryz.func166, Tryz.ntmps166
    go_wp2
    go_ret2
    exact ⟨by rw [HV.out]; rfl, rfl⟩
  · have HV : Box (fracO s.data.toList = qvD 0 (wt3 0) (s.data.toList.drop 0)) := box (by unfold fracO; rw [if_neg (by omega)]; rfl)
    have hi : ¬ (3 : Int) < (s.size : Int) := by omega
    obtain ⟨hw0, hw1, hw2, _⟩ := hW
    clear hz
    go_enter Tryz.func166, Tryz.ntmps166
    go_wp2
    go_loop [4, 5, 6, 7, 13] (fun v _ _ _ i => FrRel s v i) (fun _ _ _ _ i => s.size - (intOf i).toNat)
    case atStart => exact ⟨0, 0, rfl, rfl, Nat.zero_le _, by omega, by omega, HV.out⟩
    case round =>
      obtain ⟨k, q, rfl, rfl, hk, hq0, hq1, hQ⟩ := hrel
      have HQ := box hQ
      clear hQ
      by_cases hlt : k < s.size
      · have hl : s.data.toList.drop k = s[k] :: s.data.toList.drop (k + 1) := List.drop_eq_getElem_cons (l := s.data.toList) (i := k) (by simpa using hlt)
        have hx : (s.extract k (k + 1)).size ≤ maxLen := by unfold maxLen; rw [ByteArray.size_extract]; omega
        have HX := box hx
        clear hx
        rcases hd : digitI s[k].toNat with _ | _
        · have HN := box (one_no hlt hd)
          have HE : Box (fracO s.data.toList = none) := box (by rw [HQ.out, hl, qvD_cons, hd]; rfl)
          clear hl hd
          obtain rfl | rfl | rfl : k = 0 ∨ k = 1 ∨ k = 2 := by omega
          all_goals
            go_wp2_with fail
            refine (Number_any _ _ HX.out).mono ?_; rintro e w1 ⟨rfl, rfl⟩; rw [HN.out]
            go_wp2
            go_ret2
            exact ⟨by rw [HE.out]; rfl, rfl⟩
        · have HN := box (one_yes hlt hd)
          have hb := dig_bd hd
          have HE : Box (fracO s.data.toList = qvD (q + ((s[k].toNat : Int) - 48) * wt3 k) (wt3 (k + 1)) (s.data.toList.drop (k + 1))) := box (by rw [HQ.out, hl, qvD_cons, if_pos hd, wt3_next k (by omega)])
          clear hl hd
          obtain rfl | rfl | rfl : k = 0 ∨ k = 1 ∨ k = 2 := by omega
          all_goals
            go_wp2_with fail
            refine (Number_any _ _ HX.out).mono ?_; rintro e w1 ⟨rfl, rfl⟩; rw [HN.out]
            go_wp2
            go_round
            case rel => exact ⟨_, _, by go_num, rfl, hlt, by omega, by omega, by first | exact HE.out | (rw [HE.out, show wt3 2 = 1 from rfl, Int.mul_one])⟩
            case measure => simp [intOf]; omega
      · have HE : Box (fracO s.data.toList = some q) := box (by rw [HQ.out, List.drop_of_length_le (by simp; omega)]; rfl)
        go_wp2
        go_ret2
        exact ⟨by rw [HE.out]; rfl, rfl⟩
theorem qvT_some (t : Int) : qvT (some t) = .tuple #[.int .i64 t, .bool true] := rfl
theorem cutQ_le (l : List UInt8) : (cutQ l).1.length ≤ l.length ∧ (cutQ l).2.length ≤ l.length := by
  match l with
  | [] => exact ⟨Nat.le_refl _, Nat.le_refl _⟩
  | [a] => exact ⟨Nat.le_refl _, Nat.zero_le _⟩
  | a :: p :: ds =>
    show (if p = 46 then ([a], ds) else (a :: p :: ds, [])).1.length ≤ _ ∧ (if p = 46 then ([a], ds) else (a :: p :: ds, [])).2.length ≤ _
    by_cases h : p = 46
    · rw [if_pos h]; simp only [List.length_cons, List.length_nil]; omega
    · rw [if_neg h]; simp only [List.length_cons, List.length_nil]; omega
theorem mParse8_any (s : ByteArray) (w : World) (hs : s.size ≤ 9223372036854775807) (hW : Wts w) :
    Calls Tryz.prog 141 #[.string s] w fun e w' => e = .returned (qvT (qvL s.data.toList)) ∧ Below w.heap.size w w' := by
  have hz : s.data.toList.length = s.size := by simp
  have hcl := cutQ_le s.data.toList
  have hsel := sel_cut s.data.toList
  obtain ⟨W, hWq⟩ : ∃ W, (cutQ s.data.toList).1 = W := ⟨_, rfl⟩
  obtain ⟨F, hFq⟩ : ∃ F, (cutQ s.data.toList).2 = F := ⟨_, rfl⟩
  have HC : Box (cutQV s.data.toList = .tuple #[.string (bs W), .string (bs F)]) := box (by unfold cutQV; rw [hWq, hFq])
  rw [hWq, hFq] at hsel hcl
  have HF : Box ((bs F).size ≤ 9223372036854775807) := box (by rw [bs_size]; omega)
  have HT := box hW
  have HS := box hs
  clear hWq hFq hz hcl hW hs
  cases hf : fracO F with
  | none =>
    have HV : Box (qvL s.data.toList = none) := box (by rw [← hsel, hf]; rfl)
    have HQ := box hf
    clear hsel hf
    go_enter Tryz.func141, Tryz.ntmps141
    go_wp2_with fail
    refine (cutPoint_any _ _ HS.out).mono ?_; rintro e w1 ⟨rfl, hb⟩; rw [HC.out]
    have B1 := box hb
    have T1 := box (HT.out.below hb)
    clear hb
    go_wp2_with fail
    refine (parseFraction_any _ _ HF.out T1.out).mono ?_; rintro e w2 ⟨rfl, rfl⟩; rw [bs_toList, HQ.out, show qvT none = .tuple #[.int .i64 0, .bool false] from rfl]
    go_wp2
    go_ret2
    exact ⟨by rw [HV.out]; rfl, B1.out⟩
  | some t =>
    have hb := frac_bd hf
    have HQ := box hf
    clear hf
    by_cases h8 : W = [48]
    · subst h8
      have HV : Box (qvL s.data.toList = some t) := box (by rw [← hsel, HQ.out]; rfl)
      clear hsel
      go_enter Tryz.func141, Tryz.ntmps141
      go_wp2_with fail
      refine (cutPoint_any _ _ HS.out).mono ?_; rintro e w1 ⟨rfl, hb⟩; rw [HC.out, show bs [48] = ⟨#[48]⟩ from rfl]
      have B1 := box hb
      have T1 := box (HT.out.below hb)
      clear hb
      go_wp2_with fail
      refine (parseFraction_any _ _ HF.out T1.out).mono ?_; rintro e w2 ⟨rfl, rfl⟩; rw [bs_toList, HQ.out, qvT_some]
      go_wp2
      go_ret2
      exact ⟨by rw [HV.out]; rfl, B1.out⟩
    · by_cases h9 : W = [49]
      · subst h9
        by_cases h0 : t = 0
        · subst h0
          have HV : Box (qvL s.data.toList = some 1000) := box (by rw [← hsel, HQ.out]; rfl)
          clear hsel
          go_enter Tryz.func141, Tryz.ntmps141
          go_wp2_with fail
          refine (cutPoint_any _ _ HS.out).mono ?_; rintro e w1 ⟨rfl, hb⟩; rw [HC.out, show bs [49] = ⟨#[49]⟩ from rfl]
          have B1 := box hb
          have T1 := box (HT.out.below hb)
          clear hb
          go_wp2_with fail
          refine (parseFraction_any _ _ HF.out T1.out).mono ?_; rintro e w2 ⟨rfl, rfl⟩; rw [bs_toList, HQ.out, qvT_some]
          go_wp2
          go_ret2
          exact ⟨by rw [HV.out]; rfl, B1.out⟩
        · have HV : Box (qvL s.data.toList = none) := box (by rw [← hsel, HQ.out]; show (if ([49] : List UInt8) = [48] then some t else if ([49] : List UInt8) = [49] ∧ t = 0 then some 1000 else none) = none; rw [if_neg (by decide), if_neg (fun q => h0 q.2)])
          have he : (t == 0) = false := by rw [beq_eq_false_iff_ne]; exact h0
          clear hsel h0
          go_enter Tryz.func141, Tryz.ntmps141
          go_wp2_with fail
          refine (cutPoint_any _ _ HS.out).mono ?_; rintro e w1 ⟨rfl, hb⟩; rw [HC.out, show bs [49] = ⟨#[49]⟩ from rfl]
          have B1 := box hb
          have T1 := box (HT.out.below hb)
          clear hb
          go_wp2_with fail
          refine (parseFraction_any _ _ HF.out T1.out).mono ?_; rintro e w2 ⟨rfl, rfl⟩; rw [bs_toList, HQ.out, qvT_some]
          go_wp2
          go_ret2
          exact ⟨by rw [HV.out]; rfl, B1.out⟩
      · have HV : Box (qvL s.data.toList = none) := box (by rw [← hsel, HQ.out]; show (if W = [48] then some t else if W = [49] ∧ t = 0 then some 1000 else none) = none; rw [if_neg h8, if_neg (fun q => h9 q.1)])
        have el : (bs W).toList = W := by rw [toList_data]; rfl
        have e8 : ((bs W).toList == [48]) = false := by rw [el, beq_eq_false_iff_ne]; exact h8
        have e9 : ((bs W).toList == [49]) = false := by rw [el, beq_eq_false_iff_ne]; exact h9
        clear hsel el h8 h9
        go_enter Tryz.func141, Tryz.ntmps141
        go_wp2_with fail
        refine (cutPoint_any _ _ HS.out).mono ?_; rintro e w1 ⟨rfl, hb⟩; rw [HC.out]
        have B1 := box hb
        have T1 := box (HT.out.below hb)
        clear hb
        go_wp2_with fail
        refine (parseFraction_any _ _ HF.out T1.out).mono ?_; rintro e w2 ⟨rfl, rfl⟩; rw [bs_toList, HQ.out, qvT_some]
        go_wp2
        go_ret2
        exact ⟨by rw [HV.out]; rfl, B1.out⟩
end
section
open Go.RowKit
theorem cutQ1_any (n u : ByteArray) (w : World) :
    Calls Tryz.prog 140 #[.agg #[.string n, .string u]] w fun e w' => e = .returned (.bool (isQ (n, u))) ∧ Below w.heap.size w w' := by
  have hq := isQ_eq n u
  obtain ⟨z, hz⟩ : ∃ z, isQ (n, u) = z := ⟨_, rfl⟩
  rw [hz] at hq ⊢
  clear hz
  go_enter Tryz.func140, Tryz.ntmps140
  go_wp2
  go_ret
  exact ⟨rfl, below_new w _⟩
theorem cutQ1_is {n u : ByteArray} {z : Bool} {w : World} (h : Box (isQ (n, u) = z)) :
    Calls Tryz.prog 140 #[.agg #[.string n, .string u]] w fun e w' => e = .returned (.bool z) ∧ Below w.heap.size w w' :=
  (cutQ1_any n u w).mono fun e w' ⟨h1, h2⟩ => ⟨by rw [h1, h.out], h2⟩
/-- the place of the first q, -1 if there is none -/
def idxQ (K : List F) : Int := if atQ K < K.length then (atQ K : Int) else -1
theorem idxQ_hit {K : List F} {j : Nat} (hj : j < K.length) (h : atQ K = j) : idxQ K = (j : Int) := by unfold idxQ; rw [h, if_pos hj]
theorem idxQ_no {K : List F} (h : atQ K = K.length) : idxQ K = -1 := by unfold idxQ; rw [h, if_neg (by omega)]
def AtMRel (K : List F) (W : World) (i : Value) (wr : World) : Prop := ∃ j : Nat, i = .int .i64 j ∧ j ≤ K.length ∧ Box (∀ i (hi : i < K.length), i < j → isQ K[i] = false) ∧ Below W.heap.size W wr
set_option maxHeartbeats 400000 in
theorem idxQ_any (a : Option Addr) (cap : Nat) (K : List F) (w : World) (hl : K.length ≤ 65536) (hF : Box (Fs w a K)) :
    Calls Tryz.prog 139 #[.slice a K.length cap, .func (.func 140) #[] #[]] w fun e w' => e = .returned (.int .i64 (idxQ K)) ∧ Below w.heap.size w w' := by
  go_enter Tryz.func139, Tryz.ntmps139
  go_wp2
  go_loopw [8] (fun i wr => AtMRel K w i wr) (fun i _ => K.length - (intOf i).toNat)
  case atStart => exact ⟨0, rfl, Nat.zero_le _, box (fun i hi h => absurd h (by omega)), Below.refl _ _⟩
  case round =>
    obtain ⟨k, rfl, hk, HNO, hbel⟩ := hrel
    by_cases hlt : k < K.length
    · obtain ⟨g, off, rfl, c0, c1⟩ := (hF.out.below hbel) k hlt
      obtain ⟨⟨n, u⟩, hnu⟩ : ∃ p, K[k] = p := ⟨_, rfl⟩
      rw [hnu] at c0 c1
      have BL := box hbel
      clear hbel
      cases hq : isQ (n, u) with
      | true =>
        have HQ := box hq
        have HV : Box (idxQ K = (k : Int)) := box (idxQ_hit hlt (atQ_is (fun i hi hik => HNO.out i hi hik) (.inr ⟨hlt, by rw [hnu]; exact hq⟩)))
        clear hq hnu
        go_wp2_with fail
        refine (cutQ1_is HQ).mono ?_; rintro e w1 ⟨rfl, hb1⟩
        have B1 := box (BL.out.trans (hb1.mono BL.out.size))
        clear hb1 c0 c1
        go_wp2
        go_ret
        exact ⟨by rw [HV.out]; rfl, B1.out⟩
      | false =>
        have HQ := box hq
        have HN2 : Box (∀ i (hi : i < K.length), i < k + 1 → isQ K[i] = false) := box (fun i hi hij => by
          by_cases e : i = k
          · subst e; rw [hnu]; exact hq
          · exact HNO.out i hi (by omega))
        clear hq hnu
        go_wp2_with fail
        refine (cutQ1_is HQ).mono ?_; rintro e w1 ⟨rfl, hb1⟩
        have B1 := box (BL.out.trans (hb1.mono BL.out.size))
        clear hb1 c0 c1
        go_wp2
        go_roundw
        case rel => exact ⟨k + 1, by go_num, hlt, HN2, B1.out⟩
        case measure => simp [intOf]; omega
    · have HV : Box (idxQ K = -1) := box (idxQ_no (atQ_is (k := K.length) (fun i hi hik => HNO.out i hi (by omega)) (.inl rfl)))
      go_wp2
      go_ret
      exact ⟨by rw [HV.out]; rfl, hbel⟩
theorem idxQ_is {a : Option Addr} {cap : Nat} {K : List F} {i : Int} {w : World} (hl : K.length ≤ 65536) (hF : Box (Fs w a K)) (h : Box (idxQ K = i)) :
    Calls Tryz.prog 139 #[.slice a K.length cap, .func (.func 140) #[] #[]] w fun e w' => e = .returned (.int .i64 i) ∧ Below w.heap.size w w' :=
  (idxQ_any a cap K w hl hF).mono fun e w' ⟨h1, h2⟩ => ⟨by rw [h1, h.out], h2⟩
theorem mQv13_is {s : ByteArray} {q : Int} {b : Bool} {w : World} (hs : s.size ≤ 9223372036854775807) (hW : Wts w) (h : Box (qvT (qvL s.data.toList) = .tuple #[.int .i64 q, .bool b])) :
    Calls Tryz.prog 141 #[.string s] w fun e w' => e = .returned (.tuple #[.int .i64 q, .bool b]) ∧ Below w.heap.size w w' :=
  (mParse8_any s w hs hW).mono fun e w' ⟨h1, h2⟩ => ⟨by rw [h1, h.out], h2⟩
theorem cutQ_is {a : Option Addr} {cap : Nat} {K : List F} {j : Nat} {q : Int} {b : Bool} {w : World} (hl : K.length ≤ 20000) (hc : K.length ≤ cap) (hz : Box (∀ i (hi : i < K.length), K[i].1.size ≤ 20000 ∧ K[i].2.size ≤ 20000)) (hF : Fs w a K) (hW : Wts w) (hj : Box (atQ K = j)) (h : Box (qvT (qualP K) = .tuple #[.int .i64 q, .bool b])) :
    Calls Tryz.prog 117 #[.slice a K.length cap] w fun e w' => e = .returned (.tuple #[.slice a j cap, .int .i64 q, .bool b]) ∧ Below w.heap.size w w' := by
  have F0 := box hF
  have HT := box hW
  have hl6 : K.length ≤ 65536 := by omega
  have hjl : j ≤ K.length := by rw [← hj.out]; exact atQ_le K
  clear hF hW
  by_cases hlt : j < K.length
  · have HI : Box (idxQ K = (j : Int)) := box (idxQ_hit hlt hj.out)
    obtain ⟨⟨n, u⟩, hnu⟩ : ∃ p, K[j] = p := ⟨_, rfl⟩
    have HQ : Box (qvT (qvL u.data.toList) = .tuple #[.int .i64 q, .bool b]) := box (by rw [← qual_at hj.out hlt (by rw [hnu])]; exact h.out)
    have huz : u.size ≤ 9223372036854775807 := by have := (hz.out j hlt).2; rw [hnu] at this; exact Nat.le_trans this (by omega)
    have hji : (j : Int) < (K.length : Int) := by omega
    have hj0 : (0 : Int) ≤ (j : Int) := by omega
    have hjn : ¬ (j : Int) < 0 := by omega
    have hjc : (j : Int) ≤ (cap : Int) := by omega
    go_enter Tryz.func117, Tryz.ntmps117
    go_wp2_with fail
    refine (idxQ_is hl6 F0 HI).mono ?_; rintro e w1 ⟨rfl, hb1⟩
    obtain ⟨g, off, rfl, c0, c1⟩ := (F0.out.below hb1) j hlt
    rw [hnu] at c0 c1
    have T1 := box (HT.out.below hb1)
    have B1 := box hb1
    clear hb1 hnu
    go_wp2_with fail
    refine (mQv13_is huz T1.out HQ).mono ?_; rintro e w2 ⟨rfl, hb2⟩
    have B2 := box (B1.out.trans (hb2.mono B1.out.size))
    clear hb2 c0 c1
    go_wp2
    go_ret3
    exact ⟨rfl, B2.out⟩
  · obtain rfl : j = K.length := by omega
    have HI : Box (idxQ K = -1) := box (idxQ_no hj.out)
    have hq : qualP K = some 1000 := qual_no hj.out
    have h := h.out
    rw [hq] at h
    obtain ⟨rfl, rfl⟩ : 1000 = q ∧ true = b := by
      unfold qvT at h
      injection h with h; injection h with h
      simp at h
      exact ⟨h.1, h.2⟩
    clear h hq
    go_enter Tryz.func117, Tryz.ntmps117
    go_wp2_with fail
    refine (idxQ_is hl6 F0 HI).mono ?_; rintro e w1 ⟨rfl, hb1⟩
    go_wp2
    go_ret3
    exact ⟨rfl, hb1⟩
/-- the text of a range -/
def rtO (k : Int) (v : List UInt8) (K : List F) : Option ByteArray :=
  if k = 1 then (rangeL v).map fun m => fmtPB (m.1 ++ (⟨#[47]⟩ : ByteArray) ++ m.2.1) K
  else if ((if k = 2 then rangeT v else tokL v) && decide (K.length = 0)) = true then some (bs (canL k v)) else none
def RtIs (o : Option ByteArray) (e : Ending) : Prop := ∃ x b, e = .returned (.tuple #[.string x, .bool b]) ∧ o.isSome = b ∧ ∀ p, o = some p → p = x
theorem rt_of {o : Option ByteArray} {x : ByteArray} {b : Bool} (h1 : o.isSome = b) (h2 : ∀ p, o = some p → p = x) : RtIs o (.returned (.tuple #[.string x, .bool b])) := ⟨x, b, rfl, h1, h2⟩
theorem rt_acc_facts {v : List UInt8} {a b : ByteArray} {M K : List F} {ok : Bool} {y : ByteArray} (hM : ofM (rangeL v) = (a, b, M)) (hok : (rangeL v).isSome = ok) (hy : fmtMB (a, b, K) = y) : (rtO 1 v K).isSome = ok ∧ ∀ p, rtO 1 v K = some p → p = y := by
  unfold rtO
  rw [if_pos rfl, ← hok]
  cases hr : rangeL v with
  | none => exact ⟨rfl, fun p hp => by cases hp⟩
  | some m =>
    rw [hr] at hM
    have hm : m = (a, b, M) := hM
    subst hm
    refine ⟨rfl, fun p hp => ?_⟩
    simp only [Option.map_some, Option.some.injEq] at hp
    rw [← hp, ← hy]; rfl
theorem rt_oth_facts {k : Int} {v : List UInt8} {K : List F} {t : Bool} {y : ByteArray} (hk : k ≠ 1) (ht : (if k = 2 then rangeT v else tokL v) = t) (hK : K.length = 0) (hy : bs (canL k v) = y) : (rtO k v K).isSome = t ∧ ∀ p, rtO k v K = some p → p = y := by
  unfold rtO
  rw [if_neg hk, ht, decide_eq_true hK, Bool.and_true]
  cases t with
  | true => exact ⟨rfl, fun p hp => by cases hp; rw [← hy]⟩
  | false => exact ⟨rfl, fun p hp => by cases hp⟩
theorem rt_long {k : Int} {v : List UInt8} {K : List F} (hk : k ≠ 1) (hK : K.length ≠ 0) : rtO k v K = none := by
  unfold rtO
  rw [if_neg hk, decide_eq_false hK, Bool.and_false]; rfl
theorem mem_rt {k : Int} {s v : List UInt8} {L : List F} {q : Int} (h : parL s = some (v, L)) (hq : qualP L = some q) : memP k s = (rtO k v (L.take (atQ L))).map fun x => (x, q) := by
  have hl : (L.take (atQ L)).length = atQ L := by rw [List.length_take]; have := atQ_le L; omega
  by_cases hk : k = 1
  · subst hk
    rw [mem_acc h hq]
    unfold rtO
    rw [if_pos rfl]
    cases rangeL v with
    | none => rfl
    | some m => rfl
  · rw [mem_oth hk h hq]
    unfold rtO
    rw [if_neg hk, hl]
    cases ((if k = 2 then rangeT v else tokL v) && decide (atQ L = 0)) with
    | true => rfl
    | false => rfl
theorem mFmt13_is {a b : ByteArray} {p : Option Addr} {n cap : Nat} {L : List F} {x : ByteArray} {w : World} (ha : a.size ≤ 30000) (hb : b.size ≤ 30000) (hn : Box (L.length = n)) (hl : Box (L.length ≤ 65536)) (hz : Box (∀ i (hi : i < L.length), L[i].1.size ≤ 65536 ∧ L[i].2.size ≤ 65536)) (hF : Fs w p L) (h : Box (fmtMB (a, b, L) = x)) :
    Calls Tryz.prog 167 #[.agg #[.string a, .string b, .slice p n cap]] w fun e w' => e = .returned (.string x) ∧ Below w.heap.size w w' := by
  have := mFmt10_any a b p cap L w ha hb hl.out hz (box hF)
  rw [hn.out, h.out] at this; exact this
theorem mrtx_is {x : ByteArray} {p : Option Addr} {n cap : Nat} {K : List F} {w : World} (hx : x.size ≤ 20000) (hn : Box (K.length = n)) (hl : Box (K.length ≤ 65536)) (hz : Box (∀ i (hi : i < K.length), K[i].1.size ≤ 65536 ∧ K[i].2.size ≤ 65536)) (hF : Fs w p K) :
    Calls Tryz.prog 142 #[.string x, .slice p n cap] w fun e w' => RtIs (rtO 1 x.data.toList K) e ∧ Below w.heap.size w w' := by
  obtain ⟨⟨a, b, M⟩, hM⟩ : ∃ m, ofM (rangeL x.data.toList) = m := ⟨_, rfl⟩
  obtain ⟨ok, hok⟩ : ∃ ok, (rangeL x.data.toList).isSome = ok := ⟨_, rfl⟩
  obtain ⟨y, hy⟩ : ∃ y, fmtMB (a, b, K) = y := ⟨_, rfl⟩
  have F0 := box hF
  have hlen := range_len13 hM
  have HM := box (And.intro hM hok)
  have HY := box hy
  have HR := box (rt_acc_facts hM hok hy)
  have ha : a.size ≤ 30000 := by omega
  have hb : b.size ≤ 30000 := by omega
  have hx6 : x.size ≤ 65000 := by omega
  clear hM hok hy hlen hF
  go_enter Tryz.func142, Tryz.ntmps142
  go_wp2_with fail
  refine (mRange_is hx6 HM).mono ?_; rintro e w2 ⟨p2, c2, rfl, hO2, hb2⟩
  have hnw := below_new w2 (.cells #[.string a, .string b, .slice p n cap] 77)
  have B2 := box (hb2.trans (hnw.mono hb2.size))
  have T4 : Box (Fs (w2.alloc (.cells #[.string a, .string b, .slice p n cap] 77)) p K) := box ((F0.out.below hb2).below hnw)
  clear hO2 hb2 hnw
  go_wp2_with fail
  refine (mFmt13_is ha hb hn hl hz T4.out HY).mono ?_; rintro e w3 ⟨rfl, hb3⟩
  have B3 := box (B2.out.trans (hb3.mono B2.out.size))
  clear hb3
  go_wp2
  go_ret2
  exact ⟨rt_of HR.out.1 HR.out.2, B3.out⟩
theorem mCan13_is {k : Int} {s x : ByteArray} {w : World} (hk : InI64 k) (hs : s.size ≤ 20000) (h : Box (bs (canL k s.data.toList) = x)) :
    Calls Tryz.prog 143 #[.int .i64 k, .string s] w fun e w' => e = .returned (.string x) ∧ Below w.heap.size w w' :=
  mCan0_is hk (by omega) h
theorem mRng13_is {s : ByteArray} {b : Bool} {w : World} (hs : s.size ≤ 20000) (h : Box (rangeT s.data.toList = b)) :
    Calls Tryz.prog 144 #[.string s] w fun e w' => e = .returned (.bool b) ∧ Below w.heap.size w w' :=
  (mRangeT_any s w (by omega)).mono fun e w' ⟨h1, h2⟩ => ⟨by rw [h1, h.out], h2⟩
set_option maxHeartbeats 1000000 in
theorem mrt_is {k : Int} {x : ByteArray} {p : Option Addr} {n cap : Nat} {K : List F} {w : World} (hk : InI64 k) (hx : x.size ≤ 20000) (hn : Box (K.length = n)) (hl : Box (K.length ≤ 65536)) (hz : Box (∀ i (hi : i < K.length), K[i].1.size ≤ 65536 ∧ K[i].2.size ≤ 65536)) (hF : Fs w p K) :
    Calls Tryz.prog 118 #[.int .i64 k, .string x, .slice p n cap] w fun e w' => RtIs (rtO k x.data.toList K) e ∧ Below w.heap.size w w' := by
  have F0 := box hF
  have hxm : x.size ≤ maxLen := by unfold maxLen; omega
  have HXM := box hxm
  clear hF hxm
  by_cases h1 : k = 1
  · subst h1
    go_enter Tryz.func118, Tryz.ntmps118
    go_wp2_with fail
    refine (mrtx_is hx hn hl hz F0.out).mono ?_; rintro e w1 ⟨⟨y, b, rfl, hb, hp⟩, hb1⟩
    have HR := box (And.intro hb hp)
    clear hb hp
    go_wp2
    go_ret2
    exact ⟨rt_of HR.out.1 HR.out.2, hb1⟩
  · have e1 : (k == 1) = false := by rw [beq_eq_false_iff_ne]; exact h1
    by_cases h0 : n = 0
    · obtain ⟨y, hy⟩ : ∃ y, bs (canL k x.data.toList) = y := ⟨_, rfl⟩
      have HY := box hy
      have hK0 : K.length = 0 := by rw [hn.out]; exact h0
      by_cases h2 : k = 2
      · subst h2
        obtain ⟨t, ht⟩ : ∃ t, rangeT x.data.toList = t := ⟨_, rfl⟩
        have HT := box ht
        have HR := box (rt_oth_facts h1 (t := t) (by rw [if_pos rfl]; exact ht) hK0 hy)
        subst h0
        clear hy ht hK0 h1 e1
        go_enter Tryz.func118, Tryz.ntmps118
        go_wp2_with fail
        refine (mCan13_is hk hx HY).mono ?_; rintro e w1 ⟨rfl, hb1⟩
        have B1 := box hb1
        clear hb1
        go_wp2_with fail
        refine (mRng13_is hx HT).mono ?_; rintro e w2 ⟨rfl, hb2⟩
        have B2 := box (B1.out.trans (hb2.mono B1.out.size))
        clear hb2
        go_wp2
        go_ret2
        exact ⟨rt_of HR.out.1 HR.out.2, B2.out⟩
      · have e2 : (k == 2) = false := by rw [beq_eq_false_iff_ne]; exact h2
        obtain ⟨t, ht⟩ : ∃ t, tokL x.data.toList = t := ⟨_, rfl⟩
        have HT := box ht
        have HR := box (rt_oth_facts h1 (t := t) (by rw [if_neg h2]; exact ht) hK0 hy)
        subst h0
        clear hy ht hK0 h1 h2
        go_enter Tryz.func118, Tryz.ntmps118
        go_wp2_with fail
        refine (mCan13_is hk hx HY).mono ?_; rintro e w1 ⟨rfl, hb1⟩
        have B1 := box hb1
        clear hb1
        go_wp2_with fail
        refine (aToken_is HXM.out HT).mono ?_; rintro e w2 ⟨rfl, rfl⟩
        go_wp2
        go_ret2
        exact ⟨rt_of HR.out.1 HR.out.2, B1.out⟩
    · have hn0 : (0 : Int) < (n : Int) := by omega
      have HV : Box (rtO k x.data.toList K = none) := box (rt_long h1 (by rw [hn.out]; exact h0))
      clear h0 h1
      go_enter Tryz.func118, Tryz.ntmps118
      go_wp2
      go_ret2
      exact ⟨rt_of (by rw [HV.out]; rfl) (fun p hp => by rw [HV.out] at hp; cases hp), Below.refl _ _⟩
set_option maxHeartbeats 2000000 in
theorem mpp_any (k : Int) (s : ByteArray) (w : World) (hk : InI64 k) (hs : s.size ≤ 20000) (hW : Wts w) :
    Calls Tryz.prog 78 #[.int .i64 k, .string s] w fun e w' => MbrIs (memP k s.data.toList) e ∧ Below w.heap.size w w' := by
  obtain ⟨x, hx⟩ : ∃ x, parA s.data.toList = x := ⟨_, rfl⟩
  obtain ⟨K, hK⟩ : ∃ K, parB s.data.toList = K := ⟨_, rfl⟩
  have HT := box hW
  have hs6 : s.size ≤ 65000 := by omega
  have hxx : x.size ≤ 20000 := by have := parA_size s; rw [hx] at this; omega
  clear hW
  cases ho : parO s.data.toList with
  | false =>
    have HP := box (And.intro hx (And.intro hK ho))
    have HV : Box (memP k s.data.toList = none) := box (mem_none (par_off ho))
    clear hx hK ho
    go_enter Tryz.func78, Tryz.ntmps78
    go_wp2_with fail
    refine (mParO_is hs6 HP).mono ?_; rintro e w1 ⟨a1, c1, rfl, hO1, hb1⟩
    have hC1 := box ((C2.new (.string ⟨#[]⟩) (.int .i64 0) w 55).next hb1)
    have B1 := box ((below_new w (.cells #[.string ⟨#[]⟩, .int .i64 0] 55)).trans (hb1.mono (below_new w _).size))
    clear hO1 hb1
    obtain ⟨⟨r0, r1⟩, ⟨f0, f1⟩⟩ := hC1.out
    go_wp2
    (try simp only [Exit.inBlock, Exit.then])
    refine bodyPost_ret (v := .tuple #[.agg #[.string ⟨#[]⟩, .int .i64 0], .bool false]) (by rw [results_cell_tmp rfl]; go_simp) rfl ?_
    exact ⟨mbr_no HV, below2 B1.out (Nat.le_refl _) _ _⟩
  | true =>
    have HP := box (And.intro hx (And.intro hK ho))
    have HPL := box (par_of HP.out)
    have hKlen : K.length ≤ 20000 := by have := (par_facts HPL.out).2.2.1; have hz : s.data.toList.length = s.size := by simp
                                        omega
    have hKz : Box (∀ i (hi : i < K.length), K[i].1.size ≤ 20000 ∧ K[i].2.size ≤ 20000) := box (fun i hi => by
      have h1 := (par_facts HPL.out).2.1
      have h2 := szF_at hi
      have hz : s.data.toList.length = s.size := by simp
      omega)
    obtain ⟨j, hj⟩ : ∃ j, atQ K = j := ⟨_, rfl⟩
    have HJ := box hj
    have hjl : j ≤ K.length := by rw [← hj]; exact atQ_le K
    have hTL : Box ((K.take j).length = j) := box (by rw [List.length_take]; omega)
    have lK : Box ((K.take j).length ≤ 65536) := box (by rw [List.length_take]; omega)
    have zK : Box (∀ i (hi : i < (K.take j).length), (K.take j)[i].1.size ≤ 65536 ∧ (K.take j)[i].2.size ≤ 65536) := box (fun i hi => by
      have hi2 : i < K.length := by rw [List.length_take] at hi; omega
      have := hKz.out i hi2
      rw [List.getElem_take]; omega)
    clear hx hK ho hj hjl
    cases hq : qualP K with
    | none =>
      have HQ : Box (qvT (qualP K) = .tuple #[.int .i64 0, .bool false]) := box (by rw [hq]; rfl)
      have HV : Box (memP k s.data.toList = none) := box (mem_noq HPL.out hq)
      clear hq
      go_enter Tryz.func78, Tryz.ntmps78
      go_wp2_with fail
      refine (mParO_is hs6 HP).mono ?_; rintro e w1 ⟨a1, c1, rfl, hO1, hb1⟩
      obtain ⟨p9, c9, hv9, hFF, hcc⟩ := hO1.fs
      cases hv9
      have hC1 := box ((C2.new (.string ⟨#[]⟩) (.int .i64 0) w 55).next hb1)
      have B1 := box ((below_new w (.cells #[.string ⟨#[]⟩, .int .i64 0] 55)).trans (hb1.mono (below_new w _).size))
      have F1 := box hFF
      have T1 := box (HT.out.below B1.out)
      clear hO1 hb1 hFF
      go_wp2_with fail
      refine (cutQ_is hKlen hcc hKz F1.out T1.out HJ HQ).mono ?_; rintro e w2 ⟨rfl, hb2⟩
      have B2 := box (B1.out.trans (hb2.mono B1.out.size))
      have hC2 := box (hC1.out.next hb2)
      clear hb2
      obtain ⟨⟨r0, r1⟩, ⟨f0, f1⟩⟩ := hC2.out
      go_wp2
      (try simp only [Exit.inBlock, Exit.then])
      refine bodyPost_ret (v := .tuple #[.agg #[.string ⟨#[]⟩, .int .i64 0], .bool false]) (by rw [results_cell_tmp rfl]; go_simp) rfl ?_
      exact ⟨mbr_no HV, below2 B2.out (Nat.le_refl _) _ _⟩
    | some q =>
      have HQ : Box (qvT (qualP K) = .tuple #[.int .i64 q, .bool true]) := box (by rw [hq]; rfl)
      have HV : Box (memP k s.data.toList = (rtO k x.data.toList (K.take j)).map fun y => (y, q)) := box (by rw [← HJ.out]; exact mem_rt HPL.out hq)
      clear hq
      go_enter Tryz.func78, Tryz.ntmps78
      go_wp2_with fail
      refine (mParO_is hs6 HP).mono ?_; rintro e w1 ⟨a1, c1, rfl, hO1, hb1⟩
      obtain ⟨p9, c9, hv9, hFF, hcc⟩ := hO1.fs
      cases hv9
      have hC1 := box ((C2.new (.string ⟨#[]⟩) (.int .i64 0) w 55).next hb1)
      have B1 := box ((below_new w (.cells #[.string ⟨#[]⟩, .int .i64 0] 55)).trans (hb1.mono (below_new w _).size))
      have F1 := box hFF
      have T1 := box (HT.out.below B1.out)
      clear hO1 hb1 hFF
      go_wp2_with fail
      refine (cutQ_is hKlen hcc hKz F1.out T1.out HJ HQ).mono ?_; rintro e w2 ⟨rfl, hb2⟩
      have B2 := box (B1.out.trans (hb2.mono B1.out.size))
      have hC2 := box (hC1.out.next hb2)
      have F2 := box (fs_take (n := j) (F1.out.below hb2))
      clear hb2
      go_wp2_with fail
      refine (mrt_is hk hxx hTL lK zK F2.out).mono ?_; rintro e w3 ⟨⟨y, b, rfl, hb, hp⟩, hb3⟩
      have B3 := box (B2.out.trans (hb3.mono B2.out.size))
      have hC3 := box (hC2.out.next hb3)
      clear hb3
      obtain ⟨⟨r0, r1⟩, ⟨f0, f1⟩⟩ := hC3.out
      cases b with
      | false =>
        have HN : Box (memP k s.data.toList = none) := box (by
          rw [HV.out]
          cases hr : rtO k x.data.toList (K.take j) with
          | none => rfl
          | some m => rw [hr] at hb; cases hb)
        clear hb hp
        go_wp2
        (try simp only [Exit.inBlock, Exit.then])
        refine bodyPost_ret (v := .tuple #[.agg #[.string ⟨#[]⟩, .int .i64 0], .bool false]) (by rw [results_cell_tmp rfl]; go_simp) rfl ?_
        exact ⟨mbr_no HN, below2 B3.out (Nat.le_refl _) _ _⟩
      | true =>
        have HN : Box (memP k s.data.toList = some (y, q)) := box (by
          rw [HV.out]
          cases hr : rtO k x.data.toList (K.take j) with
          | none => rw [hr] at hb; cases hb
          | some m => rw [hp m hr]; rfl)
        clear hb hp
        go_wp2
        (try simp only [Exit.inBlock, Exit.then])
        refine bodyPost_ret (v := .tuple #[.agg #[.string y, .int .i64 q], .bool true]) (by rw [results_cell_tmp rfl]; go_simp) rfl ?_
        exact ⟨mbr_of (by rw [HN.out]; rfl) (fun p hp => by rw [HN.out] at hp; cases hp; rfl), below2 B3.out (Nat.le_refl _) _ _⟩
theorem mpp_is {k : Int} {s : ByteArray} {o : Option QP} {w : World} (hk : InI64 k) (hs : s.size ≤ 20000) (hW : Wts w) (h : Box (memP k s.data.toList = o)) :
    Calls Tryz.prog 78 #[.int .i64 k, .string s] w fun e w' => MbrIs o e ∧ Below w.heap.size w w' :=
  (mpp_any k s w hk hs hW).mono fun e w' ⟨h1, h2⟩ => ⟨by rw [h.out] at h1; exact h1, h2⟩
end
end Go.Proofs.YtklfpkaemnhdhaaGreatDoor.Asc
