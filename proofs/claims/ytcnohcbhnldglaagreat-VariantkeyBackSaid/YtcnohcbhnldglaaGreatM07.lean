/- Merged texts: MedRef AscQuo StaVer AscDec AscRDec ParRef2 MedRef2. -/
import Derived.Test.YtcnohcbhnldglaaGreatM01
import Derived.Test.YtcnohcbhnldglaaGreatM02
import Derived.Test.YtcnohcbhnldglaaGreatM03
import Derived.Test.YtcnohcbhnldglaaGreatM04
import Derived.Test.YtcnohcbhnldglaaGreatM05
import Derived.Test.YtcnohcbhnldglaaGreatM06
import Derived.Deep.RegionHeld3
import Derived.Laws.AppendOwnNone
import Derived.Lib.Hide
import Derived.LoopTactic
import Derived.OwnWalk
set_option linter.unusedVariables false
set_option linter.unusedSimpArgs false
set_option maxRecDepth 100000
namespace Go.Proofs.YtcnohcbhnldglaaGreat.Asc
section
open Go.RowKit
def medW (w w' : World) (o : Option M) (e : Ending) : Prop := ∃ v, e = .returned (.tuple #[.agg #[.string (ofM o).1, .string (ofM o).2.1, v], .bool o.isSome]) ∧ OwnP w' w.heap.size v (ofM o).2.2 ∧ Below w.heap.size w w'
theorem medW_none {w w' : World} {o : Option M} (h : Box (o = none)) (hb : Below w.heap.size w w') : medW w w' o (.returned (.tuple #[.agg #[.string ⟨#[]⟩, .string ⟨#[]⟩, .slice none 0 0], .bool false])) := by
  rw [h.out]
  exact ⟨_, rfl, OwnP.nil _ _, hb⟩
theorem medW_some {w w' : World} {o : Option M} {a b : ByteArray} {L : List F} {v : Value} (h : Box (o = some (a, b, L))) (hO : OwnP w' w.heap.size v L) (hb : Below w.heap.size w w') : medW w w' o (.returned (.tuple #[.agg #[.string a, .string b, v], .bool true])) := by
  rw [h.out]
  exact ⟨_, rfl, hO, hb⟩
theorem rIndex47_is {s : ByteArray} {n : Int} {w : World} (hs : s.size ≤ maxLen) (h : Box (idxF s.data.toList 47 0 = n)) :
    Calls Tryz.prog 113 #[.string s, .int .u8 47, .int .i64 0] w fun e w' => e = .returned (.int .i64 n) ∧ w = w' :=
  (rIndex_any s 47 47 0 w hs (Nat.zero_le _) rfl).mono fun e w' ⟨h1, h2⟩ => ⟨by rw [h1, h.out], h2⟩
/-- ParseParams with its results as letters -/
theorem rParO_is {s x : ByteArray} {K : List F} {b : Bool} {w : World} (hs : s.size ≤ 65000) (h : Box (parA s.data.toList = x ∧ parB s.data.toList = K ∧ parO s.data.toList = b)) :
    Calls Tryz.prog 112 #[.string s] w fun e w' => ∃ a cap, e = .returned (.tuple #[.string x, .slice a K.length cap, .bool b]) ∧ OwnP w' w.heap.size (.slice a K.length cap) K ∧ Below w.heap.size w w' :=
  (rPar_any s w hs).mono fun e w' ⟨v, h1, h2, h3⟩ => by
    obtain ⟨rfl, rfl, rfl⟩ := h.out
    obtain ⟨a, cap, rfl, hS, hc⟩ := h2.fs
    exact ⟨a, cap, h1, h2, h3⟩
theorem star_is {x : ByteArray} {b : Bool} (h : (x.toList == [42]) = b) : (x.data.toList = [42]) ↔ b = true := by
  rw [toList_data] at h
  subst h; simp
theorem parA_size (s : ByteArray) : (parA s.data.toList).size ≤ s.size := by
  obtain ⟨v, ps, hq⟩ := cut_first 59 s.data.toList
  have hsm := cut_small (sep := 59) s.data.toList.length false s.data.toList [] v (by rw [show cutF 59 s.data.toList.length false s.data.toList [] = v :: ps from hq]; simp)
  have hz : s.data.toList.length = s.size := by simp
  simp only [List.length_nil, Nat.zero_add] at hsm
  by_cases ht : trimL v = []
  · rw [(par_none0 hq ht).1]; exact Nat.zero_le _
  · cases hp : parF ps [] with
    | none => rw [(par_none1 hq ht hp).1]; exact Nat.zero_le _
    | some L =>
      rw [(par_some hq ht hp).1, bs_size]
      have := trim_le v
      omega
set_option maxHeartbeats 1000000 in
theorem rRange_ok (s x : ByteArray) (K : List F) (o : Nat) (nm sb : ByteArray) (w : World) (hs : s.size ≤ 65000) (hxz : x.size ≤ 65000) (ho : o < x.size)
    (H : Box (parA s.data.toList = x ∧ parB s.data.toList = K ∧ parO s.data.toList = true)) (HI : Box (idxF x.data.toList 47 0 = (o : Int))) (HK1 : Box (tokL (x.extract 0 o).data.toList = true)) (HK2 : Box (tokL (x.extract (o + 1) x.size).data.toList = true))
    (b1 b2 : Bool) (q1 : ((x.extract 0 o).toList == [42]) = b1) (q2 : ((x.extract (o + 1) x.size).toList == [42]) = b2) (q3 : b1 = true → b2 = true)
    (HL1 : Box (bs (lowL (x.extract 0 o).data.toList) = nm)) (HL2 : Box (bs (lowL (x.extract (o + 1) x.size).data.toList) = sb)) :
    Calls Tryz.prog 104 #[.string s] w fun e w' => ∃ v, e = .returned (.tuple #[.agg #[.string nm, .string sb, v], .bool true]) ∧ OwnP w' w.heap.size v K ∧ Below w.heap.size w w' := by
  have hxm : x.size ≤ maxLen := by unfold maxLen; omega
  have hoz : (x.extract 0 o).size ≤ maxLen := by rw [ByteArray.size_extract]; unfold maxLen; omega
  have hoz4 : (x.extract 0 o).size ≤ 4294967296 := by rw [ByteArray.size_extract]; omega
  have hvz : (x.extract (o + 1) x.size).size ≤ maxLen := by rw [ByteArray.size_extract]; unfold maxLen; omega
  have hvz4 : (x.extract (o + 1) x.size).size ≤ 4294967296 := by rw [ByteArray.size_extract]; omega
  have HZ1 := box hoz
  have HZ2 := box hvz
  have HZ4 := box hvz4
  have HZ3 := box hoz4
  have i1 : (o : Int) ≤ (x.size : Int) := by omega
  have i2 : (0 : Int) ≤ (o : Int) + 1 := by omega
  have i3 : (o : Int) + 1 ≤ (x.size : Int) := by omega
  have i4 : IntKind.i64.wrap ((o : Int) + 1) = (o : Int) + 1 := by simp [IntKind.wrap, IntKind.bits, IntKind.signed]; omega
  obtain ⟨p1, hp1⟩ : ∃ p, x.extract 0 o = p := ⟨_, rfl⟩
  obtain ⟨p2, hp2⟩ : ∃ p, x.extract (o + 1) x.size = p := ⟨_, rfl⟩
  have HP1 := box hp1
  have HP2 := box hp2
  have HM1 : Box (bs (lowL p1.data.toList) = nm) := box (by rw [← hp1]; exact HL1.out)
  have HM2 : Box (bs (lowL p2.data.toList) = sb) := box (by rw [← hp2]; exact HL2.out)
  have hy1 : p1.size ≤ 4294967296 := by rw [← hp1]; exact hoz4
  have hy2 : p2.size ≤ 4294967296 := by rw [← hp2]; exact hvz4
  clear hoz hvz hoz4 hvz4 hp1 hp2
  have hq : b1 = false ∨ (b1 = true ∧ b2 = true) := by cases b1 <;> simp_all
  rcases hq with rfl | ⟨rfl, rfl⟩
  · go_enter Tryz.func104, Tryz.ntmps104
    go_wp2_with fail
    refine (rParO_is hs H).mono ?_; rintro e w1 ⟨a1, cap1, rfl, hO1, hb1⟩
    have O1 := box hO1
    have C1 := box ((C3.new (.string ⟨#[]⟩) (.string ⟨#[]⟩) (.slice none 0 0) w 105).next hb1)
    have B1 := box ((below_new w _).trans (hb1.mono (below_new w _).size))
    clear hO1 hb1
    go_wp2_with fail
    refine (rIndex47_is hxm HI).mono ?_; rintro e w2 ⟨rfl, rfl⟩
    go_wp2_with fail
    refine (rToken_is HZ1.out HK1).mono ?_; rintro e w2 ⟨rfl, rfl⟩
    go_wp2_with fail
    refine (rToken_is HZ2.out HK2).mono ?_; rintro e w2 ⟨rfl, rfl⟩
    go_wp2
    go_region_held3 (fun w' => True) (first | trivial)
      (first
        | (go_at_call 59; rw [HP1.out]; refine (rLower9_is (s := p1) hy1 HM1).mono ?_; rintro e w3 ⟨rfl, hb3⟩)
        | (go_at_call 59; rw [HP2.out]; refine (rLower9_is (s := p2) hy2 HM2).mono ?_; rintro e w4 ⟨rfl, hb4⟩; obtain ⟨⟨r0, r1, r2⟩, ⟨f0, f1, f2⟩⟩ := ((C1.out.next (Below.refl _ _).drew).next hb3).next hb4))
    all_goals
      have O4 := own_below (own_below O1.out (Below.refl _ _).drew) (hb3.trans (hb4.mono hb3.size))
      have B4 := (B1.out.drew).trans ((hb3.trans (hb4.mono hb3.size)).mono B1.out.size)
      clear hb3 hb4
      go_wp2
      (try simp only [Exit.inBlock, Exit.then])
      refine bodyPost_ret (v := .tuple #[.agg #[.string nm, .string sb, .slice a1 K.length cap1], .bool true]) (by rw [results_cell_tmp rfl]; go_simp) rfl ?_
      exact ⟨_, rfl, own_le (own_only O4 (only3 _ _ _ _ _) (by simp)) (by simp), below3 B4 (Nat.le_refl _) _ _ _⟩
  · go_enter Tryz.func104, Tryz.ntmps104
    go_wp2_with fail
    refine (rParO_is hs H).mono ?_; rintro e w1 ⟨a1, cap1, rfl, hO1, hb1⟩
    have O1 := box hO1
    have C1 := box ((C3.new (.string ⟨#[]⟩) (.string ⟨#[]⟩) (.slice none 0 0) w 105).next hb1)
    have B1 := box ((below_new w _).trans (hb1.mono (below_new w _).size))
    clear hO1 hb1
    go_wp2_with fail
    refine (rIndex47_is hxm HI).mono ?_; rintro e w2 ⟨rfl, rfl⟩
    go_wp2_with fail
    refine (rToken_is HZ1.out HK1).mono ?_; rintro e w2 ⟨rfl, rfl⟩
    go_wp2_with fail
    refine (rToken_is HZ2.out HK2).mono ?_; rintro e w2 ⟨rfl, rfl⟩
    go_wp2
    go_region_held3 (fun w' => True) (first | trivial)
      (first
        | (go_at_call 59; rw [HP1.out]; refine (rLower9_is (s := p1) hy1 HM1).mono ?_; rintro e w3 ⟨rfl, hb3⟩)
        | (go_at_call 59; rw [HP2.out]; refine (rLower9_is (s := p2) hy2 HM2).mono ?_; rintro e w4 ⟨rfl, hb4⟩; obtain ⟨⟨r0, r1, r2⟩, ⟨f0, f1, f2⟩⟩ := ((C1.out.next (Below.refl _ _).drew).next hb3).next hb4))
    all_goals
      have O4 := own_below (own_below O1.out (Below.refl _ _).drew) (hb3.trans (hb4.mono hb3.size))
      have B4 := (B1.out.drew).trans ((hb3.trans (hb4.mono hb3.size)).mono B1.out.size)
      clear hb3 hb4
      go_wp2
      (try simp only [Exit.inBlock, Exit.then])
      refine bodyPost_ret (v := .tuple #[.agg #[.string nm, .string sb, .slice a1 K.length cap1], .bool true]) (by rw [results_cell_tmp rfl]; go_simp) rfl ?_
      exact ⟨_, rfl, own_le (own_only O4 (only3 _ _ _ _ _) (by simp)) (by simp), below3 B4 (Nat.le_refl _) _ _ _⟩
set_option maxHeartbeats 4000000 in
theorem rRange_any (s : ByteArray) (w : World) (hs : s.size ≤ 65000) :
    Calls Tryz.prog 104 #[.string s] w fun e w' => medW w w' (rangeL s.data.toList) e := by
  obtain ⟨x, hx⟩ : ∃ x, parA s.data.toList = x := ⟨_, rfl⟩
  obtain ⟨K, hK⟩ : ∃ K, parB s.data.toList = K := ⟨_, rfl⟩
  have hxz : x.size ≤ 65000 := by rw [← hx]; exact Nat.le_trans (parA_size s) hs
  rcases hb : parO s.data.toList with _ | _
  · have H := box (And.intro hx (And.intro hK hb))
    have HR := box (range_par hb)
    clear hx hK hb
    go_enter Tryz.func104, Tryz.ntmps104
    go_wp2_with fail
    refine (rParO_is hs H).mono ?_; rintro e w1 ⟨a1, cap1, rfl, hO1, hb1⟩
    have O1 := box hO1
    have C1 := box ((C3.new (.string ⟨#[]⟩) (.string ⟨#[]⟩) (.slice none 0 0) w 105).next hb1)
    have B1 := box ((below_new w _).trans (hb1.mono (below_new w _).size))
    clear hO1 hb1
    obtain ⟨⟨r0, r1, r2⟩, ⟨f0, f1, f2⟩⟩ := C1.out
    go_wp2
    (try simp only [Exit.inBlock, Exit.then])
    refine bodyPost_ret (v := .tuple #[.agg #[.string ⟨#[]⟩, .string ⟨#[]⟩, .slice none 0 0], .bool false]) (by rw [results_cell_tmp rfl]; go_simp) rfl ?_
    exact medW_none HR (below3 B1.out (Nat.le_refl _) _ _ _)
  · have H := box (And.intro hx (And.intro hK hb))
    have HT := range_type hb hx
    rw [hK] at HT
    have hxm : x.size ≤ maxLen := by unfold maxLen; omega
    have hlx : x.data.toList.length = x.size := by simp
    clear hx hK hb
    rcases idx_cases x.data.toList 47 with hi | ⟨o, hi, ho⟩
    · have HI := box (idx_none hi)
      have HR : Box (rangeL s.data.toList = none) := box (by rw [HT, type_no hi]; rfl)
      clear hi hlx HT
      go_enter Tryz.func104, Tryz.ntmps104
      go_wp2_with fail
      refine (rParO_is hs H).mono ?_; rintro e w1 ⟨a1, cap1, rfl, hO1, hb1⟩
      have O1 := box hO1
      have C1 := box ((C3.new (.string ⟨#[]⟩) (.string ⟨#[]⟩) (.slice none 0 0) w 105).next hb1)
      have B1 := box ((below_new w _).trans (hb1.mono (below_new w _).size))
      clear hO1 hb1
      go_wp2_with fail
      refine (rIndex47_is hxm HI).mono ?_; rintro e w2 ⟨rfl, rfl⟩
      obtain ⟨⟨r0, r1, r2⟩, ⟨f0, f1, f2⟩⟩ := C1.out
      go_wp2
      (try simp only [Exit.inBlock, Exit.then])
      refine bodyPost_ret (v := .tuple #[.agg #[.string ⟨#[]⟩, .string ⟨#[]⟩, .slice none 0 0], .bool false]) (by rw [results_cell_tmp rfl]; go_simp) rfl ?_
      exact medW_none HR (below3 B1.out (Nat.le_refl _) _ _ _)
    · rw [hlx] at ho
      have HI := box (idx_some hi)
      have hoz : (x.extract 0 o).size ≤ maxLen := by rw [ByteArray.size_extract]; unfold maxLen; omega
      have hoz4 : (x.extract 0 o).size ≤ 4294967296 := by rw [ByteArray.size_extract]; omega
      have hvz : (x.extract (o + 1) x.size).size ≤ maxLen := by rw [ByteArray.size_extract]; unfold maxLen; omega
      have hvz4 : (x.extract (o + 1) x.size).size ≤ 4294967296 := by rw [ByteArray.size_extract]; omega
      have e1 := ext_take x o
      have e2 := ext_drop x (o + 1)
      have HZ1 := box hoz
      have HZ2 := box hvz
      have HZ4 := box hvz4
      have HZ3 := box hoz4
      clear hlx hoz hvz hoz4 hvz4
      rcases htk : tokL (x.data.toList.take o) with _ | _
      · have HK1 : Box (tokL (x.extract 0 o).data.toList = false) := box (by rw [e1]; exact htk)
        have HR : Box (rangeL s.data.toList = none) := box (by rw [HT, type_tok1 hi htk]; rfl)
        clear hi htk e1 e2 HT
        go_enter Tryz.func104, Tryz.ntmps104
        go_wp2_with fail
        refine (rParO_is hs H).mono ?_; rintro e w1 ⟨a1, cap1, rfl, hO1, hb1⟩
        have O1 := box hO1
        have C1 := box ((C3.new (.string ⟨#[]⟩) (.string ⟨#[]⟩) (.slice none 0 0) w 105).next hb1)
        have B1 := box ((below_new w _).trans (hb1.mono (below_new w _).size))
        clear hO1 hb1
        go_wp2_with fail
        refine (rIndex47_is hxm HI).mono ?_; rintro e w2 ⟨rfl, rfl⟩
        go_wp2_with fail
        refine (rToken_is HZ1.out HK1).mono ?_; rintro e w2 ⟨rfl, rfl⟩
        obtain ⟨⟨r0, r1, r2⟩, ⟨f0, f1, f2⟩⟩ := C1.out
        go_wp2
        (try simp only [Exit.inBlock, Exit.then])
        refine bodyPost_ret (v := .tuple #[.agg #[.string ⟨#[]⟩, .string ⟨#[]⟩, .slice none 0 0], .bool false]) (by rw [results_cell_tmp rfl]; go_simp) rfl ?_
        exact medW_none HR (below3 B1.out (Nat.le_refl _) _ _ _)
      · have HK1 : Box (tokL (x.extract 0 o).data.toList = true) := box (by rw [e1]; exact htk)
        rcases hvk : tokL (x.data.toList.drop (o + 1)) with _ | _
        · have HK2 : Box (tokL (x.extract (o + 1) x.size).data.toList = false) := box (by rw [e2]; exact hvk)
          have HR : Box (rangeL s.data.toList = none) := box (by rw [HT, type_tok2 hi htk hvk]; rfl)
          clear hi htk hvk e1 e2 HT
          go_enter Tryz.func104, Tryz.ntmps104
          go_wp2_with fail
          refine (rParO_is hs H).mono ?_; rintro e w1 ⟨a1, cap1, rfl, hO1, hb1⟩
          have O1 := box hO1
          have C1 := box ((C3.new (.string ⟨#[]⟩) (.string ⟨#[]⟩) (.slice none 0 0) w 105).next hb1)
          have B1 := box ((below_new w _).trans (hb1.mono (below_new w _).size))
          clear hO1 hb1
          go_wp2_with fail
          refine (rIndex47_is hxm HI).mono ?_; rintro e w2 ⟨rfl, rfl⟩
          go_wp2_with fail
          refine (rToken_is HZ1.out HK1).mono ?_; rintro e w2 ⟨rfl, rfl⟩
          go_wp2_with fail
          refine (rToken_is HZ2.out HK2).mono ?_; rintro e w2 ⟨rfl, rfl⟩
          obtain ⟨⟨r0, r1, r2⟩, ⟨f0, f1, f2⟩⟩ := C1.out
          go_wp2
          (try simp only [Exit.inBlock, Exit.then])
          refine bodyPost_ret (v := .tuple #[.agg #[.string ⟨#[]⟩, .string ⟨#[]⟩, .slice none 0 0], .bool false]) (by rw [results_cell_tmp rfl]; go_simp) rfl ?_
          exact medW_none HR (below3 B1.out (Nat.le_refl _) _ _ _)
        · have HK2 : Box (tokL (x.extract (o + 1) x.size).data.toList = true) := box (by rw [e2]; exact hvk)
          rcases hs1 : ((x.extract 0 o).toList == [42]) with _ | _
          · have hn : ¬ (x.data.toList.take o = [42] ∧ x.data.toList.drop (o + 1) ≠ [42]) := by
              rw [← e1, star_is hs1]; simp
            obtain ⟨nm, hnm⟩ : ∃ nm, bs (lowL (x.data.toList.take o)) = nm := ⟨_, rfl⟩
            obtain ⟨sb, hsb⟩ : ∃ sb, bs (lowL (x.data.toList.drop (o + 1))) = sb := ⟨_, rfl⟩
            have HL1 : Box (bs (lowL (x.extract 0 o).data.toList) = nm) := box (by rw [e1]; exact hnm)
            have HL2 : Box (bs (lowL (x.extract (o + 1) x.size).data.toList) = sb) := box (by rw [e2]; exact hsb)
            have HR : Box (rangeL s.data.toList = some (nm, sb, K)) := box (by rw [HT, type_ok hi htk hvk hn, hnm, hsb]; rfl)
            clear hi htk hvk e1 e2 HT hn hnm hsb
            refine (rRange_ok s x K o nm sb w hs hxz ho H HI HK1 HK2 false _ hs1 rfl (by simp) HL1 HL2).mono ?_
            rintro e w' ⟨v, rfl, hO, hb⟩
            exact medW_some HR hO hb
          · rcases hs2 : ((x.extract (o + 1) x.size).toList == [42]) with _ | _
            · have hst : x.data.toList.take o = [42] ∧ x.data.toList.drop (o + 1) ≠ [42] := by
                rw [← e1, ← e2, star_is hs1]
                refine ⟨rfl, fun h => ?_⟩
                have := (star_is hs2).mp h
                simp at this
              have HR : Box (rangeL s.data.toList = none) := box (by rw [HT, type_star hi htk hvk hst]; rfl)
              clear hi htk hvk e1 e2 HT hst
              go_enter Tryz.func104, Tryz.ntmps104
              go_wp2_with fail
              refine (rParO_is hs H).mono ?_; rintro e w1 ⟨a1, cap1, rfl, hO1, hb1⟩
              have O1 := box hO1
              have C1 := box ((C3.new (.string ⟨#[]⟩) (.string ⟨#[]⟩) (.slice none 0 0) w 105).next hb1)
              have B1 := box ((below_new w _).trans (hb1.mono (below_new w _).size))
              clear hO1 hb1
              go_wp2_with fail
              refine (rIndex47_is hxm HI).mono ?_; rintro e w2 ⟨rfl, rfl⟩
              go_wp2_with fail
              refine (rToken_is HZ1.out HK1).mono ?_; rintro e w2 ⟨rfl, rfl⟩
              go_wp2_with fail
              refine (rToken_is HZ2.out HK2).mono ?_; rintro e w2 ⟨rfl, rfl⟩
              obtain ⟨⟨r0, r1, r2⟩, ⟨f0, f1, f2⟩⟩ := C1.out
              go_wp2
              (try simp only [Exit.inBlock, Exit.then])
              refine bodyPost_ret (v := .tuple #[.agg #[.string ⟨#[]⟩, .string ⟨#[]⟩, .slice none 0 0], .bool false]) (by rw [results_cell_tmp rfl]; go_simp) rfl ?_
              exact medW_none HR (below3 B1.out (Nat.le_refl _) _ _ _)
            · have hn : ¬ (x.data.toList.take o = [42] ∧ x.data.toList.drop (o + 1) ≠ [42]) := by
                rw [← e2, not_and]
                intro _ h
                exact h ((star_is hs2).mpr rfl)
              obtain ⟨nm, hnm⟩ : ∃ nm, bs (lowL (x.data.toList.take o)) = nm := ⟨_, rfl⟩
              obtain ⟨sb, hsb⟩ : ∃ sb, bs (lowL (x.data.toList.drop (o + 1))) = sb := ⟨_, rfl⟩
              have HL1 : Box (bs (lowL (x.extract 0 o).data.toList) = nm) := box (by rw [e1]; exact hnm)
              have HL2 : Box (bs (lowL (x.extract (o + 1) x.size).data.toList) = sb) := box (by rw [e2]; exact hsb)
              have HR : Box (rangeL s.data.toList = some (nm, sb, K)) := box (by rw [HT, type_ok hi htk hvk hn, hnm, hsb]; rfl)
              clear hi htk hvk e1 e2 HT hn hnm hsb
              refine (rRange_ok s x K o nm sb w hs hxz ho H HI HK1 HK2 true true hs1 hs2 (by simp) HL1 HL2).mono ?_
              rintro e w' ⟨v, rfl, hO, hb⟩
              exact medW_some HR hO hb
end
section
open Go.RowKit
set_option maxHeartbeats 400000 in
theorem Quote_any (s : ByteArray) (w : World) (hs : s.size ≤ 1073741824) :
    Calls Tryz.prog 81 #[.string s] w fun e w' => e = .returned (.string ⟨(quoteL s.data.toList).toArray⟩) ∧ Below w.heap.size w w' := by
  obtain ⟨i0, hi0, hz0, hz1, hz2⟩ := info_parts info_u8
  have hmk := fun (w : World) => run_make (P := Tryz.prog) w 86 5 i0 _ Tryz.underlying86 hi0 hz0 .i64 .i64 0 (s.size + 2) (by omega) (by omega) (by rw [hz2]; omega) (by omega)
  have e2 : ((s.size : Int) + 2).toNat = s.size + 2 := by omega
  simp only [hz1, Nat.mul_one, e2] at hmk
  clear e2 hz0 hz1 hz2 hi0
  have hO0 : Own (w.alloc (.cells (madeCells #[.int .u8 0] (s.size + 2)) 5)) w.heap.size (.slice (some ⟨w.heap.size, 0, none⟩) 0 (s.size + 2)) [] :=
    ⟨rfl, .inr ⟨_, _, _, rfl, Nat.le_refl _, heap_alloc_new w _, Nat.zero_le _, by unfold maxLen; omega, by simp [size_madeCells], rfl⟩⟩
  have hbel0 : Below w.heap.size w (w.alloc (.cells (madeCells #[.int .u8 0] (s.size + 2)) 5)) := (Below.refl _ _).alloc (Nat.le_refl _) _
  go_enter Tryz.func81, Tryz.ntmps81
  go_wp2_with (at_builtin; refine wpList_append_byte _ rfl (.tmp 9) (.tmp 10) rfl w.heap.size _ _ rfl (hO0.alloc _) _ rfl 34 34 (by decide) (by go_simp) (by simp) (by have := (hbel0).size; simp; omega) ?_; intro v0 w0 hO00 hb00; have hb00' := hbel0 |>.alloc (hbel0).size _ |>.trans hb00)
  clear hO0 hmk
  go_loopw [3, 4, 14] (fun v _ i wr => ∃ k : Nat, k ≤ s.size ∧ i = .int .i64 k ∧ Own wr w.heap.size v ([34] ++ escL (s.data.toList.take k)) ∧ Below w.heap.size w wr) (fun _ _ i _ => s.size - (intOf i).toNat)
  case atStart => exact ⟨0, Nat.zero_le _, rfl, by simpa [escL] using hO00, hb00'⟩
  case round =>
    obtain ⟨k, hk, rfl, hO, hbel⟩ := hrel
    have hle := escL_le' s k
    have hl0 : ([34] ++ escL (s.data.toList.take k)).length < 4294967296 := by simp; omega
    clear hle
    by_cases hlt : k < s.size
    · rcases h1 : ((s[k].toNat : Int) == 34) with _ | _
      · rcases h2 : ((s[k].toNat : Int) == 92) with _ | _
        · have HE := Lib.hid (esc_plain hlt h1 h2)
          go_wp2_with (at_builtin; refine wpList_append_byte _ rfl (.tmp 26) (.tmp 30) rfl w.heap.size _ _ rfl (hO.alloc _) _ rfl _ s[k] rfl (by go_simp) (by omega) (by have := (hbel).size; simp; omega) ?_; intro v1 w1 hO1 hb1; have hb1' := hbel |>.alloc (hbel).size _ |>.trans hb1)
          go_roundw
          case rel => exact ⟨k + 1, by omega, by go_num, by rw [HE.out]; simpa using hO1, hb1'⟩
          case measure => simp [intOf]; omega
        ·
          have HE := Lib.hid (esc_b hlt h2)
          go_wp2_with (first | (at_builtin; refine wpList_append_byte _ rfl (.tmp 23) (.tmp 24) rfl w.heap.size _ _ rfl (hO.alloc _) _ rfl 92 92 (by decide) (by go_simp) (by omega) (by have := (hbel).size; simp; omega) ?_; intro v1 w1 hO1 hb1; have hb1' := hbel |>.alloc (hbel).size _ |>.trans hb1) | (at_builtin; refine wpList_append_byte _ rfl (.tmp 26) (.tmp 30) rfl w.heap.size _ _ rfl (hO1.alloc _) _ rfl _ s[k] rfl (by go_simp) (by simp at hl0 ⊢; omega) (by have := (hb1').size; simp; omega) ?_; intro v2 w2 hO2 hb2; have hb2' := hb1' |>.alloc (hb1').size _ |>.trans hb2))
          go_roundw
          case rel => exact ⟨k + 1, by omega, by go_num, by rw [HE.out]; simpa using hO2, hb2'⟩
          case measure => simp [intOf]; omega
      ·
        have HE := Lib.hid (esc_q hlt h1)
        go_wp2_with (first | (at_builtin; refine wpList_append_byte _ rfl (.tmp 23) (.tmp 24) rfl w.heap.size _ _ rfl (hO.alloc _) _ rfl 92 92 (by decide) (by go_simp) (by omega) (by have := (hbel).size; simp; omega) ?_; intro v1 w1 hO1 hb1; have hb1' := hbel |>.alloc (hbel).size _ |>.trans hb1) | (at_builtin; refine wpList_append_byte _ rfl (.tmp 26) (.tmp 30) rfl w.heap.size _ _ rfl (hO1.alloc _) _ rfl _ s[k] rfl (by go_simp) (by simp at hl0 ⊢; omega) (by have := (hb1').size; simp; omega) ?_; intro v2 w2 hO2 hb2; have hb2' := hb1' |>.alloc (hb1').size _ |>.trans hb2))
        go_roundw
        case rel => exact ⟨k + 1, by omega, by go_num, by rw [HE.out]; simpa using hO2, hb2'⟩
        case measure => simp [intOf]; omega
    · go_wp2_with (at_builtin; refine wpList_append_byte _ rfl (.tmp 33) (.tmp 34) rfl w.heap.size _ _ rfl (hO.alloc _) _ rfl 34 34 (by decide) (by go_simp) (by omega) (by have := (hbel).size; simp; omega) ?_; intro v1 w1 hO1 hb1; have hb1' := hbel |>.alloc (hbel).size _ |>.trans hb1; have hst := hO1.str; rw [List.take_of_length_le (by simp; omega)] at hst)
      go_ret
      exact ⟨rfl, hb1'⟩
set_option maxHeartbeats 400000 in
theorem rQuote_any (s : ByteArray) (w : World) (hs : s.size ≤ 1073741824) :
    Calls Tryz.prog 56 #[.string s] w fun e w' => e = .returned (.string ⟨(quoteL s.data.toList).toArray⟩) ∧ Below w.heap.size w w' := by
  go_enter Tryz.func56, Tryz.ntmps56
  go_wp2
  have hO0 : Own (w.alloc (.cells #[.int .u8 34] 5)) w.heap.size (.slice (some ⟨w.heap.size, 0, none⟩) 1 1) [34] :=
    ⟨rfl, .inr ⟨_, _, _, rfl, Nat.le_refl _, heap_alloc_new w _, Nat.le_refl _, by unfold maxLen; omega, rfl, rfl⟩⟩
  go_loopw [3, 4] (fun v i wr => ∃ k : Nat, k ≤ s.size ∧ i = .int .i64 k ∧ Own wr w.heap.size v ([34] ++ escL (s.data.toList.take k)) ∧ Below w.heap.size w wr) (fun _ i _ => s.size - (intOf i).toNat)
  case atStart => exact ⟨0, Nat.zero_le _, rfl, by simpa [escL] using hO0, (Below.refl _ _).alloc (Nat.le_refl _) _⟩
  case round =>
    obtain ⟨k, hk, rfl, hO, hbel⟩ := hrel
    have hle := escL_le' s k
    have hl0 : ([34] ++ escL (s.data.toList.take k)).length < 4294967296 := by simp; omega
    clear hle
    by_cases hlt : k < s.size
    · rcases h1 : ((s[k].toNat : Int) == 34) with _ | _
      · rcases h2 : ((s[k].toNat : Int) == 92) with _ | _
        · have HE := Lib.hid (esc_plain hlt h1 h2)
          go_wp2_with (at_builtin; refine wpList_append_byte _ rfl (.tmp 25) (.tmp 29) rfl w.heap.size _ _ rfl (hO.alloc _) _ rfl _ s[k] rfl (by go_simp) (by omega) (by have := (hbel).size; simp; omega) ?_; intro v1 w1 hO1 hb1; have hb1' := hbel |>.alloc (hbel).size _ |>.trans hb1)
          go_roundw
          case rel => exact ⟨k + 1, by omega, by go_num, by rw [HE.out]; simpa using hO1, hb1'⟩
          case measure => simp [intOf]; omega
        ·
          have HE := Lib.hid (esc_b hlt h2)
          go_wp2_with (first | (at_builtin; refine wpList_append_byte _ rfl (.tmp 22) (.tmp 23) rfl w.heap.size _ _ rfl (hO.alloc _) _ rfl 92 92 (by decide) (by go_simp) (by omega) (by have := (hbel).size; simp; omega) ?_; intro v1 w1 hO1 hb1; have hb1' := hbel |>.alloc (hbel).size _ |>.trans hb1) | (at_builtin; refine wpList_append_byte _ rfl (.tmp 25) (.tmp 29) rfl w.heap.size _ _ rfl (hO1.alloc _) _ rfl _ s[k] rfl (by go_simp) (by simp at hl0 ⊢; omega) (by have := (hb1').size; simp; omega) ?_; intro v2 w2 hO2 hb2; have hb2' := hb1' |>.alloc (hb1').size _ |>.trans hb2))
          go_roundw
          case rel => exact ⟨k + 1, by omega, by go_num, by rw [HE.out]; simpa using hO2, hb2'⟩
          case measure => simp [intOf]; omega
      ·
        have HE := Lib.hid (esc_q hlt h1)
        go_wp2_with (first | (at_builtin; refine wpList_append_byte _ rfl (.tmp 22) (.tmp 23) rfl w.heap.size _ _ rfl (hO.alloc _) _ rfl 92 92 (by decide) (by go_simp) (by omega) (by have := (hbel).size; simp; omega) ?_; intro v1 w1 hO1 hb1; have hb1' := hbel |>.alloc (hbel).size _ |>.trans hb1) | (at_builtin; refine wpList_append_byte _ rfl (.tmp 25) (.tmp 29) rfl w.heap.size _ _ rfl (hO1.alloc _) _ rfl _ s[k] rfl (by go_simp) (by simp at hl0 ⊢; omega) (by have := (hb1').size; simp; omega) ?_; intro v2 w2 hO2 hb2; have hb2' := hb1' |>.alloc (hb1').size _ |>.trans hb2))
        go_roundw
        case rel => exact ⟨k + 1, by omega, by go_num, by rw [HE.out]; simpa using hO2, hb2'⟩
        case measure => simp [intOf]; omega
    · go_wp2_with (at_builtin; refine wpList_append_byte _ rfl (.tmp 31) (.tmp 32) rfl w.heap.size _ _ rfl (hO.alloc _) _ rfl 34 34 (by decide) (by go_simp) (by omega) (by have := (hbel).size; simp; omega) ?_; intro v1 w1 hO1 hb1; have hb1' := hbel |>.alloc (hbel).size _ |>.trans hb1; have hst := hO1.str; rw [List.take_of_length_le (by simp; omega)] at hst)
      go_ret
      exact ⟨rfl, hb1'⟩
end
section
open Go.RowKit
theorem c_bd (c : UInt8) : (0 : Int) ≤ (c.toNat : Int) ∧ (c.toNat : Int) ≤ 255 := by have := c.toNat_lt; omega
theorem rDigit_c (c : UInt8) (w : World) :
    Calls Tryz.prog 106 #[.int .u8 (c.toNat : Int)] w fun e w' => e = .returned (.bool (digitI (c.toNat : Int))) ∧ w = w' := rDigit_any _ w (c_bd c).1 (c_bd c).2
theorem visL_not {s : ByteArray} {k : Nat} (hk : k < s.size) (hp : visI (s[k].toNat) = false) : visL s.data.toList = false := by
  simp [visL, all_not hk hp]
theorem visL_end {s : ByteArray} {k : Nat} (h : allI visI (s.data.toList.take k) = true) (hk : s.size ≤ k) : visL s.data.toList = !s.toList.isEmpty := by
  rw [ByteArray.toList_eq]; simp [visL, all_end h hk]
theorem rVisible_any (s : ByteArray) (w : World) (hs : s.size ≤ maxLen) :
    Calls Tryz.prog 55 #[.string s] w fun e w' => e = .returned (.bool (visL s.data.toList)) ∧ w = w' := by
  unfold maxLen at hs
  go_enter Tryz.func55, Tryz.ntmps55
  go_wp2
  go_loop [3] (fun i => ∃ k : Nat, k ≤ s.size ∧ i = .int .i64 k ∧ allI visI (s.data.toList.take k) = true) (fun i => s.size - (intOf i).toNat)
  case atStart => exact ⟨0, Nat.zero_le _, rfl, rfl⟩
  case round =>
    obtain ⟨k, hk, rfl, hall⟩ := hrel
    by_cases hlt : k < s.size
    · have hb := byte_bd s k hlt
      rcases hp : visI (s[k].toNat) with _ | _
      · have HP := Lib.hid hp
        have hq : ¬ (33 ≤ (s[k].toNat : Int) ∧ (s[k].toNat : Int) ≤ 126) := by simpa [visI] using hp
        have HA := Lib.hid hall
        clear hp hall
        by_cases h33 : (s[k].toNat : Int) < 33
        · clear hq
          go_wp2
          go_ret
          exact ⟨ret_bool (visL_not hlt HP.out).symm, rfl⟩
        · have h126 : 126 < (s[k].toNat : Int) := by omega
          clear hq
          go_wp2
          go_ret
          exact ⟨ret_bool (visL_not hlt HP.out).symm, rfl⟩
      · have hq : 33 ≤ (s[k].toNat : Int) ∧ (s[k].toNat : Int) ≤ 126 := by simpa [visI] using hp
        have HA := Lib.hid (all_more hall hlt hp)
        obtain ⟨q1, q2⟩ := hq
        clear hp hall
        go_wp2
        go_round
        case rel => exact ⟨k + 1, by omega, by go_num, HA.out⟩
        case measure => simp [intOf]; omega
    · go_wp2
      go_ret
      exact ⟨ret_bool (by rw [visL_end hall (by omega)]), rfl⟩
end
section
open Go.RowKit
def InI64 (n : Int) : Prop := -9223372036854775808 ≤ n ∧ n ≤ 9223372036854775807
end
section
open Go.RowKit
/-- how far the digits have come -/
def RDec (N m : Nat) (acc : List UInt8) : Prop := DecAt N m acc ∨ (m = 0 ∧ 1 ≤ acc.length ∧ acc.length ≤ 19 ∧ decF 20 N [] = acc)
theorem RDec.next {N m : Nat} {acc : List UInt8} (h : DecAt N m acc) : RDec N (m / 10) (digB m :: acc) := by
  by_cases hm : m / 10 = 0
  · have := h.len
    exact .inr ⟨hm, by simp, by simp; omega, h.fin hm⟩
  · exact .inl (h.step hm)
theorem RDec.step {N m : Nat} {acc : List UInt8} (h : DecAt N m acc) : Hid (RDec N (m / 10) (digB m :: acc)) := Lib.hid (RDec.next h)
end
section
open Go.RowKit
theorem escL_len : ∀ l : List UInt8, (escL l).length ≤ 2 * l.length
  | [] => by simp [escL]
  | c :: r => by
    have ih := escL_len r
    have e : escL (c :: r) = escB c ++ escL r := rfl
    have h1 : (escB c).length ≤ 2 := by unfold escB; split <;> simp
    rw [e, List.length_append, List.length_cons]; omega
theorem rQuote_is {s x : ByteArray} {w : World} (hs : s.size ≤ 1073741824) (h : Box (bs (quoteL s.data.toList) = x)) :
    Calls Tryz.prog 56 #[.string s] w fun e w' => e = .returned (.string x) ∧ Below w.heap.size w w' :=
  (rQuote_any s w hs).mono fun e w' ⟨h1, h2⟩ => ⟨by rw [h1, ← h.out]; rfl, h2⟩
end
section
open Go.RowKit
theorem rRange_is {s : ByteArray} {a b : ByteArray} {L : List F} {q : Bool} {w : World} (hs : s.size ≤ 65000) (h : Box (ofM (rangeL s.data.toList) = (a, b, L) ∧ (rangeL s.data.toList).isSome = q)) :
    Calls Tryz.prog 104 #[.string s] w fun e w' => ∃ p cap, e = .returned (.tuple #[.agg #[.string a, .string b, .slice p L.length cap], .bool q]) ∧ OwnP w' w.heap.size (.slice p L.length cap) L ∧ Below w.heap.size w w' :=
  (rRange_any s w hs).mono fun e w' ⟨v, h1, h2, h3⟩ => by
    rw [h.out.1] at h1 h2
    rw [h.out.2] at h1
    obtain ⟨p, cap, rfl, _, _⟩ := h2.fs
    exact ⟨p, cap, h1, h2, h3⟩
theorem media_cases (l : List UInt8) : mediaL l = if (rangeL l).isSome = true then (if (ofM (rangeL l)).1 = star ∨ (ofM (rangeL l)).2.1 = star then none else some (ofM (rangeL l))) else none := by
  unfold mediaL ofM
  cases h : rangeL l with
  | none => rfl
  | some x => obtain ⟨a, b, L⟩ := x; rfl
theorem star_eq {x : ByteArray} {b : Bool} (h : (x.toList == [42]) = b) : x = star ↔ b = true := by
  rw [← star_is h]
  constructor
  · intro e; rw [e]; rfl
  · intro e; rw [bs_of x, e]; rfl
set_option maxHeartbeats 1000000 in
theorem rMedia_any (s : ByteArray) (w : World) (hs : s.size ≤ 65000) :
    Calls Tryz.prog 87 #[.string s] w fun e w' => medW w w' (mediaL s.data.toList) e := by
  obtain ⟨⟨a, b, L⟩, hM⟩ : ∃ m, ofM (rangeL s.data.toList) = m := ⟨_, rfl⟩
  obtain ⟨q, hq⟩ : ∃ q, (rangeL s.data.toList).isSome = q := ⟨_, rfl⟩
  have H := box (And.intro hM hq)
  have HC := media_cases s.data.toList
  rw [hM, hq] at HC
  clear hM hq
  rcases q with _ | _
  · have HR : Box (mediaL s.data.toList = none) := box (by rw [HC]; rfl)
    clear HC
    go_enter Tryz.func87, Tryz.ntmps87
    go_wp2_with fail
    refine (rRange_is hs H).mono ?_; rintro e w1 ⟨p, cap, rfl, hO1, hb1⟩
    have C1 := box (((C3.new (.string ⟨#[]⟩) (.string ⟨#[]⟩) (.slice none 0 0) w 105).next hb1).next (below_new w1 (.cells #[.string a, .string b, .slice p L.length cap] 105)))
    have B1 := box (((below_new w _).trans (hb1.mono (below_new w _).size)).alloc ((below_new w _).trans (hb1.mono (below_new w _).size)).size (.cells #[.string a, .string b, .slice p L.length cap] 105))
    clear hO1 hb1
    obtain ⟨⟨r0, r1, r2⟩, ⟨f0, f1, f2⟩⟩ := C1.out
    go_wp2
    (try simp only [Exit.inBlock, Exit.then])
    refine bodyPost_ret (v := .tuple #[.agg #[.string ⟨#[]⟩, .string ⟨#[]⟩, .slice none 0 0], .bool false]) (by rw [results_cell_tmp rfl]; go_simp) rfl ?_
    exact medW_none HR (below3 B1.out (Nat.le_refl _) _ _ _)
  · rcases h1 : (a.toList == [42]) with _ | _
    · rcases h2 : (b.toList == [42]) with _ | _
      · have HR : Box (mediaL s.data.toList = some (a, b, L)) := box (by
          rw [HC, if_pos rfl, if_neg (by
            rintro (e | e)
            · have := (star_eq h1).mp e; simp at this
            · have := (star_eq h2).mp e; simp at this)])
        clear HC
        go_enter Tryz.func87, Tryz.ntmps87
        go_wp2_with fail
        refine (rRange_is hs H).mono ?_; rintro e w1 ⟨p, cap, rfl, hO1, hb1⟩
        have C1 := box (((C3.new (.string ⟨#[]⟩) (.string ⟨#[]⟩) (.slice none 0 0) w 105).next hb1).next (below_new w1 (.cells #[.string a, .string b, .slice p L.length cap] 105)))
        have B1 := box (((below_new w _).trans (hb1.mono (below_new w _).size)).alloc ((below_new w _).trans (hb1.mono (below_new w _).size)).size (.cells #[.string a, .string b, .slice p L.length cap] 105))
        have O1 := box (own_below hO1 (below_new w1 (.cells #[.string a, .string b, .slice p L.length cap] 105)))
        clear hO1 hb1
        obtain ⟨⟨r0, r1, r2⟩, ⟨f0, f1, f2⟩⟩ := C1.out
        go_wp2
        (try simp only [Exit.inBlock, Exit.then])
        refine bodyPost_ret (v := .tuple #[.agg #[.string a, .string b, .slice p L.length cap], .bool true]) (by rw [results_cell_tmp rfl]; go_simp) rfl ?_
        exact medW_some HR (own_le (own_only O1.out (only3 _ _ _ _ _) (by simp)) (by simp)) (below3 B1.out (Nat.le_refl _) _ _ _)
      · have HR : Box (mediaL s.data.toList = none) := box (by rw [HC, if_pos rfl, if_pos (.inr ((star_eq h2).mpr rfl))])
        clear HC
        go_enter Tryz.func87, Tryz.ntmps87
        go_wp2_with fail
        refine (rRange_is hs H).mono ?_; rintro e w1 ⟨p, cap, rfl, hO1, hb1⟩
        have C1 := box (((C3.new (.string ⟨#[]⟩) (.string ⟨#[]⟩) (.slice none 0 0) w 105).next hb1).next (below_new w1 (.cells #[.string a, .string b, .slice p L.length cap] 105)))
        have B1 := box (((below_new w _).trans (hb1.mono (below_new w _).size)).alloc ((below_new w _).trans (hb1.mono (below_new w _).size)).size (.cells #[.string a, .string b, .slice p L.length cap] 105))
        have O1 := box (own_below hO1 (below_new w1 (.cells #[.string a, .string b, .slice p L.length cap] 105)))
        clear hO1 hb1
        obtain ⟨⟨r0, r1, r2⟩, ⟨f0, f1, f2⟩⟩ := C1.out
        go_wp2
        (try simp only [Exit.inBlock, Exit.then])
        refine bodyPost_ret (v := .tuple #[.agg #[.string ⟨#[]⟩, .string ⟨#[]⟩, .slice none 0 0], .bool false]) (by rw [results_cell_tmp rfl]; go_simp) rfl ?_
        exact medW_none HR (below3 B1.out (Nat.le_refl _) _ _ _)
    · have HR : Box (mediaL s.data.toList = none) := box (by rw [HC, if_pos rfl, if_pos (.inl ((star_eq h1).mpr rfl))])
      clear HC
      go_enter Tryz.func87, Tryz.ntmps87
      go_wp2_with fail
      refine (rRange_is hs H).mono ?_; rintro e w1 ⟨p, cap, rfl, hO1, hb1⟩
      have C1 := box (((C3.new (.string ⟨#[]⟩) (.string ⟨#[]⟩) (.slice none 0 0) w 105).next hb1).next (below_new w1 (.cells #[.string a, .string b, .slice p L.length cap] 105)))
      have B1 := box (((below_new w _).trans (hb1.mono (below_new w _).size)).alloc ((below_new w _).trans (hb1.mono (below_new w _).size)).size (.cells #[.string a, .string b, .slice p L.length cap] 105))
      have O1 := box (own_below hO1 (below_new w1 (.cells #[.string a, .string b, .slice p L.length cap] 105)))
      clear hO1 hb1
      obtain ⟨⟨r0, r1, r2⟩, ⟨f0, f1, f2⟩⟩ := C1.out
      go_wp2
      (try simp only [Exit.inBlock, Exit.then])
      refine bodyPost_ret (v := .tuple #[.agg #[.string ⟨#[]⟩, .string ⟨#[]⟩, .slice none 0 0], .bool false]) (by rw [results_cell_tmp rfl]; go_simp) rfl ?_
      exact medW_none HR (below3 B1.out (Nat.le_refl _) _ _ _)
end
end Go.Proofs.YtcnohcbhnldglaaGreat.Asc
