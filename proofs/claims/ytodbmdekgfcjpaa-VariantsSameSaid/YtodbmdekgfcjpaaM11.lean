/- Merged texts: MedSet LisPc LisApp LisApp2 BldMem BldMore ParMine. -/
import Derived.Test.YtodbmdekgfcjpaaM02
import Derived.Test.YtodbmdekgfcjpaaM03
import Derived.Test.YtodbmdekgfcjpaaM04
import Derived.Test.YtodbmdekgfcjpaaM05
import Derived.Test.YtodbmdekgfcjpaaM07
import Derived.BigQuiet
import Derived.Deep.QuietTactic
import Derived.Deep.RegionHeld3
import Derived.DeepKeys4
import Derived.Laws.Externs
import Derived.Laws.IdiomCopy
import Derived.Lib.AppendStr
import Derived.Lib.Builder
import Derived.Lib.MakeNoZero
import Derived.Lib.UnsafeStr
import Derived.Maps.OwnSet
set_option linter.unusedVariables false
set_option linter.unusedSimpArgs false
set_option maxRecDepth 100000
namespace Go.Proofs.Ytodbmdekgfcjpaa.Asc
section
open Go.RowKit Go.Maps
/-- what a parameter reads as when it is a key -/
def pkey (p : F) : Lit := .string (keyBytes [.string p.1.data.toList, .string p.2.data.toList])
def Sml (p : F) : Prop := p.1.size ≤ maxLen ∧ p.2.size ≤ maxLen
/-- block b is a set of at most n parameters: those of which S says so -/
def PSet (w : World) (b n : Nat) (S : F → Prop) : Prop :=
  ∃ D : DataW Unit, w.ownsMap Try.prog 126 (plainElem Try.prog 4) b n D ∧ ∀ kl, Maps.has D kl = true ↔ ∃ p, S p ∧ Sml p ∧ pkey p = kl
section
variable {w w' : World} {b n : Nat} {S : F → Prop}
theorem PSet.made (w : World) : PSet (w.alloc (.map #[] 0)) w.heap.size 0 (fun _ => False) :=
  ⟨_, World.ownsMap_made _ _ _ _, fun kl => by simp [Maps.has]⟩
theorem PSet.below {B : Nat} (h : PSet w b n S) (hb : Below B w w') (hB : b < B) : PSet w' b n S := by
  obtain ⟨D, ⟨es, clock, h1, r⟩, h2⟩ := h
  exact ⟨D, ⟨es, clock, (hb.block b hB).trans h1, r⟩, h2⟩
theorem PSet.lt (h : PSet w b n S) : b < w.heap.size := by obtain ⟨D, h1, h2⟩ := h; exact h1.lt
theorem PSet.mono {m : Nat} (h : PSet w b n S) (hm : n ≤ m) : PSet w b m S := by obtain ⟨D, h1, h2⟩ := h; exact ⟨D, h1.mono hm, h2⟩
end
end
section
/-- outside quoted strings (0), within one (1), behind a backslash within one (2) -/
def stepQ (s : Nat) (c : UInt8) : Nat := if s = 0 then (if c = 34 then 1 else 0) else if s = 1 then (if c = 34 then 0 else if c = 92 then 2 else 1) else 1
def pcF (sep : UInt8) : Nat → List UInt8 → List UInt8 → List UInt8 × List UInt8 × Bool
  | _, [], acc => (acc, [], false)
  | s, c :: r, acc => if s = 0 ∧ c = sep then (acc, r, true) else pcF sep (stepQ s c) r (acc ++ [c])
def pcL (sep : UInt8) (l : List UInt8) : List UInt8 × List UInt8 × Bool := pcF sep 0 l []
def moreL (sep : UInt8) (m : Bool) (l : List UInt8) : List (List UInt8) := if m then cutL sep l else []
theorem pcF_cons (sep : UInt8) (s : Nat) (c : UInt8) (r acc : List UInt8) : pcF sep s (c :: r) acc = if s = 0 ∧ c = sep then (acc, r, true) else pcF sep (stepQ s c) r (acc ++ [c]) := rfl
def qS (q : Bool) : Nat := if q = true then 1 else 0
theorem cut_pc {sep : UInt8} (hs : sep ≠ 34) : ∀ (f : Nat) (q : Bool) (l acc : List UInt8), l.length ≤ f → cutF sep f q l acc = (pcF sep (qS q) l acc).1 :: moreL sep (pcF sep (qS q) l acc).2.2 (pcF sep (qS q) l acc).2.1
  | f, q, [], acc, _ => by rw [cutF_nil]; rfl
  | 0, q, c :: r, acc, h => by simp at h
  | f + 1, q, c :: r, acc, h => by
    simp only [List.length_cons] at h
    rw [cutF_cons, pcF_cons]
    by_cases h1 : q = true ∧ c = 92
    · obtain ⟨rfl, rfl⟩ := h1
      rw [if_pos ⟨rfl, rfl⟩, if_neg (fun h => absurd h.1 (by decide))]
      match r, h with
      | [], h => rfl
      | d :: r2, h =>
        simp only [List.length_cons] at h
        simp only
        rw [cut_pc hs f true r2 _ (by omega), pcF_cons, if_neg (fun h => absurd h.1 (by decide)), List.append_assoc]
        rfl
    · rw [if_neg h1]
      by_cases h2 : c = 34
      · subst h2
        rw [if_pos rfl, if_neg (fun h => hs h.2.symm), cut_pc hs f (!q) r _ (by omega)]
        cases q <;> rfl
      · rw [if_neg h2]
        by_cases h3 : c = sep ∧ q = false
        · obtain ⟨rfl, rfl⟩ := h3
          rw [if_pos ⟨rfl, rfl⟩, if_pos ⟨rfl, rfl⟩]
          show acc :: cutF c f false r [] = acc :: cutF c r.length false r []
          rw [cutF_fuel f r.length false r [] (by omega) (Nat.le_refl _)]
        · rw [if_neg h3]
          have e : stepQ (qS q) c = qS q := by
            unfold stepQ
            cases q
            · show (if (0 : Nat) = 0 then _ else _) = _
              rw [if_pos rfl, if_neg h2]; rfl
            · show (if (1 : Nat) = 0 then _ else if (1 : Nat) = 1 then _ else _) = _
              rw [if_neg (by decide), if_pos rfl, if_neg h2, if_neg (fun h => h1 ⟨rfl, h⟩)]; rfl
          have n : ¬ (qS q = 0 ∧ c = sep) := by
            rintro ⟨h5, h6⟩
            cases q
            · exact h3 ⟨h6, rfl⟩
            · exact absurd h5 (by decide)
          rw [if_neg n, e, cut_pc hs f q r _ (by omega)]
theorem cutL_pc {sep : UInt8} (hs : sep ≠ 34) (l : List UInt8) : cutL sep l = (pcL sep l).1 :: moreL sep (pcL sep l).2.2 (pcL sep l).2.1 := cut_pc hs l.length false l [] (Nat.le_refl _)
/-- the steps, by places -/
def pcAt (sep : UInt8) (s : Nat) (l : List UInt8) (k : Nat) : List UInt8 × List UInt8 × Bool := pcF sep s (l.drop k) (l.take k)
theorem pc_start (sep : UInt8) (l : List UInt8) : pcL sep l = pcAt sep 0 l 0 := by unfold pcL pcAt; simp
theorem pc_end {sep : UInt8} {s : Nat} {l : List UInt8} {k : Nat} (h : l.length ≤ k) : pcAt sep s l k = (l, [], false) := by
  unfold pcAt; rw [List.drop_of_length_le h, List.take_of_length_le h]; rfl
theorem pc_sep {sep : UInt8} {l : List UInt8} {k : Nat} (hk : k < l.length) (h : l[k] = sep) : pcAt sep 0 l k = (l.take k, l.drop (k + 1), true) := by
  unfold pcAt; rw [List.drop_eq_getElem_cons hk, pcF_cons, if_pos ⟨rfl, h⟩]
theorem pc_step {sep : UInt8} {s : Nat} {l : List UInt8} {k : Nat} (hk : k < l.length) (h : ¬ (s = 0 ∧ l[k] = sep)) : pcAt sep s l k = pcAt sep (stepQ s l[k]) l (k + 1) := by
  unfold pcAt
  rw [List.drop_eq_getElem_cons hk, pcF_cons, if_neg h, List.take_add_one, List.getElem?_eq_getElem hk]; rfl
theorem stepQ_le (s : Nat) (c : UInt8) : stepQ s c ≤ 2 := by unfold stepQ; repeat' split <;> try omega
/-- sizes -/
theorem pcF_size (sep : UInt8) : ∀ (l : List UInt8) (s : Nat) (acc : List UInt8), (pcF sep s l acc).1.length + (pcF sep s l acc).2.1.length ≤ acc.length + l.length ∧ ((pcF sep s l acc).2.2 = true → (pcF sep s l acc).2.1.length < l.length)
  | [], s, acc => ⟨by simp [pcF], fun h => by simp [pcF] at h⟩
  | c :: r, s, acc => by
    rw [pcF_cons]
    split
    · refine ⟨by simp only [List.length_cons]; omega, fun _ => by simp⟩
    · obtain ⟨h1, h2⟩ := pcF_size sep r (stepQ s c) (acc ++ [c])
      simp only [List.length_append, List.length_cons, List.length_nil] at h1 ⊢
      exact ⟨by omega, fun h => by have := h2 h; omega⟩
/-- the members of a value behind others, as long as there is room -/
def addL (A : List (List UInt8)) (ps : List (List UInt8)) : List (List UInt8) := (A ++ memL ps).take 64
theorem addL_nil {A : List (List UInt8)} (h : A.length ≤ 64) : addL A [] = A := by unfold addL memL; simp [List.take_of_length_le h]
theorem addL_full {A ps : List (List UInt8)} (h : A.length = 64) : addL A ps = A := by
  unfold addL; rw [List.take_append_of_le_length (by omega), List.take_of_length_le (by omega)]
theorem memL_cons (p : List UInt8) (ps : List (List UInt8)) : memL (p :: ps) = (if trimL p = [] then [] else [trimL p]) ++ memL ps := by
  rw [show p :: ps = [p] ++ ps from rfl, memL_append]
  congr 1
  split
  · rename_i e; unfold memL; simp [e]
  · rename_i e; exact memL_one e
theorem addL_blank {A ps : List (List UInt8)} {p : List UInt8} (h : trimL p = []) : addL A (p :: ps) = addL A ps := by unfold addL; rw [memL_cons, if_pos h, List.nil_append]
theorem addL_more {A ps : List (List UInt8)} {p : List UInt8} (h : trimL p ≠ []) : addL A (p :: ps) = addL (A ++ [trimL p]) ps := by unfold addL; rw [memL_cons, if_neg h, List.append_assoc]
theorem addL_all {vs : List ByteArray} {k : Nat} (h : k < vs.length) : (allF (vs.take (k + 1))).take 64 = addL ((allF (vs.take k)).take 64) (cutL 44 vs[k].data.toList) := by
  rw [allF_more h]
  unfold addL splitL
  generalize (allF (vs.take k)).take 64 = X
  rw [List.take_append, List.take_append, List.take_take]
  congr 2
  omega
end
section
open Go.RowKit
theorem after_any (st : Nat) (c : UInt8) (w : World) (h : st ≤ 2) :
    Calls Try.prog 59 #[.int .i64 (st : Int), .int .u8 (c.toNat : Int)] w fun e w' => e = .returned (.int .i64 ((stepQ st c : Nat) : Int)) ∧ w = w' := by
  obtain ⟨v, hv⟩ : ∃ v, stepQ st c = v := ⟨_, rfl⟩
  rw [hv]
  rcases h34 : ((c.toNat : Int) == 34) with _ | _
  · have n34 : c ≠ 34 := byte_no (d := 34) h34
    rcases h92 : ((c.toNat : Int) == 92) with _ | _
    · have n92 : c ≠ 92 := byte_no (d := 92) h92
      have hs : st = 0 ∧ v = 0 ∨ st = 1 ∧ v = 1 ∨ st = 2 ∧ v = 1 := by
        unfold stepQ at hv
        rw [if_neg n34, if_neg n34, if_neg n92] at hv
        split at hv
        · omega
        · split at hv <;> omega
      clear n34 n92 hv h
      rcases hs with ⟨rfl, rfl⟩ | ⟨rfl, rfl⟩ | ⟨rfl, rfl⟩
      all_goals
        go_enter Try.func59, Try.ntmps59
        go_wp2
        go_ret
        exact ⟨rfl, rfl⟩
    · have e92 : c = 92 := byte_is (d := 92) h92
      have hs : st = 0 ∧ v = 0 ∨ st = 1 ∧ v = 2 ∨ st = 2 ∧ v = 1 := by
        unfold stepQ at hv
        rw [if_neg n34, if_neg n34, if_pos e92] at hv
        split at hv
        · omega
        · split at hv <;> omega
      clear n34 e92 hv h
      rcases hs with ⟨rfl, rfl⟩ | ⟨rfl, rfl⟩ | ⟨rfl, rfl⟩
      all_goals
        go_enter Try.func59, Try.ntmps59
        go_wp2
        go_ret
        exact ⟨rfl, rfl⟩
  · have e34 : c = 34 := byte_is (d := 34) h34
    have hs : st = 0 ∧ v = 1 ∨ st = 1 ∧ v = 0 ∨ st = 2 ∧ v = 1 := by
      unfold stepQ at hv
      rw [if_pos e34, if_pos e34] at hv
      split at hv
      · omega
      · split at hv <;> omega
    clear e34 hv h
    rcases hs with ⟨rfl, rfl⟩ | ⟨rfl, rfl⟩ | ⟨rfl, rfl⟩
    all_goals
      go_enter Try.func59, Try.ntmps59
      go_wp2
      go_ret
      exact ⟨rfl, rfl⟩
def pcV (sep : UInt8) (l : List UInt8) : Value := .tuple #[.string (bs (pcL sep l).1), .string (bs (pcL sep l).2.1), .bool (pcL sep l).2.2]
set_option maxHeartbeats 1000000 in
theorem pieceCut_any (s : ByteArray) (sep : UInt8) (w : World) (hs : s.size ≤ 65000) :
    Calls Try.prog 45 #[.string s, .int .u8 (sep.toNat : Int)] w fun e w' => e = .returned (pcV sep s.data.toList) ∧ Below w.heap.size w w' := by
  have hz : s.data.toList.length = s.size := by simp
  go_enter Try.func45, Try.ntmps45
  go_wp2
  go_loop [7, 11] (fun p i => ∃ k st : Nat, k ≤ s.size ∧ st ≤ 2 ∧ p = .int .i64 (st : Int) ∧ i = .int .i64 k ∧ Box (pcL sep s.data.toList = pcAt sep st s.data.toList k)) (fun _ i => s.size - (intOf i).toNat)
  case atStart => exact ⟨0, 0, Nat.zero_le _, by omega, rfl, rfl, box (pc_start _ _)⟩
  case round =>
    obtain ⟨k, st, hk, hst, rfl, rfl, HC⟩ := hrel
    by_cases hlt : k < s.size
    · have hlt' : k < s.data.toList.length := by rw [hz]; exact hlt
      have hbk : s.data.toList[k] = s[k] := rfl
      rcases h0 : ((st : Int) == 0) with _ | _
      · have n0 : st ≠ 0 := by intro h; subst h; simp at h0
        have HX := box (HC.out.trans (pc_step hlt' (fun h => n0 h.1)))
        have hle := stepQ_le st s[k]
        rw [hbk] at HX
        clear hbk n0
        go_wp2_with fail
        refine (after_any st s[k] _ hst).mono ?_; rintro e w1 ⟨rfl, rfl⟩
        go_wp2
        go_round
        case rel => exact ⟨k + 1, stepQ st s[k], by omega, hle, rfl, by go_num, HX⟩
        case measure => simp [intOf]; omega
      · have e0 : st = 0 := by simpa using h0
        subst e0
        rcases h44 : ((s[k].toNat : Int) == (sep.toNat : Int)) with _ | _
        · have n44 : s[k] ≠ sep := byte_no h44
          have HX := box (HC.out.trans (pc_step hlt' (fun h => n44 h.2)))
          have hle := stepQ_le 0 s[k]
          rw [hbk] at HX
          clear hbk n44
          go_wp2_with fail
          refine (after_any 0 s[k] _ hst).mono ?_; rintro e w1 ⟨rfl, rfl⟩
          go_wp2
          go_round
          case rel => exact ⟨k + 1, stepQ 0 s[k], by omega, hle, rfl, by go_num, HX⟩
          case measure => simp [intOf]; omega
        · have HX := box (HC.out.trans (pc_sep hlt' (byte_is h44)))
          clear hbk
          go_wp2
          go_quiet (fail)
          go_wp2
          go_ret3
          refine ⟨?_, below_drewN _ _⟩
          unfold pcV
          rw [HX.out]
          show Ending.returned (.tuple #[.string (s.extract 0 k), .string (s.extract (k + 1) s.size), .bool true]) = _
          rw [ext_bs, ext_bs, List.drop_zero, List.take_of_length_le (i := s.size) (by simp)]
    · have HX := box (HC.out.trans (pc_end (l := s.data.toList) (by rw [hz]; omega)))
      go_wp2
      go_ret3
      refine ⟨?_, Below.refl _ _⟩
      unfold pcV
      rw [HX.out]
      rfl
end
section
open Go.RowKit
theorem aTrim_is {s x : ByteArray} {w : World} (hs : s.size ≤ maxLen) (h : Box (bs (trimL s.data.toList) = x)) :
    Calls Try.prog 46 #[.string s] w fun e w' => e = .returned (.string x) ∧ w = w' :=
  (Trim_any s w hs).mono fun e w' ⟨h1, h2⟩ => ⟨by rw [h1, ← h.out]; rfl, by first | exact h2 | exact h2.symm⟩
def AppRel (T : List (List UInt8)) (B n : Nat) (w : World) (v r m : Value) (wr : World) : Prop :=
  ∃ (M : List (List UInt8)) (t : ByteArray) (b : Bool), r = .string t ∧ m = .bool b ∧ t.size ≤ n ∧ M.length ≤ 64 ∧ T = addL M (moreL 44 b t.data.toList) ∧ OwnS wr B v (M.map bs) ∧ Below B w wr
def msr (m r : Value) : Nat := match m, r with | .bool true, .string t => t.size + 1 | _, _ => 0
set_option maxHeartbeats 4000000 in
theorem appMem_any (B : Nat) (v : Value) (A : List (List UInt8)) (s : ByteArray) (w : World) (hs : s.size ≤ 65000) (hO : Box (OwnS w B v (A.map bs))) (hB : B ≤ w.heap.size) (hA : A.length ≤ 64) :
    Calls Try.prog 31 #[v, .string s] w fun e w' => ∃ v', e = .returned v' ∧ OwnS w' B v' ((addL A (cutL 44 s.data.toList)).map bs) ∧ Below B w w' := by
  obtain ⟨T, hT⟩ : ∃ T, addL A (cutL 44 s.data.toList) = T := ⟨_, rfl⟩
  have HT := box hT
  rw [hT]
  clear hT
  obtain ⟨av, cv, rfl, _, _⟩ := hO.out.ss
  rw [List.length_map] at hO ⊢
  go_enter Try.func31, Try.ntmps31
  go_wp2
  go_loopw [0, 5, 6] (fun v r m wr => AppRel T B s.size w v r m wr) (fun _ r m _ => msr m r)
  case atStart => exact ⟨A, s, true, rfl, rfl, Nat.le_refl _, hA, HT.out.symm, hO.out, Below.refl _ _⟩
  case round =>
    obtain ⟨M, t, b, rfl, rfl, hts, hM, hTM, hOM, hbel⟩ := hrel
    have O0 := box hOM
    have BL := box hbel
    have HM := box hTM
    have hBw := Nat.le_trans hB hbel.size
    obtain ⟨av, cv, rfl, _, _⟩ := hOM.ss
    rw [List.length_map] at O0 ⊢
    clear hOM hbel hTM
    rcases b with _ | _
    · have HF : Box (T = M) := box (by rw [HM.out]; exact addL_nil hM)
      go_wp2
      go_ret
      exact ⟨_, rfl, by rw [HF.out]; exact O0.out, BL.out⟩
    · by_cases hm : M.length = 64
      · have hmi : ¬ (M.length : Int) < 64 := by omega
        have HF : Box (T = M) := box (by rw [HM.out]; exact addL_full hm)
        clear hm
        go_wp2
        go_ret
        exact ⟨_, rfl, by rw [HF.out]; exact O0.out, BL.out⟩
      · have hmi : (M.length : Int) < 64 := by omega
        have ht6 : t.size ≤ 65000 := by omega
        obtain ⟨p, r, m, hp⟩ : ∃ p r m, pcL 44 t.data.toList = (p, r, m) := ⟨_, _, _, rfl⟩
        have HV : Box (pcV 44 t.data.toList = .tuple #[.string (bs p), .string (bs r), .bool m]) := box (by unfold pcV; rw [hp])
        have hcut : T = addL M (p :: moreL 44 m r) := by
          have := cutL_pc (sep := 44) (by decide) t.data.toList
          rw [hp] at this
          rw [HM.out]
          show addL M (cutL 44 t.data.toList) = _
          rw [this]
        have hsz := pcF_size 44 t.data.toList 0 []
        rw [show pcF 44 0 t.data.toList [] = (p, r, m) from hp] at hsz
        simp only [List.length_nil, Nat.zero_add] at hsz
        rw [show t.data.toList.length = t.size from by simp] at hsz
        have hrz : (bs r).size ≤ s.size := by rw [bs_size]; omega
        have hms : Box (msr (.bool m) (.string (bs r)) < t.size + 1) := box (by
          cases m
          · exact Nat.zero_lt_succ _
          · show (bs r).size + 1 < t.size + 1
            rw [bs_size]; have := hsz.2 rfl; omega)
        have hpz : (bs p).size ≤ maxLen := by rw [bs_size]; unfold maxLen; omega
        have HCut := box hcut
        clear hp hcut hsz HM
        by_cases htr : trimL p = []
        · have HTr : Box (bs (trimL (bs p).data.toList) = ⟨#[]⟩) := box (by rw [bs_toList, htr]; rfl)
          have HN : Box (T = addL M (moreL 44 m (bs r).data.toList)) := box (by rw [HCut.out, addL_blank htr, bs_toList])
          clear HCut
          go_wp2_with fail
          refine (pieceCut_any t 44 _ ht6).mono ?_; rintro e w1 ⟨rfl, hb1⟩
          rw [HV.out]
          have O1 := box (own_below O0.out hb1)
          have B1 := box (BL.out.trans (hb1.mono hBw))
          clear hb1
          go_wp2_with fail
          refine (aTrim_is hpz HTr).mono ?_; rintro e w2 ⟨rfl, rfl⟩
          go_wp2
          go_roundw
          case rel => exact ⟨M, bs r, m, rfl, rfl, hrz, hM, HN.out, O1.out, B1.out⟩
          case measure => exact hms.out
        · obtain ⟨x, hx⟩ : ∃ x, bs (trimL p) = x := ⟨_, rfl⟩
          have HTr : Box (bs (trimL (bs p).data.toList) = x) := box (by rw [bs_toList, hx])
          have hxe : x.toList.isEmpty = false := by
            rw [← hx, toList_bs]
            cases h : trimL p with
            | nil => exact absurd h htr
            | cons c r => rfl
          have HN : Box (T = addL (M ++ [trimL p]) (moreL 44 m (bs r).data.toList)) := box (by rw [HCut.out, addL_more htr, bs_toList])
          have HX : Box ((M ++ [trimL p]).map bs = M.map bs ++ [x]) := box (by rw [List.map_append, List.map_cons, List.map_nil, hx])
          have hm6 : Box ((M.map bs).length ≤ 65536) := box (by rw [List.length_map]; omega)
          have hml : Box ((M ++ [trimL p]).length ≤ 64) := box (by rw [List.length_append]; simp; omega)
          clear HCut hx
          go_wp2_with fail
          refine (pieceCut_any t 44 _ ht6).mono ?_; rintro e w1 ⟨rfl, hb1⟩
          rw [HV.out]
          have O1 := box (own_below O0.out hb1)
          have B1 := box (BL.out.trans (hb1.mono hBw))
          have hBw1 := Nat.le_trans hBw hb1.size
          clear hb1
          go_wp2_with fail
          refine (aTrim_is hpz HTr).mono ?_; rintro e w2 ⟨rfl, rfl⟩
          go_wp2_with (at_builtin; refine wpList_append_str _ rfl (.tmp 26) (.tmp 28) rfl B _ (M.map bs) rfl ?a1 _ _ rfl x ?b1 ?c1 ?d1 ?_)
          case a1 => exact own_below O1.out (below_new _ _)
          case b1 => go_simp
          case c1 => exact hm6.out
          case d1 => simp; omega
          intro v3 w3 hO3 hb3
          have O3 := box hO3
          have B3 := box ((B1.out.alloc hBw1 _).trans hb3)
          clear hO3 hb3
          go_wp2
          go_roundw
          case rel => exact ⟨M ++ [trimL p], bs r, m, rfl, rfl, hrz, hml.out, HN.out, by rw [HX.out]; exact O3.out, B3.out⟩
          case measure => exact hms.out
set_option maxHeartbeats 4000000 in
theorem mAll_any (a : Option Addr) (cap : Nat) (L : List F) (nm : ByteArray) (w : World) (S : Box (Sm L)) (hv : Box (∀ x ∈ getL nm L, x.size ≤ 65000)) (M : Box (nm.size ≤ 65536)) (hF : Box (Fs w a L)) :
    Calls Try.prog 18 #[.slice a L.length cap, .string nm] w fun e w' => ∃ v, e = .returned v ∧ OwnS w' w.heap.size v (allB nm L) ∧ Below w.heap.size w w' := by
  obtain ⟨vs, hvs⟩ : ∃ vs, getL nm L = vs := ⟨_, rfl⟩
  have HVS := box hvs
  have HAL : Box (allB nm L = ((allF vs).take 64).map bs) := box (by unfold allB allL; rw [hvs])
  have hvl : vs.length ≤ 65536 := by
    have := get_le (nm := nm) (L := L) (k := L.length)
    rw [List.take_length, hvs] at this
    have := S.out.1; omega
  rw [hvs] at hv
  clear hvs
  have hl := S.out.1
  go_enter Try.func18, Try.ntmps18
  go_wp2_with fail
  refine (Get_any a cap L nm _ hl S M hF).mono ?_; rintro e w1 ⟨v1, rfl, hO1, hb1⟩
  rw [HVS.out] at hO1
  obtain ⟨a1, cap1, rfl, hS1, hc1⟩ := hO1.ss
  have S1 := box hS1
  have B1 := box hb1
  have hB1 := hb1.size
  clear hO1 hS1 hb1
  go_wp2
  go_loopw [5, 12] (fun v i wr => AllRel vs w1.heap.size w1 v i wr) (fun _ i _ => vs.length - (intOf i).toNat)
  case atStart => exact ⟨0, rfl, Nat.zero_le _, OwnS.nil _ _, Below.refl _ _⟩
  case round =>
    obtain ⟨k, rfl, hk, hO, hbel⟩ := hrel
    have O0 := box hO
    have BL := box hbel
    have hBw := hbel.size
    clear hO hbel
    by_cases hlt : k < vs.length
    · obtain ⟨q, off, rfl, c0⟩ := (S1.out.below BL.out) k hlt
      have hxz := hv.out vs[k] (List.getElem_mem hlt)
      have HN := box (addL_all hlt)
      have hA64 : ((allF (vs.take k)).take 64).length ≤ 64 := by rw [List.length_take]; omega
      go_wp2_with fail
      refine (appMem_any w1.heap.size _ _ vs[k] _ hxz O0 hBw hA64).mono ?_; rintro e w2 ⟨v2, rfl, hO2, hb2⟩
      have O2 := box hO2
      have B2 := box (BL.out.trans hb2)
      clear hO2 hb2 c0
      go_wp2
      go_roundw
      case rel => exact ⟨k + 1, by go_num, by omega, by rw [HN.out]; exact O2.out, B2.out⟩
      case measure => simp [intOf]; omega
    · have HF : Box ((allF (vs.take k)).take 64 = (allF vs).take 64) := box (by rw [List.take_of_length_le (l := vs) (by omega)])
      rw [HF.out] at O0
      go_wp2
      go_ret
      exact ⟨_, rfl, by rw [HAL.out]; exact Go.Joins.ownsRow_le O0.out hB1, B1.out.trans (BL.out.mono hB1)⟩
end
section
open Go.RowKit
theorem bld_info : ∃ j, Try.prog.info? 87 = some j ∧ j.size = 2 := by
  obtain ⟨j, h1, h2⟩ := Option.map_eq_some_iff.1 (show (Try.prog.info? 87).map (·.size) = some 2 by kernel_rfl)
  exact ⟨j, h1, h2⟩
theorem bld_lies : liesAt Try.prog Try.prog.depth 87 (2 / Try.prog.cellsOf 87) 0 87 1 = true := by kernel_rfl
/-- the builder of block b: not yet written, or in use; its bytes l -/
def BldAt (w : World) (B b : Nat) (p : Value) (l : List UInt8) : Prop := Lib.BuilderAt 87 5 B b p (Lib.byteCells l) w
def Bld (w : World) (B b : Nat) (l : List UInt8) : Prop := BldAt w B b (.pointer none) l ∨ BldAt w B b (.pointer (some ⟨b, 0, none⟩)) l
theorem check_used (b : Nat) (w : World) (h0 : w.cell? ⟨b, 0, none⟩ = some (.pointer (some ⟨b, 0, none⟩))) :
    Calls Try.prog 68 #[.pointer (some ⟨b, 0, none⟩)] w fun e w' => e = .returned (.tuple #[]) ∧ w' = w := by
  obtain ⟨j, hj, hjs⟩ := bld_info
  go_enter Try.func68, Try.ntmps68
  go_wp2
  rw [Lib.run_neq_ptr_same w _ Try.underlying85 hj]
  go_wp2
  go_end0
  exact ⟨rfl, rfl⟩
theorem check_new (b : Nat) (w : World) (h0 : w.cell? ⟨b, 0, none⟩ = some (.pointer none)) (hsh : w.shape? b = some (87, 2)) (hf : w.frozen? ⟨b, 0, none⟩ = false) :
    Calls Try.prog 68 #[.pointer (some ⟨b, 0, none⟩)] w fun e w' => e = .returned (.tuple #[]) ∧ w' = w.setCell ⟨b, 0, none⟩ (.pointer (some ⟨b, 0, none⟩)) := by
  obtain ⟨j, hj, hjs⟩ := bld_info
  have hj0 : j.size ≠ 0 := by omega
  go_enter Try.func68, Try.ntmps68
  go_wp2
  rw [Lib.run_to_unsafe w ⟨b, 0, none⟩ Try.underlying85 Try.underlying101 hj hj0 hsh (Nat.zero_lt_succ 1)]
  simp only [Result.andThen]
  rw [Oper.upon_value]
  go_wp2
  rw [run_callFunc_extern Try.func78 (by kernel_rfl) (by kernel_rfl) (by kernel_rfl) (e := Extern.AbiNoEscape.same) (by kernel_rfl), Lib.run_noEscape]
  simp only [Result.andThen]
  rw [Oper.upon_value]
  go_wp2
  rw [Lib.run_from_unsafe w ⟨b, 0, none⟩ Try.underlying101 Try.underlying85 hj hsh bld_lies]
  simp only [Result.andThen]
  rw [Oper.upon_value]
  go_wp2
  go_end0
  exact ⟨rfl, rfl⟩
/-- behind copyCheck the builder is in use -/
theorem check_any (B b : Nat) (l : List UInt8) (w : World) (h : Bld w B b l) :
    Calls Try.prog 68 #[.pointer (some ⟨b, 0, none⟩)] w fun e w' => e = .returned (.tuple #[]) ∧ BldAt w' B b (.pointer (some ⟨b, 0, none⟩)) l ∧ Below B w w' := by
  rcases h with h | h
  · refine (check_new b w h.cell0 h.shape h.frozen0).mono ?_
    rintro e w' ⟨rfl, rfl⟩
    exact ⟨rfl, h.used _, (Below.refl B w).setCell (p := ⟨b, 0, none⟩) h.1 _⟩
  · refine (check_used b w h.cell0).mono ?_
    rintro e w' ⟨rfl, rfl⟩
    exact ⟨rfl, h, Below.refl B _⟩
theorem blk_lt {w : World} {b : Nat} {o : Obj} (h : w.heap[b]? = some o) : b < w.heap.size := by
  rcases Nat.lt_or_ge b w.heap.size with q | q
  · exact q
  · rw [Array.getElem?_eq_none q] at h; cases h
set_option maxHeartbeats 4000000 in
/-- grow, at a builder in use that has no buffer yet -/
theorem grow_new (B b n : Nat) (w : World) (hB : B ≤ b) (hb : w.heap[b]? = some (.cells #[.pointer (some ⟨b, 0, none⟩), .slice none 0 0] 87 (0, 0))) (hBw : B ≤ w.heap.size) (hn : n ≤ 281474976710656) :
    Calls Try.prog 69 #[.pointer (some ⟨b, 0, none⟩), .int .i64 n] w fun e w' => e = .returned (.tuple #[]) ∧ BldAt w' B b (.pointer (some ⟨b, 0, none⟩)) [] ∧ Below B w w' := by
  obtain ⟨cs, hrun, hle, hmax⟩ := Lib.run_makeNoZero (P := Try.prog) w.drew #[3] 33 5 Try.underlying33 n hn
  have hlt := blk_lt hb
  have hw : IntKind.i64.wrap (IntKind.i64.wrap 0 + (n : Int)) = n := by rw [IntKind.wrap_i64, IntKind.wrap_i64]; omega
  have hcall : (callFunc 79 #[.int .i64 (IntKind.i64.wrap (IntKind.i64.wrap 0 + (n : Int)))]).run Try.prog w.drew = .ok (.value (.slice (some ⟨w.drew.heap.size, 0, none⟩) n cs.size)) (w.drew.drew.drew.alloc (.cells cs 5)) := by
    rw [hw, run_callFunc_extern Try.func79 (by kernel_rfl) (by kernel_rfl) (by kernel_rfl) (e := Extern.BytealgMakeNoZero.makeNoZero #[3] #[33]) (by kernel_rfl), hrun]
    rfl
  have c1 : w.drew.cell? ⟨b, 1, none⟩ = some (.slice none 0 0) := by
    rw [Lib.cell_of_heap (w := w.drew) hb]; rfl
  have hb2 : (w.alloc (.cells cs 5)).heap[b]? = _ := (Lib.alloc_old w _ b hlt).trans hb
  have c2 : (w.alloc (.cells cs 5)).cell? ⟨b, 1, none⟩ = some (.slice none 0 0) := by rw [Lib.cell_of_heap hb2]; rfl
  have f2 : (w.alloc (.cells cs 5)).frozen? ⟨b, 1, none⟩ = false := Lib.frozen_of_heap hb2 1
  have hcopy : ∀ W : World, (Builtin.copy_ #[33, 33] 3 #[.slice (some ⟨w.heap.size, 0, none⟩) 0 cs.size, .slice none 0 0]).run Try.prog W = .ok (goInt 0) W :=
    fun W => run_copy_none W 33 33 3 5 _ _ 0 cs.size 0 0 Try.underlying33 (by kernel_rfl) rfl
  have hfin := Lib.grown_fresh (T := 87) (e := 5) (cs := cs) hB hb hBw (hmax (by unfold maxLen; omega)) (by decide)
  rw [World.setCell_alloc_past _ _ _ _ hlt] at hfin
  have HF := box hfin
  clear hw hb2 hfin
  go_enter Try.func69, Try.ntmps69
  go_wp2
  go_region_held3 (fun w' => w'.cell? ⟨b, 1, none⟩ = some (.slice none 0 0)) (first | exact c1 | exact c2) (fail)
  go_wp2
  go_end0
  exact ⟨rfl, HF.out⟩
/-- Grow, at a builder that has not been written -/
theorem Grow_new (B b n : Nat) (w : World) (hB : B ≤ b) (hb : w.heap[b]? = some (.cells #[.pointer none, .slice none 0 0] 87 (0, 0))) (hBw : B ≤ w.heap.size) (hn : n ≤ 281474976710656) :
    Calls Try.prog 56 #[.pointer (some ⟨b, 0, none⟩), .int .i64 n] w fun e w' => e = .returned (.tuple #[]) ∧ BldAt w' B b (.pointer (some ⟨b, 0, none⟩)) [] ∧ Below B w w' := by
  obtain ⟨w1, hw1⟩ : ∃ w1, w.setCell ⟨b, 0, none⟩ (.pointer (some ⟨b, 0, none⟩)) = w1 := ⟨_, rfl⟩
  have hb1 : w1.heap[b]? = some (.cells #[.pointer (some ⟨b, 0, none⟩), .slice none 0 0] 87 (0, 0)) := by
    rw [← hw1]; simp [World.setCell, Array.getElem?_modify, hb]
  have HB1 : Box (Below B w w1) := box (by rw [← hw1]; exact (Below.refl B w).setCell (p := ⟨b, 0, none⟩) hB _)
  have hBw1 : B ≤ w1.heap.size := Nat.le_trans hBw HB1.out.size
  have hA1 : BldAt w1 B b (.pointer (some ⟨b, 0, none⟩)) [] := ⟨hB, .slice none 0 0, hb1, World.ownsRow_nil _ _ _ _, by simp [Value.ownBlock]⟩
  have A1 := box hA1
  have c1 : w1.cell? ⟨b, 1, none⟩ = some (.slice none 0 0) := by rw [Lib.cell_of_heap hb1]; rfl
  have h0 : w.cell? ⟨b, 0, none⟩ = some (.pointer none) := by rw [Lib.cell_of_heap hb]; rfl
  have h1 : w.shape? b = some (87, 2) := by simp [World.shape?, hb]
  have h2 : w.frozen? ⟨b, 0, none⟩ = false := Lib.frozen_of_heap hb 0
  have H := box h1
  have HB := box hb1
  clear h1 hb hA1 hb1
  go_enter Try.func56, Try.ntmps56
  go_wp2_with fail
  refine (check_new b w h0 H.out h2).mono ?_; rintro e w2 ⟨rfl, rfl⟩
  rw [hw1]
  clear h0 h2 hw1
  by_cases hn0 : n = 0
  · subst hn0
    go_wp2
    go_quiet (fail)
    go_wp2
    go_end0
    exact ⟨rfl, A1.out, HB1.out.trans (Below.mono (below_drewN _ _) hBw1)⟩
  · have hp : (0 : Int) < (n : Int) := by omega
    go_wp2
    go_quiet (fail)
    go_wp2_with fail
    refine (grow_new B b n (w1.drewN _) hB HB.out hBw1 hn).mono ?_; rintro e w3 ⟨rfl, hA, hb3⟩
    have A3 := box hA
    have B3 := box (HB1.out.trans ((Below.mono (below_drewN _ _) hBw1).trans hb3))
    clear hA hb3
    go_wp2
    go_end0
    exact ⟨rfl, A3.out, B3.out⟩
/-- WriteString: the string's bytes behind those that are there -/
theorem WriteString_any (B b : Nat) (l : List UInt8) (s : ByteArray) (w : World) (h : Box (Bld w B b l)) (hl : l.length + s.size ≤ 140737488355328) (hBw : B ≤ w.heap.size) :
    Calls Try.prog 57 #[.pointer (some ⟨b, 0, none⟩), .string s] w fun e w' => e = .returned (.tuple #[.int .i64 s.size, .nilIface]) ∧ BldAt w' B b (.pointer (some ⟨b, 0, none⟩)) (l ++ s.data.toList) ∧ Below B w w' := by
  obtain ⟨i0, hi0, hz0, hz1, hz2⟩ := info_parts info_u8
  go_enter Try.func57, Try.ntmps57
  go_wp2_with fail
  refine (check_any B b l _ h.out).mono ?_; rintro e w1 ⟨rfl, hA, hb1⟩
  obtain ⟨hB, v, hbk, hown, hne⟩ := hA
  have c0 : w1.cell? ⟨b, 0, none⟩ = some (.pointer (some ⟨b, 0, none⟩)) := by rw [Lib.cell_of_heap hbk]; rfl
  have c1 : w1.cell? ⟨b, 1, none⟩ = some v := by rw [Lib.cell_of_heap hbk]; rfl
  have hbw := hb1.size
  have B1 := box hb1
  have H1 := box hown
  have HN := box hne
  have HK := box hbk
  have hll : (Lib.byteCells l).length = l.length := Lib.byteCells_length l
  have hlt := blk_lt hbk
  clear hb1 hown hne hbk
  go_wp2_with (at_builtin; refine Lib.wpList_append_own_string _ rfl _ _ 33 9 rfl B 5 i0 Try.underlying33 Try.underlying9 hi0 hz0 hz1 hz2 _ _ _ rfl H1.out s rfl ?c3 ?c4 ?c5 ?_)
  case c3 => unfold maxLen; omega
  case c4 => omega
  case c5 => omega
  intro v' w2 hown' hgrow _
  have hb2 : w2.heap[b]? = some (.cells #[.pointer (some ⟨b, 0, none⟩), v] 87 (0, 0)) := by
    rw [hgrow.block b hlt (fun e => HN.out e.symm)]
    exact HK.out
  have d1 : w2.cell? ⟨b, 1, none⟩ = some v := by rw [Lib.cell_of_heap hb2]; rfl
  have f1 : w2.frozen? ⟨b, 1, none⟩ = false := Lib.frozen_of_heap hb2 1
  have A2 : Box (BldAt (w2.setCell ⟨b, 1, none⟩ v') B b (.pointer (some ⟨b, 0, none⟩)) (l ++ s.data.toList)) := box
    (Lib.BuilderAt.put (T := 87) (e := 5) hB hb2 (bs' := Lib.byteCells (l ++ s.data.toList)) (by
      rw [Lib.byteCells_append, List.length_append, ← Lib.strCells_eq, Lib.strCells_length, hll]; exact hown') (by decide))
  have B2 : Box (Below B w (w2.setCell ⟨b, 1, none⟩ v')) := box ((B1.out.grown hgrow (by omega) (fun k hk => (H1.out.lt k hk).1)).setCell (p := ⟨b, 1, none⟩) hB _)
  obtain ⟨ax, nx, cx, rfl⟩ : ∃ a n c, v' = .slice a n c := by
    rcases hown'.2 with ⟨hv, _⟩ | ⟨g, cap, cur, hv, _⟩
    · exact ⟨_, _, _, hv⟩
    · exact ⟨_, _, _, hv⟩
  clear hown' hgrow hb2
  go_wp2
  go_ret2
  exact ⟨rfl, A2.out, B2.out⟩
theorem String_some (B b g cap : Nat) (p : Value) (l : List UInt8) (cur : Array Value) (w : World) (hb : w.heap[b]? = some (.cells #[p, .slice (some ⟨g, 0, none⟩) l.length cap] 87 (0, 0))) (hBg : B ≤ g) (hg : w.heap[g]? = some (.cells cur 5 (0, 0))) (h0 : l ≠ []) (hlc : l.length ≤ cap) (hcap : cap ≤ maxLen) (hcs : cur.size = cap)
    (hc : ∀ j x, l[j]? = some x → w.cell? ((⟨g, 0, none⟩ : Addr).add j) = some (.int .u8 (x.toNat : Int))) :
    Calls Try.prog 58 #[.pointer (some ⟨b, 0, none⟩)] w fun e w' => e = .returned (.string ⟨l.toArray⟩) ∧ Below B w w' := by
  have hl0 : l.length ≠ 0 := by simpa using h0
  have c1 : w.drew.cell? ⟨b, 1, none⟩ = some (.slice (some ⟨g, 0, none⟩) l.length cap) := by rw [Lib.cell_of_heap (w := w.drew) hb]; rfl
  have hSD : (Builtin.unsafeSliceData_ #[33] 97 #[.slice (some ⟨g, 0, none⟩) l.length cap]).run Try.prog w.drew = .ok (.pointer (some ⟨g, 0, none⟩)) w.drew :=
    Lib.run_unsafeSliceData_row _ _ _ _ _ _ (by omega)
  have hUS : (Builtin.unsafeString_ #[97, 3] 9 #[.pointer (some ⟨g, 0, none⟩), .int .i64 l.length]).run Try.prog w.drew = .ok (.string ⟨l.toArray⟩) (w.drew.freeze ⟨g, 0, none⟩ l.length) :=
    Lib.run_unsafeString_row w.drew 97 3 9 5 Try.underlying97 (by kernel_rfl) g cur.size (by simp [World.shape?, show w.drew.heap[g]? = _ from hg]) l h0 (by omega) (by unfold maxLen at hcap; omega) hc
  have HB : Box (Below B w (w.drew.freeze ⟨g, 0, none⟩ l.length)) := box (Lib.below_freeze (Below.drew (Below.refl B w)) (p := ⟨g, 0, none⟩) hBg _)
  clear hc hb hg hcap
  go_enter Try.func58, Try.ntmps58
  go_wp2
  go_region
  all_goals (go_wp2; go_ret; exact ⟨rfl, HB.out⟩)
/-- String, at a builder that holds bytes; what they lie in is closed to later stores -/
theorem String_any (B b : Nat) (l : List UInt8) (w : World) (h : Box (Bld w B b l)) (h0 : l ≠ []) :
    Calls Try.prog 58 #[.pointer (some ⟨b, 0, none⟩)] w fun e w' => e = .returned (.string ⟨l.toArray⟩) ∧ Below B w w' := by
  obtain ⟨p, hB, v, hbk, hown, hne⟩ : ∃ p, BldAt w B b p l := by
    rcases h.out with q | q
    · exact ⟨_, q⟩
    · exact ⟨_, q⟩
  rw [Lib.byteCells_length] at hown
  rcases hown.2 with ⟨_, hz⟩ | ⟨g, cap, cur, rfl, hbg, hg, hnc, hcm, hcs, htk⟩
  · exact absurd (by simpa using hz) h0
  · refine String_some B b g cap p l cur w hbk hbg hg h0 hnc hcm (by omega) (fun j x hx => ?_)
    exact hown.cells (g := g) rfl j (.int .u8 x.toNat) (by simp [Lib.byteCells, hx])
end
section
open Go.RowKit
/-- all blocks but b that hold no bytes are as they were -/
def KeepU (b : Nat) (w w' : World) : Prop := ∀ k cs T fr, k ≠ b → T ≠ 5 → w.heap[k]? = some (.cells cs T fr) → w'.heap[k]? = some (.cells cs T fr)
theorem KeepU.refl (b : Nat) (w : World) : KeepU b w w := fun _ _ _ _ _ _ h => h
theorem KeepU.trans {b : Nat} {w w1 w2 : World} (h1 : KeepU b w w1) (h2 : KeepU b w1 w2) : KeepU b w w2 := fun k cs T fr hk hT h => h2 k cs T fr hk hT (h1 k cs T fr hk hT h)
theorem KeepU.below {b : Nat} {w w' : World} (h : Below w.heap.size w w') : KeepU b w w' := fun k cs T fr _ _ hk => (h.block k (blk_lt hk)).trans hk
def BldV (w : World) (B b : Nat) (p v : Value) (l : List UInt8) : Prop :=
  B ≤ b ∧ w.heap[b]? = some (.cells #[p, v] 87 (0, 0)) ∧ w.ownsRow B 5 1 v (Lib.byteCells l).length (Lib.byteCells l) ∧ v.ownBlock ≠ some b ∧ (v = .slice none 0 0 ↔ l = [])
/-- the builder of block b, made by the call itself and never grown: its bytes l -/
def BldZ (w : World) (B b : Nat) (l : List UInt8) : Prop := ∃ p v, (p = .pointer none ∨ p = .pointer (some ⟨b, 0, none⟩)) ∧ BldV w B b p v l
theorem BldV.at {w : World} {B b : Nat} {p v : Value} {l : List UInt8} (h : BldV w B b p v l) : BldAt w B b p l := ⟨h.1, v, h.2.1, h.2.2.1, h.2.2.2.1⟩
theorem BldZ.lt {w : World} {B b : Nat} {l : List UInt8} (h : BldZ w B b l) : b < w.heap.size := by
  obtain ⟨p, v, hp, hV⟩ := h
  exact blk_lt hV.2.1
theorem BldZ.next {w w' : World} {B b : Nat} {l : List UInt8} (h : BldZ w B b l) (hb : Below w.heap.size w w') : BldZ w' B b l := by
  obtain ⟨p, v, hp, h1, h2, h3, h4, h5⟩ := h
  exact ⟨p, v, hp, h1, (hb.block b (blk_lt h2)).trans h2, own_below h3 hb, h4, h5⟩
end
section
open Go.RowKit
/-- what a token or a quoted string stands for -/
def contO (l : List UInt8) : Option (List UInt8) := if tokL l = true then some l else unqL l
theorem cont_nil : contO [] = none := rfl
theorem cut2_nil {x : List UInt8} (h : cutB 61 x = false) : cut2 61 x = [] := by
  rcases idx_cases x 61 with hi | ⟨o, hi, ho⟩
  · exact (cut_no hi).2.1
  · rw [(cut_at hi).2.2.2] at h; exact absurd h (by decide)
theorem param_cont0 {x : List UInt8} (h : contO (cut2 61 x) = none) : paramL x = none := by
  unfold paramL
  split
  · rfl
  · unfold contO at h
    split at h
    · cases h
    · rename_i q; rw [if_neg q, h]
theorem param_cont1 {x : List UInt8} (h : tokL (cut1 61 x) = false) : paramL x = none := by
  unfold paramL; rw [if_pos (.inr h)]
theorem param_cont2 {x u : List UInt8} (h : tokL (cut1 61 x) = true) (hu : contO (cut2 61 x) = some u) : paramL x = some (bs (lowL (cut1 61 x)), bs u) := by
  have hb : cutB 61 x = true := by
    rcases q : cutB 61 x with _ | _
    · rw [cut2_nil q, cont_nil] at hu; cases hu
    · rfl
  unfold paramL
  rw [if_neg (by rw [hb, h]; simp)]
  unfold contO at hu
  split at hu
  · rename_i q; rw [if_pos q]; cases hu; rfl
  · rename_i q; rw [if_neg q, hu]
theorem aToken_is {s : ByteArray} {b : Bool} {w : World} (hs : s.size ≤ maxLen) (h : Box (tokL s.data.toList = b)) :
    Calls Try.prog 34 #[.string s] w fun e w' => e = .returned (.bool b) ∧ w = w' :=
  (Token_any s w hs).mono fun e w' ⟨h1, h2⟩ => ⟨by rw [h1, h.out], h2⟩
theorem aUnq_is {s : ByteArray} {o : Option (List UInt8)} {w : World} (hs : s.size ≤ 4294967296) (h : Box (unqL s.data.toList = o)) :
    Calls Try.prog 65 #[.string s] w fun e w' => e = .returned (optV o) ∧ Below w.heap.size w w' :=
  (Unquote_any s w hs).mono fun e w' ⟨h1, h2⟩ => ⟨by rw [h1, h.out], h2⟩
theorem aLower_is {s x : ByteArray} {w : World} (hs : s.size ≤ 4294967296) (h : Box (bs (lowL s.data.toList) = x)) :
    Calls Try.prog 35 #[.string s] w fun e w' => e = .returned (.string x) ∧ Below w.heap.size w w' :=
  (Lower_any s w hs).mono fun e w' ⟨h1, h2⟩ => ⟨by rw [h1, ← h.out]; rfl, h2⟩
theorem aQuote_is {s x : ByteArray} {w : World} (hs : s.size ≤ 1073741824) (h : Box (bs (quoteL s.data.toList) = x)) :
    Calls Try.prog 55 #[.string s] w fun e w' => e = .returned (.string x) ∧ Below w.heap.size w w' :=
  (Quote_any s w hs).mono fun e w' ⟨h1, h2⟩ => ⟨by rw [h1, ← h.out]; rfl, h2⟩
theorem parseContent_is (s : ByteArray) (o : Option (List UInt8)) (w : World) (hs : s.size ≤ 4294967296) (h : Box (contO s.data.toList = o)) :
    Calls Try.prog 104 #[.string s] w fun e w' => e = .returned (optV o) ∧ Below w.heap.size w w' := by
  have hm : s.size ≤ maxLen := by unfold maxLen; omega
  have HM := box hm
  clear hm
  rcases htk : tokL s.data.toList with _ | _
  · have HT := box htk
    have hu : unqL s.data.toList = o := by
      have := h.out
      unfold contO at this
      rwa [if_neg (by rw [htk]; decide)] at this
    have HU := box hu
    clear htk hu h
    rcases o with _ | u
    · go_enter Try.func104, Try.ntmps104
      go_wp2_with fail
      refine (aToken_is HM.out HT).mono ?_; rintro e w1 ⟨rfl, rfl⟩
      go_wp2_with fail
      refine (aUnq_is hs HU).mono ?_; rintro e w2 ⟨rfl, hb⟩
      have B := box hb
      clear hb
      unfold optV
      go_wp2
      go_ret2
      exact ⟨rfl, B.out⟩
    · go_enter Try.func104, Try.ntmps104
      go_wp2_with fail
      refine (aToken_is HM.out HT).mono ?_; rintro e w1 ⟨rfl, rfl⟩
      go_wp2_with fail
      refine (aUnq_is hs HU).mono ?_; rintro e w2 ⟨rfl, hb⟩
      have B := box hb
      clear hb
      unfold optV
      go_wp2
      go_ret2
      exact ⟨rfl, B.out⟩
  · have HT := box htk
    have ho : o = some s.data.toList := by
      rw [← h.out]; unfold contO; rw [if_pos htk]
    subst ho
    clear htk h
    go_enter Try.func104, Try.ntmps104
    go_wp2_with fail
    refine (aToken_is HM.out HT).mono ?_; rintro e w1 ⟨rfl, rfl⟩
    go_wp2
    go_ret2
    exact ⟨rfl, Below.refl _ _⟩
def pieceV : Option F → Value
  | some f => .tuple #[.string f.1, .string f.2, .bool true]
  | none => .tuple #[.string ⟨#[]⟩, .string ⟨#[]⟩, .bool false]
set_option maxHeartbeats 1000000 in
theorem parsePiece_is (x : ByteArray) (o : Option F) (w : World) (hs : x.size ≤ 65000) (h : Box (paramL x.data.toList = o)) :
    Calls Try.prog 103 #[.string x] w fun e w' => e = .returned (pieceV o) ∧ Below w.heap.size w w' := by
  have hm : x.size ≤ maxLen := by unfold maxLen; omega
  obtain ⟨n, hn⟩ : ∃ n, bs (cut1 61 x.data.toList) = n := ⟨_, rfl⟩
  obtain ⟨f, hf⟩ : ∃ f, bs (cut2 61 x.data.toList) = f := ⟨_, rfl⟩
  obtain ⟨b, hb⟩ : ∃ b, cutB 61 x.data.toList = b := ⟨_, rfl⟩
  have HV : Box (cutV 61 x.data.toList = .tuple #[.string n, .string f, .bool b]) := box (by unfold cutV; rw [hn, hf, hb])
  have hxl : x.data.toList.length = x.size := by simp
  have hnz : n.size ≤ 65000 := by
    rw [← hn, bs_size]
    have : (cut1 61 x.data.toList).length ≤ x.data.toList.length := by unfold cut1; exact (List.takeWhile_sublist _).length_le
    omega
  have hfz : f.size ≤ 65000 := by
    rw [← hf, bs_size]
    have : (cut2 61 x.data.toList).length ≤ x.data.toList.length := by
      unfold cut2; rw [List.length_drop]; have := (List.dropWhile_sublist (· != (61 : UInt8)) (l := x.data.toList)).length_le; omega
    omega
  have hn1 : n.data.toList = cut1 61 x.data.toList := by rw [← hn]; rfl
  have hf1 : f.data.toList = cut2 61 x.data.toList := by rw [← hf]; rfl
  have hnm : n.size ≤ maxLen := by unfold maxLen; omega
  have hn4 : n.size ≤ 4294967296 := by omega
  have hf4 : f.size ≤ 4294967296 := by omega
  have HNM := box hnm
  have HN4 := box hn4
  have HF4 := box hf4
  have HM := box hm
  clear hn hf hb hxl hnm hn4 hf4 hm hnz hfz hs
  rcases hc : contO (cut2 61 x.data.toList) with _ | u
  · have HC : Box (contO f.data.toList = none) := box (by rw [hf1, hc])
    obtain rfl : o = none := by rw [← h.out]; exact param_cont0 hc
    clear hc hn1 hf1 h
    go_enter Try.func103, Try.ntmps103
    go_wp2_with fail
    refine (Cut_any x 61 _ HM.out).mono ?_; rintro e w1 ⟨rfl, hb1⟩; rw [HV.out]
    have B1 := box hb1
    clear hb1
    go_wp2_with fail
    refine (parseContent_is f none _ HF4.out HC).mono ?_; rintro e w2 ⟨rfl, hb2⟩
    have B2 := box (B1.out.trans (hb2.mono B1.out.size))
    clear hb2
    unfold optV
    go_wp2
    go_ret3
    exact ⟨rfl, B2.out⟩
  · have HC : Box (contO f.data.toList = some u) := box (by rw [hf1, hc])
    rcases ht : tokL (cut1 61 x.data.toList) with _ | _
    · have HT : Box (tokL n.data.toList = false) := box (by rw [hn1, ht])
      obtain rfl : o = none := by rw [← h.out]; exact param_cont1 ht
      clear hc ht hn1 hf1 h
      go_enter Try.func103, Try.ntmps103
      go_wp2_with fail
      refine (Cut_any x 61 _ HM.out).mono ?_; rintro e w1 ⟨rfl, hb1⟩; rw [HV.out]
      have B1 := box hb1
      clear hb1
      go_wp2_with fail
      refine (parseContent_is f (some u) _ HF4.out HC).mono ?_; rintro e w2 ⟨rfl, hb2⟩
      have B2 := box (B1.out.trans (hb2.mono B1.out.size))
      clear hb2
      unfold optV
      go_wp2_with fail
      refine (aToken_is HNM.out HT).mono ?_; rintro e w3 ⟨rfl, rfl⟩
      go_wp2
      go_ret3
      exact ⟨rfl, B2.out⟩
    · have HT : Box (tokL n.data.toList = true) := box (by rw [hn1, ht])
      obtain ⟨nm, hnm⟩ : ∃ nm, bs (lowL n.data.toList) = nm := ⟨_, rfl⟩
      have HL := box hnm
      obtain ⟨ub, hub⟩ : ∃ ub, bs u = ub := ⟨_, rfl⟩
      have HU : Box (optV (some u) = .tuple #[.string ub, .bool true]) := box (by rw [← hub]; rfl)
      obtain rfl : o = some (nm, ub) := by rw [← h.out, param_cont2 ht hc, ← hnm, hn1, hub]
      clear hc ht hn1 hf1 h hnm hub
      go_enter Try.func103, Try.ntmps103
      go_wp2_with fail
      refine (Cut_any x 61 _ HM.out).mono ?_; rintro e w1 ⟨rfl, hb1⟩; rw [HV.out]
      have B1 := box hb1
      clear hb1
      go_wp2_with fail
      refine (parseContent_is f (some u) _ HF4.out HC).mono ?_; rintro e w2 ⟨rfl, hb2⟩; rw [HU.out]
      have B2 := box (B1.out.trans (hb2.mono B1.out.size))
      clear hb2
      go_wp2_with fail
      refine (aToken_is HNM.out HT).mono ?_; rintro e w3 ⟨rfl, rfl⟩
      go_wp2_with fail
      refine (aLower_is HN4.out HL).mono ?_; rintro e w4 ⟨rfl, hb4⟩
      have B4 := box (B2.out.trans (hb4.mono B2.out.size))
      clear hb4
      go_wp2
      go_ret3
      exact ⟨rfl, B4.out⟩
def ParRelM (T : Option (List F)) (B n : Nat) (w : World) (r m v : Value) (wr : World) : Prop :=
  ∃ (acc : List F) (t : ByteArray) (b : Bool), r = .string t ∧ m = .bool b ∧ acc.length + t.size ≤ n ∧ T = parF (moreL 59 b t.data.toList) acc ∧ OwnP wr B v acc ∧ Below B w wr
set_option maxHeartbeats 4000000 in
theorem mPar_any (s : ByteArray) (w : World) (hs : s.size ≤ 65000) :
    Calls Try.prog 102 #[.string s] w fun e w' => parW w w' s.data.toList e := by
  obtain ⟨p, r0, m0, hp⟩ : ∃ p r m, pcL 59 s.data.toList = (p, r, m) := ⟨_, _, _, rfl⟩
  have HV : Box (pcV 59 s.data.toList = .tuple #[.string (bs p), .string (bs r0), .bool m0]) := box (by unfold pcV; rw [hp])
  have hcut : cutL 59 s.data.toList = p :: moreL 59 m0 r0 := by
    have := cutL_pc (sep := 59) (by decide) s.data.toList
    rwa [hp] at this
  have HQ := box hcut
  have hsz := pcF_size 59 s.data.toList 0 []
  rw [show pcF 59 0 s.data.toList [] = (p, r0, m0) from hp] at hsz
  simp only [List.length_nil, Nat.zero_add] at hsz
  rw [show s.data.toList.length = s.size from by simp] at hsz
  have hrz : (bs r0).size ≤ 65000 := by rw [bs_size]; omega
  have hpz : (bs p).size ≤ maxLen := by rw [bs_size]; unfold maxLen; omega
  clear hp hcut hsz
  by_cases ht : trimL p = []
  · have HT : Box (bs (trimL (bs p).data.toList) = ⟨#[]⟩) := box (by rw [bs_toList, ht]; rfl)
    have HN := box (par_none0 HQ.out ht)
    clear ht
    go_enter Try.func102, Try.ntmps102
    go_wp2_with fail
    refine (pieceCut_any s 59 _ hs).mono ?_; rintro e w1 ⟨rfl, hb1⟩
    rw [HV.out]
    have B1 := box hb1
    clear hb1
    go_wp2_with fail
    refine (aTrim_is hpz HT).mono ?_; rintro e w2 ⟨rfl, rfl⟩
    go_wp2
    go_ret3
    exact parW_none HN.out B1.out
  · obtain ⟨x0, hx0⟩ : ∃ x0, bs (trimL p) = x0 := ⟨_, rfl⟩
    have HT : Box (bs (trimL (bs p).data.toList) = x0) := box (by rw [bs_toList, hx0])
    have hxe : x0.toList.isEmpty = false := by
      rw [← hx0, toList_bs]
      cases h : trimL p with
      | nil => exact absurd h ht
      | cons c r => rfl
    have HX0 := box hx0
    have HNE := box ht
    obtain ⟨T, hT⟩ : ∃ T, parF (moreL 59 m0 r0) [] = T := ⟨_, rfl⟩
    have HTT := box hT
    clear hx0 ht hT
    go_enter Try.func102, Try.ntmps102
    go_wp2_with fail
    refine (pieceCut_any s 59 _ hs).mono ?_; rintro e w1 ⟨rfl, hb1⟩
    rw [HV.out]
    have B1 := box hb1
    have hB1 := hb1.size
    clear hb1
    go_wp2_with fail
    refine (aTrim_is hpz HT).mono ?_; rintro e w2 ⟨rfl, rfl⟩
    go_wp2
    go_loopw [6, 7, 9] (fun r m v wr => ParRelM T w1.heap.size 65000 w1 r m v wr) (fun r m _ _ => msr m r)
    case atStart => exact ⟨[], bs r0, m0, rfl, rfl, by simpa using hrz, by rw [bs_toList]; exact HTT.out.symm, OwnP.nil _ _, Below.refl _ _⟩
    case round =>
      obtain ⟨acc, t, b, rfl, rfl, hat, hTM, hO, hbel⟩ := hrel
      have O0 := box hO
      have BL := box hbel
      have HM := box hTM
      have hBw := hbel.size
      obtain ⟨av, cv, rfl, _, _⟩ := hO.fs
      clear hO hbel hTM
      rcases b with _ | _
      · have HD : Box (parA s.data.toList = x0 ∧ parB s.data.toList = acc ∧ parO s.data.toList = true) := box (by
          have := par_some HQ.out HNE.out (HTT.out.trans HM.out)
          rwa [HX0.out] at this)
        go_wp2
        go_ret3
        obtain ⟨d1, d2, d3⟩ := HD.out
        exact ⟨_, by rw [d1, d3]; rfl, by rw [d2]; exact Go.Joins.ownsRow_le O0.out hB1, B1.out.trans (BL.out.mono hB1)⟩
      · have ht6 : t.size ≤ 65000 := by omega
        obtain ⟨p, r, m, hp⟩ : ∃ p r m, pcL 59 t.data.toList = (p, r, m) := ⟨_, _, _, rfl⟩
        have HV : Box (pcV 59 t.data.toList = .tuple #[.string (bs p), .string (bs r), .bool m]) := box (by unfold pcV; rw [hp])
        have hcut : T = parF (p :: moreL 59 m r) acc := by
          have := cutL_pc (sep := 59) (by decide) t.data.toList
          rw [hp] at this
          rw [HM.out]
          show parF (cutL 59 t.data.toList) acc = _
          rw [this]
        have hsz := pcF_size 59 t.data.toList 0 []
        rw [show pcF 59 0 t.data.toList [] = (p, r, m) from hp] at hsz
        simp only [List.length_nil, Nat.zero_add] at hsz
        rw [show t.data.toList.length = t.size from by simp] at hsz
        have hrz : acc.length + (bs r).size ≤ 65000 := by rw [bs_size]; omega
        have hms : Box (msr (.bool m) (.string (bs r)) < t.size + 1) := box (by
          cases m
          · exact Nat.zero_lt_succ _
          · show (bs r).size + 1 < t.size + 1
            rw [bs_size]; have := hsz.2 rfl; omega)
        have hpz : (bs p).size ≤ maxLen := by rw [bs_size]; unfold maxLen; omega
        have HSZ := box hsz.1
        have HCut := box hcut
        clear hp hcut hsz HM
        by_cases htr : trimL p = []
        · have HTr : Box (bs (trimL (bs p).data.toList) = ⟨#[]⟩) := box (by rw [bs_toList, htr]; rfl)
          have HN : Box (T = parF (moreL 59 m (bs r).data.toList) acc) := box (by rw [HCut.out, parF_skip htr, bs_toList])
          clear HCut htr
          go_wp2_with fail
          refine (pieceCut_any t 59 _ ht6).mono ?_; rintro e w3 ⟨rfl, hb3⟩
          rw [HV.out]
          have O3 := box (own_below O0.out hb3)
          have B3 := box (BL.out.trans (hb3.mono hBw))
          clear hb3
          go_wp2_with fail
          refine (aTrim_is hpz HTr).mono ?_; rintro e w4 ⟨rfl, rfl⟩
          go_wp2
          go_roundw
          case rel => exact ⟨acc, bs r, m, rfl, rfl, hrz, HN.out, O3.out, B3.out⟩
          case measure => exact hms.out
        · obtain ⟨x, hx⟩ : ∃ x, bs (trimL p) = x := ⟨_, rfl⟩
          have hxd : x.data.toList = trimL p := by rw [← hx]; rfl
          have HTr : Box (bs (trimL (bs p).data.toList) = x) := box (by rw [bs_toList, hx])
          have hxe : x.toList.isEmpty = false := by
            rw [← hx, toList_bs]
            cases h : trimL p with
            | nil => exact absurd h htr
            | cons c r => rfl
          have hxz : x.size ≤ 65000 := by
            have h1 := trim_le p
            have h2 : x.size = (trimL p).length := by rw [← hx, bs_size]
            have := HSZ.out
            omega
          have hp1 : 1 ≤ p.length := by
            cases h : p with
            | nil => rw [h] at htr; exact absurd rfl htr
            | cons c r => simp
          have hmz : acc.length + 1 + (bs r).size ≤ 65000 := by rw [bs_size]; have := HSZ.out; omega
          rcases hpm : paramL x.data.toList with _ | f
          · have HP := box hpm
            have HB := box (par_none1 HQ.out HNE.out (HTT.out.trans (HCut.out.trans (parF_bad htr (by rw [← hxd]; exact hpm)))))
            clear HCut hx hxd hpm htr
            go_wp2_with fail
            refine (pieceCut_any t 59 _ ht6).mono ?_; rintro e w3 ⟨rfl, hb3⟩
            rw [HV.out]
            have B3 := box (BL.out.trans (hb3.mono hBw))
            clear hb3
            go_wp2_with fail
            refine (aTrim_is hpz HTr).mono ?_; rintro e w4 ⟨rfl, rfl⟩
            go_wp2_with fail
            refine (parsePiece_is x none _ hxz HP).mono ?_; rintro e w5 ⟨rfl, hb5⟩
            have B5 := box (B3.out.trans (hb5.mono B3.out.size))
            clear hb5
            unfold pieceV
            go_wp2
            go_ret3
            exact parW_none HB.out (B1.out.trans (B5.out.mono hB1))
          · have HP := box hpm
            obtain ⟨nm, ub⟩ := f
            have HN : Box (T = parF (moreL 59 m (bs r).data.toList) (acc ++ [(nm, ub)])) := box (by rw [HCut.out, parF_step htr (by rw [← hxd]; exact hpm), bs_toList])
            have hml : Box ((acc ++ [(nm, ub)]).length + (bs r).size ≤ 65000) := box (by rw [List.length_append]; simp only [List.length_cons, List.length_nil]; omega)
            clear HCut hx hxd hpm htr
            go_wp2_with fail
            refine (pieceCut_any t 59 _ ht6).mono ?_; rintro e w3 ⟨rfl, hb3⟩
            rw [HV.out]
            have O3 := box (own_below O0.out hb3)
            have B3 := box (BL.out.trans (hb3.mono hBw))
            clear hb3
            go_wp2_with fail
            refine (aTrim_is hpz HTr).mono ?_; rintro e w4 ⟨rfl, rfl⟩
            go_wp2_with fail
            refine (parsePiece_is x (some (nm, ub)) _ hxz HP).mono ?_; rintro e w5 ⟨rfl, hb5⟩
            have O5 := box (own_below O3.out hb5)
            have B5 := box (B3.out.trans (hb5.mono B3.out.size))
            clear hb5
            unfold pieceV
            go_wp2_with (at_builtin; refine wpList_append_prm _ rfl (.tmp 44) (.tmp 48) rfl w1.heap.size _ acc rfl ?a1 _ _ rfl nm ub ?b1 ?b2 ?c1 ?d1 ?_)
            case a1 => exact own_below O5.out (below_new _ _)
            case b1 => go_simp
            case b2 => go_simp
            case c1 => omega
            case d1 => have := B5.out.size; simp; omega
            intro v6 w6 hO6 hb6
            have O6 := box hO6
            have B6 := box ((B5.out.alloc B5.out.size _).trans hb6)
            clear hO6 hb6
            go_wp2
            go_roundw
            case rel => exact ⟨acc ++ [(nm, ub)], bs r, m, rfl, rfl, hml.out, HN.out, O6.out, B6.out⟩
            case measure => exact hms.out
end
end Go.Proofs.Ytodbmdekgfcjpaa.Asc
