/- Merged texts: MedKeep MedRef3 MedRef4 MedSet LisPc LisApp LisApp2 BldMem. -/
import Derived.Test.YtkalddhokoldgaaM02
import Derived.Test.YtkalddhokoldgaaM03
import Derived.Test.YtkalddhokoldgaaM04
import Derived.Test.YtkalddhokoldgaaM05
import Derived.Test.YtkalddhokoldgaaM06
import Derived.BigQuiet
import Derived.Deep.QuietTactic
import Derived.Deep.RegionHeld3
import Derived.DeepKeys4
import Derived.Laws.Externs
import Derived.Laws.IdiomCopy
import Derived.Lib.AppendStr
import Derived.Lib.Builder
import Derived.Lib.MakeNoZero
import Derived.Lib.UnsafeStr
import Derived.Maps.OwnSet
set_option linter.unusedVariables false
set_option linter.unusedSimpArgs false
set_option maxRecDepth 100000
namespace Go.Proofs.Ytkalddhokoldgaa.Asc
section
open Go.RowKit
def keepM (m : M) : Bool := decide (m.1.size ≤ 100) && decide (m.2.1.size ≤ 100) && keepP m.2.2
theorem keepMedia_any (a b : ByteArray) (p : Option Addr) (cap : Nat) (L : List F) (w : World) (ha : a.size ≤ maxLen) (hb : b.size ≤ maxLen) (hl : L.length ≤ maxLen) (hF : Box (Fs w p L)) :
    Calls Try.prog 13 #[.agg #[.string a, .string b, .slice p L.length cap]] w fun e w' => e = .returned (.bool (keepM (a, b, L))) ∧ Below w.heap.size w w' := by
  have HL := box hl
  unfold maxLen at ha hb hl
  have F1 := box (hF.out.below (below_new w (.cells #[.string a, .string b, .slice p L.length cap] 24)))
  by_cases h1 : a.size ≤ 100
  · have i1 : (a.size : Int) ≤ 100 := by omega
    by_cases h2 : b.size ≤ 100
    · have i2 : (b.size : Int) ≤ 100 := by omega
      have HK : Box (keepM (a, b, L) = keepP L) := box (by unfold keepM; simp [h1, h2])
      rcases hk : keepP L with _ | _
      all_goals
        rw [hk] at HK
        have HKP := box hk
        clear hk
        go_enter Try.func13, Try.ntmps13
        go_wp2_with fail
        refine (keepParams_any p cap L _ HL.out F1).mono ?_; rintro e w1 ⟨rfl, rfl⟩; rw [HKP.out]
        go_wp2
        go_ret
        exact ⟨ret_bool HK.out.symm, below_new _ _⟩
    · have i2 : ¬ (b.size : Int) ≤ 100 := by omega
      have HK : Box (keepM (a, b, L) = false) := box (by unfold keepM; simp [h2])
      go_enter Try.func13, Try.ntmps13
      go_wp2
      go_ret
      exact ⟨by rw [HK.out]; rfl, below_new _ _⟩
  · have i1 : ¬ (a.size : Int) ≤ 100 := by omega
    have HK : Box (keepM (a, b, L) = false) := box (by unfold keepM; simp [h1])
    go_enter Try.func13, Try.ntmps13
    go_wp2
    go_ret
    exact ⟨by rw [HK.out]; rfl, below_new _ _⟩
set_option maxHeartbeats 1000000 in
theorem sameMedia_any (a b c d : ByteArray) (p q : Option Addr) (cp cq : Nat) (K L : List F) (w : World) (hk : K.length ≤ 65536) (hl : L.length ≤ 65536) (hK : Box (Fs w p K)) (hL : Box (Fs w q L)) :
    Calls Try.prog 11 #[.agg #[.string a, .string b, .slice p K.length cp], .agg #[.string c, .string d, .slice q L.length cq]] w fun e w' => e = .returned (.bool (decide (((a, b, K) : M) = (c, d, L)))) ∧ Below w.heap.size w w' := by
  obtain ⟨o1, ho1⟩ : ∃ o, (Obj.cells #[.string a, .string b, .slice p K.length cp] 24) = o := ⟨_, rfl⟩
  obtain ⟨o2, ho2⟩ : ∃ o, (Obj.cells #[.string c, .string d, .slice q L.length cq] 24) = o := ⟨_, rfl⟩
  have B2 : Box (Below w.heap.size w ((w.alloc (.cells #[.string a, .string b, .slice p K.length cp] 24)).alloc (.cells #[.string c, .string d, .slice q L.length cq] 24))) := box ((below_new w _).alloc (below_new w _).size _)
  have FK := box (hK.out.below B2.out)
  have FL := box (hL.out.below B2.out)
  clear ho1 ho2
  rcases h1 : (a.toList == c.toList) with _ | _
  · have HE : Box (decide (((a, b, K) : M) = (c, d, L)) = false) := box (decide_eq_false (fun e => by
      have : a = c := congrArg (·.1) e
      subst this; simp at h1))
    go_enter Try.func11, Try.ntmps11
    go_wp2
    go_ret
    exact ⟨ret_bool HE.out.symm, B2.out⟩
  · have e1 : a = c := str_eq h1
    rcases h2 : (b.toList == d.toList) with _ | _
    · have HE : Box (decide (((a, b, K) : M) = (c, d, L)) = false) := box (decide_eq_false (fun e => by
        have : b = d := congrArg (·.2.1) e
        subst this; simp at h2))
      clear e1
      go_enter Try.func11, Try.ntmps11
      go_wp2
      go_ret
      exact ⟨ret_bool HE.out.symm, B2.out⟩
    · have e2 : b = d := str_eq h2
      have HE : Box (decide (((a, b, K) : M) = (c, d, L)) = decide (K = L)) := box (by rw [e1, e2]; simp)
      obtain ⟨r, hr⟩ : ∃ r, decide (K = L) = r := ⟨_, rfl⟩
      have HR := box hr
      rw [hr] at HE
      clear e1 e2 hr
      go_enter Try.func11, Try.ntmps11
      go_wp2_with fail
      refine (SameP_any p q cp cq K L _ hk hl FK FL).mono ?_; rintro e w1 ⟨rfl, hb1⟩; rw [HR.out]
      have B3 := box (B2.out.trans (hb1.mono B2.out.size))
      clear hb1
      go_wp2
      go_ret
      exact ⟨ret_bool HE.out.symm, B3.out⟩
end
section
open Go.RowKit
def prmOk (p q : F) : Bool := p.1.toList == q.1.toList && foldL p.2.data.toList q.2.data.toList
def prmIn (p : F) (L : List F) : Bool := L.any (prmOk p)
def matchI (r t : M) : Int :=
  if (r.1.toList == [42] && r.2.1.toList == [42]) = true then 0
  else if (r.1.toList == t.1.toList) = false then -1
  else if (r.2.1.toList == [42]) = true then 1
  else if (r.2.1.toList == t.2.1.toList) = false then -1
  else if (r.2.2.all fun p => prmIn p t.2.2) = true then 2 + (r.2.2.length : Int) else -1
theorem anyM_more {α : Type} {f : α → Bool} {L : List α} {k : Nat} (h : k < L.length) : (L.take (k + 1)).any f = ((L.take k).any f || f L[k]) := by
  rw [List.take_add_one, List.getElem?_eq_getElem h, List.any_append]; simp
theorem allM_more {α : Type} {f : α → Bool} {L : List α} {k : Nat} (h : k < L.length) (ha : (L.take k).all f = true) (hf : f L[k] = true) : (L.take (k + 1)).all f = true := by
  rw [List.take_add_one, List.getElem?_eq_getElem h, List.all_append, ha]; simp [hf]
theorem allM_not {α : Type} {f : α → Bool} {L : List α} {k : Nat} (h : k < L.length) (hf : f L[k] = false) : L.all f = false := by
  rw [List.all_eq_false]; exact ⟨L[k], List.getElem_mem h, by simp [hf]⟩
theorem rFold10_is {a b : ByteArray} {q : Bool} {w : World} (ha : a.size ≤ 4294967296) (hb : b.size ≤ 4294967296) (h : Box (foldL a.data.toList b.data.toList = q)) :
    Calls Try.prog 29 #[.string a, .string b] w fun e w' => e = .returned (.bool q) ∧ Below w.heap.size w w' :=
  (rFold_any a b w ha hb).mono fun e w' ⟨h1, h2⟩ => ⟨by rw [h1, h.out], h2⟩
def MatO (K L : List F) (W : World) (i : Value) (wr : World) : Prop := ∃ k : Nat, i = .int .i64 k ∧ k ≤ K.length ∧ ((K.take k).all fun p => prmIn p L) = true ∧ Below W.heap.size W wr
def MatI (p : F) (L : List F) (W : World) (f i : Value) (wr : World) : Prop := ∃ k : Nat, i = .int .i64 k ∧ k ≤ L.length ∧ f = .bool ((L.take k).any (prmOk p)) ∧ Below W.heap.size W wr
/-- the ways that end before the parameters are looked at -/
theorem rMatch_early (a b c d : ByteArray) (p q : Option Addr) (cp cq : Nat) (K L : List F) (w : World) (v : Int) (q1 q2 q3 q4 : Bool) (h1 : (a.toList == [42]) = q1) (h2 : (b.toList == [42]) = q2) (h3 : (a.toList == c.toList) = q3) (h4 : (b.toList == d.toList) = q4)
    (hq : (q1 = true ∧ q2 = true) ∨ q3 = false ∨ q2 = true ∨ q4 = false) :
    Calls Try.prog 15 #[.agg #[.string a, .string b, .slice p K.length cp], .agg #[.string c, .string d, .slice q L.length cq]] w fun e w' => e = .returned (.int .i64 (matchI (a, b, K) (c, d, L))) ∧ Below w.heap.size w w' := by
  have B2 : Box (Below w.heap.size w ((w.alloc (.cells #[.string a, .string b, .slice p K.length cp] 24)).alloc (.cells #[.string c, .string d, .slice q L.length cq] 24))) := box ((below_new w _).alloc (below_new w _).size _)
  obtain ⟨x, hx⟩ : ∃ x, matchI (a, b, K) (c, d, L) = x := ⟨_, rfl⟩
  have HX := box hx
  unfold matchI at hx
  simp only [h1, h2, h3, h4] at hx
  rw [HX.out]
  clear HX
  cases q1 <;> cases q2 <;> cases q3 <;> cases q4
  all_goals first
    | (exfalso; simp at hq; done)
    | (simp at hx
       subst hx
       clear hq
       go_enter Try.func15, Try.ntmps15
       go_wp2
       go_ret
       exact ⟨rfl, B2.out⟩)
set_option maxHeartbeats 4000000 in
theorem rMatch_late (a b c d : ByteArray) (p q : Option Addr) (cp cq : Nat) (K L : List F) (w : World) (hk : K.length ≤ 65536) (hl : L.length ≤ 65536)
    (hzK : Box (∀ i (hi : i < K.length), K[i].1.size ≤ 65536 ∧ K[i].2.size ≤ 65536)) (hzL : Box (∀ i (hi : i < L.length), L[i].1.size ≤ 65536 ∧ L[i].2.size ≤ 65536)) (hK : Box (Fs w p K)) (hL : Box (Fs w q L))
    (q1 : Bool) (h1 : (a.toList == [42]) = q1) (h2 : (b.toList == [42]) = false) (h3 : (a.toList == c.toList) = true) (h4 : (b.toList == d.toList) = true) :
    Calls Try.prog 15 #[.agg #[.string a, .string b, .slice p K.length cp], .agg #[.string c, .string d, .slice q L.length cq]] w fun e w' => e = .returned (.int .i64 (matchI (a, b, K) (c, d, L))) ∧ Below w.heap.size w w' := by
  obtain ⟨W, hW⟩ : ∃ W, (w.alloc (.cells #[.string a, .string b, .slice p K.length cp] 24)).alloc (.cells #[.string c, .string d, .slice q L.length cq] 24) = W := ⟨_, rfl⟩
  have B2 : Box (Below w.heap.size w W) := box (by rw [← hW]; exact (below_new w _).alloc (below_new w _).size _)
  have G0 : Box (W.cell? ⟨w.heap.size, 2, none⟩ = some (.slice p K.length cp)) := box (by
    rw [← hW, (below_new _ _).cell (by simp), World.cell?_alloc_mark]; rfl)
  have G1 : Box (W.cell? ⟨w.heap.size + 1, 2, none⟩ = some (.slice q L.length cq)) := box (by
    rw [← hW, show w.heap.size + 1 = (w.alloc (.cells #[.string a, .string b, .slice p K.length cp] 24)).heap.size from by simp, World.cell?_alloc_mark]; rfl)
  have FK := box (hK.out.below B2.out)
  have FL := box (hL.out.below B2.out)
  have HV : Box (matchI (a, b, K) (c, d, L) = if (K.all fun p => prmIn p L) = true then 2 + (K.length : Int) else -1) := box (by
    unfold matchI; simp [h2, h3, h4])
  rw [HV.out]
  obtain ⟨z, hz⟩ : ∃ z : Int, (if (K.all fun p => prmIn p L) = true then 2 + (K.length : Int) else -1) = z := ⟨_, rfl⟩
  rw [hz]
  have HZ := box hz
  have HWB := box hW
  clear HV hW hz
  rcases q1 with _ | _
  all_goals
    go_enter Try.func15, Try.ntmps15
    go_wp2
    rw [HWB.out]
    go_loopw [5] (fun i wr => MatO K L W i wr) (fun i _ => K.length - (intOf i).toNat)
    case atStart => exact ⟨0, rfl, Nat.zero_le _, rfl, Below.refl _ _⟩
    case round =>
      obtain ⟨wo, rfl⟩ : ∃ wo, wo = wr := ⟨_, rfl⟩
      obtain ⟨k, rfl, hk2, hall, hbel⟩ := hrel
      have HA := box hall
      have BL := box hbel
      have g0 := (hbel.cell (p := ⟨w.heap.size, 2, none⟩) (cell_lt G0.out)).trans G0.out
      have g1 := (hbel.cell (p := ⟨w.heap.size + 1, 2, none⟩) (cell_lt G1.out)).trans G1.out
      have FK1 := box (FK.out.below hbel)
      clear hall hbel
      by_cases hlt : k < K.length
      · obtain ⟨gk, ok, rfl, c0, c1⟩ := FK1.out k hlt
        obtain ⟨zk1, zk2⟩ := hzK.out k hlt
        have FL1 := box (FL.out.below BL.out)
        have hBW := BL.out.size
        go_wp2
        go_loopw [6, 7] (fun f i wi => MatI K[k] L wo f i wi) (fun _ i _ => L.length - (intOf i).toNat)
        case atStart => exact ⟨0, rfl, Nat.zero_le _, rfl, Below.refl _ _⟩
        case round =>
          obtain ⟨j, rfl, hj2, rfl, hbel⟩ := hrel
          obtain ⟨fb, hfb⟩ : ∃ fb, (L.take j).any (prmOk K[k]) = fb := ⟨_, rfl⟩
          rw [hfb]
          have HFB := box hfb
          have BI := box hbel
          have m0 := (hbel.cell (p := ⟨w.heap.size, 2, none⟩) (cell_lt g0)).trans g0
          have m1 := (hbel.cell (p := ⟨w.heap.size + 1, 2, none⟩) (cell_lt g1)).trans g1
          have n0 := (hbel.cell (p := ⟨gk, ok + k * 2, none⟩) (cell_lt c0)).trans c0
          have n1 := (hbel.cell (p := ⟨gk, ok + k * 2 + 1, none⟩) (cell_lt c1)).trans c1
          have FL2 := box (FL1.out.below hbel)
          have hbs := hbel.size
          clear hbel hfb
          by_cases hjl : j < L.length
          · obtain ⟨gl, ol, rfl, e0, e1⟩ := FL2.out j hjl
            obtain ⟨zl1, zl2⟩ := hzL.out j hjl
            rcases fb with _ | _
            · rcases hnm : (K[k].1.toList == L[j].1.toList) with _ | _
              · have HN : Box ((L.take (j + 1)).any (prmOk K[k]) = false) := box (by rw [anyM_more hjl, HFB.out]; unfold prmOk; rw [hnm]; rfl)
                go_wp2
                go_quiet (fail)
                go_wp2
                go_roundw
                case rel => exact ⟨j + 1, by go_num, by omega, by rw [HN.out], BI.out.trans ((below_drewN _ _).mono hbs)⟩
                case measure => simp [intOf]; omega
              · obtain ⟨x, hx⟩ : ∃ x, foldL K[k].2.data.toList L[j].2.data.toList = x := ⟨_, rfl⟩
                have HX := box hx
                have HN : Box ((L.take (j + 1)).any (prmOk K[k]) = x) := box (by rw [anyM_more hjl, HFB.out]; unfold prmOk; rw [hnm, hx]; rfl)
                have y1 : K[k].2.size ≤ 4294967296 := by omega
                have y2 : L[j].2.size ≤ 4294967296 := by omega
                clear hx
                go_wp2
                go_region_held3 (fun w' => w'.cell? ⟨w.heap.size, 2, none⟩ = some (.slice (some ⟨gk, ok, none⟩) K.length cp) ∧ w'.cell? ⟨w.heap.size + 1, 2, none⟩ = some (.slice (some ⟨gl, ol, none⟩) L.length cq) ∧ w'.cell? ⟨gk, ok + k * 2, none⟩ = some (.string K[k].1) ∧ w'.cell? ⟨gk, ok + k * 2 + 1, none⟩ = some (.string K[k].2) ∧ w'.cell? ⟨gl, ol + j * 2, none⟩ = some (.string L[j].1) ∧ w'.cell? ⟨gl, ol + j * 2 + 1, none⟩ = some (.string L[j].2))
                  (first | exact ⟨m0, m1, n0, n1, e0, e1⟩ | (exact ⟨(hb3.cell (p := ⟨w.heap.size, 2, none⟩) (cell_lt m0)).trans m0, (hb3.cell (p := ⟨w.heap.size + 1, 2, none⟩) (cell_lt m1)).trans m1, (hb3.cell (p := ⟨gk, ok + k * 2, none⟩) (cell_lt n0)).trans n0, (hb3.cell (p := ⟨gk, ok + k * 2 + 1, none⟩) (cell_lt n1)).trans n1, (hb3.cell (p := ⟨gl, ol + j * 2, none⟩) (cell_lt e0)).trans e0, (hb3.cell (p := ⟨gl, ol + j * 2 + 1, none⟩) (cell_lt e1)).trans e1⟩))
                  (first | (go_at_call 29; refine (rFold10_is y1 y2 HX).mono ?_; rintro e w3 ⟨rfl, hb3⟩))
                all_goals
                  go_wp2
                  go_roundw
                  case rel => exact ⟨j + 1, by go_num, by omega, by rw [HN.out], BI.out.trans ((Below.refl _ _).drew.trans (hb3.mono hbs))⟩
                  case measure => simp [intOf]; omega
            · have HN : Box ((L.take (j + 1)).any (prmOk K[k]) = true) := box (by rw [anyM_more hjl, HFB.out]; rfl)
              go_wp2
              go_quiet (fail)
              go_wp2
              go_roundw
              case rel => exact ⟨j + 1, by go_num, by omega, by rw [HN.out], BI.out.trans ((below_drewN _ _).mono hbs)⟩
              case measure => simp [intOf]; omega
          · have HJ : Box (prmIn K[k] L = fb) := box (by
              have := HFB.out
              rwa [List.take_of_length_le (by omega)] at this)
            rcases fb with _ | _
            · have HZ2 : Box ((-1 : Int) = z) := box (by rw [← HZ.out, if_neg (by rw [allM_not hlt HJ.out]; simp)])
              go_wp2
              go_ret
              exact ⟨ret_int HZ2.out, B2.out.trans ((BL.out.trans (BI.out.mono hBW)).mono B2.out.size)⟩
            · have HA2 := box (allM_more hlt HA.out HJ.out)
              go_wp2
              go_roundw
              case rel => exact ⟨k + 1, by go_num, by omega, HA2.out, BL.out.trans (BI.out.mono hBW)⟩
              case measure => simp [intOf]; omega
      · have HE : Box ((K.all fun p => prmIn p L) = true) := box (by
          have := HA.out
          rwa [List.take_of_length_le (by omega)] at this)
        have HZ2 : Box ((2 : Int) + (K.length : Int) = z) := box (by rw [← HZ.out, if_pos HE.out])
        go_wp2
        go_ret
        exact ⟨ret_int HZ2.out, B2.out.trans (BL.out.mono B2.out.size)⟩
end
section
open Go.RowKit
theorem rMatch_any (a b c d : ByteArray) (p q : Option Addr) (cp cq : Nat) (K L : List F) (w : World) (hk : K.length ≤ 65536) (hl : L.length ≤ 65536)
    (hzK : Box (∀ i (hi : i < K.length), K[i].1.size ≤ 65536 ∧ K[i].2.size ≤ 65536)) (hzL : Box (∀ i (hi : i < L.length), L[i].1.size ≤ 65536 ∧ L[i].2.size ≤ 65536)) (hK : Box (Fs w p K)) (hL : Box (Fs w q L)) :
    Calls Try.prog 15 #[.agg #[.string a, .string b, .slice p K.length cp], .agg #[.string c, .string d, .slice q L.length cq]] w fun e w' => e = .returned (.int .i64 (matchI (a, b, K) (c, d, L))) ∧ Below w.heap.size w w' := by
  by_cases h : (b.toList == [42]) = false ∧ (a.toList == c.toList) = true ∧ (b.toList == d.toList) = true
  · exact rMatch_late a b c d p q cp cq K L w hk hl hzK hzL hK hL _ rfl h.1 h.2.1 h.2.2
  · refine rMatch_early a b c d p q cp cq K L w 0 _ _ _ _ rfl rfl rfl rfl ?_
    rcases h2 : (b.toList == [42]) with _ | _
    · rcases h3 : (a.toList == c.toList) with _ | _
      · exact .inr (.inl rfl)
      · rcases h4 : (b.toList == d.toList) with _ | _
        · exact .inr (.inr (.inr rfl))
        · exact absurd ⟨h2, h3, h4⟩ h
    · exact .inr (.inr (.inl rfl))
end
section
open Go.RowKit Go.Maps
theorem laidOut10 : laidOutB Try.prog = true := by kernel_rfl
theorem rowPrm : (35 : TypeId) < Try.prog.types.size := of_decide_eq_true (by kernel_rfl)
theorem widePrm : (match Try.prog.underlying 35 with | some (.array _ _) | some (.struct _) => true | _ => false) = true := by rw [Try.underlying35]
theorem lawPrm : Keyed Try.prog 35 := Keyed.of_law (deep_law_laid laidOut10 (m := 3) (by omega) rowPrm (by kernel_rfl) widePrm)
theorem deepPrm : Try.prog.keyType 35 = true := by kernel_rfl
theorem cellsPrm : Try.prog.cellsOf 35 = 2 := by kernel_rfl
theorem cellsStr : Try.prog.cellsOf 9 = 1 := by kernel_rfl
/-- what a parameter reads as when it is a key -/
def pkey (p : F) : Lit := .string (keyBytes [.string p.1.data.toList, .string p.2.data.toList])
def Sml (p : F) : Prop := p.1.size ≤ maxLen ∧ p.2.size ≤ maxLen
theorem formedPrm {c0 c1 : Value} : (Value.agg #[c0, c1]).formed Try.prog 35 = true := by simp [Value.formed, Try.underlying35, cellsPrm]
theorem pkey_of {p : F} (h : Sml p) : keyOf Try.prog 35 (.agg #[.string p.1, .string p.2]) = some (pkey p) := by
  obtain ⟨m, hm⟩ : ∃ m, Try.prog.types.size = m + 1 := Nat.exists_eq_succ_of_ne_zero (Nat.ne_zero_of_lt rowPrm)
  unfold keyOf
  rw [Try.underlying35]
  simp only [deepPrm, formedPrm, Bool.and_self, if_true, hm]
  simp [Program.keyLits, Try.underlying35, Try.underlying9, Value.cells, cellsPrm, cellsStr, h.1, h.2, pkey]
theorem pkey_inj {p q : F} (hp : Sml p) (hq : Sml q) (h : pkey p = pkey q) : p = q := by
  have := lawPrm.inj (pkey_of hp) (h ▸ pkey_of hq)
  simp only [Value.agg.injEq, Array.mk.injEq, List.cons.injEq, Value.string.injEq, and_true] at this
  exact Prod.ext this.1 this.2
theorem pkey_key {p : F} (hp : Sml p) : WideAt.IsKeyLit (pkey p) := lawPrm.key (pkey_of hp)
/-- block b is a set of at most n parameters: those of which S says so -/
def PSet (w : World) (b n : Nat) (S : F → Prop) : Prop :=
  ∃ D : DataW Unit, w.ownsMap Try.prog 35 (plainElem Try.prog 4) b n D ∧ ∀ kl, Maps.has D kl = true ↔ ∃ p, S p ∧ Sml p ∧ pkey p = kl
section
variable {w w' : World} {b n : Nat} {S : F → Prop}
theorem PSet.made (w : World) : PSet (w.alloc (.map #[] 0)) w.heap.size 0 (fun _ => False) :=
  ⟨_, World.ownsMap_made _ _ _ _, fun kl => by simp [Maps.has]⟩
theorem PSet.below {B : Nat} (h : PSet w b n S) (hb : Below B w w') (hB : b < B) : PSet w' b n S := by
  obtain ⟨D, ⟨es, clock, h1, r⟩, h2⟩ := h
  exact ⟨D, ⟨es, clock, (hb.block b hB).trans h1, r⟩, h2⟩
theorem PSet.lt (h : PSet w b n S) : b < w.heap.size := by obtain ⟨D, h1, h2⟩ := h; exact h1.lt
theorem PSet.mono {m : Nat} (h : PSet w b n S) (hm : n ≤ m) : PSet w b m S := by obtain ⟨D, h1, h2⟩ := h; exact ⟨D, h1.mono hm, h2⟩
theorem PSet.iff {T : F → Prop} (h : PSet w b n S) (hT : ∀ p, S p ↔ T p) : PSet w b n T := by
  obtain ⟨D, h1, h2⟩ := h
  refine ⟨D, h1, fun kl => ?_⟩
  rw [h2]
  constructor
  · rintro ⟨p, h3, h4⟩; exact ⟨p, (hT p).1 h3, h4⟩
  · rintro ⟨p, h3, h4⟩; exact ⟨p, (hT p).2 h3, h4⟩
theorem has_put10 {D : DataW Unit} {p : F} {d : DataW Unit} (hD : IsMap D) (hp : Sml p) (h : ∀ kl, Maps.has D kl = true ↔ ∃ p, S p ∧ Sml p ∧ pkey p = kl) :
    ∀ kl, Maps.has (D.put (pkey p) d) kl = true ↔ ∃ q, (S q ∨ q = p) ∧ Sml q ∧ pkey q = kl := by
  intro kl
  by_cases hk : kl = pkey p
  · subst hk
    exact ⟨fun _ => ⟨p, .inr rfl, hp, rfl⟩, fun _ => has_put_same hD (pkey_key hp) d⟩
  · rw [has_put_other hk, h]
    constructor
    · rintro ⟨q, h1, h2, h3⟩; exact ⟨q, .inl h1, h2, h3⟩
    · rintro ⟨q, h1 | rfl, h2, h3⟩
      · exact ⟨q, h1, h2, h3⟩
      · exact absurd h3.symm hk
theorem has_del10 {D : DataW Unit} {p : F} (hp : Sml p) (h : ∀ kl, Maps.has D kl = true ↔ ∃ p, S p ∧ Sml p ∧ pkey p = kl) :
    ∀ kl, Maps.has (D.del (pkey p)) kl = true ↔ ∃ q, (S q ∧ q ≠ p) ∧ Sml q ∧ pkey q = kl := by
  intro kl
  by_cases hk : kl = pkey p
  · subst hk
    rw [has_del_same]
    constructor
    · intro e; cases e
    · rintro ⟨q, ⟨_, hne⟩, h2, h3⟩; exact absurd (pkey_inj h2 hp h3) hne
  · rw [has_del_other hk, h]
    constructor
    · rintro ⟨q, h1, h2, h3⟩; exact ⟨q, ⟨h1, fun e => hk (by rw [← h3, e])⟩, h2, h3⟩
    · rintro ⟨q, ⟨h1, _⟩, h2, h3⟩; exact ⟨q, h1, h2, h3⟩
theorem size_zero10 {D : DataW Unit} (hD : w.ownsMap Try.prog 35 (plainElem Try.prog 4) b n D) (h : ∀ kl, Maps.has D kl = true ↔ ∃ p, S p ∧ Sml p ∧ pkey p = kl) : Maps.size D = 0 ↔ ∀ p, Sml p → ¬ S p := by
  obtain ⟨es, clock, hb, F, hs, rfl⟩ := hD
  have hks := Maps.fit_keys F
  generalize hl : (es.toList.map (Go.WideElems.rg Try.prog 35 (plainElem (H := Unit) Try.prog 4))).foldr DataW.insert [] = l at h
  have hk : ∀ p ∈ l, WideAt.IsKeyLit p.1 := fun p hp => by
    rw [← hl] at hp
    obtain ⟨v, hv⟩ := hks p ((Go.WideShapes.sorted_perm _).mem_iff.1 hp)
    exact lawPrm.key hv
  have hs : Maps.size (DataW.map l) = l.length := rfl
  rw [hs]
  constructor
  · intro h0 p hp hS
    have := (h (pkey p)).2 ⟨p, hS, hp, rfl⟩
    rw [List.length_eq_zero_iff] at h0
    subst h0
    simp [Maps.has] at this
  · intro hn
    cases l with
    | nil => rfl
    | cons x r =>
      exfalso
      have h1 : Maps.has (DataW.map (x :: r)) x.1 = true := by
        rw [Maps.has_eq, List.any_cons, WideAt.sameKey_self (hk x (by simp))]; rfl
      obtain ⟨p, hS, hp, _⟩ := (h x.1).1 h1
      exact hn p hp hS
/-- a store: the call's 'm[p] = true' -/
theorem PSet.put {p : F} {m : Nat} (h : PSet w b n S) (hp : Sml p) (hn : n < maxLen) (hm : n + 1 ≤ m) :
    ∃ w', (Instr.mapUpdate 55 (.map (some b)) (.agg #[.string p.1, .string p.2]) (.bool true)).run Try.prog w = .ok () w' ∧ PSet w' b m (fun q => S q ∨ q = p) ∧ w.grownBy w' (some b) := by
  obtain ⟨D, h1, h2⟩ := h
  obtain ⟨w', r1, r2, r3⟩ := h1.update lawPrm Try.underlying55 hn (pkey_of hp) (plainElem_bool Try.underlying4 true)
  exact ⟨w', r1, ⟨_, r2.mono hm, has_put10 h1.isMap hp h2⟩, r3⟩
end
theorem wpList_put10 {w : World} {ops : Array Oper} {rest : List Oper} {o : Oper} {a : Act} {Q : Exit → Act → World → Prop} {b n m : Nat} {S : F → Prop} {p : F}
    (hg : o.guard = none) (mm x v : Operand) (hop : o.op = Op.mapUpdate 55 mm x v) (h : PSet w b n S) (hp : Sml p) (hn : n < maxLen) (hm : n + 1 ≤ m)
    (em : a.eval mm = .map (some b)) (ex : a.eval x = .agg #[.string p.1, .string p.2]) (ev : a.eval v = .bool true)
    (hK : ∀ w', PSet w' b m (fun q => S q ∨ q = p) → w.grownBy w' (some b) → wpList Try.prog ops Q rest (a.put o.dst undef) w') : wpList Try.prog ops Q (o :: rest) a w := by
  obtain ⟨D, h1, h2⟩ := h
  refine wpList_mapUpdate_own w hg mm x v 55 hop 35 4 lawPrm Try.underlying55 _ b n D em h1 hn _ _ _ ex ev (pkey_of hp) _ [] (plainElem_bool Try.underlying4 true) ?_
  intro w' r2 r3
  exact hK w' ⟨_, r2.mono hm, has_put10 h1.isMap hp h2⟩ r3
theorem wpList_del10 {w : World} {ops : Array Oper} {rest : List Oper} {o : Oper} {a : Act} {Q : Exit → Act → World → Prop} {b n : Nat} {S : F → Prop} {p : F}
    (hg : o.guard = none) (mm x : Operand) (hop : o.op = Op.call { callee := Callee.builtin Builtin.delete, args := #[mm, x], argTypes := #[55, 35] }) (h : PSet w b n S) (hp : Sml p)
    (em : a.eval mm = .map (some b)) (ex : a.eval x = .agg #[.string p.1, .string p.2])
    (hK : ∀ w', PSet w' b n (fun q => S q ∧ q ≠ p) → w.grownBy w' (some b) → wpList Try.prog ops Q rest (a.put o.dst (.tuple #[])) w') : wpList Try.prog ops Q (o :: rest) a w := by
  obtain ⟨D, h1, h2⟩ := h
  refine wpList_delete_own w hg mm x 55 35 hop 4 lawPrm Try.underlying55 _ b n D em h1 _ _ ex (pkey_of hp) ?_
  intro w' r2 r3
  exact hK w' ⟨_, r2, has_del10 hp h2⟩ r3.grown
theorem wpList_len10 {w : World} {ops : Array Oper} {rest : List Oper} {o : Oper} {a : Act} {Q : Exit → Act → World → Prop} {b n : Nat} {S : F → Prop}
    (hg : o.guard = none) (mm : Operand) (hop : o.op = Op.call { callee := Callee.builtin Builtin.len, args := #[mm], argTypes := #[55] }) (h : PSet w b n S)
    (em : a.eval mm = .map (some b)) (hK : ∀ k : Nat, (k = 0 ↔ ∀ p, Sml p → ¬ S p) → wpList Try.prog ops Q rest (a.put o.dst (.int .i64 k)) w) : wpList Try.prog ops Q (o :: rest) a w := by
  obtain ⟨D, h1, h2⟩ := h
  refine wpList_len_own w hg mm 55 hop 35 4 Try.underlying55 _ b n D em h1 ?_
  exact hK _ (size_zero10 h1 h2)
theorem makeHint10 (k : Nat) (w : World) : (Instr.makeMap 55 (some (.int .i64 (k : Int)))).run Try.prog w = .ok (.map (some w.heap.size)) (w.alloc (.map #[] 0)) := by
  simp [Instr.makeMap, run_underlying Try.underlying55, asInt, asIntOf, Result.andThen]
end
section
/-- outside quoted strings (0), within one (1), behind a backslash within one (2) -/
def stepQ (s : Nat) (c : UInt8) : Nat := if s = 0 then (if c = 34 then 1 else 0) else if s = 1 then (if c = 34 then 0 else if c = 92 then 2 else 1) else 1
def pcF (sep : UInt8) : Nat → List UInt8 → List UInt8 → List UInt8 × List UInt8 × Bool
  | _, [], acc => (acc, [], false)
  | s, c :: r, acc => if s = 0 ∧ c = sep then (acc, r, true) else pcF sep (stepQ s c) r (acc ++ [c])
def pcL (sep : UInt8) (l : List UInt8) : List UInt8 × List UInt8 × Bool := pcF sep 0 l []
def moreL (sep : UInt8) (m : Bool) (l : List UInt8) : List (List UInt8) := if m then cutL sep l else []
theorem pcF_cons (sep : UInt8) (s : Nat) (c : UInt8) (r acc : List UInt8) : pcF sep s (c :: r) acc = if s = 0 ∧ c = sep then (acc, r, true) else pcF sep (stepQ s c) r (acc ++ [c]) := rfl
def qS (q : Bool) : Nat := if q = true then 1 else 0
theorem cut_pc {sep : UInt8} (hs : sep ≠ 34) : ∀ (f : Nat) (q : Bool) (l acc : List UInt8), l.length ≤ f → cutF sep f q l acc = (pcF sep (qS q) l acc).1 :: moreL sep (pcF sep (qS q) l acc).2.2 (pcF sep (qS q) l acc).2.1
  | f, q, [], acc, _ => by rw [cutF_nil]; rfl
  | 0, q, c :: r, acc, h => by simp at h
  | f + 1, q, c :: r, acc, h => by
    simp only [List.length_cons] at h
    rw [cutF_cons, pcF_cons]
    by_cases h1 : q = true ∧ c = 92
    · obtain ⟨rfl, rfl⟩ := h1
      rw [if_pos ⟨rfl, rfl⟩, if_neg (fun h => absurd h.1 (by decide))]
      match r, h with
      | [], h => rfl
      | d :: r2, h =>
        simp only [List.length_cons] at h
        simp only
        rw [cut_pc hs f true r2 _ (by omega), pcF_cons, if_neg (fun h => absurd h.1 (by decide)), List.append_assoc]
        rfl
    · rw [if_neg h1]
      by_cases h2 : c = 34
      · subst h2
        rw [if_pos rfl, if_neg (fun h => hs h.2.symm), cut_pc hs f (!q) r _ (by omega)]
        cases q <;> rfl
      · rw [if_neg h2]
        by_cases h3 : c = sep ∧ q = false
        · obtain ⟨rfl, rfl⟩ := h3
          rw [if_pos ⟨rfl, rfl⟩, if_pos ⟨rfl, rfl⟩]
          show acc :: cutF c f false r [] = acc :: cutF c r.length false r []
          rw [cutF_fuel f r.length false r [] (by omega) (Nat.le_refl _)]
        · rw [if_neg h3]
          have e : stepQ (qS q) c = qS q := by
            unfold stepQ
            cases q
            · show (if (0 : Nat) = 0 then _ else _) = _
              rw [if_pos rfl, if_neg h2]; rfl
            · show (if (1 : Nat) = 0 then _ else if (1 : Nat) = 1 then _ else _) = _
              rw [if_neg (by decide), if_pos rfl, if_neg h2, if_neg (fun h => h1 ⟨rfl, h⟩)]; rfl
          have n : ¬ (qS q = 0 ∧ c = sep) := by
            rintro ⟨h5, h6⟩
            cases q
            · exact h3 ⟨h6, rfl⟩
            · exact absurd h5 (by decide)
          rw [if_neg n, e, cut_pc hs f q r _ (by omega)]
theorem cutL_pc {sep : UInt8} (hs : sep ≠ 34) (l : List UInt8) : cutL sep l = (pcL sep l).1 :: moreL sep (pcL sep l).2.2 (pcL sep l).2.1 := cut_pc hs l.length false l [] (Nat.le_refl _)
/-- the steps, by places -/
def pcAt (sep : UInt8) (s : Nat) (l : List UInt8) (k : Nat) : List UInt8 × List UInt8 × Bool := pcF sep s (l.drop k) (l.take k)
theorem pc_start (sep : UInt8) (l : List UInt8) : pcL sep l = pcAt sep 0 l 0 := by unfold pcL pcAt; simp
theorem pc_end {sep : UInt8} {s : Nat} {l : List UInt8} {k : Nat} (h : l.length ≤ k) : pcAt sep s l k = (l, [], false) := by
  unfold pcAt; rw [List.drop_of_length_le h, List.take_of_length_le h]; rfl
theorem pc_sep {sep : UInt8} {l : List UInt8} {k : Nat} (hk : k < l.length) (h : l[k] = sep) : pcAt sep 0 l k = (l.take k, l.drop (k + 1), true) := by
  unfold pcAt; rw [List.drop_eq_getElem_cons hk, pcF_cons, if_pos ⟨rfl, h⟩]
theorem pc_step {sep : UInt8} {s : Nat} {l : List UInt8} {k : Nat} (hk : k < l.length) (h : ¬ (s = 0 ∧ l[k] = sep)) : pcAt sep s l k = pcAt sep (stepQ s l[k]) l (k + 1) := by
  unfold pcAt
  rw [List.drop_eq_getElem_cons hk, pcF_cons, if_neg h, List.take_add_one, List.getElem?_eq_getElem hk]; rfl
theorem stepQ_le (s : Nat) (c : UInt8) : stepQ s c ≤ 2 := by unfold stepQ; repeat' split <;> try omega
/-- sizes -/
theorem pcF_size (sep : UInt8) : ∀ (l : List UInt8) (s : Nat) (acc : List UInt8), (pcF sep s l acc).1.length + (pcF sep s l acc).2.1.length ≤ acc.length + l.length ∧ ((pcF sep s l acc).2.2 = true → (pcF sep s l acc).2.1.length < l.length)
  | [], s, acc => ⟨by simp [pcF], fun h => by simp [pcF] at h⟩
  | c :: r, s, acc => by
    rw [pcF_cons]
    split
    · refine ⟨by simp only [List.length_cons]; omega, fun _ => by simp⟩
    · obtain ⟨h1, h2⟩ := pcF_size sep r (stepQ s c) (acc ++ [c])
      simp only [List.length_append, List.length_cons, List.length_nil] at h1 ⊢
      exact ⟨by omega, fun h => by have := h2 h; omega⟩
end
section
open Go.RowKit
theorem after_any (st : Nat) (c : UInt8) (w : World) (h : st ≤ 2) :
    Calls Try.prog 47 #[.int .i64 (st : Int), .int .u8 (c.toNat : Int)] w fun e w' => e = .returned (.int .i64 ((stepQ st c : Nat) : Int)) ∧ w = w' := by
  obtain ⟨v, hv⟩ : ∃ v, stepQ st c = v := ⟨_, rfl⟩
  rw [hv]
  rcases h34 : ((c.toNat : Int) == 34) with _ | _
  · have n34 : c ≠ 34 := byte_no (d := 34) h34
    rcases h92 : ((c.toNat : Int) == 92) with _ | _
    · have n92 : c ≠ 92 := byte_no (d := 92) h92
      have hs : st = 0 ∧ v = 0 ∨ st = 1 ∧ v = 1 ∨ st = 2 ∧ v = 1 := by
        unfold stepQ at hv
        rw [if_neg n34, if_neg n34, if_neg n92] at hv
        split at hv
        · omega
        · split at hv <;> omega
      clear n34 n92 hv h
      rcases hs with ⟨rfl, rfl⟩ | ⟨rfl, rfl⟩ | ⟨rfl, rfl⟩
      all_goals
        go_enter Try.func47, Try.ntmps47
        go_wp2
        go_ret
        exact ⟨rfl, rfl⟩
    · have e92 : c = 92 := byte_is (d := 92) h92
      have hs : st = 0 ∧ v = 0 ∨ st = 1 ∧ v = 2 ∨ st = 2 ∧ v = 1 := by
        unfold stepQ at hv
        rw [if_neg n34, if_neg n34, if_pos e92] at hv
        split at hv
        · omega
        · split at hv <;> omega
      clear n34 e92 hv h
      rcases hs with ⟨rfl, rfl⟩ | ⟨rfl, rfl⟩ | ⟨rfl, rfl⟩
      all_goals
        go_enter Try.func47, Try.ntmps47
        go_wp2
        go_ret
        exact ⟨rfl, rfl⟩
  · have e34 : c = 34 := byte_is (d := 34) h34
    have hs : st = 0 ∧ v = 1 ∨ st = 1 ∧ v = 0 ∨ st = 2 ∧ v = 1 := by
      unfold stepQ at hv
      rw [if_pos e34, if_pos e34] at hv
      split at hv
      · omega
      · split at hv <;> omega
    clear e34 hv h
    rcases hs with ⟨rfl, rfl⟩ | ⟨rfl, rfl⟩ | ⟨rfl, rfl⟩
    all_goals
      go_enter Try.func47, Try.ntmps47
      go_wp2
      go_ret
      exact ⟨rfl, rfl⟩
def pcV (sep : UInt8) (l : List UInt8) : Value := .tuple #[.string (bs (pcL sep l).1), .string (bs (pcL sep l).2.1), .bool (pcL sep l).2.2]
set_option maxHeartbeats 1000000 in
theorem pieceCut_any (s : ByteArray) (sep : UInt8) (w : World) (hs : s.size ≤ 65000) :
    Calls Try.prog 32 #[.string s, .int .u8 (sep.toNat : Int)] w fun e w' => e = .returned (pcV sep s.data.toList) ∧ Below w.heap.size w w' := by
  have hz : s.data.toList.length = s.size := by simp
  go_enter Try.func32, Try.ntmps32
  go_wp2
  go_loop [7, 11] (fun p i => ∃ k st : Nat, k ≤ s.size ∧ st ≤ 2 ∧ p = .int .i64 (st : Int) ∧ i = .int .i64 k ∧ Box (pcL sep s.data.toList = pcAt sep st s.data.toList k)) (fun _ i => s.size - (intOf i).toNat)
  case atStart => exact ⟨0, 0, Nat.zero_le _, by omega, rfl, rfl, box (pc_start _ _)⟩
  case round =>
    obtain ⟨k, st, hk, hst, rfl, rfl, HC⟩ := hrel
    by_cases hlt : k < s.size
    · have hlt' : k < s.data.toList.length := by rw [hz]; exact hlt
      have hbk : s.data.toList[k] = s[k] := rfl
      rcases h0 : ((st : Int) == 0) with _ | _
      · have n0 : st ≠ 0 := by intro h; subst h; simp at h0
        have HX := box (HC.out.trans (pc_step hlt' (fun h => n0 h.1)))
        have hle := stepQ_le st s[k]
        rw [hbk] at HX
        clear hbk n0
        go_wp2_with fail
        refine (after_any st s[k] _ hst).mono ?_; rintro e w1 ⟨rfl, rfl⟩
        go_wp2
        go_round
        case rel => exact ⟨k + 1, stepQ st s[k], by omega, hle, rfl, by go_num, HX⟩
        case measure => simp [intOf]; omega
      · have e0 : st = 0 := by simpa using h0
        subst e0
        rcases h44 : ((s[k].toNat : Int) == (sep.toNat : Int)) with _ | _
        · have n44 : s[k] ≠ sep := byte_no h44
          have HX := box (HC.out.trans (pc_step hlt' (fun h => n44 h.2)))
          have hle := stepQ_le 0 s[k]
          rw [hbk] at HX
          clear hbk n44
          go_wp2_with fail
          refine (after_any 0 s[k] _ hst).mono ?_; rintro e w1 ⟨rfl, rfl⟩
          go_wp2
          go_round
          case rel => exact ⟨k + 1, stepQ 0 s[k], by omega, hle, rfl, by go_num, HX⟩
          case measure => simp [intOf]; omega
        · have HX := box (HC.out.trans (pc_sep hlt' (byte_is h44)))
          clear hbk
          go_wp2
          go_quiet (fail)
          go_wp2
          go_ret3
          refine ⟨?_, below_drewN _ _⟩
          unfold pcV
          rw [HX.out]
          show Ending.returned (.tuple #[.string (s.extract 0 k), .string (s.extract (k + 1) s.size), .bool true]) = _
          rw [ext_bs, ext_bs, List.drop_zero, List.take_of_length_le (i := s.size) (by simp)]
    · have HX := box (HC.out.trans (pc_end (l := s.data.toList) (by rw [hz]; omega)))
      go_wp2
      go_ret3
      refine ⟨?_, Below.refl _ _⟩
      unfold pcV
      rw [HX.out]
      rfl
end
section
open Go.RowKit
theorem aTrim_is {s x : ByteArray} {w : World} (hs : s.size ≤ maxLen) (h : Box (bs (trimL s.data.toList) = x)) :
    Calls Try.prog 33 #[.string s] w fun e w' => e = .returned (.string x) ∧ w = w' :=
  (Trim_any s w hs).mono fun e w' ⟨h1, h2⟩ => ⟨by rw [h1, ← h.out]; rfl, by first | exact h2 | exact h2.symm⟩
def msr (m r : Value) : Nat := match m, r with | .bool true, .string t => t.size + 1 | _, _ => 0
end
section
open Go.RowKit
theorem bld_info : ∃ j, Try.prog.info? 59 = some j ∧ j.size = 2 := by
  obtain ⟨j, h1, h2⟩ := Option.map_eq_some_iff.1 (show (Try.prog.info? 59).map (·.size) = some 2 by kernel_rfl)
  exact ⟨j, h1, h2⟩
theorem bld_lies : liesAt Try.prog Try.prog.depth 59 (2 / Try.prog.cellsOf 59) 0 59 1 = true := by kernel_rfl
/-- the builder of block b: not yet written, or in use; its bytes l -/
def BldAt (w : World) (B b : Nat) (p : Value) (l : List UInt8) : Prop := Lib.BuilderAt 59 5 B b p (Lib.byteCells l) w
def Bld (w : World) (B b : Nat) (l : List UInt8) : Prop := BldAt w B b (.pointer none) l ∨ BldAt w B b (.pointer (some ⟨b, 0, none⟩)) l
theorem check_used (b : Nat) (w : World) (h0 : w.cell? ⟨b, 0, none⟩ = some (.pointer (some ⟨b, 0, none⟩))) :
    Calls Try.prog 55 #[.pointer (some ⟨b, 0, none⟩)] w fun e w' => e = .returned (.tuple #[]) ∧ w' = w := by
  obtain ⟨j, hj, hjs⟩ := bld_info
  go_enter Try.func55, Try.ntmps55
  go_wp2
  rw [Lib.run_neq_ptr_same w _ Try.underlying57 hj]
  go_wp2
  go_end0
  exact ⟨rfl, rfl⟩
theorem check_new (b : Nat) (w : World) (h0 : w.cell? ⟨b, 0, none⟩ = some (.pointer none)) (hsh : w.shape? b = some (59, 2)) (hf : w.frozen? ⟨b, 0, none⟩ = false) :
    Calls Try.prog 55 #[.pointer (some ⟨b, 0, none⟩)] w fun e w' => e = .returned (.tuple #[]) ∧ w' = w.setCell ⟨b, 0, none⟩ (.pointer (some ⟨b, 0, none⟩)) := by
  obtain ⟨j, hj, hjs⟩ := bld_info
  have hj0 : j.size ≠ 0 := by omega
  go_enter Try.func55, Try.ntmps55
  go_wp2
  rw [Lib.run_to_unsafe w ⟨b, 0, none⟩ Try.underlying57 Try.underlying72 hj hj0 hsh (Nat.zero_lt_succ 1)]
  simp only [Result.andThen]
  rw [Oper.upon_value]
  go_wp2
  rw [run_callFunc_extern Try.func62 (by kernel_rfl) (by kernel_rfl) (by kernel_rfl) (e := Extern.AbiNoEscape.same) (by kernel_rfl), Lib.run_noEscape]
  simp only [Result.andThen]
  rw [Oper.upon_value]
  go_wp2
  rw [Lib.run_from_unsafe w ⟨b, 0, none⟩ Try.underlying72 Try.underlying57 hj hsh bld_lies]
  simp only [Result.andThen]
  rw [Oper.upon_value]
  go_wp2
  go_end0
  exact ⟨rfl, rfl⟩
theorem blk_lt {w : World} {b : Nat} {o : Obj} (h : w.heap[b]? = some o) : b < w.heap.size := by
  rcases Nat.lt_or_ge b w.heap.size with q | q
  · exact q
  · rw [Array.getElem?_eq_none q] at h; cases h
theorem String_some (B b g cap : Nat) (p : Value) (l : List UInt8) (cur : Array Value) (w : World) (hb : w.heap[b]? = some (.cells #[p, .slice (some ⟨g, 0, none⟩) l.length cap] 59 (0, 0))) (hBg : B ≤ g) (hg : w.heap[g]? = some (.cells cur 5 (0, 0))) (h0 : l ≠ []) (hlc : l.length ≤ cap) (hcap : cap ≤ maxLen) (hcs : cur.size = cap)
    (hc : ∀ j x, l[j]? = some x → w.cell? ((⟨g, 0, none⟩ : Addr).add j) = some (.int .u8 (x.toNat : Int))) :
    Calls Try.prog 45 #[.pointer (some ⟨b, 0, none⟩)] w fun e w' => e = .returned (.string ⟨l.toArray⟩) ∧ Below B w w' := by
  have hl0 : l.length ≠ 0 := by simpa using h0
  have c1 : w.drew.cell? ⟨b, 1, none⟩ = some (.slice (some ⟨g, 0, none⟩) l.length cap) := by rw [Lib.cell_of_heap (w := w.drew) hb]; rfl
  have hSD : (Builtin.unsafeSliceData_ #[46] 68 #[.slice (some ⟨g, 0, none⟩) l.length cap]).run Try.prog w.drew = .ok (.pointer (some ⟨g, 0, none⟩)) w.drew :=
    Lib.run_unsafeSliceData_row _ _ _ _ _ _ (by omega)
  have hUS : (Builtin.unsafeString_ #[68, 3] 9 #[.pointer (some ⟨g, 0, none⟩), .int .i64 l.length]).run Try.prog w.drew = .ok (.string ⟨l.toArray⟩) (w.drew.freeze ⟨g, 0, none⟩ l.length) :=
    Lib.run_unsafeString_row w.drew 68 3 9 5 Try.underlying68 (by kernel_rfl) g cur.size (by simp [World.shape?, show w.drew.heap[g]? = _ from hg]) l h0 (by omega) (by unfold maxLen at hcap; omega) hc
  have HB : Box (Below B w (w.drew.freeze ⟨g, 0, none⟩ l.length)) := box (Lib.below_freeze (Below.drew (Below.refl B w)) (p := ⟨g, 0, none⟩) hBg _)
  clear hc hb hg hcap
  go_enter Try.func45, Try.ntmps45
  go_wp2
  go_region
  all_goals (go_wp2; go_ret; exact ⟨rfl, HB.out⟩)
/-- String, at a builder that holds bytes; what they lie in is closed to later stores -/
theorem String_any (B b : Nat) (l : List UInt8) (w : World) (h : Box (Bld w B b l)) (h0 : l ≠ []) :
    Calls Try.prog 45 #[.pointer (some ⟨b, 0, none⟩)] w fun e w' => e = .returned (.string ⟨l.toArray⟩) ∧ Below B w w' := by
  obtain ⟨p, hB, v, hbk, hown, hne⟩ : ∃ p, BldAt w B b p l := by
    rcases h.out with q | q
    · exact ⟨_, q⟩
    · exact ⟨_, q⟩
  rw [Lib.byteCells_length] at hown
  rcases hown.2 with ⟨_, hz⟩ | ⟨g, cap, cur, rfl, hbg, hg, hnc, hcm, hcs, htk⟩
  · exact absurd (by simpa using hz) h0
  · refine String_some B b g cap p l cur w hbk hbg hg h0 hnc hcm (by omega) (fun j x hx => ?_)
    exact hown.cells (g := g) rfl j (.int .u8 x.toNat) (by simp [Lib.byteCells, hx])
end
end Go.Proofs.Ytkalddhokoldgaa.Asc
