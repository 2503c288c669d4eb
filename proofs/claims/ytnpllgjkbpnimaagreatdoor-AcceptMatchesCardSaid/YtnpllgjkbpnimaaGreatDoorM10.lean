/- Merged texts: LanRef3 CodRef QvaRef AccRef2 LisRef3 AccRef3 AccKN MedSet LisPc LisApp LisApp2. -/
import Derived.Test.YtnpllgjkbpnimaaGreatDoorM01
import Derived.Test.YtnpllgjkbpnimaaGreatDoorM02
import Derived.Test.YtnpllgjkbpnimaaGreatDoorM03
import Derived.Test.YtnpllgjkbpnimaaGreatDoorM06
import Derived.Test.YtnpllgjkbpnimaaGreatDoorM07
import Derived.Test.YtnpllgjkbpnimaaGreatDoorM09
import Derived.DeepKeys4
import Derived.Maps.OwnSet
set_option linter.unusedVariables false
set_option linter.unusedSimpArgs false
set_option maxRecDepth 100000
namespace Go.Proofs.YtnpllgjkbpnimaaGreatDoor.Asc
section
open Go.RowKit
theorem rRange_tis {s : ByteArray} {b : Bool} {w : World} (hs : s.size ≤ 65000) (h : Box (rangeT s.data.toList = b)) :
    Calls Tryz.prog 37 #[.string s] w fun e w' => e = .returned (.bool b) ∧ Below w.heap.size w w' :=
  (rRangeT_any s w hs).mono fun e w' ⟨h1, h2⟩ => ⟨by rw [h1, h.out], h2⟩
theorem rFold11_is {a b : ByteArray} {q : Bool} {w : World} (ha : a.size ≤ 4294967296) (hb : b.size ≤ 4294967296) (h : Box (foldL a.data.toList b.data.toList = q)) :
    Calls Tryz.prog 36 #[.string a, .string b] w fun e w' => e = .returned (.bool q) ∧ Below w.heap.size w w' :=
  (rFold_any a b w ha hb).mono fun e w' ⟨h1, h2⟩ => ⟨by rw [h1, h.out], h2⟩
def prefB : List ByteArray → List ByteArray → Bool
  | [], _ => true
  | _ :: _, [] => false
  | x :: xs, y :: ys => foldL x.data.toList y.data.toList && prefB xs ys
theorem pref_map : ∀ (A B : List (List UInt8)), prefB (A.map bs) (B.map bs) = prefS A B
  | [], _ => rfl
  | _ :: _, [] => rfl
  | x :: xs, y :: ys => by
    show (foldL (bs x).data.toList (bs y).data.toList && prefB (xs.map bs) (ys.map bs)) = (foldL x y && prefS xs ys)
    rw [pref_map xs ys]; rfl
theorem pref_end {A B : List ByteArray} {k : Nat} (h : A.length ≤ k) : prefB (A.drop k) (B.drop k) = true := by rw [List.drop_of_length_le h]; rfl
theorem pref_short {A B : List ByteArray} {k : Nat} (h : k < A.length) (hb : B.length ≤ k) : prefB (A.drop k) (B.drop k) = false := by
  rw [List.drop_eq_getElem_cons h, List.drop_of_length_le hb]; rfl
theorem pref_next {A B : List ByteArray} {k : Nat} (h : k < A.length) (hb : k < B.length) : prefB (A.drop k) (B.drop k) = (foldL A[k].data.toList B[k].data.toList && prefB (A.drop (k + 1)) (B.drop (k + 1))) := by
  rw [List.drop_eq_getElem_cons h, List.drop_eq_getElem_cons hb]; rfl
theorem subB_len (s : ByteArray) : (subB s.data.toList).length ≤ s.size + 1 := by
  have := sub_count s.data.toList
  have hz : s.data.toList.length = s.size := by simp
  unfold subB; rw [List.length_map]; omega
theorem subB_small (s : ByteArray) : ∀ k (h : k < (subB s.data.toList).length), (subB s.data.toList)[k].size ≤ s.size := by
  intro k hk
  have hk2 : k < (subL s.data.toList).length := by unfold subB at hk; simpa using hk
  have := (sub_mem s.data.toList _ (List.getElem_mem hk2)).2
  have hz : s.data.toList.length = s.size := by simp
  simp only [subB, List.getElem_map, bs_size]; omega
theorem match_no {r t : List UInt8} (h : (rangeT r && tagL t) = false) : matchT r t = -1 := by unfold matchT; rw [if_pos h]
theorem match_star {t : List UInt8} (h : tagL t = true) : matchT [42] t = 0 := by
  have hr : rangeT [42] = true := by decide +kernel
  unfold matchT; rw [hr, h]; simp
theorem match_pref {r t : List UInt8} (h1 : rangeT r = true) (h2 : tagL t = true) (h3 : r ≠ [42]) : matchT r t = if prefB (subB r) (subB t) = true then ((subB r).length : Int) else -1 := by
  unfold matchT
  rw [h1, h2, if_neg (by simp), if_neg h3]
  unfold subB
  rw [pref_map, List.length_map]
def MtRel (A B : List ByteArray) (W : World) (i : Value) (wr : World) : Prop := ∃ k : Nat, i = .int .i64 k ∧ k ≤ A.length ∧ k ≤ B.length ∧ prefB A B = prefB (A.drop k) (B.drop k) ∧ Below W.heap.size W wr
set_option maxHeartbeats 2000000 in
theorem rMatchT_pref (r t : ByteArray) (w : World) (hr : r.size ≤ 65000) (ht : t.size ≤ 65000) (h1 : Box (rangeT r.data.toList = true)) (h2 : Box (tagL t.data.toList = true)) (h3 : (r.toList == [42]) = false) (m : Int)
    (hm : Box ((if prefB (subB r.data.toList) (subB t.data.toList) = true then ((subB r.data.toList).length : Int) else -1) = m)) :
    Calls Tryz.prog 16 #[.string r, .string t] w fun e w' => e = .returned (.int .i64 m) ∧ Below w.heap.size w w' := by
  have hla := subB_len r
  have hlb := subB_len t
  have hza := subB_small r
  have hzb := subB_small t
  obtain ⟨A, hA⟩ : ∃ A, subB r.data.toList = A := ⟨_, rfl⟩
  obtain ⟨B, hB⟩ : ∃ B, subB t.data.toList = B := ⟨_, rfl⟩
  rw [hA] at hla hza hm
  rw [hB] at hlb hzb hm
  have HA := box hA
  have HB := box hB
  have ZA := box hza
  have ZB := box hzb
  clear hA hB hza hzb
  go_enter Tryz.func16, Tryz.ntmps16
  go_wp2_with fail
  refine (rRange_tis hr h1).mono ?_; rintro e w1 ⟨rfl, hb1⟩
  have B1 := box hb1
  clear hb1
  go_wp2_with fail
  refine (rTag_is ht h2).mono ?_; rintro e w2 ⟨rfl, hb2⟩
  have B2 := box (B1.out.trans (hb2.mono B1.out.size))
  clear hb2
  go_wp2_with fail
  refine (rSubs_any r _ hr).mono ?_; rintro e w3 ⟨v3, rfl, hO3, hb3⟩
  rw [HA.out] at hO3
  obtain ⟨a3, c3, rfl, hS3, hc3⟩ := hO3.ss
  have B3 := box (B2.out.trans (hb3.mono B2.out.size))
  have S3 := box hS3
  clear hO3 hb3 hS3
  go_wp2_with fail
  refine (rSubs_any t _ ht).mono ?_; rintro e w4 ⟨v4, rfl, hO4, hb4⟩
  rw [HB.out] at hO4
  obtain ⟨a4, c4, rfl, hS4, hc4⟩ := hO4.ss
  have B4 := box (B3.out.trans (hb4.mono B3.out.size))
  have SA := box (S3.out.below hb4)
  have SB := box hS4
  clear hO4 hb4 hS4 S3
  go_wp2
  go_loopw [7] (fun i wr => MtRel A B w4 i wr) (fun i _ => A.length - (intOf i).toNat)
  case atStart => exact ⟨0, rfl, Nat.zero_le _, Nat.zero_le _, rfl, Below.refl _ _⟩
  case round =>
    obtain ⟨k, rfl, hka, hkb, hq, hbel⟩ := hrel
    have HQ := box hq
    have BL := box hbel
    have FA := SA.out.below hbel
    have FB := SB.out.below hbel
    clear hq hbel
    by_cases hlt : k < A.length
    · have hai : (k : Int) < (A.length : Int) := by omega
      by_cases hkb2 : k < B.length
      · obtain ⟨x, hx⟩ : ∃ x, A[k] = x := ⟨_, rfl⟩
        obtain ⟨y, hy⟩ : ∃ y, B[k] = y := ⟨_, rfl⟩
        obtain ⟨g, off, rfl, cA⟩ := FA k hlt
        obtain ⟨g', off', rfl, cB⟩ := FB k hkb2
        rw [hx] at cA
        rw [hy] at cB
        have hxz : x.size ≤ 4294967296 := by have := ZA.out k hlt; rw [hx] at this; omega
        have hyz : y.size ≤ 4294967296 := by have := ZB.out k hkb2; rw [hy] at this; omega
        have hne : ((k : Int) == (B.length : Int)) = false := by rw [beq_eq_false_iff_ne]; omega
        have hbi : (k : Int) < (B.length : Int) := by omega
        have HN := box (pref_next hlt hkb2)
        rw [hx, hy] at HN
        have BS := BL.out.size
        clear FA FB
        cases hf : foldL x.data.toList y.data.toList with
        | true =>
          have HF := box hf
          have HP : Box (prefB A B = prefB (A.drop (k + 1)) (B.drop (k + 1))) := box (by rw [HQ.out, HN.out, hf, Bool.true_and])
          clear hf hx hy
          go_wp2
          go_region_held3 (fun w' => w'.cell? ⟨g, off + k, none⟩ = some (.string x) ∧ w'.cell? ⟨g', off' + k, none⟩ = some (.string y)) (first | exact ⟨(hb5.cell (cell_lt cA)).trans cA, (hb5.cell (cell_lt cB)).trans cB⟩ | exact ⟨cA, cB⟩) (first | (go_at_call 36; refine (rFold11_is hxz hyz HF).mono ?_; rintro e w5 ⟨rfl, hb5⟩))
          all_goals
            have B5 := box (BL.out.trans ((below_drewN _ _).trans hb5 |>.mono BS))
            clear hb5
            go_wp2
            go_roundw
            case rel => exact ⟨k + 1, by go_num, hlt, hkb2, HP.out, B5.out⟩
            case measure => simp [intOf]; omega
        | false =>
          have HF := box hf
          have HP : Box (m = -1) := box (by rw [← hm.out, HQ.out, HN.out, hf, Bool.false_and]; rfl)
          clear hf hx hy
          go_wp2
          go_region_held3 (fun w' => w'.cell? ⟨g, off + k, none⟩ = some (.string x) ∧ w'.cell? ⟨g', off' + k, none⟩ = some (.string y)) (first | exact ⟨(hb5.cell (cell_lt cA)).trans cA, (hb5.cell (cell_lt cB)).trans cB⟩ | exact ⟨cA, cB⟩) (first | (go_at_call 36; refine (rFold11_is hxz hyz HF).mono ?_; rintro e w5 ⟨rfl, hb5⟩))
          all_goals
            have B5 := box (BL.out.trans ((below_drewN _ _).trans hb5 |>.mono BS))
            clear hb5
            go_wp2
            go_ret
            exact ⟨by rw [HP.out]; rfl, B4.out.trans (B5.out.mono B4.out.size)⟩
      · have hke : k = B.length := by omega
        have hne : ((k : Int) == (B.length : Int)) = true := by rw [hke]; simp
        have HP : Box (m = -1) := box (by rw [← hm.out, HQ.out, pref_short hlt (by omega)]; rfl)
        clear FA FB hke
        go_wp2
        go_region
        all_goals
          go_wp2
          go_ret
          exact ⟨by rw [HP.out]; rfl, B4.out.trans ((BL.out.trans ((below_drewN _ _).mono BL.out.size)).mono B4.out.size)⟩
    · have HP : Box (m = (A.length : Int)) := box (by rw [← hm.out, HQ.out, pref_end (by omega)]; rfl)
      have hai : ¬ (k : Int) < (A.length : Int) := by omega
      clear FA FB
      go_wp2
      go_ret
      exact ⟨by rw [HP.out]; rfl, B4.out.trans (BL.out.mono B4.out.size)⟩
theorem rMatchT_any (r t : ByteArray) (w : World) (hr : r.size ≤ 65000) (ht : t.size ≤ 65000) :
    Calls Tryz.prog 16 #[.string r, .string t] w fun e w' => e = .returned (.int .i64 (matchT r.data.toList t.data.toList)) ∧ Below w.heap.size w w' := by
  cases h1 : rangeT r.data.toList with
  | false =>
    have HV : Box (matchT r.data.toList t.data.toList = -1) := box (match_no (by rw [h1]; rfl))
    have H1 := box h1
    clear h1
    go_enter Tryz.func16, Tryz.ntmps16
    go_wp2_with fail
    refine (rRange_tis hr H1).mono ?_; rintro e w1 ⟨rfl, hb1⟩
    go_wp2
    go_ret
    exact ⟨by rw [HV.out]; rfl, hb1⟩
  | true =>
    have H1 := box h1
    cases h2 : tagL t.data.toList with
    | false =>
      have HV : Box (matchT r.data.toList t.data.toList = -1) := box (match_no (by rw [h1, h2]; rfl))
      have H2 := box h2
      clear h1 h2
      go_enter Tryz.func16, Tryz.ntmps16
      go_wp2_with fail
      refine (rRange_tis hr H1).mono ?_; rintro e w1 ⟨rfl, hb1⟩
      have B1 := box hb1
      clear hb1
      go_wp2_with fail
      refine (rTag_is ht H2).mono ?_; rintro e w2 ⟨rfl, hb2⟩
      have B2 := box (B1.out.trans (hb2.mono B1.out.size))
      clear hb2
      go_wp2
      go_ret
      exact ⟨by rw [HV.out]; rfl, B2.out⟩
    | true =>
      have H2 := box h2
      have hst := star_list (s := r)
      by_cases h3 : r.data.toList = [42]
      · have HV : Box (matchT r.data.toList t.data.toList = 0) := box (by rw [h3]; exact match_star h2)
        rw [decide_eq_true h3] at hst
        clear h1 h2 h3
        go_enter Tryz.func16, Tryz.ntmps16
        go_wp2_with fail
        refine (rRange_tis hr H1).mono ?_; rintro e w1 ⟨rfl, hb1⟩
        have B1 := box hb1
        clear hb1
        go_wp2_with fail
        refine (rTag_is ht H2).mono ?_; rintro e w2 ⟨rfl, hb2⟩
        have B2 := box (B1.out.trans (hb2.mono B1.out.size))
        clear hb2
        go_wp2
        go_ret
        exact ⟨by rw [HV.out]; rfl, B2.out⟩
      · rw [decide_eq_false h3] at hst
        refine (rMatchT_pref r t w hr ht H1 H2 hst _ (box rfl)).mono fun e w' ⟨he, hb⟩ => ⟨?_, hb⟩
        rw [he, match_pref h1 h2 h3]
end
section
open Go.RowKit
theorem rLow12_is {s x : ByteArray} {w : World} (hs : s.size ≤ 4294967296) (h : Box (bs (lowL s.data.toList) = x)) :
    Calls Tryz.prog 35 #[.string s] w fun e w' => e = .returned (.string x) ∧ Below w.heap.size w w' :=
  (rLower_any s w hs).mono fun e w' ⟨h1, h2⟩ => ⟨by rw [h1, ← h.out]; rfl, h2⟩
theorem bs_list (l : List UInt8) : (bs l).toList = l := by rw [toList_data]; rfl
theorem beq_list {a b : List UInt8} {q : Bool} (h : decide (a = b) = q) : (a == b) = q := by
  rw [← h]
  by_cases e : a = b
  · rw [decide_eq_true e, e]; simp
  · rw [decide_eq_false e, beq_eq_false_iff_ne]; exact e
theorem rCan_any (k : Int) (s : ByteArray) (w : World) (hk : InI64 k) (hs : s.size ≤ 65536) :
    Calls Tryz.prog 41 #[.int .i64 k, .string s] w fun e w' => e = .returned (.string (bs (canL k s.data.toList))) ∧ Below w.heap.size w w' := by
  have hs4 : s.size ≤ 4294967296 := by omega
  obtain ⟨l, hl⟩ : ∃ l, lowL s.data.toList = l := ⟨_, rfl⟩
  have HX : Box (bs (lowL s.data.toList) = bs l) := box (by rw [hl])
  by_cases h4 : k = 4
  · subst h4
    by_cases h1 : l = xgzL
    · have HV : Box (canL 4 s.data.toList = gzL) := box (by unfold canL; rw [hl, if_pos ⟨rfl, h1⟩])
      subst h1
      clear hl
      go_enter Tryz.func41, Tryz.ntmps41
      go_wp2_with fail
      refine (rLow12_is hs4 HX).mono ?_; rintro e w1 ⟨rfl, hb1⟩; rw [show bs xgzL = ⟨#[120, 45, 103, 122, 105, 112]⟩ from rfl]
      go_wp2
      go_ret
      exact ⟨by rw [HV.out]; rfl, hb1⟩
    · have e1 : ((bs l).toList == [120, 45, 103, 122, 105, 112]) = false := by rw [bs_list]; exact beq_list (decide_eq_false h1)
      by_cases h2 : l = xcoL
      · have HV : Box (canL 4 s.data.toList = coL) := box (by unfold canL; rw [hl, if_neg (fun q => h1 q.2), if_pos ⟨rfl, h2⟩])
        subst h2
        clear hl e1
        go_enter Tryz.func41, Tryz.ntmps41
        go_wp2_with fail
        refine (rLow12_is hs4 HX).mono ?_; rintro e w1 ⟨rfl, hb1⟩; rw [show bs xcoL = ⟨#[120, 45, 99, 111, 109, 112, 114, 101, 115, 115]⟩ from rfl]
        go_wp2
        go_ret
        exact ⟨by rw [HV.out]; rfl, hb1⟩
      · have e2 : ((bs l).toList == [120, 45, 99, 111, 109, 112, 114, 101, 115, 115]) = false := by rw [bs_list]; exact beq_list (decide_eq_false h2)
        have HV : Box (canL 4 s.data.toList = l) := box (by unfold canL; rw [hl, if_neg (fun q => h1 q.2), if_neg (fun q => h2 q.2)])
        clear hl h1 h2
        go_enter Tryz.func41, Tryz.ntmps41
        go_wp2_with fail
        refine (rLow12_is hs4 HX).mono ?_; rintro e w1 ⟨rfl, hb1⟩
        go_wp2
        go_ret
        exact ⟨by rw [HV.out]; rfl, hb1⟩
  · have e4 : (k == 4) = false := by rw [beq_eq_false_iff_ne]; exact h4
    have HV : Box (canL k s.data.toList = l) := box (by unfold canL; rw [hl, if_neg (fun q => h4 q.1), if_neg (fun q => h4 q.1)])
    clear hl h4
    go_enter Tryz.func41, Tryz.ntmps41
    go_wp2_with fail
    refine (rLow12_is hs4 HX).mono ?_; rintro e w1 ⟨rfl, hb1⟩
    go_wp2
    go_ret
    exact ⟨by rw [HV.out]; rfl, hb1⟩
theorem rCan_is {k : Int} {s x : ByteArray} {w : World} (hk : InI64 k) (hs : s.size ≤ 65536) (h : Box (bs (canL k s.data.toList) = x)) :
    Calls Tryz.prog 41 #[.int .i64 k, .string s] w fun e w' => e = .returned (.string x) ∧ Below w.heap.size w w' :=
  (rCan_any k s w hk hs).mono fun e w' ⟨h1, h2⟩ => ⟨by rw [h1, h.out], h2⟩
theorem star12 {s : ByteArray} : (s.toList == [42]) = decide (s.data.toList = [42]) := by rw [toList_data]; exact beq_list rfl
theorem rMatchC_any (k : Int) (r v : ByteArray) (w : World) (hk : InI64 k) (hr : r.size ≤ 65536) (hv : v.size ≤ 65536) :
    Calls Tryz.prog 18 #[.int .i64 k, .string r, .string v] w fun e w' => e = .returned (.int .i64 (matchC k r.data.toList v.data.toList)) ∧ Below w.heap.size w w' := by
  have hst := star12 (s := r)
  by_cases h : r.data.toList = [42]
  · have HV : Box (matchC k r.data.toList v.data.toList = 0) := box (by rw [h]; exact matchC_star _ _)
    rw [decide_eq_true h] at hst
    clear h
    go_enter Tryz.func18, Tryz.ntmps18
    go_wp2
    go_ret
    exact ⟨by rw [HV.out]; rfl, Below.refl _ _⟩
  · rw [decide_eq_false h] at hst
    obtain ⟨x, hx⟩ : ∃ x, canL k r.data.toList = x := ⟨_, rfl⟩
    obtain ⟨y, hy⟩ : ∃ y, canL k v.data.toList = y := ⟨_, rfl⟩
    have HX : Box (bs (canL k r.data.toList) = bs x) := box (by rw [hx])
    have HY : Box (bs (canL k v.data.toList) = bs y) := box (by rw [hy])
    have HV : Box (matchC k r.data.toList v.data.toList = if x = y then 1 else -1) := box (by rw [matchC_not h, hx, hy])
    clear hx hy h
    by_cases he : x = y
    · subst he
      rw [if_pos rfl] at HV
      have e1 : ((bs x).toList == (bs x).toList) = true := by simp
      go_enter Tryz.func18, Tryz.ntmps18
      go_wp2_with fail
      refine (rCan_is hk hr HX).mono ?_; rintro e w1 ⟨rfl, hb1⟩
      have B1 := box hb1
      clear hb1
      go_wp2_with fail
      refine (rCan_is hk hv HY).mono ?_; rintro e w2 ⟨rfl, hb2⟩
      have B2 := box (B1.out.trans (hb2.mono B1.out.size))
      clear hb2
      go_wp2
      go_ret
      exact ⟨by rw [HV.out]; rfl, B2.out⟩
    · rw [if_neg he] at HV
      have e1 : ((bs x).toList == (bs y).toList) = false := by rw [bs_list, bs_list]; exact beq_list (decide_eq_false he)
      clear he
      go_enter Tryz.func18, Tryz.ntmps18
      go_wp2_with fail
      refine (rCan_is hk hr HX).mono ?_; rintro e w1 ⟨rfl, hb1⟩
      have B1 := box hb1
      clear hb1
      go_wp2_with fail
      refine (rCan_is hk hv HY).mono ?_; rintro e w2 ⟨rfl, hb2⟩
      have B2 := box (B1.out.trans (hb2.mono B1.out.size))
      clear hb2
      go_wp2
      go_ret
      exact ⟨by rw [HV.out]; rfl, B2.out⟩
end
section
open Go.RowKit
def qvT (o : Option Int) : Value := .tuple #[.int .i64 (qvV o).1, .bool (qvV o).2]
theorem list_first {s : ByteArray} (h : 0 < s.size) : s.data.toList = s[0] :: s.data.toList.drop 1 := by
  have := List.drop_eq_getElem_cons (l := s.data.toList) (i := 0) (by simpa using h)
  rw [List.drop_zero] at this
  exact this
theorem list_second {s : ByteArray} (h : 1 < s.size) : s.data.toList = s[0] :: s[1] :: s.data.toList.drop 2 := by
  have h1 := list_first (s := s) (by omega)
  have := List.drop_eq_getElem_cons (l := s.data.toList) (i := 1) (by simpa using h)
  rw [this] at h1
  exact h1
theorem byte8 {c d : UInt8} (h : (c.toNat : Int) = (d.toNat : Int)) : c = d := UInt8.toNat_inj.mp (by omega)
end
section
open Go.RowKit
/-- a preference is returned, or a struct that says nothing -/
def MbrIs (o : Option QP) (e : Ending) : Prop := ∃ x q b, e = .returned (.tuple #[.agg #[.string x, .int .i64 q], .bool b]) ∧ o.isSome = b ∧ ∀ p, o = some p → p = (x, q)
theorem mbr_of {o : Option QP} {x : ByteArray} {q : Int} {b : Bool} (h1 : o.isSome = b) (h2 : ∀ p, o = some p → p = (x, q)) : MbrIs o (.returned (.tuple #[.agg #[.string x, .int .i64 q], .bool b])) := ⟨x, q, b, rfl, h1, h2⟩
theorem mbr_no {o : Option QP} {x : ByteArray} {q : Int} (h : Box (o = none)) : MbrIs o (.returned (.tuple #[.agg #[.string x, .int .i64 q], .bool false])) := mbr_of (by rw [h.out]; rfl) (fun p hp => by rw [h.out] at hp; cases hp)
theorem par_of {s : ByteArray} {x : ByteArray} {K : List F} (h : parA s.data.toList = x ∧ parB s.data.toList = K ∧ parO s.data.toList = true) : parL s.data.toList = some (x.data.toList, K) := by
  obtain ⟨h1, h2, h3⟩ := h
  unfold parA at h1; unfold parB at h2; unfold parO at h3
  cases hp : parL s.data.toList with
  | none => rw [hp] at h3; cases h3
  | some m =>
    obtain ⟨v, L⟩ := m
    rw [hp] at h1 h2
    simp only at h1 h2
    rw [← h1, ← h2]; rfl
theorem par_off {s : ByteArray} (h : parO s.data.toList = false) : parL s.data.toList = none := by
  unfold parO at h
  cases hp : parL s.data.toList with
  | none => rfl
  | some m => rw [hp] at h; cases h
theorem range_len13 {x a b : ByteArray} {M : List F} (h : ofM (rangeL x.data.toList) = (a, b, M)) : a.size ≤ x.size ∧ b.size ≤ x.size := by
  have hz : x.data.toList.length = x.size := by simp
  cases hr : rangeL x.data.toList with
  | none => rw [hr] at h; cases h; exact ⟨Nat.zero_le _, Nat.zero_le _⟩
  | some m =>
    obtain ⟨c, d, N⟩ := m
    rw [hr] at h; cases h
    obtain ⟨_, _, h3, _⟩ := range_facts hr
    exact ⟨by omega, by omega⟩
theorem fs_take {w : World} {a : Option Addr} {K : List F} {n : Nat} (h : Fs w a K) : Fs w a (K.take n) := fun i hi => by
  have hi2 : i < K.length := by rw [List.length_take] at hi; omega
  rw [List.getElem_take]; exact h i hi2
theorem rTok13_is {s : ByteArray} {b : Bool} {w : World} (hs : s.size ≤ maxLen) (h : Box (tokL s.data.toList = b)) :
    Calls Tryz.prog 17 #[.string s] w fun e w' => e = .returned (.bool b) ∧ w = w' :=
  (rToken_any s w hs).mono fun e w' ⟨h1, h2⟩ => ⟨by rw [h1, h.out], h2⟩
theorem qual_at {K : List F} {j : Nat} {u : ByteArray} (h : atQ K = j) (hj : j < K.length) (hu : K[j].2 = u) : qualP K = qvL u.data.toList := by
  subst h
  unfold qualP
  rw [dif_pos hj, hu]
theorem qual_no {K : List F} (h : atQ K = K.length) : qualP K = some 1000 := by
  unfold qualP
  rw [dif_neg (by omega)]
theorem isQ_eq (n u : ByteArray) : (n.toList == [113]) = isQ (n, u) := by
  unfold isQ
  rw [toList_data]
  by_cases h : n = (⟨#[113]⟩ : ByteArray)
  · subst h; rfl
  · rw [decide_eq_false h, beq_eq_false_iff_ne]
    intro e
    apply h
    rw [bs_of n, e]; rfl
end
section
open Go.RowKit
def allB (nm : ByteArray) (L : List F) : List ByteArray := (allL nm L).map bs
def AllRel (vs : List ByteArray) (B : Nat) (w : World) (v i : Value) (wr : World) : Prop :=
  ∃ k : Nat, i = .int .i64 k ∧ k ≤ vs.length ∧ OwnS wr B v (((allF (vs.take k)).take 64).map bs) ∧ Below w.heap.size w wr
end
section
open Go.RowKit
def prefsL (k : Int) (L : List F) : List QP := (allL (nameK k) L).filterMap (memP k)
def prefsO (k : Int) (L : List F) : Bool := decide (nameK k ≠ ⟨#[]⟩) && L.any (nmd (nameK k))
def prefsV (k : Int) (L : List F) : List QP := if prefsO k L = true then prefsL k L else []
theorem all_mem {nm : ByteArray} {L : List F} {m : List UInt8} (h : m ∈ allL nm L) : ∃ x ∈ getL nm L, m.length ≤ x.size := by
  unfold allL at h
  have h := List.mem_of_mem_take h
  unfold allF at h
  obtain ⟨x, hx, hm⟩ := List.mem_flatMap.1 h
  refine ⟨x, hx, ?_⟩
  unfold splitL memL at hm
  have hm := (List.mem_filter.1 (List.mem_of_mem_take hm)).1
  obtain ⟨p, hp, rfl⟩ := List.mem_map.1 hm
  have h1 := cut_small _ _ _ _ p hp
  have h2 := trim_le p
  have hz : x.data.toList.length = x.size := by simp
  simp only [List.length_nil, Nat.zero_add] at h1
  omega
theorem fm_next {k : Int} {A : List (List UInt8)} {j : Nat} (h : j < A.length) : (A.take (j + 1)).filterMap (memP k) = (A.take j).filterMap (memP k) ++ (match memP k A[j] with | some p => [p] | none => []) := by
  rw [List.take_succ_eq_append_getElem h, List.filterMap_append]
  congr 1
  cases hm : memP k A[j] with
  | none => simp [hm]
  | some p => simp [hm]
def PfRel (k : Int) (A : List (List UInt8)) (W : World) (v i : Value) (wr : World) : Prop :=
  ∃ j : Nat, i = .int .i64 j ∧ j ≤ A.length ∧ OwnQ wr W.heap.size v ((A.take j).filterMap (memP k)) ∧ ((A.take j).filterMap (memP k)).length ≤ j ∧ Below W.heap.size W wr
end
section
open Go.RowKit
theorem mName0_any (k : Int) (w : World) (hk : InI64 k) :
    Calls Tryz.prog 45 #[.int .i64 k] w fun e w' => e = .returned (.string (nameK k)) ∧ w = w' := by
  by_cases h1 : k = 1
  · subst h1
    go_enter Tryz.func45, Tryz.ntmps45
    go_wp2
    go_ret
    exact ⟨rfl, rfl⟩
  · by_cases h2 : k = 2
    · subst h2
      go_enter Tryz.func45, Tryz.ntmps45
      go_wp2
      go_ret
      exact ⟨rfl, rfl⟩
    · by_cases h3 : k = 3
      · subst h3
        go_enter Tryz.func45, Tryz.ntmps45
        go_wp2
        go_ret
        exact ⟨rfl, rfl⟩
      · by_cases h4 : k = 4
        · subst h4
          go_enter Tryz.func45, Tryz.ntmps45
          go_wp2
          go_ret
          exact ⟨rfl, rfl⟩
        · have HV := box (name_no h1 h2 h3 h4)
          have e1 : (k == 1) = false := by rw [beq_eq_false_iff_ne]; exact h1
          have e2 : (k == 2) = false := by rw [beq_eq_false_iff_ne]; exact h2
          have e3 : (k == 3) = false := by rw [beq_eq_false_iff_ne]; exact h3
          have e4 : (k == 4) = false := by rw [beq_eq_false_iff_ne]; exact h4
          clear h1 h2 h3 h4
          go_enter Tryz.func45, Tryz.ntmps45
          go_wp2
          go_ret
          exact ⟨by rw [HV.out]; rfl, rfl⟩
theorem mName0_is {k : Int} {x : ByteArray} {w : World} (hk : InI64 k) (h : Box (nameK k = x)) :
    Calls Tryz.prog 45 #[.int .i64 k] w fun e w' => e = .returned (.string x) ∧ w = w' :=
  (mName0_any k w hk).mono fun e w' ⟨h1, h2⟩ => ⟨by rw [h1, h.out], h2⟩
end
section
open Go.RowKit Go.Maps
theorem laidOut10 : laidOutB Tryz.prog = true := by kernel_rfl
theorem rowPrm : (52 : TypeId) < Tryz.prog.types.size := of_decide_eq_true (by kernel_rfl)
theorem widePrm : (match Tryz.prog.underlying 52 with | some (.array _ _) | some (.struct _) => true | _ => false) = true := by rw [Tryz.underlying52]
theorem lawPrm : Keyed Tryz.prog 52 := Keyed.of_law (deep_law_laid laidOut10 (m := 3) (by omega) rowPrm (by kernel_rfl) widePrm)
theorem deepPrm : Tryz.prog.keyType 52 = true := by kernel_rfl
theorem cellsPrm : Tryz.prog.cellsOf 52 = 2 := by kernel_rfl
theorem cellsStr : Tryz.prog.cellsOf 9 = 1 := by kernel_rfl
/-- what a parameter reads as when it is a key -/
def pkey (p : F) : Lit := .string (keyBytes [.string p.1.data.toList, .string p.2.data.toList])
def Sml (p : F) : Prop := p.1.size ≤ maxLen ∧ p.2.size ≤ maxLen
theorem formedPrm {c0 c1 : Value} : (Value.agg #[c0, c1]).formed Tryz.prog 52 = true := by simp [Value.formed, Tryz.underlying52, cellsPrm]
theorem pkey_of {p : F} (h : Sml p) : keyOf Tryz.prog 52 (.agg #[.string p.1, .string p.2]) = some (pkey p) := by
  obtain ⟨m, hm⟩ : ∃ m, Tryz.prog.types.size = m + 1 := Nat.exists_eq_succ_of_ne_zero (Nat.ne_zero_of_lt rowPrm)
  unfold keyOf
  rw [Tryz.underlying52]
  simp only [deepPrm, formedPrm, Bool.and_self, if_true, hm]
  simp [Program.keyLits, Tryz.underlying52, Tryz.underlying9, Value.cells, cellsPrm, cellsStr, h.1, h.2, pkey]
theorem pkey_inj {p q : F} (hp : Sml p) (hq : Sml q) (h : pkey p = pkey q) : p = q := by
  have := lawPrm.inj (pkey_of hp) (h ▸ pkey_of hq)
  simp only [Value.agg.injEq, Array.mk.injEq, List.cons.injEq, Value.string.injEq, and_true] at this
  exact Prod.ext this.1 this.2
theorem pkey_key {p : F} (hp : Sml p) : WideAt.IsKeyLit (pkey p) := lawPrm.key (pkey_of hp)
/-- block b is a set of at most n parameters: those of which S says so -/
def PSet (w : World) (b n : Nat) (S : F → Prop) : Prop :=
  ∃ D : DataW Unit, w.ownsMap Tryz.prog 52 (plainElem Tryz.prog 4) b n D ∧ ∀ kl, Maps.has D kl = true ↔ ∃ p, S p ∧ Sml p ∧ pkey p = kl
section
variable {w w' : World} {b n : Nat} {S : F → Prop}
theorem PSet.made (w : World) : PSet (w.alloc (.map #[] 0)) w.heap.size 0 (fun _ => False) :=
  ⟨_, World.ownsMap_made _ _ _ _, fun kl => by simp [Maps.has]⟩
theorem PSet.below {B : Nat} (h : PSet w b n S) (hb : Below B w w') (hB : b < B) : PSet w' b n S := by
  obtain ⟨D, ⟨es, clock, h1, r⟩, h2⟩ := h
  exact ⟨D, ⟨es, clock, (hb.block b hB).trans h1, r⟩, h2⟩
theorem PSet.lt (h : PSet w b n S) : b < w.heap.size := by obtain ⟨D, h1, h2⟩ := h; exact h1.lt
theorem PSet.mono {m : Nat} (h : PSet w b n S) (hm : n ≤ m) : PSet w b m S := by obtain ⟨D, h1, h2⟩ := h; exact ⟨D, h1.mono hm, h2⟩
theorem PSet.iff {T : F → Prop} (h : PSet w b n S) (hT : ∀ p, S p ↔ T p) : PSet w b n T := by
  obtain ⟨D, h1, h2⟩ := h
  refine ⟨D, h1, fun kl => ?_⟩
  rw [h2]
  constructor
  · rintro ⟨p, h3, h4⟩; exact ⟨p, (hT p).1 h3, h4⟩
  · rintro ⟨p, h3, h4⟩; exact ⟨p, (hT p).2 h3, h4⟩
theorem has_put10 {D : DataW Unit} {p : F} {d : DataW Unit} (hD : IsMap D) (hp : Sml p) (h : ∀ kl, Maps.has D kl = true ↔ ∃ p, S p ∧ Sml p ∧ pkey p = kl) :
    ∀ kl, Maps.has (D.put (pkey p) d) kl = true ↔ ∃ q, (S q ∨ q = p) ∧ Sml q ∧ pkey q = kl := by
  intro kl
  by_cases hk : kl = pkey p
  · subst hk
    exact ⟨fun _ => ⟨p, .inr rfl, hp, rfl⟩, fun _ => has_put_same hD (pkey_key hp) d⟩
  · rw [has_put_other hk, h]
    constructor
    · rintro ⟨q, h1, h2, h3⟩; exact ⟨q, .inl h1, h2, h3⟩
    · rintro ⟨q, h1 | rfl, h2, h3⟩
      · exact ⟨q, h1, h2, h3⟩
      · exact absurd h3.symm hk
theorem has_del10 {D : DataW Unit} {p : F} (hp : Sml p) (h : ∀ kl, Maps.has D kl = true ↔ ∃ p, S p ∧ Sml p ∧ pkey p = kl) :
    ∀ kl, Maps.has (D.del (pkey p)) kl = true ↔ ∃ q, (S q ∧ q ≠ p) ∧ Sml q ∧ pkey q = kl := by
  intro kl
  by_cases hk : kl = pkey p
  · subst hk
    rw [has_del_same]
    constructor
    · intro e; cases e
    · rintro ⟨q, ⟨_, hne⟩, h2, h3⟩; exact absurd (pkey_inj h2 hp h3) hne
  · rw [has_del_other hk, h]
    constructor
    · rintro ⟨q, h1, h2, h3⟩; exact ⟨q, ⟨h1, fun e => hk (by rw [← h3, e])⟩, h2, h3⟩
    · rintro ⟨q, ⟨h1, _⟩, h2, h3⟩; exact ⟨q, h1, h2, h3⟩
theorem size_zero10 {D : DataW Unit} (hD : w.ownsMap Tryz.prog 52 (plainElem Tryz.prog 4) b n D) (h : ∀ kl, Maps.has D kl = true ↔ ∃ p, S p ∧ Sml p ∧ pkey p = kl) : Maps.size D = 0 ↔ ∀ p, Sml p → ¬ S p := by
  obtain ⟨es, clock, hb, F, hs, rfl⟩ := hD
  have hks := Maps.fit_keys F
  generalize hl : (es.toList.map (Go.WideElems.rg Tryz.prog 52 (plainElem (H := Unit) Tryz.prog 4))).foldr DataW.insert [] = l at h
  have hk : ∀ p ∈ l, WideAt.IsKeyLit p.1 := fun p hp => by
    rw [← hl] at hp
    obtain ⟨v, hv⟩ := hks p ((Go.WideShapes.sorted_perm _).mem_iff.1 hp)
    exact lawPrm.key hv
  have hs : Maps.size (DataW.map l) = l.length := rfl
  rw [hs]
  constructor
  · intro h0 p hp hS
    have := (h (pkey p)).2 ⟨p, hS, hp, rfl⟩
    rw [List.length_eq_zero_iff] at h0
    subst h0
    simp [Maps.has] at this
  · intro hn
    cases l with
    | nil => rfl
    | cons x r =>
      exfalso
      have h1 : Maps.has (DataW.map (x :: r)) x.1 = true := by
        rw [Maps.has_eq, List.any_cons, WideAt.sameKey_self (hk x (by simp))]; rfl
      obtain ⟨p, hS, hp, _⟩ := (h x.1).1 h1
      exact hn p hp hS
/-- a store: the call's 'm[p] = true' -/
theorem PSet.put {p : F} {m : Nat} (h : PSet w b n S) (hp : Sml p) (hn : n < maxLen) (hm : n + 1 ≤ m) :
    ∃ w', (Instr.mapUpdate 90 (.map (some b)) (.agg #[.string p.1, .string p.2]) (.bool true)).run Tryz.prog w = .ok () w' ∧ PSet w' b m (fun q => S q ∨ q = p) ∧ w.grownBy w' (some b) := by
  obtain ⟨D, h1, h2⟩ := h
  obtain ⟨w', r1, r2, r3⟩ := h1.update lawPrm Tryz.underlying90 hn (pkey_of hp) (plainElem_bool Tryz.underlying4 true)
  exact ⟨w', r1, ⟨_, r2.mono hm, has_put10 h1.isMap hp h2⟩, r3⟩
end
theorem wpList_put10 {w : World} {ops : Array Oper} {rest : List Oper} {o : Oper} {a : Act} {Q : Exit → Act → World → Prop} {b n m : Nat} {S : F → Prop} {p : F}
    (hg : o.guard = none) (mm x v : Operand) (hop : o.op = Op.mapUpdate 90 mm x v) (h : PSet w b n S) (hp : Sml p) (hn : n < maxLen) (hm : n + 1 ≤ m)
    (em : a.eval mm = .map (some b)) (ex : a.eval x = .agg #[.string p.1, .string p.2]) (ev : a.eval v = .bool true)
    (hK : ∀ w', PSet w' b m (fun q => S q ∨ q = p) → w.grownBy w' (some b) → wpList Tryz.prog ops Q rest (a.put o.dst undef) w') : wpList Tryz.prog ops Q (o :: rest) a w := by
  obtain ⟨D, h1, h2⟩ := h
  refine wpList_mapUpdate_own w hg mm x v 90 hop 52 4 lawPrm Tryz.underlying90 _ b n D em h1 hn _ _ _ ex ev (pkey_of hp) _ [] (plainElem_bool Tryz.underlying4 true) ?_
  intro w' r2 r3
  exact hK w' ⟨_, r2.mono hm, has_put10 h1.isMap hp h2⟩ r3
theorem wpList_del10 {w : World} {ops : Array Oper} {rest : List Oper} {o : Oper} {a : Act} {Q : Exit → Act → World → Prop} {b n : Nat} {S : F → Prop} {p : F}
    (hg : o.guard = none) (mm x : Operand) (hop : o.op = Op.call { callee := Callee.builtin Builtin.delete, args := #[mm, x], argTypes := #[90, 52] }) (h : PSet w b n S) (hp : Sml p)
    (em : a.eval mm = .map (some b)) (ex : a.eval x = .agg #[.string p.1, .string p.2])
    (hK : ∀ w', PSet w' b n (fun q => S q ∧ q ≠ p) → w.grownBy w' (some b) → wpList Tryz.prog ops Q rest (a.put o.dst (.tuple #[])) w') : wpList Tryz.prog ops Q (o :: rest) a w := by
  obtain ⟨D, h1, h2⟩ := h
  refine wpList_delete_own w hg mm x 90 52 hop 4 lawPrm Tryz.underlying90 _ b n D em h1 _ _ ex (pkey_of hp) ?_
  intro w' r2 r3
  exact hK w' ⟨_, r2, has_del10 hp h2⟩ r3.grown
theorem wpList_len10 {w : World} {ops : Array Oper} {rest : List Oper} {o : Oper} {a : Act} {Q : Exit → Act → World → Prop} {b n : Nat} {S : F → Prop}
    (hg : o.guard = none) (mm : Operand) (hop : o.op = Op.call { callee := Callee.builtin Builtin.len, args := #[mm], argTypes := #[90] }) (h : PSet w b n S)
    (em : a.eval mm = .map (some b)) (hK : ∀ k : Nat, (k = 0 ↔ ∀ p, Sml p → ¬ S p) → wpList Tryz.prog ops Q rest (a.put o.dst (.int .i64 k)) w) : wpList Tryz.prog ops Q (o :: rest) a w := by
  obtain ⟨D, h1, h2⟩ := h
  refine wpList_len_own w hg mm 90 hop 52 4 Tryz.underlying90 _ b n D em h1 ?_
  exact hK _ (size_zero10 h1 h2)
theorem makeHint10 (k : Nat) (w : World) : (Instr.makeMap 90 (some (.int .i64 (k : Int)))).run Tryz.prog w = .ok (.map (some w.heap.size)) (w.alloc (.map #[] 0)) := by
  simp [Instr.makeMap, run_underlying Tryz.underlying90, asInt, asIntOf, Result.andThen]
end
section
/-- outside quoted strings (0), within one (1), behind a backslash within one (2) -/
def stepQ (s : Nat) (c : UInt8) : Nat := if s = 0 then (if c = 34 then 1 else 0) else if s = 1 then (if c = 34 then 0 else if c = 92 then 2 else 1) else 1
def pcF (sep : UInt8) : Nat → List UInt8 → List UInt8 → List UInt8 × List UInt8 × Bool
  | _, [], acc => (acc, [], false)
  | s, c :: r, acc => if s = 0 ∧ c = sep then (acc, r, true) else pcF sep (stepQ s c) r (acc ++ [c])
def pcL (sep : UInt8) (l : List UInt8) : List UInt8 × List UInt8 × Bool := pcF sep 0 l []
def moreL (sep : UInt8) (m : Bool) (l : List UInt8) : List (List UInt8) := if m then cutL sep l else []
theorem pcF_cons (sep : UInt8) (s : Nat) (c : UInt8) (r acc : List UInt8) : pcF sep s (c :: r) acc = if s = 0 ∧ c = sep then (acc, r, true) else pcF sep (stepQ s c) r (acc ++ [c]) := rfl
def qS (q : Bool) : Nat := if q = true then 1 else 0
theorem cut_pc {sep : UInt8} (hs : sep ≠ 34) : ∀ (f : Nat) (q : Bool) (l acc : List UInt8), l.length ≤ f → cutF sep f q l acc = (pcF sep (qS q) l acc).1 :: moreL sep (pcF sep (qS q) l acc).2.2 (pcF sep (qS q) l acc).2.1
  | f, q, [], acc, _ => by rw [cutF_nil]; rfl
  | 0, q, c :: r, acc, h => by simp at h
  | f + 1, q, c :: r, acc, h => by
    simp only [List.length_cons] at h
    rw [cutF_cons, pcF_cons]
    by_cases h1 : q = true ∧ c = 92
    · obtain ⟨rfl, rfl⟩ := h1
      rw [if_pos ⟨rfl, rfl⟩, if_neg (fun h => absurd h.1 (by decide))]
      match r, h with
      | [], h => rfl
      | d :: r2, h =>
        simp only [List.length_cons] at h
        simp only
        rw [cut_pc hs f true r2 _ (by omega), pcF_cons, if_neg (fun h => absurd h.1 (by decide)), List.append_assoc]
        rfl
    · rw [if_neg h1]
      by_cases h2 : c = 34
      · subst h2
        rw [if_pos rfl, if_neg (fun h => hs h.2.symm), cut_pc hs f (!q) r _ (by omega)]
        cases q <;> rfl
      · rw [if_neg h2]
        by_cases h3 : c = sep ∧ q = false
        · obtain ⟨rfl, rfl⟩ := h3
          rw [if_pos ⟨rfl, rfl⟩, if_pos ⟨rfl, rfl⟩]
          show acc :: cutF c f false r [] = acc :: cutF c r.length false r []
          rw [cutF_fuel f r.length false r [] (by omega) (Nat.le_refl _)]
        · rw [if_neg h3]
          have e : stepQ (qS q) c = qS q := by
            unfold stepQ
            cases q
            · show (if (0 : Nat) = 0 then _ else _) = _
              rw [if_pos rfl, if_neg h2]; rfl
            · show (if (1 : Nat) = 0 then _ else if (1 : Nat) = 1 then _ else _) = _
              rw [if_neg (by decide), if_pos rfl, if_neg h2, if_neg (fun h => h1 ⟨rfl, h⟩)]; rfl
          have n : ¬ (qS q = 0 ∧ c = sep) := by
            rintro ⟨h5, h6⟩
            cases q
            · exact h3 ⟨h6, rfl⟩
            · exact absurd h5 (by decide)
          rw [if_neg n, e, cut_pc hs f q r _ (by omega)]
theorem cutL_pc {sep : UInt8} (hs : sep ≠ 34) (l : List UInt8) : cutL sep l = (pcL sep l).1 :: moreL sep (pcL sep l).2.2 (pcL sep l).2.1 := cut_pc hs l.length false l [] (Nat.le_refl _)
/-- the steps, by places -/
def pcAt (sep : UInt8) (s : Nat) (l : List UInt8) (k : Nat) : List UInt8 × List UInt8 × Bool := pcF sep s (l.drop k) (l.take k)
theorem pc_start (sep : UInt8) (l : List UInt8) : pcL sep l = pcAt sep 0 l 0 := by unfold pcL pcAt; simp
theorem pc_end {sep : UInt8} {s : Nat} {l : List UInt8} {k : Nat} (h : l.length ≤ k) : pcAt sep s l k = (l, [], false) := by
  unfold pcAt; rw [List.drop_of_length_le h, List.take_of_length_le h]; rfl
theorem pc_sep {sep : UInt8} {l : List UInt8} {k : Nat} (hk : k < l.length) (h : l[k] = sep) : pcAt sep 0 l k = (l.take k, l.drop (k + 1), true) := by
  unfold pcAt; rw [List.drop_eq_getElem_cons hk, pcF_cons, if_pos ⟨rfl, h⟩]
theorem pc_step {sep : UInt8} {s : Nat} {l : List UInt8} {k : Nat} (hk : k < l.length) (h : ¬ (s = 0 ∧ l[k] = sep)) : pcAt sep s l k = pcAt sep (stepQ s l[k]) l (k + 1) := by
  unfold pcAt
  rw [List.drop_eq_getElem_cons hk, pcF_cons, if_neg h, List.take_add_one, List.getElem?_eq_getElem hk]; rfl
theorem stepQ_le (s : Nat) (c : UInt8) : stepQ s c ≤ 2 := by unfold stepQ; repeat' split <;> try omega
/-- sizes -/
theorem pcF_size (sep : UInt8) : ∀ (l : List UInt8) (s : Nat) (acc : List UInt8), (pcF sep s l acc).1.length + (pcF sep s l acc).2.1.length ≤ acc.length + l.length ∧ ((pcF sep s l acc).2.2 = true → (pcF sep s l acc).2.1.length < l.length)
  | [], s, acc => ⟨by simp [pcF], fun h => by simp [pcF] at h⟩
  | c :: r, s, acc => by
    rw [pcF_cons]
    split
    · refine ⟨by simp only [List.length_cons]; omega, fun _ => by simp⟩
    · obtain ⟨h1, h2⟩ := pcF_size sep r (stepQ s c) (acc ++ [c])
      simp only [List.length_append, List.length_cons, List.length_nil] at h1 ⊢
      exact ⟨by omega, fun h => by have := h2 h; omega⟩
/-- the members of a value behind others, as long as there is room -/
def addL (A : List (List UInt8)) (ps : List (List UInt8)) : List (List UInt8) := (A ++ memL ps).take 64
theorem addL_nil {A : List (List UInt8)} (h : A.length ≤ 64) : addL A [] = A := by unfold addL memL; simp [List.take_of_length_le h]
theorem addL_full {A ps : List (List UInt8)} (h : A.length = 64) : addL A ps = A := by
  unfold addL; rw [List.take_append_of_le_length (by omega), List.take_of_length_le (by omega)]
theorem memL_cons (p : List UInt8) (ps : List (List UInt8)) : memL (p :: ps) = (if trimL p = [] then [] else [trimL p]) ++ memL ps := by
  rw [show p :: ps = [p] ++ ps from rfl, memL_append]
  congr 1
  split
  · rename_i e; unfold memL; simp [e]
  · rename_i e; exact memL_one e
theorem addL_blank {A ps : List (List UInt8)} {p : List UInt8} (h : trimL p = []) : addL A (p :: ps) = addL A ps := by unfold addL; rw [memL_cons, if_pos h, List.nil_append]
theorem addL_more {A ps : List (List UInt8)} {p : List UInt8} (h : trimL p ≠ []) : addL A (p :: ps) = addL (A ++ [trimL p]) ps := by unfold addL; rw [memL_cons, if_neg h, List.append_assoc]
theorem addL_all {vs : List ByteArray} {k : Nat} (h : k < vs.length) : (allF (vs.take (k + 1))).take 64 = addL ((allF (vs.take k)).take 64) (cutL 44 vs[k].data.toList) := by
  rw [allF_more h]
  unfold addL splitL
  generalize (allF (vs.take k)).take 64 = X
  rw [List.take_append, List.take_append, List.take_take]
  congr 2
  omega
end
section
open Go.RowKit
theorem after_any (st : Nat) (c : UInt8) (w : World) (h : st ≤ 2) :
    Calls Tryz.prog 97 #[.int .i64 (st : Int), .int .u8 (c.toNat : Int)] w fun e w' => e = .returned (.int .i64 ((stepQ st c : Nat) : Int)) ∧ w = w' := by
  obtain ⟨v, hv⟩ : ∃ v, stepQ st c = v := ⟨_, rfl⟩
  rw [hv]
  rcases h34 : ((c.toNat : Int) == 34) with _ | _
  · have n34 : c ≠ 34 := byte_no (d := 34) h34
    rcases h92 : ((c.toNat : Int) == 92) with _ | _
    · have n92 : c ≠ 92 := byte_no (d := 92) h92
      have hs : st = 0 ∧ v = 0 ∨ st = 1 ∧ v = 1 ∨ st = 2 ∧ v = 1 := by
        unfold stepQ at hv
        rw [if_neg n34, if_neg n34, if_neg n92] at hv
        split at hv
        · omega
        · split at hv <;> omega
      clear n34 n92 hv h
      rcases hs with ⟨rfl, rfl⟩ | ⟨rfl, rfl⟩ | ⟨rfl, rfl⟩
      all_goals
        go_enter Tryz.func97, Tryz.ntmps97
        go_wp2
        go_ret
        exact ⟨rfl, rfl⟩
    · have e92 : c = 92 := byte_is (d := 92) h92
      have hs : st = 0 ∧ v = 0 ∨ st = 1 ∧ v = 2 ∨ st = 2 ∧ v = 1 := by
        unfold stepQ at hv
        rw [if_neg n34, if_neg n34, if_pos e92] at hv
        split at hv
        · omega
        · split at hv <;> omega
      clear n34 e92 hv h
      rcases hs with ⟨rfl, rfl⟩ | ⟨rfl, rfl⟩ | ⟨rfl, rfl⟩
      all_goals
        go_enter Tryz.func97, Tryz.ntmps97
        go_wp2
        go_ret
        exact ⟨rfl, rfl⟩
  · have e34 : c = 34 := byte_is (d := 34) h34
    have hs : st = 0 ∧ v = 1 ∨ st = 1 ∧ v = 0 ∨ st = 2 ∧ v = 1 := by
      unfold stepQ at hv
      rw [if_pos e34, if_pos e34] at hv
      split at hv
      · omega
      · split at hv <;> omega
    clear e34 hv h
    rcases hs with ⟨rfl, rfl⟩ | ⟨rfl, rfl⟩ | ⟨rfl, rfl⟩
    all_goals
      go_enter Tryz.func97, Tryz.ntmps97
      go_wp2
      go_ret
      exact ⟨rfl, rfl⟩
def pcV (sep : UInt8) (l : List UInt8) : Value := .tuple #[.string (bs (pcL sep l).1), .string (bs (pcL sep l).2.1), .bool (pcL sep l).2.2]
set_option maxHeartbeats 1000000 in
theorem pieceCut_any (s : ByteArray) (sep : UInt8) (w : World) (hs : s.size ≤ 65000) :
    Calls Tryz.prog 77 #[.string s, .int .u8 (sep.toNat : Int)] w fun e w' => e = .returned (pcV sep s.data.toList) ∧ Below w.heap.size w w' := by
  have hz : s.data.toList.length = s.size := by simp
  go_enter Tryz.func77, Tryz.ntmps77
  go_wp2
  go_loop [7, 11] (fun p i => ∃ k st : Nat, k ≤ s.size ∧ st ≤ 2 ∧ p = .int .i64 (st : Int) ∧ i = .int .i64 k ∧ Box (pcL sep s.data.toList = pcAt sep st s.data.toList k)) (fun _ i => s.size - (intOf i).toNat)
  case atStart => exact ⟨0, 0, Nat.zero_le _, by omega, rfl, rfl, box (pc_start _ _)⟩
  case round =>
    obtain ⟨k, st, hk, hst, rfl, rfl, HC⟩ := hrel
    by_cases hlt : k < s.size
    · have hlt' : k < s.data.toList.length := by rw [hz]; exact hlt
      have hbk : s.data.toList[k] = s[k] := rfl
      rcases h0 : ((st : Int) == 0) with _ | _
      · have n0 : st ≠ 0 := by intro h; subst h; simp at h0
        have HX := box (HC.out.trans (pc_step hlt' (fun h => n0 h.1)))
        have hle := stepQ_le st s[k]
        rw [hbk] at HX
        clear hbk n0
        go_wp2_with fail
        refine (after_any st s[k] _ hst).mono ?_; rintro e w1 ⟨rfl, rfl⟩
        go_wp2
        go_round
        case rel => exact ⟨k + 1, stepQ st s[k], by omega, hle, rfl, by go_num, HX⟩
        case measure => simp [intOf]; omega
      · have e0 : st = 0 := by simpa using h0
        subst e0
        rcases h44 : ((s[k].toNat : Int) == (sep.toNat : Int)) with _ | _
        · have n44 : s[k] ≠ sep := byte_no h44
          have HX := box (HC.out.trans (pc_step hlt' (fun h => n44 h.2)))
          have hle := stepQ_le 0 s[k]
          rw [hbk] at HX
          clear hbk n44
          go_wp2_with fail
          refine (after_any 0 s[k] _ hst).mono ?_; rintro e w1 ⟨rfl, rfl⟩
          go_wp2
          go_round
          case rel => exact ⟨k + 1, stepQ 0 s[k], by omega, hle, rfl, by go_num, HX⟩
          case measure => simp [intOf]; omega
        · have HX := box (HC.out.trans (pc_sep hlt' (byte_is h44)))
          clear hbk
          go_wp2
          go_quiet (fail)
          go_wp2
          go_ret3
          refine ⟨?_, below_drewN _ _⟩
          unfold pcV
          rw [HX.out]
          show Ending.returned (.tuple #[.string (s.extract 0 k), .string (s.extract (k + 1) s.size), .bool true]) = _
          rw [ext_bs, ext_bs, List.drop_zero, List.take_of_length_le (i := s.size) (by simp)]
    · have HX := box (HC.out.trans (pc_end (l := s.data.toList) (by rw [hz]; omega)))
      go_wp2
      go_ret3
      refine ⟨?_, Below.refl _ _⟩
      unfold pcV
      rw [HX.out]
      rfl
end
section
open Go.RowKit
theorem aTrim_is {s x : ByteArray} {w : World} (hs : s.size ≤ maxLen) (h : Box (bs (trimL s.data.toList) = x)) :
    Calls Tryz.prog 78 #[.string s] w fun e w' => e = .returned (.string x) ∧ w = w' :=
  (Trim_any s w hs).mono fun e w' ⟨h1, h2⟩ => ⟨by rw [h1, ← h.out]; rfl, by first | exact h2 | exact h2.symm⟩
def AppRel (T : List (List UInt8)) (B n : Nat) (w : World) (v r m : Value) (wr : World) : Prop :=
  ∃ (M : List (List UInt8)) (t : ByteArray) (b : Bool), r = .string t ∧ m = .bool b ∧ t.size ≤ n ∧ M.length ≤ 64 ∧ T = addL M (moreL 44 b t.data.toList) ∧ OwnS wr B v (M.map bs) ∧ Below B w wr
def msr (m r : Value) : Nat := match m, r with | .bool true, .string t => t.size + 1 | _, _ => 0
set_option maxHeartbeats 4000000 in
theorem appMem_any (B : Nat) (v : Value) (A : List (List UInt8)) (s : ByteArray) (w : World) (hs : s.size ≤ 65000) (hO : Box (OwnS w B v (A.map bs))) (hB : B ≤ w.heap.size) (hA : A.length ≤ 64) :
    Calls Tryz.prog 74 #[v, .string s] w fun e w' => ∃ v', e = .returned v' ∧ OwnS w' B v' ((addL A (cutL 44 s.data.toList)).map bs) ∧ Below B w w' := by
  obtain ⟨T, hT⟩ : ∃ T, addL A (cutL 44 s.data.toList) = T := ⟨_, rfl⟩
  have HT := box hT
  rw [hT]
  clear hT
  obtain ⟨av, cv, rfl, _, _⟩ := hO.out.ss
  rw [List.length_map] at hO ⊢
  go_enter Tryz.func74, Tryz.ntmps74
  go_wp2
  go_loopw [0, 5, 6] (fun v r m wr => AppRel T B s.size w v r m wr) (fun _ r m _ => msr m r)
  case atStart => exact ⟨A, s, true, rfl, rfl, Nat.le_refl _, hA, HT.out.symm, hO.out, Below.refl _ _⟩
  case round =>
    obtain ⟨M, t, b, rfl, rfl, hts, hM, hTM, hOM, hbel⟩ := hrel
    have O0 := box hOM
    have BL := box hbel
    have HM := box hTM
    have hBw := Nat.le_trans hB hbel.size
    obtain ⟨av, cv, rfl, _, _⟩ := hOM.ss
    rw [List.length_map] at O0 ⊢
    clear hOM hbel hTM
    rcases b with _ | _
    · have HF : Box (T = M) := box (by rw [HM.out]; exact addL_nil hM)
      go_wp2
      go_ret
      exact ⟨_, rfl, by rw [HF.out]; exact O0.out, BL.out⟩
    · by_cases hm : M.length = 64
      · have hmi : ¬ (M.length : Int) < 64 := by omega
        have HF : Box (T = M) := box (by rw [HM.out]; exact addL_full hm)
        clear hm
        go_wp2
        go_ret
        exact ⟨_, rfl, by rw [HF.out]; exact O0.out, BL.out⟩
      · have hmi : (M.length : Int) < 64 := by omega
        have ht6 : t.size ≤ 65000 := by omega
        obtain ⟨p, r, m, hp⟩ : ∃ p r m, pcL 44 t.data.toList = (p, r, m) := ⟨_, _, _, rfl⟩
        have HV : Box (pcV 44 t.data.toList = .tuple #[.string (bs p), .string (bs r), .bool m]) := box (by unfold pcV; rw [hp])
        have hcut : T = addL M (p :: moreL 44 m r) := by
          have := cutL_pc (sep := 44) (by decide) t.data.toList
          rw [hp] at this
          rw [HM.out]
          show addL M (cutL 44 t.data.toList) = _
          rw [this]
        have hsz := pcF_size 44 t.data.toList 0 []
        rw [show pcF 44 0 t.data.toList [] = (p, r, m) from hp] at hsz
        simp only [List.length_nil, Nat.zero_add] at hsz
        rw [show t.data.toList.length = t.size from by simp] at hsz
        have hrz : (bs r).size ≤ s.size := by rw [bs_size]; omega
        have hms : Box (msr (.bool m) (.string (bs r)) < t.size + 1) := box (by
          cases m
          · exact Nat.zero_lt_succ _
          · show (bs r).size + 1 < t.size + 1
            rw [bs_size]; have := hsz.2 rfl; omega)
        have hpz : (bs p).size ≤ maxLen := by rw [bs_size]; unfold maxLen; omega
        have HCut := box hcut
        clear hp hcut hsz HM
        by_cases htr : trimL p = []
        · have HTr : Box (bs (trimL (bs p).data.toList) = ⟨#[]⟩) := box (by rw [bs_toList, htr]; rfl)
          have HN : Box (T = addL M (moreL 44 m (bs r).data.toList)) := box (by rw [HCut.out, addL_blank htr, bs_toList])
          clear HCut
          go_wp2_with fail
          refine (pieceCut_any t 44 _ ht6).mono ?_; rintro e w1 ⟨rfl, hb1⟩
          rw [HV.out]
          have O1 := box (own_below O0.out hb1)
          have B1 := box (BL.out.trans (hb1.mono hBw))
          clear hb1
          go_wp2_with fail
          refine (aTrim_is hpz HTr).mono ?_; rintro e w2 ⟨rfl, rfl⟩
          go_wp2
          go_roundw
          case rel => exact ⟨M, bs r, m, rfl, rfl, hrz, hM, HN.out, O1.out, B1.out⟩
          case measure => exact hms.out
        · obtain ⟨x, hx⟩ : ∃ x, bs (trimL p) = x := ⟨_, rfl⟩
          have HTr : Box (bs (trimL (bs p).data.toList) = x) := box (by rw [bs_toList, hx])
          have hxe : x.toList.isEmpty = false := by
            rw [← hx, toList_bs]
            cases h : trimL p with
            | nil => exact absurd h htr
            | cons c r => rfl
          have HN : Box (T = addL (M ++ [trimL p]) (moreL 44 m (bs r).data.toList)) := box (by rw [HCut.out, addL_more htr, bs_toList])
          have HX : Box ((M ++ [trimL p]).map bs = M.map bs ++ [x]) := box (by rw [List.map_append, List.map_cons, List.map_nil, hx])
          have hm6 : Box ((M.map bs).length ≤ 65536) := box (by rw [List.length_map]; omega)
          have hml : Box ((M ++ [trimL p]).length ≤ 64) := box (by rw [List.length_append]; simp; omega)
          clear HCut hx
          go_wp2_with fail
          refine (pieceCut_any t 44 _ ht6).mono ?_; rintro e w1 ⟨rfl, hb1⟩
          rw [HV.out]
          have O1 := box (own_below O0.out hb1)
          have B1 := box (BL.out.trans (hb1.mono hBw))
          have hBw1 := Nat.le_trans hBw hb1.size
          clear hb1
          go_wp2_with fail
          refine (aTrim_is hpz HTr).mono ?_; rintro e w2 ⟨rfl, rfl⟩
          go_wp2_with (at_builtin; refine wpList_append_str _ rfl (.tmp 26) (.tmp 28) rfl B _ (M.map bs) rfl ?a1 _ _ rfl x ?b1 ?c1 ?d1 ?_)
          case a1 => exact own_below O1.out (below_new _ _)
          case b1 => go_simp
          case c1 => exact hm6.out
          case d1 => simp; omega
          intro v3 w3 hO3 hb3
          have O3 := box hO3
          have B3 := box ((B1.out.alloc hBw1 _).trans hb3)
          clear hO3 hb3
          go_wp2
          go_roundw
          case rel => exact ⟨M ++ [trimL p], bs r, m, rfl, rfl, hrz, hml.out, HN.out, by rw [HX.out]; exact O3.out, B3.out⟩
          case measure => exact hms.out
set_option maxHeartbeats 4000000 in
theorem mAll_any (a : Option Addr) (cap : Nat) (L : List F) (nm : ByteArray) (w : World) (S : Box (Sm L)) (hv : Box (∀ x ∈ getL nm L, x.size ≤ 65000)) (M : Box (nm.size ≤ 65536)) (hF : Box (Fs w a L)) :
    Calls Tryz.prog 47 #[.slice a L.length cap, .string nm] w fun e w' => ∃ v, e = .returned v ∧ OwnS w' w.heap.size v (allB nm L) ∧ Below w.heap.size w w' := by
  obtain ⟨vs, hvs⟩ : ∃ vs, getL nm L = vs := ⟨_, rfl⟩
  have HVS := box hvs
  have HAL : Box (allB nm L = ((allF vs).take 64).map bs) := box (by unfold allB allL; rw [hvs])
  have hvl : vs.length ≤ 65536 := by
    have := get_le (nm := nm) (L := L) (k := L.length)
    rw [List.take_length, hvs] at this
    have := S.out.1; omega
  rw [hvs] at hv
  clear hvs
  have hl := S.out.1
  go_enter Tryz.func47, Tryz.ntmps47
  go_wp2_with fail
  refine (Get_any a cap L nm _ hl S M hF).mono ?_; rintro e w1 ⟨v1, rfl, hO1, hb1⟩
  rw [HVS.out] at hO1
  obtain ⟨a1, cap1, rfl, hS1, hc1⟩ := hO1.ss
  have S1 := box hS1
  have B1 := box hb1
  have hB1 := hb1.size
  clear hO1 hS1 hb1
  go_wp2
  go_loopw [5, 12] (fun v i wr => AllRel vs w1.heap.size w1 v i wr) (fun _ i _ => vs.length - (intOf i).toNat)
  case atStart => exact ⟨0, rfl, Nat.zero_le _, OwnS.nil _ _, Below.refl _ _⟩
  case round =>
    obtain ⟨k, rfl, hk, hO, hbel⟩ := hrel
    have O0 := box hO
    have BL := box hbel
    have hBw := hbel.size
    clear hO hbel
    by_cases hlt : k < vs.length
    · obtain ⟨q, off, rfl, c0⟩ := (S1.out.below BL.out) k hlt
      have hxz := hv.out vs[k] (List.getElem_mem hlt)
      have HN := box (addL_all hlt)
      have hA64 : ((allF (vs.take k)).take 64).length ≤ 64 := by rw [List.length_take]; omega
      go_wp2_with fail
      refine (appMem_any w1.heap.size _ _ vs[k] _ hxz O0 hBw hA64).mono ?_; rintro e w2 ⟨v2, rfl, hO2, hb2⟩
      have O2 := box hO2
      have B2 := box (BL.out.trans hb2)
      clear hO2 hb2 c0
      go_wp2
      go_roundw
      case rel => exact ⟨k + 1, by go_num, by omega, by rw [HN.out]; exact O2.out, B2.out⟩
      case measure => simp [intOf]; omega
    · have HF : Box ((allF (vs.take k)).take 64 = (allF vs).take 64) := box (by rw [List.take_of_length_le (l := vs) (by omega)])
      rw [HF.out] at O0
      go_wp2
      go_ret
      exact ⟨_, rfl, by rw [HAL.out]; exact Go.Joins.ownsRow_le O0.out hB1, B1.out.trans (BL.out.mono hB1)⟩
end
end Go.Proofs.YtnpllgjkbpnimaaGreatDoor.Asc
