/- Merged texts: LanML Only LanMem LanRef5 LanMF LisKeep LanLaws LanLaws2 LstOpen LisOpen LanLaws3. -/
import Derived.Test.YtcjngcafaenhbaaM02
import Derived.Test.YtcjngcafaenhbaaM03
import Derived.Test.YtcjngcafaenhbaaM04
import Derived.Test.YtcjngcafaenhbaaM05
import Derived.Carry
import Derived.Deep.SlicePairs
import Derived.Deep.Slices
import Derived.ProofKit
set_option linter.unusedVariables false
set_option linter.unusedSimpArgs false
set_option maxRecDepth 100000
namespace Go.Proofs.Ytcjngcafaenhbaa.Asc
section
open Go.RowKit
theorem sLastB_any (s : ByteArray) (d : UInt8) (w : World) (hs : s.size ≤ 65000) :
    Calls Try.prog 47 #[.string s, .int .u8 d.toNat] w fun e w' => e = .returned (.int .i64 (lastF d s.data.toList s.size)) ∧ w = w' := by
  have hz : s.data.toList.length = s.size := by simp
  go_enter Try.func47, Try.ntmps47
  go_wp2
  go_loop [5] (fun i => ∃ k : Nat, k ≤ s.size ∧ i = .int .i64 ((k : Int) - 1) ∧ lastF d s.data.toList s.size = lastF d s.data.toList k) (fun i => (intOf i + 1).toNat)
  case atStart => exact ⟨s.size, Nat.le_refl _, rfl, rfl⟩
  case round =>
    obtain ⟨k, hk, rfl, hr⟩ := hrel
    have HR := box hr
    clear hr
    rcases k with _ | k
    · have h0 : (((0 : Nat) : Int) - 1) = -1 := by omega
      rw [h0]
      clear h0
      go_wp2
      go_ret
      exact ⟨ret_int (by rw [HR.out]; rfl), rfl⟩
    · have h0 : (((k + 1 : Nat) : Int) - 1) = (k : Int) := by omega
      rw [h0]
      clear h0
      have hk2 : k < s.size := by omega
      have hki : (k : Int) < (s.size : Int) := by omega
      have hgd : s.data.toList.getD k 0 = s[k] := by rw [getD_get _ _ (by omega)]; rfl
      obtain ⟨c, hcc⟩ : ∃ c, s[k] = c := ⟨_, rfl⟩
      rw [hcc] at hgd
      have CC := box hgd
      clear hgd
      rcases hq : ((c.toNat : Int) == (d.toNat : Int)) with _ | _
      · have hne : Box (lastF d s.data.toList (k + 1) = lastF d s.data.toList k) := box (by
          rw [lastF, CC.out, if_neg]
          intro e; rw [e] at hq; simp at hq)
        go_wp2
        go_round
        case rel => exact ⟨k, by omega, rfl, by rw [HR.out, hne.out]⟩
        case measure => simp [intOf]
      · have heq : Box (lastF d s.data.toList (k + 1) = (k : Int)) := box (by
          rw [lastF, CC.out, if_pos]
          have : c.toNat = d.toNat := by have := eqb_t hq; omega
          exact UInt8.toNat_inj.mp this)
        go_wp2
        go_ret
        exact ⟨ret_int (by rw [HR.out, heq.out]), rfl⟩
theorem sLastIB_any (s : ByteArray) (w : World) (hs : s.size ≤ 65000) :
    Calls Try.prog 42 #[.string s, .int .u8 45] w fun e w' => e = .returned (.int .i64 (lastF 45 s.data.toList s.size)) ∧ w = w' := by
  go_enter Try.func42, Try.ntmps42
  go_wp2_with fail
  refine (sLastB_any s 45 _ hs).mono ?_; rintro e w1 ⟨rfl, rfl⟩
  go_wp2
  go_ret
  exact ⟨rfl, rfl⟩
/-- what stands before the last piece, and that piece -/
def cutH (l : List UInt8) : List UInt8 × List UInt8 := if lastF 45 l l.length < 0 then ([], l) else (l.take (lastF 45 l l.length).toNat, l.drop ((lastF 45 l l.length).toNat + 1))
theorem cutH_no {l : List UInt8} (h : (45 : UInt8) ∉ l) : cutH l = ([], l) := by
  unfold cutH
  rw [last_none (Nat.le_refl _) (by rw [List.take_length]; exact h), if_pos (by omega)]
theorem cutH_at {a b : List UInt8} (h : (45 : UInt8) ∉ b) : cutH (a ++ 45 :: b) = (a, b) := by
  have e := last_app (d := 45) (a := a) h b.length (Nat.le_refl _)
  unfold cutH
  rw [show (a ++ 45 :: b).length = a.length + 1 + b.length from by simp; omega, e, if_neg (by omega), Int.toNat_natCast]
  simp
theorem cutH_join {A : List (List UInt8)} (hA : ∀ x ∈ A, (45 : UInt8) ∉ x) {k : Nat} (hk : k < A.length) : cutH (joinS (A.take (k + 1))) = (joinS (A.take k), A[k]) := by
  match k, hk with
  | 0, hk => rw [join_take_one hk, cutH_no (hA _ (List.getElem_mem hk))]; rfl
  | k + 1, hk => rw [join_take_next (by omega) hk, cutH_at (hA _ (List.getElem_mem hk))]
def truncL (l : List UInt8) : List UInt8 := if (cutH (cutH l).1).2.length = 1 then (cutH (cutH l).1).1 else (cutH l).1
theorem trunc_look {A : List (List UInt8)} (hA : ∀ x ∈ A, (45 : UInt8) ∉ x) {T : List ByteArray} {n : Nat} (h0 : 0 < n) (h : n ≤ A.length) (hf : findT (joinS (A.take n)) T = none) :
    ∃ m, m < n ∧ truncL (joinS (A.take n)) = joinS (A.take m) ∧ lookN T A n = lookN T A m := by
  obtain ⟨k, rfl⟩ : ∃ k, n = k + 1 := ⟨n - 1, by omega⟩
  have e1 := cutH_join hA (k := k) (by omega)
  unfold truncL
  rw [e1]
  match k, h, hf, e1 with
  | 0, h, hf, e1 =>
    have e2 : cutH (joinS (A.take 0)) = ([], []) := by rw [List.take_zero]; exact cutH_no (by simp [joinS])
    rw [e2]
    exact ⟨0, by omega, rfl, by rw [look_one h hf]; rfl⟩
  | j + 1, h, hf, e1 =>
    have e2 := cutH_join hA (k := j) (by omega)
    rw [e2]
    by_cases h1 : (A[j]'(by omega)).length = 1
    · rw [if_pos h1]
      exact ⟨j, by omega, rfl, look_short (n := j + 2) (by omega) h hf h1⟩
    · rw [if_neg h1]
      exact ⟨j + 1, by omega, rfl, look_long (n := j + 2) (by omega) h hf h1⟩
theorem join_pos {A : List (List UInt8)} (hA : ∀ x ∈ A, 0 < x.length) {n : Nat} (h0 : 0 < n) (h : n ≤ A.length) : 0 < (joinS (A.take n)).length := by
  have h1 := join_take_le (A := A.take n) 1
  rw [List.take_take, show min 1 n = 1 from by omega, join_take_one (by omega)] at h1
  have := hA _ (List.getElem_mem (show 0 < A.length from by omega))
  omega
theorem tag_full {l : List UInt8} (h : tagL l = true) : ∀ x ∈ subL l, 0 < x.length := by
  have key : ∀ f (x : List UInt8), subOk f x = true → 0 < x.length := by
    intro f x hx
    unfold subOk at hx
    simp only [Bool.and_eq_true, decide_eq_true_eq] at hx
    omega
  unfold tagL at h
  obtain ⟨y, ys, e⟩ := subL_cons l
  rw [e] at h ⊢
  have h2 : (subOk true y && ys.all (subOk false)) = true := h
  rw [Bool.and_eq_true] at h2
  intro x hx
  rcases List.mem_cons.1 hx with rfl | hx
  · exact key _ _ h2.1
  · exact key _ _ (List.all_eq_true.1 h2.2 x hx)
theorem mCutLast_any (s : ByteArray) (w : World) (hs : s.size ≤ 65000) :
    Calls Try.prog 39 #[.string s] w fun e w' => e = .returned (.tuple #[.string (bs (cutH s.data.toList).1), .string (bs (cutH s.data.toList).2)]) ∧ Below w.heap.size w w' := by
  have hz : s.data.toList.length = s.size := by simp
  have hC : cutH s.data.toList = if lastF 45 s.data.toList s.data.toList.length < 0 then ([], s.data.toList) else (s.data.toList.take (lastF 45 s.data.toList s.data.toList.length).toNat, s.data.toList.drop ((lastF 45 s.data.toList s.data.toList.length).toNat + 1)) := rfl
  have hb := last_lt 45 s.data.toList s.data.toList.length
  rw [hz] at hC hb
  obtain ⟨x, hx⟩ : ∃ x, lastF 45 s.data.toList s.size = x := ⟨_, rfl⟩
  have HX := box hx
  rw [hx] at hC hb
  by_cases h0 : x < 0
  · have HV : Box (cutH s.data.toList = ([], s.data.toList)) := box (by rw [hC, if_pos h0])
    clear hz hC hx
    go_enter Try.func39, Try.ntmps39
    go_wp2_with fail
    refine (sLastIB_any s _ hs).mono ?_; rintro e w1 ⟨rfl, rfl⟩
    rw [HX.out]
    go_wp2
    go_ret2
    exact ⟨by rw [HV.out]; rfl, Below.refl _ _⟩
  · obtain ⟨k, rfl⟩ : ∃ k : Nat, x = k := ⟨x.toNat, by omega⟩
    have hks : k < s.size := by omega
    have HV : Box (bs (cutH s.data.toList).1 = s.extract 0 k ∧ bs (cutH s.data.toList).2 = s.extract (k + 1) s.size) := box (by
      rw [hC, if_neg h0, Int.toNat_natCast, ext_bs, ext_bs, List.drop_zero, List.take_of_length_le (i := s.size) (by simp)]
      exact ⟨rfl, rfl⟩)
    have i1 : (0 : Int) ≤ (k : Int) := by omega
    have i2 : (k : Int) ≤ (s.size : Int) := by omega
    have i3 : (k : Int) + 1 ≤ (s.size : Int) := by omega
    have i4 : (0 : Int) ≤ (k : Int) + 1 := by omega
    have hwr : IntKind.i64.wrap ((k : Int) + 1) = (k : Int) + 1 := IntWalk.i64_in _ (by omega)
    clear hz hC hx hb
    go_enter Try.func39, Try.ntmps39
    go_wp2_with fail
    refine (sLastIB_any s _ hs).mono ?_; rintro e w1 ⟨rfl, rfl⟩
    rw [HX.out]
    go_wp2
    go_quiet (fail)
    go_wp2
    go_ret2
    exact ⟨by rw [HV.out.1, HV.out.2]; rfl, below_drewN _ _⟩
theorem cutH_small (l : List UInt8) : (cutH l).1.length ≤ l.length ∧ (cutH l).2.length ≤ l.length := by
  unfold cutH
  split
  · simp
  · simp; omega
theorem mTrunc_any (s : ByteArray) (w : World) (hs : s.size ≤ 65000) :
    Calls Try.prog 32 #[.string s] w fun e w' => e = .returned (.string (bs (truncL s.data.toList))) ∧ Below w.heap.size w w' := by
  have hz : s.data.toList.length = s.size := by simp
  have h1 := cutH_small s.data.toList
  have hT : truncL s.data.toList = if (cutH (cutH s.data.toList).1).2.length = 1 then (cutH (cutH s.data.toList).1).1 else (cutH s.data.toList).1 := rfl
  obtain ⟨p, hp⟩ : ∃ p, (cutH s.data.toList).1 = p := ⟨_, rfl⟩
  obtain ⟨q, hq⟩ : ∃ q, (cutH s.data.toList).2 = q := ⟨_, rfl⟩
  rw [hp] at h1 hT
  have h2 := cutH_small p
  obtain ⟨p2, hp2⟩ : ∃ p2, (cutH p).1 = p2 := ⟨_, rfl⟩
  obtain ⟨q2, hq2⟩ : ∃ q2, (cutH p).2 = q2 := ⟨_, rfl⟩
  rw [hp2, hq2] at hT
  rw [hq2] at h2
  have hpz : (bs p).size ≤ 65000 := by rw [bs_size]; omega
  have hqz : (bs q2).size ≤ 65000 := by rw [bs_size]; omega
  have HP := box hp
  have HQ := box hq
  have HP2 := box hp2
  have HQ2 := box hq2
  by_cases h : q2.length = 1
  · have HV : Box (truncL s.data.toList = p2) := box (by rw [hT, if_pos h])
    have hsz : (((bs q2).size : Int) == 1) = true := by rw [bs_size, h]; rfl
    clear hz h1 h2 hT hp hq hp2 hq2 h
    go_enter Try.func32, Try.ntmps32
    go_wp2_with fail
    refine (mCutLast_any s _ hs).mono ?_; rintro e w1 ⟨rfl, hb1⟩
    rw [HP.out, HQ.out]
    have B1 := box hb1
    clear hb1
    go_wp2_with fail
    refine (mCutLast_any (bs p) _ hpz).mono ?_; rintro e w2 ⟨rfl, hb2⟩
    rw [bs_toList, HP2.out, HQ2.out]
    have B2 := box (B1.out.trans (hb2.mono B1.out.size))
    clear hb2
    go_wp2
    go_ret
    exact ⟨by rw [HV.out]; rfl, B2.out⟩
  · have HV : Box (truncL s.data.toList = p) := box (by rw [hT, if_neg h])
    have hsz : (((bs q2).size : Int) == 1) = false := by rw [bs_size, beq_eq_false_iff_ne]; omega
    clear hz h1 h2 hT hp hq hp2 hq2 h
    go_enter Try.func32, Try.ntmps32
    go_wp2_with fail
    refine (mCutLast_any s _ hs).mono ?_; rintro e w1 ⟨rfl, hb1⟩
    rw [HP.out, HQ.out]
    have B1 := box hb1
    clear hb1
    go_wp2_with fail
    refine (mCutLast_any (bs p) _ hpz).mono ?_; rintro e w2 ⟨rfl, hb2⟩
    rw [bs_toList, HP2.out, HQ2.out]
    have B2 := box (B1.out.trans (hb2.mono B1.out.size))
    clear hb2
    go_wp2
    go_ret
    exact ⟨by rw [HV.out]; rfl, B2.out⟩
/-- the outer loop: n subtags are left -/
def MkO (A : List (List UInt8)) (T : List ByteArray) (m : Int) (W : World) (l : Value) (wr : World) : Prop :=
  ∃ n : Nat, l = .string (bs (joinS (A.take n))) ∧ n ≤ A.length ∧ lookN T A n = m ∧ Below W.heap.size W wr
theorem bs_nil_iff {l : List UInt8} : ((bs l).toList == []) = decide (l = []) := by
  rw [toList_data, bs_toList]
  cases l <;> rfl
set_option maxHeartbeats 4000000 in
theorem mLookup_tag (r : ByteArray) (a : Option Addr) (cap : Nat) (T : List ByteArray) (w : World) (hr : r.size ≤ 65000) (hT : T.length ≤ 65536) (hz : Box (∀ i (hi : i < T.length), T[i].size ≤ 65536)) (hS : Box (Ss w a T)) (h : Box (tagL r.data.toList = true)) :
    Calls Try.prog 20 #[.string r, .slice a T.length cap] w fun e w' => e = .returned (.int .i64 (lookT r.data.toList T)) ∧ Below w.heap.size w w' := by
  obtain ⟨m, hm⟩ : ∃ m, lookT r.data.toList T = m := ⟨_, rfl⟩
  obtain ⟨A, hA⟩ : ∃ A, subL r.data.toList = A := ⟨_, rfl⟩
  have HM : Box (lookN T A A.length = m) := box (by rw [← hA, ← look_all _ _ h.out, hm])
  have HJ := box (join_size hA)
  have HH : Box (∀ x ∈ A, (45 : UInt8) ∉ x) := box (fun x hx => (sub_mem r.data.toList x (by rw [hA]; exact hx)).1)
  have HF0 : Box (∀ x ∈ A, 0 < x.length) := box (by rw [← hA]; exact tag_full h.out)
  have HRR : Box (r = bs (joinS (A.take A.length))) := box (by rw [List.take_length, ← hA, join_sub]; rfl)
  rw [hm]
  clear hm hA
  go_enter Try.func20, Try.ntmps20
  go_wp2_with fail
  refine (mTagM_is hr h).mono ?_; rintro e w1 ⟨rfl, hb1⟩
  have B1 := box hb1
  have TT := box (hS.out.below hb1)
  clear hb1
  go_wp2
  go_loopw [5, 6, 7] (fun l _ _ wr => MkO A T m w1 l wr) (fun l _ _ _ => strLen l)
  case atStart => exact ⟨A.length, by rw [← HRR.out], Nat.le_refl _, HM.out, Below.refl _ _⟩
  case round =>
    obtain ⟨n, rfl, hn, hlk, hbel⟩ := hrel
    have HLK := box hlk
    have BL := box hbel
    clear hlk hbel
    have hjn := HJ.out n
    obtain ⟨J, hJ⟩ : ∃ J, joinS (A.take n) = J := ⟨_, rfl⟩
    have HJN := box hJ
    rw [hJ] at hjn ⊢
    have hne := bs_nil_iff (l := J)
    by_cases h0 : 0 < n
    · have hJ0 : J ≠ [] := by
        have := join_pos HF0.out h0 hn
        rw [hJ] at this
        exact List.length_pos_iff.1 this
      rw [decide_eq_false hJ0] at hne
      have hJz : (bs J).size ≤ 65000 := by rw [bs_size]; omega
      clear hJ hJ0
      go_wp2
      go_loopw [6, 7, 18] (fun _ _ i wi => LkT J T wr i wi) (fun _ _ i _ => T.length - (intOf i).toNat)
      case atStart => exact ⟨0, rfl, Nat.zero_le _, fun j hj h => absurd h (by omega), Below.refl _ _⟩
      case round =>
        obtain ⟨k, rfl, hkT, hno, hbi⟩ := hrel
        have HNO := box hno
        have BI := box (BL.out.trans (hbi.mono BL.out.size))
        have BR := box hbi
        have TI := (TT.out.below BL.out).below hbi
        clear hno hbi
        by_cases hlT : k < T.length
        · have hkTi : (k : Int) < (T.length : Int) := by omega
          obtain ⟨x, hx⟩ : ∃ x, T[k] = x := ⟨_, rfl⟩
          have HX := box hx
          obtain ⟨g', off', rfl, cT⟩ := TI k hlT
          rw [hx] at cT
          have hxz : x.size ≤ 65536 := by have := hz.out k hlT; rw [hx] at this; omega
          clear TI hx
          cases hf : foldL J x.data.toList with
          | true =>
            have HF : Box (foldL x.data.toList (bs J).data.toList = true) := box (by rw [fold_swap]; exact hf)
            have HR : Box (m = (k : Int)) := box (by
              rw [← HLK.out]
              exact look_hit (by omega) hn (by rw [HJN.out]; exact find_at hlT (by rw [HX.out]; exact hf) HNO.out))
            clear hf
            go_wp2_with fail
            refine (mFold16_is hxz (by omega) HF).mono ?_; rintro e w5 ⟨rfl, hb5⟩
            have B5 := box (BI.out.trans (hb5.mono BI.out.size))
            clear hb5
            go_wp2
            go_ret
            exact ⟨by rw [HR.out]; rfl, B1.out.trans (B5.out.mono B1.out.size)⟩
          | false =>
            have HF : Box (foldL x.data.toList (bs J).data.toList = false) := box (by rw [fold_swap]; exact hf)
            have HNO2 : Box (∀ j (hj : j < T.length), j < k + 1 → foldL J T[j].data.toList = false) := box (fun j hj hjk => by
              by_cases e : j = k
              · subst e; rw [HX.out]; exact hf
              · exact HNO.out j hj (by omega))
            clear hf
            go_wp2_with fail
            refine (mFold16_is hxz (by omega) HF).mono ?_; rintro e w5 ⟨rfl, hb5⟩
            have B5 := box (BR.out.trans (hb5.mono BR.out.size))
            clear hb5
            go_wp2
            go_roundw
            case rel => exact ⟨k + 1, by go_num, hlT, HNO2.out, B5.out⟩
            case measure => simp [intOf]; omega
        · have hkTi : ¬ (k : Int) < (T.length : Int) := by omega
          have hFN : findT (joinS (A.take n)) T = none := by rw [HJN.out]; exact find_no fun j hj => HNO.out j hj (by omega)
          obtain ⟨n2, hn2, hq1, hq2⟩ := trunc_look HH.out h0 hn hFN
          have HT2 : Box (truncL (bs J).data.toList = joinS (A.take n2)) := box (by rw [← hq1, HJN.out]; rfl)
          have HL2 : Box (lookN T A n2 = m) := box (by rw [← hq2, HLK.out])
          have HSZ : Box ((joinS (A.take n2)).length < J.length) := box (by
            have h1 := join_take_le (A := A.take n) (n - 1)
            have h2 := join_take_le (A := A.take (n - 1)) n2
            rw [List.take_take, show min n2 (n - 1) = n2 from by omega] at h2
            rw [← HJN.out]
            obtain ⟨p, rfl⟩ : ∃ p, n = p + 1 := ⟨n - 1, by omega⟩
            by_cases hp : p = 0
            · subst hp
              have : n2 = 0 := by omega
              subst this
              have := join_pos HF0.out (n := 1) (by omega) hn
              simpa [joinS] using this
            · rw [join_take_next (by omega) (by omega), List.length_append, List.length_cons]
              simp only [Nat.add_sub_cancel] at h2
              omega)
          clear TI hFN hq1 hq2
          go_wp2_with fail
          refine (mTrunc_any (bs J) _ hJz).mono ?_; rintro e w5 ⟨rfl, hb5⟩
          rw [HT2.out]
          have B5 := box (BI.out.trans (hb5.mono BI.out.size))
          clear hb5
          go_wp2
          go_roundw
          case rel => exact ⟨n2, rfl, by omega, HL2.out, B5.out⟩
          case measure => simp only [strLen, bs_size]; exact HSZ.out
    · have h0e : n = 0 := by omega
      subst h0e
      have hJ0 : J = [] := by rw [← hJ]; rfl
      rw [decide_eq_true hJ0] at hne
      have HR : Box (m = -1) := box (by rw [← HLK.out, look_none])
      clear hJ hJ0
      go_wp2
      go_ret
      exact ⟨by rw [HR.out]; rfl, B1.out.trans (BL.out.mono B1.out.size)⟩
theorem mLookup_any (r : ByteArray) (a : Option Addr) (cap : Nat) (T : List ByteArray) (w : World) (hr : r.size ≤ 65000) (hT : T.length ≤ 65536) (hz : Box (∀ i (hi : i < T.length), T[i].size ≤ 65536)) (hS : Box (Ss w a T)) :
    Calls Try.prog 20 #[.string r, .slice a T.length cap] w fun e w' => e = .returned (.int .i64 (lookT r.data.toList T)) ∧ Below w.heap.size w w' := by
  cases h : tagL r.data.toList with
  | true => exact mLookup_tag r a cap T w hr hT hz hS (box h)
  | false =>
    have HV : Box (lookT r.data.toList T = -1) := box (look_not _ _ h)
    have H1 := box h
    clear h
    go_enter Try.func20, Try.ntmps20
    go_wp2_with fail
    refine (mTagM_is hr H1).mono ?_; rintro e w1 ⟨rfl, hb1⟩
    go_wp2
    go_ret
    exact ⟨by rw [HV.out]; rfl, hb1⟩
end
section
open Go.RowKit
/-- block k holds the string x, and may be written -/
def StrAt (k : Nat) (x : ByteArray) (w : World) : Prop := w.cell? ⟨k, 0, none⟩ = some (.string x) ∧ w.frozen? ⟨k, 0, none⟩ = false
theorem StrAt.new (x : ByteArray) (w : World) (t : TypeId) : StrAt w.heap.size x (w.alloc (.cells #[.string x] t)) :=
  ⟨by rw [World.cell?_alloc_mark]; rfl, by rw [World.frozen?_alloc_at _ _ _ _ rfl]⟩
theorem StrAt.lt {k : Nat} {x : ByteArray} {w : World} (h : StrAt k x w) : k < w.heap.size := cell_lt (p := ⟨k, 0, none⟩) h.1
theorem StrAt.below {k B : Nat} {x : ByteArray} {w w' : World} (h : StrAt k x w) (hb : Below B w w') (hk : k < B) : StrAt k x w' :=
  ⟨by rw [hb.cell hk]; exact h.1, by rw [hb.frozen hk]; exact h.2⟩
theorem StrAt.set {k : Nat} {x : ByteArray} {w : World} (h : StrAt k x w) (y : ByteArray) : StrAt k y (w.setCell ⟨k, 0, none⟩ (.string y)) :=
  ⟨by rw [World.cell?_setCell_same (h := h.1)], by rw [World.frozen?_setCell]; exact h.2⟩
/-- all that there was is as it was, but for block k -/
structure Only (k : Nat) (w w' : World) : Prop where
  os : w'.os = w.os
  tape : w'.tape = w.tape
  output : w'.output = w.output
  size : w.heap.size ≤ w'.heap.size
  block : ∀ j, j < w.heap.size → j ≠ k → w'.heap[j]? = w.heap[j]?
theorem Only.refl (k : Nat) (w : World) : Only k w w := ⟨rfl, rfl, rfl, Nat.le_refl _, fun _ _ _ => rfl⟩
theorem Only.trans {k : Nat} {a b c : World} (h : Only k a b) (g : Only k b c) : Only k a c :=
  ⟨g.os.trans h.os, g.tape.trans h.tape, g.output.trans h.output, Nat.le_trans h.size g.size, fun j hj hk => (g.block j (Nat.lt_of_lt_of_le hj h.size) hk).trans (h.block j hj hk)⟩
theorem Only.set {k : Nat} {w w' : World} (h : Only k w w') (v : Value) : Only k w (w'.setCell ⟨k, 0, none⟩ v) :=
  ⟨h.os, h.tape, h.output, by simpa using h.size, fun j hj hk => (Below.heap_setCell w' ⟨k, 0, none⟩ v j hk).trans (h.block j hj hk)⟩
theorem Only.below {k B : Nat} {w w' : World} (h : Only k w w') (hk : B ≤ k) (hB : B ≤ w.heap.size) : Below B w w' :=
  ⟨h.os, h.tape, h.output, h.size, fun j hj => h.block j (Nat.lt_of_lt_of_le hj hB) (by omega)⟩
theorem own_only {w w' : World} {k B : Nat} {e : TypeId} {size n : Nat} {v : Value} {xs : List Value} (h : w.ownsRow B e size v n xs) (hb : Only k w w') (hk : k < B) : w'.ownsRow B e size v n xs := by
  refine ⟨h.1, ?_⟩
  rcases h.2 with q | ⟨g, cap, cur, hv, hB, hg, r⟩
  · exact .inl q
  · refine .inr ⟨g, cap, cur, hv, hB, ?_, r⟩
    have : g < w.heap.size := by
      rcases Nat.lt_or_ge g w.heap.size with q | q
      · exact q
      · rw [Array.getElem?_eq_none q] at hg; cases hg
    rw [hb.block g this (by omega)]; exact hg
theorem Only.setAt {k : Nat} {w w' : World} (h : Only k w w') (i : Nat) (v : Value) : Only k w (w'.setCell ⟨k, i, none⟩ v) :=
  ⟨h.os, h.tape, h.output, by simpa using h.size, fun j hj hk => (Below.heap_setCell w' ⟨k, i, none⟩ v j hk).trans (h.block j hj hk)⟩
theorem own_le {w : World} {B B' : Nat} {e : TypeId} {size n : Nat} {v : Value} {xs : List Value} (h : w.ownsRow B e size v n xs) (hB : B' ≤ B) : w.ownsRow B' e size v n xs := by
  refine ⟨h.1, ?_⟩
  rcases h.2 with q | ⟨g, cap, cur, hv, hb, r⟩
  · exact .inl q
  · exact .inr ⟨g, cap, cur, hv, Nat.le_trans hB hb, r⟩
end
section
open Go.RowKit
def intV (n : Nat) : Value := .int .i64 (n : Int)
/-- ints at an address -/
def Is (w : World) (a : Option Addr) (L : List Nat) : Prop := ∀ i (h : i < L.length), ∃ g off, a = some ⟨g, off, none⟩ ∧ w.cell? ⟨g, off + i, none⟩ = some (intV L[i])
theorem Is.below {w w' : World} {a : Option Addr} {L : List Nat} (h : Is w a L) (hb : Below w.heap.size w w') : Is w' a L := fun i hi => by
  obtain ⟨g, off, e, c0⟩ := h i hi
  exact ⟨g, off, e, (hb.cell (cell_lt c0)).trans c0⟩
theorem info_int : (Try.prog.info? 3).map (fun i => (i.zero, i.size, i.bytes)) = some (some (.int .i64 0), 1, 8) := by kernel_rfl
def OwnI (w : World) (B : Nat) (v : Value) (L : List Nat) : Prop := w.ownsRow B 3 1 v L.length (L.map intV)
theorem OwnI.nil (w : World) (B : Nat) : OwnI w B (.slice none 0 0) [] := World.ownsRow_nil _ _ _ _
theorem OwnI.is {w : World} {B : Nat} {v : Value} {L : List Nat} (h : OwnI w B v L) : ∃ a cap, v = .slice a L.length cap ∧ Is w a L ∧ L.length ≤ cap := by
  rcases h.2 with ⟨rfl, hn⟩ | ⟨g, cap, cur, rfl, hB, hg, hc, hm, hs, ht⟩
  · exact ⟨none, 0, by rw [hn], fun i hi => by omega, by omega⟩
  · refine ⟨_, cap, rfl, fun i hi => ⟨g, 0, rfl, ?_⟩, hc⟩
    have q0 : (L.map intV)[i]? = some (intV L[i]) := by simp [hi]
    rw [← ht, List.getElem?_take, if_pos (by omega)] at q0
    simp only [World.cell?, hg]
    simpa using q0
/-- append of one int that lies in a block of its own -/
theorem wpList_append_int (w : World) {ops : Array Oper} {rest : List Oper} {o : Oper} {a : Act} {Q : Exit → Act → World → Prop} (hgd : o.guard = none) (s x : Operand)
    (ho : o.op = .call { callee := .builtin .append, args := #[s, x], argTypes := #[29, 29] })
    (B : Nat) (v : Value) (L : List Nat) (hs : a.eval s = v) (hown : OwnI w B v L)
    (g : Nat) (c : Nat) (hx : a.eval x = .slice (some ⟨g, 0, none⟩) 1 c) (u : Nat) (h0 : w.cell? ⟨g, 0, none⟩ = some (intV u)) (hl : L.length ≤ 65536) (hB : B ≤ w.heap.size)
    (h : ∀ v' w', OwnI w' B v' (L ++ [u]) → Below B w w' → wpList Try.prog ops Q rest (a.put o.dst v') w') : wpList Try.prog ops Q (o :: rest) a w := by
  obtain ⟨i0, hi0, hz0, hz1, hz2⟩ := info_parts info_int
  refine wpList_append_own (P := Try.prog) w hgd s x 29 ho B 3 i0 _ 1 8 Try.underlying29 hi0 hz0 hz1 hz2 rfl (by decide) v L.length (L.map intV) hs hown ⟨g, 0, none⟩ 1 c [intV u] hx rfl ?_ ?_ (by unfold maxLen; omega) (by omega) hB ?_
  · intro j u hj
    match j, hj with
    | 0, hj => simp at hj; subst hj; simpa [Addr.add] using h0
  · intro u hu; simp at hu; subst hu; rfl
  · intro v' w' q1 q2 _
    refine h v' w' (by simpa [OwnI] using q1) ((Below.refl _ _).grown q2 hB (fun k hk => own_block hown k hk))
/-- a row of bools at a block's start -/
def Bo (w : World) (g : Nat) (U : List Bool) : Prop := ∀ i (h : i < U.length), w.cell? ⟨g, i, none⟩ = some (.bool U[i]) ∧ w.frozen? ⟨g, i, none⟩ = false
theorem Bo.below {w w' : World} {g B : Nat} {U : List Bool} (h : Bo w g U) (hb : Below B w w') (hg : g < B) : Bo w' g U := fun i hi =>
  ⟨(hb.cell hg).trans (h i hi).1, (hb.frozen hg).trans (h i hi).2⟩
theorem Bo.set {w : World} {g k : Nat} {U : List Bool} (h : Bo w g U) (hk : k < U.length) (b : Bool) : Bo (w.setCell ⟨g, k, none⟩ (.bool b)) g (U.set k b) := fun i hi => by
  have hi2 : i < U.length := by simpa using hi
  refine ⟨?_, by rw [World.frozen?_setCell]; exact (h i hi2).2⟩
  by_cases e : i = k
  · subst e
    rw [World.cell?_setCell_same (h := (h i hi2).1)]
    simp
  · rw [World.cell?_setCell_other _ _ _ _ (by intro q; cases q; exact e rfl), (h i hi2).1, List.getElem_set_ne (Ne.symm e)]
theorem info_bool : (Try.prog.info? 4).map (fun i => (i.zero, i.size, i.bytes)) = some (some (.bool false), 1, 1) := by kernel_rfl
theorem Bo.new (w : World) (n : Nat) (t : TypeId) : Bo (w.alloc (.cells (madeCells #[.bool false] n) t)) w.heap.size (List.replicate n false) := fun i hi => by
  have hn : i < n := by simpa using hi
  refine ⟨?_, World.frozen?_alloc_at _ _ _ _ rfl⟩
  rw [World.cell?_alloc_at (hn := rfl), ← Array.getElem?_toList, toList_madeCells_one]
  simp [hn, List.getElem?_replicate]
end
section
open Go.RowKit
theorem filt_snoc (T : List ByteArray) (r : ByteArray) : ∀ (L : List ByteArray) (acc : List Nat), filtT T (L ++ [r]) acc = filtT T L acc ++ oneT r T (filtT T L acc) T.length
  | [], acc => rfl
  | x :: L, acc => filt_snoc T r L _
theorem filt_next {T R : List ByteArray} {i : Nat} (h : i < R.length) : filtT T (R.take (i + 1)) [] = filtT T (R.take i) [] ++ oneT R[i] T (filtT T (R.take i) []) T.length := by
  rw [List.take_succ_eq_append_getElem h, filt_snoc]
theorem one_next (r : ByteArray) (T : List ByteArray) (acc : List Nat) (k : Nat) : oneT r T acc (k + 1) = oneT r T acc k ++ (if (decide (k ∉ acc) && hitT r (T.getD k ⟨#[]⟩)) = true then [k] else []) := by
  unfold oneT
  rw [List.range_succ, List.filter_append]
  congr 1
  simp only [List.filter_cons, List.filter_nil]
theorem one_lt {r : ByteArray} {T : List ByteArray} {acc : List Nat} {k j : Nat} (h : j ∈ oneT r T acc k) : j < k := by
  unfold oneT at h
  have := (List.mem_filter.1 h).1
  simpa using this
/-- which indices have been taken -/
def UsedAt (U : List Bool) (n : Nat) (out : List Nat) : Prop := U.length = n ∧ ∀ j (h : j < U.length), U[j] = decide (j ∈ out)
theorem UsedAt.start (n : Nat) : UsedAt (List.replicate n false) n [] := ⟨by simp, fun j h => by simp⟩
theorem UsedAt.add {U : List Bool} {n k : Nat} {out : List Nat} (h : UsedAt U n out) (hk : k < n) : UsedAt (U.set k true) n (out ++ [k]) := by
  refine ⟨by rw [List.length_set]; exact h.1, fun j hj => ?_⟩
  have hj2 : j < U.length := by simpa using hj
  by_cases e : j = k
  · subst e; rw [List.getElem_set_self]; simp
  · rw [List.getElem_set_ne (Ne.symm e), h.2 j hj2]; simp [e]
theorem out_skip {r : ByteArray} {T : List ByteArray} {acc out : List Nat} {k : Nat} (h : acc ++ oneT r T acc k = out) (hs : k ∈ out ∨ hitT r (T.getD k ⟨#[]⟩) = false) : acc ++ oneT r T acc (k + 1) = out := by
  have e : (decide (k ∉ acc) && hitT r (T.getD k ⟨#[]⟩)) = false := by
    rcases hs with hs | hs
    · rw [← h] at hs
      rcases List.mem_append.1 hs with q | q
      · rw [decide_eq_false (by simpa using q), Bool.false_and]
      · exact absurd (one_lt q) (by omega)
    · rw [hs, Bool.and_false]
  rw [one_next, e, if_neg (by simp), List.append_nil, h]
theorem out_take {r : ByteArray} {T : List ByteArray} {acc out : List Nat} {k : Nat} (h : acc ++ oneT r T acc k = out) (hn : k ∉ out) (hs : hitT r (T.getD k ⟨#[]⟩) = true) : acc ++ oneT r T acc (k + 1) = out ++ [k] := by
  have e : (decide (k ∉ acc) && hitT r (T.getD k ⟨#[]⟩)) = true := by
    rw [hs, Bool.and_true]
    exact decide_eq_true (fun q => hn (by rw [← h]; exact List.mem_append_left _ q))
  rw [one_next, e, if_pos rfl, ← List.append_assoc, h]
def FlO (R T : List ByteArray) (w : World) (v i : Value) (wr : World) : Prop :=
  ∃ (k : Nat) (U : List Bool), i = .int .i64 k ∧ k ≤ R.length ∧ OwnI wr (w.heap.size + 1) v (filtT T (R.take k) []) ∧ (filtT T (R.take k) []).length ≤ 200 * k ∧ Bo wr w.heap.size U ∧ UsedAt U T.length (filtT T (R.take k) []) ∧ w.heap.size + 1 ≤ wr.heap.size ∧ Below w.heap.size w wr
def FlI (r : ByteArray) (T : List ByteArray) (acc : List Nat) (b : Nat) (w : World) (v i : Value) (wr : World) : Prop :=
  ∃ (k : Nat) (U : List Bool), i = .int .i64 k ∧ k ≤ T.length ∧ OwnI wr (w.heap.size + 1) v (acc ++ oneT r T acc k) ∧ (acc ++ oneT r T acc k).length ≤ 200 * b + k ∧ Bo wr w.heap.size U ∧ UsedAt U T.length (acc ++ oneT r T acc k) ∧ w.heap.size + 1 ≤ wr.heap.size ∧ Below w.heap.size w wr
set_option maxHeartbeats 4000000 in
theorem rFilter_any (a a' : Option Addr) (cap cap' : Nat) (R T : List ByteArray) (w : World) (hR : R.length ≤ 200) (hT : T.length ≤ 200) (hzR : Box (∀ i (hi : i < R.length), R[i].size ≤ 65000)) (hzT : Box (∀ i (hi : i < T.length), T[i].size ≤ 65000)) (hSR : Box (Ss w a R)) (hST : Box (Ss w a' T)) :
    Calls Try.prog 19 #[.slice a R.length cap, .slice a' T.length cap'] w fun e w' => ∃ v, e = .returned v ∧ OwnI w' w.heap.size v (filtT T R []) ∧ Below w.heap.size w w' := by
  obtain ⟨i0, hi0, hz0, hz1, hz2⟩ := info_parts info_bool
  have hmk := fun (w : World) => run_make (P := Try.prog) w 41 4 i0 _ Try.underlying41 hi0 hz0 .i64 .i64 T.length T.length (by omega) (by omega) (by rw [hz2]; omega) (by omega)
  simp only [Int.toNat_natCast, hz1, Nat.mul_one] at hmk
  go_enter Try.func19, Try.ntmps19
  go_wp2
  go_loopw [5, 7, 8] (fun v i _ wr => FlO R T w v i wr) (fun _ i _ _ => R.length - (intOf i).toNat)
  case atStart => exact ⟨0, List.replicate T.length false, rfl, Nat.zero_le _, OwnI.nil _ _, Nat.le_refl _, Bo.new _ _ _, UsedAt.start _, by simp, (Below.refl _ _).alloc (Nat.le_refl _) _⟩
  case round =>
    obtain ⟨i, U, rfl, hi, hO, hlen, hB, hU, hsz, hbel⟩ := hrel
    obtain ⟨av, cv, rfl, _, _⟩ := hO.is
    obtain ⟨acc, hacc⟩ : ∃ acc, filtT T (R.take i) [] = acc := ⟨_, rfl⟩
    rw [hacc] at hO hlen hU ⊢
    have O0 := box hO
    have B0 := box hB
    have U0 := box hU
    have BL := box hbel
    have HACC := box hacc
    clear hO hB hU hbel hacc hmk
    by_cases hlt : i < R.length
    · have hii : (i : Int) < (R.length : Int) := by omega
      obtain ⟨r, hr⟩ : ∃ r, R[i] = r := ⟨_, rfl⟩
      have HN := box (filt_next (T := T) hlt)
      rw [HACC.out, hr] at HN
      have hrz : r.size ≤ 65000 := by rw [← hr]; exact hzR.out i hlt
      have HR := box hr
      clear hr
      go_wp2
      go_loopw [5, 8] (fun v k wi => FlI r T acc i w v k wi) (fun _ k _ => T.length - (intOf k).toNat)
      case atStart => exact ⟨0, U, rfl, Nat.zero_le _, by simpa [oneT] using O0.out, by simpa [oneT] using hlen, B0.out, by simpa [oneT] using U0.out, hsz, BL.out⟩
      case round =>
        obtain ⟨k, V, rfl, hk, hO, hlen2, hB, hU, hsz2, hbel⟩ := hrel
        obtain ⟨av, cv, rfl, _, _⟩ := hO.is
        obtain ⟨out, hout⟩ : ∃ out, acc ++ oneT r T acc k = out := ⟨_, rfl⟩
        rw [hout] at hO hlen2 hU ⊢
        have HOUT := box hout
        have O1 := box hO
        have BV := box hB
        have UV := box hU
        have BI := box hbel
        have hvl : V.length = T.length := hU.1
        have SR := hSR.out.below hbel
        have ST := hST.out.below hbel
        clear hO hB hU hbel hout
        by_cases hkT : k < T.length
        · have hki : (k : Int) < (T.length : Int) := by omega
          have hk0 : (0 : Int) ≤ (k : Int) := by omega
          have hkV : k < V.length := by omega
          obtain ⟨g, off, rfl, cR⟩ := SR i hlt
          rw [HR.out] at cR
          obtain ⟨x, hx⟩ : ∃ x, T[k] = x := ⟨_, rfl⟩
          obtain ⟨g', off', rfl, cT⟩ := ST k hkT
          rw [hx] at cT
          have hxz : x.size ≤ 65000 := by rw [← hx]; exact hzT.out k hkT
          obtain ⟨cU, fU⟩ := BV.out k hkV
          have hv := UV.out.2 k hkV
          have HGD : Box (T.getD k ⟨#[]⟩ = x) := box (by rw [List.getD_eq_getElem?_getD, List.getElem?_eq_getElem hkT, hx]; rfl)
          clear SR ST hx
          by_cases hin : k ∈ out
          · rw [hv, decide_eq_true hin] at cU
            have HN2 := box (out_skip HOUT.out (.inl hin))
            clear hv hin
            go_wp2
            go_region
            all_goals
              go_wp2
              go_roundw
              case rel => exact ⟨k + 1, V, by go_num, hkT, by rw [HN2.out]; exact own_below O1.out (below_drewN _ _), by rw [HN2.out]; omega, BV.out, by rw [HN2.out]; exact UV.out, hsz2, BI.out.trans ((below_drewN _ _).mono BI.out.size)⟩
              case measure => simp [intOf]; omega
          · rw [hv, decide_eq_false hin] at cU
            have HIN := box hin
            obtain ⟨m, hm⟩ : ∃ m, matchT r.data.toList x.data.toList = m := ⟨_, rfl⟩
            have HX2 := box hm
            have HH : Box (hitT r x = decide (0 ≤ m)) := box (by unfold hitT; rw [hm])
            clear hv hin hm
            by_cases h0 : 0 ≤ m
            · have HN2 := box (out_take HOUT.out HIN.out (by rw [HGD.out, HH.out, decide_eq_true h0]))
              go_wp2
              go_region_held3 (fun w' => w'.cell? ⟨w.heap.size, k, none⟩ = some (.bool false) ∧ w'.cell? ⟨g, off + i, none⟩ = some (.string r) ∧ w'.cell? ⟨g', off' + k, none⟩ = some (.string x)) (first | exact ⟨(hb5.cell (cell_lt cU)).trans cU, (hb5.cell (cell_lt cR)).trans cR, (hb5.cell (cell_lt cT)).trans cT⟩ | exact ⟨cU, cR, cT⟩) (first | (go_at_call 15; refine (rMatchT_is hrz hxz HX2).mono ?_; rintro e w5 ⟨rfl, hb5⟩))
              all_goals
                have O2 := box (own_below (own_below O1.out (below_drewN _ _)) hb5)
                have B5 := box (BI.out.trans (((below_drewN _ _).trans hb5).mono BI.out.size))
                have V5 := box (Bo.below (Bo.below BV.out (below_drewN _ _) (Nat.lt_of_lt_of_le (Nat.lt_succ_self _) hsz2)) hb5 (Nat.lt_of_lt_of_le (Nat.lt_succ_self _) hsz2))
                have hsz5 : w.heap.size + 1 ≤ w5.heap.size := Nat.le_trans hsz2 hb5.size
                clear hb5 cU fU cR cT
                go_wp2_with (at_builtin; refine wpList_append_int _ rfl (.tmp 43) (.tmp 45) rfl (w.heap.size + 1) _ out rfl (own_below O2.out (below_new _ _)) _ _ rfl k (cell_new1 _ _ _) (by omega) (by simp; omega) ?_)
                intro v6 w6 hO6 hb6
                have V6 := (V5.out.below (below_new w5 (.cells #[.int .i64 k] 3)) (by omega)).below hb6 (by omega)
                obtain ⟨c6, f6⟩ := V6 k hkV
                have B6 := ((B5.out.alloc B5.out.size (.cells #[.int .i64 k] 3)).trans (hb6.mono (Nat.le_succ _)))
                have O7 := box (own_only hO6 ((Only.refl w.heap.size w6).setAt k (.bool true)) (Nat.lt_succ_self _))
                have V7 := box (V6.set hkV true)
                have B7 := box (B6.setCell (p := ⟨w.heap.size, k, none⟩) (Nat.le_refl _) (.bool true))
                have hsz7 : w.heap.size + 1 ≤ (w6.setCell ⟨w.heap.size, k, none⟩ (.bool true)).heap.size := by have := hb6.size; simp at this ⊢; omega
                clear hO6 hb6 V6 B6
                go_wp2
                go_roundw
                case rel => exact ⟨k + 1, V.set k true, by go_num, hkT, by rw [HN2.out]; exact O7.out, by rw [HN2.out, List.length_append]; simp; omega, V7.out, by rw [HN2.out]; exact UV.out.add hkT, hsz7, B7.out⟩
                case measure => simp [intOf]; omega
            · have HN2 := box (out_skip HOUT.out (.inr (by rw [HGD.out, HH.out, decide_eq_false h0])))
              go_wp2
              go_region_held3 (fun w' => w'.cell? ⟨w.heap.size, k, none⟩ = some (.bool false) ∧ w'.cell? ⟨g, off + i, none⟩ = some (.string r) ∧ w'.cell? ⟨g', off' + k, none⟩ = some (.string x)) (first | exact ⟨(hb5.cell (cell_lt cU)).trans cU, (hb5.cell (cell_lt cR)).trans cR, (hb5.cell (cell_lt cT)).trans cT⟩ | exact ⟨cU, cR, cT⟩) (first | (go_at_call 15; refine (rMatchT_is hrz hxz HX2).mono ?_; rintro e w5 ⟨rfl, hb5⟩))
              all_goals
                have O2 := box (own_below (own_below O1.out (below_drewN _ _)) hb5)
                have B5 := box (BI.out.trans (((below_drewN _ _).trans hb5).mono BI.out.size))
                have V5 := box (Bo.below (Bo.below BV.out (below_drewN _ _) (Nat.lt_of_lt_of_le (Nat.lt_succ_self _) hsz2)) hb5 (Nat.lt_of_lt_of_le (Nat.lt_succ_self _) hsz2))
                have hsz5 : w.heap.size + 1 ≤ w5.heap.size := Nat.le_trans hsz2 hb5.size
                clear hb5 cU fU cR cT
                go_wp2
                go_roundw
                case rel => exact ⟨k + 1, V, by go_num, hkT, by rw [HN2.out]; exact O2.out, by rw [HN2.out]; omega, V5.out, by rw [HN2.out]; exact UV.out, hsz5, B5.out⟩
                case measure => simp [intOf]; omega
        · have hki : ¬ (k : Int) < (T.length : Int) := by omega
          have hke : k = T.length := by omega
          subst hke
          have HE : Box (filtT T (R.take (i + 1)) [] = out) := box (by rw [HN.out, HOUT.out])
          clear SR ST
          go_wp2
          go_roundw
          case rel => exact ⟨i + 1, V, by go_num, hlt, by rw [HE.out]; exact O1.out, by rw [HE.out]; omega, BV.out, by rw [HE.out]; exact UV.out, hsz2, BI.out⟩
          case measure => simp [intOf]; omega
    · have hii : ¬ (i : Int) < (R.length : Int) := by omega
      have HF : Box (filtT T R [] = acc) := box (by have := HACC.out; rwa [List.take_of_length_le (by omega)] at this)
      go_wp2
      go_ret
      exact ⟨_, rfl, by rw [HF.out]; exact own_le O0.out (Nat.le_succ _), BL.out⟩
end
section
open Go.RowKit
set_option maxHeartbeats 4000000 in
theorem mFilter_any (a a' : Option Addr) (cap cap' : Nat) (R T : List ByteArray) (w : World) (hR : R.length ≤ 200) (hT : T.length ≤ 200) (hzR : Box (∀ i (hi : i < R.length), R[i].size ≤ 65000)) (hzT : Box (∀ i (hi : i < T.length), T[i].size ≤ 65000)) (hSR : Box (Ss w a R)) (hST : Box (Ss w a' T)) :
    Calls Try.prog 18 #[.slice a R.length cap, .slice a' T.length cap'] w fun e w' => ∃ v, e = .returned v ∧ OwnI w' w.heap.size v (filtT T R []) ∧ Below w.heap.size w w' := by
  obtain ⟨i0, hi0, hz0, hz1, hz2⟩ := info_parts info_bool
  have hmk := fun (w : World) => run_make (P := Try.prog) w 41 4 i0 _ Try.underlying41 hi0 hz0 .i64 .i64 T.length T.length (by omega) (by omega) (by rw [hz2]; omega) (by omega)
  simp only [Int.toNat_natCast, hz1, Nat.mul_one] at hmk
  go_enter Try.func18, Try.ntmps18
  go_wp2
  go_loopw [5, 8, 9, 10, 16] (fun v _ _ _ i wr => FlO R T w v i wr) (fun _ _ _ _ i _ => R.length - (intOf i).toNat)
  case atStart => exact ⟨0, List.replicate T.length false, rfl, Nat.zero_le _, OwnI.nil _ _, Nat.le_refl _, Bo.new _ _ _, UsedAt.start _, by simp, (Below.refl _ _).alloc (Nat.le_refl _) _⟩
  case round =>
    obtain ⟨i, U, rfl, hi, hO, hlen, hB, hU, hsz, hbel⟩ := hrel
    obtain ⟨av, cv, rfl, _, _⟩ := hO.is
    obtain ⟨acc, hacc⟩ : ∃ acc, filtT T (R.take i) [] = acc := ⟨_, rfl⟩
    rw [hacc] at hO hlen hU ⊢
    have O0 := box hO
    have B0 := box hB
    have U0 := box hU
    have BL := box hbel
    have HACC := box hacc
    have SR0 := hSR.out.below hbel
    clear hO hB hU hbel hacc hmk
    by_cases hlt : i < R.length
    · have hii : (i : Int) < (R.length : Int) := by omega
      obtain ⟨r, hr⟩ : ∃ r, R[i] = r := ⟨_, rfl⟩
      have HN := box (filt_next (T := T) hlt)
      rw [HACC.out, hr] at HN
      have hrz : r.size ≤ 65000 := by rw [← hr]; exact hzR.out i hlt
      have HR := box hr
      obtain ⟨g, off, rfl, cR⟩ := SR0 i hlt
      rw [hr] at cR
      clear hr SR0
      go_wp2
      clear cR
      go_loopw [5, 9, 10, 22] (fun v _ _ k wi => FlI r T acc i w v k wi) (fun _ _ _ k _ => T.length - (intOf k).toNat)
      case atStart => exact ⟨0, U, rfl, Nat.zero_le _, by simpa [oneT] using O0.out, by simpa [oneT] using hlen, B0.out, by simpa [oneT] using U0.out, hsz, BL.out⟩
      case round =>
        obtain ⟨k, V, rfl, hk, hO, hlen2, hB, hU, hsz2, hbel⟩ := hrel
        obtain ⟨av, cv, rfl, _, _⟩ := hO.is
        obtain ⟨out, hout⟩ : ∃ out, acc ++ oneT r T acc k = out := ⟨_, rfl⟩
        rw [hout] at hO hlen2 hU ⊢
        have HOUT := box hout
        have O1 := box hO
        have BV := box hB
        have UV := box hU
        have BI := box hbel
        have hvl : V.length = T.length := hU.1
        have ST := hST.out.below hbel
        clear hO hB hU hbel hout
        by_cases hkT : k < T.length
        · have hki : (k : Int) < (T.length : Int) := by omega
          have hk0 : (0 : Int) ≤ (k : Int) := by omega
          have hkV : k < V.length := by omega
          obtain ⟨x, hx⟩ : ∃ x, T[k] = x := ⟨_, rfl⟩
          obtain ⟨g', off', rfl, cT⟩ := ST k hkT
          rw [hx] at cT
          have hxz : x.size ≤ 65000 := by rw [← hx]; exact hzT.out k hkT
          obtain ⟨cU, fU⟩ := BV.out k hkV
          have hv := UV.out.2 k hkV
          have HGD : Box (T.getD k ⟨#[]⟩ = x) := box (by rw [List.getD_eq_getElem?_getD, List.getElem?_eq_getElem hkT, hx]; rfl)
          clear ST hx
          by_cases hin : k ∈ out
          · rw [hv, decide_eq_true hin] at cU
            have HN2 := box (out_skip HOUT.out (.inl hin))
            clear hv hin
            go_wp2
            go_roundw
            case rel => exact ⟨k + 1, V, by go_num, hkT, by rw [HN2.out]; exact O1.out, by rw [HN2.out]; omega, BV.out, by rw [HN2.out]; exact UV.out, hsz2, BI.out⟩
            case measure => simp [intOf]; omega
          · rw [hv, decide_eq_false hin] at cU
            have HIN := box hin
            obtain ⟨m, hm⟩ : ∃ m, matchT r.data.toList x.data.toList = m := ⟨_, rfl⟩
            have HX2 := box hm
            have HH : Box (hitT r x = decide (0 ≤ m)) := box (by unfold hitT; rw [hm])
            clear hv hin hm
            by_cases h0 : 0 ≤ m
            · have HN2 := box (out_take HOUT.out HIN.out (by rw [HGD.out, HH.out, decide_eq_true h0]))
              go_wp2_with fail
              refine (mMatchM_is hrz hxz HX2).mono ?_; rintro e w5 ⟨rfl, hb5⟩
              have O2 := box (own_below O1.out hb5)
              have B5 := box (BI.out.trans (hb5.mono BI.out.size))
              have V5 := box (Bo.below BV.out hb5 (Nat.lt_of_lt_of_le (Nat.lt_succ_self _) hsz2))
              have hsz5 : w.heap.size + 1 ≤ w5.heap.size := Nat.le_trans hsz2 hb5.size
              obtain ⟨c6, f6⟩ := V5.out k hkV
              have O7 := box (own_only O2.out ((Only.refl w.heap.size w5).setAt k (.bool true)) (Nat.lt_succ_self _))
              have V7 := box (V5.out.set hkV true)
              have B7 := box (B5.out.setCell (p := ⟨w.heap.size, k, none⟩) (Nat.le_refl _) (.bool true))
              have hsz7 : w.heap.size + 1 ≤ (w5.setCell ⟨w.heap.size, k, none⟩ (.bool true)).heap.size := by simpa using hsz5
              have C7 : ((w5.setCell ⟨w.heap.size, k, none⟩ (.bool true)).alloc (.cells #[.int .i64 k] 3)).cell? ⟨w5.heap.size, 0, none⟩ = some (.int .i64 k) := by
                have := cell_new1 (w5.setCell ⟨w.heap.size, k, none⟩ (.bool true)) (.int .i64 k) 3
                simpa using this
              clear hb5 cU fU cT
              go_wp2_with (at_builtin; refine wpList_append_int _ rfl (.tmp 41) (.tmp 43) rfl (w.heap.size + 1) _ out rfl (own_below O7.out (below_new _ _)) _ _ rfl k C7 (by omega) (by simp; omega) ?_)
              intro v6 w6 hO6 hb6
              have V6 := box ((V7.out.below (below_new _ (.cells #[.int .i64 k] 3)) (by omega)).below hb6 (by omega))
              have B6 := box ((B7.out.alloc B7.out.size (.cells #[.int .i64 k] 3)).trans (hb6.mono (Nat.le_succ _)))
              have hsz6 : w.heap.size + 1 ≤ w6.heap.size := by have := hb6.size; simp at this ⊢; omega
              have O6 := box hO6
              clear hO6 hb6
              go_wp2
              go_roundw
              case rel => exact ⟨k + 1, V.set k true, by go_num, hkT, by rw [HN2.out]; exact O6.out, by rw [HN2.out, List.length_append]; simp; omega, V6.out, by rw [HN2.out]; exact UV.out.add hkT, hsz6, B6.out⟩
              case measure => simp [intOf]; omega
            · have HN2 := box (out_skip HOUT.out (.inr (by rw [HGD.out, HH.out, decide_eq_false h0])))
              go_wp2_with fail
              refine (mMatchM_is hrz hxz HX2).mono ?_; rintro e w5 ⟨rfl, hb5⟩
              have O2 := box (own_below O1.out hb5)
              have B5 := box (BI.out.trans (hb5.mono BI.out.size))
              have V5 := box (Bo.below BV.out hb5 (Nat.lt_of_lt_of_le (Nat.lt_succ_self _) hsz2))
              have hsz5 : w.heap.size + 1 ≤ w5.heap.size := Nat.le_trans hsz2 hb5.size
              clear hb5 cU fU cT
              go_wp2
              go_roundw
              case rel => exact ⟨k + 1, V, by go_num, hkT, by rw [HN2.out]; exact O2.out, by rw [HN2.out]; omega, V5.out, by rw [HN2.out]; exact UV.out, hsz5, B5.out⟩
              case measure => simp [intOf]; omega
        · have hki : ¬ (k : Int) < (T.length : Int) := by omega
          have hke : k = T.length := by omega
          subst hke
          have HE : Box (filtT T (R.take (i + 1)) [] = out) := box (by rw [HN.out, HOUT.out])
          clear ST
          go_wp2
          go_roundw
          case rel => exact ⟨i + 1, V, by go_num, hlt, by rw [HE.out]; exact O1.out, by rw [HE.out]; omega, BV.out, by rw [HE.out]; exact UV.out, hsz2, BI.out⟩
          case measure => simp [intOf]; omega
    · have hii : ¬ (i : Int) < (R.length : Int) := by omega
      have HF : Box (filtT T R [] = acc) := box (by have := HACC.out; rwa [List.take_of_length_le (by omega)] at this)
      clear SR0
      go_wp2
      go_ret
      exact ⟨_, rfl, by rw [HF.out]; exact own_le O0.out (Nat.le_succ _), BL.out⟩
end
section
open Go.RowKit
def okS (x : ByteArray) : Bool := decide (x.size ≤ 100)
def keepS (L : List ByteArray) : Bool := decide (L.length ≤ 20) && L.all okS
theorem keepS_bad {L : List ByteArray} {k : Nat} (h : k < L.length) (e : ¬ L[k].size ≤ 100) : keepS L = false := by
  unfold keepS
  have : L.all okS = false := by
    rw [List.all_eq_false]
    exact ⟨L[k], List.getElem_mem h, by unfold okS; simpa using e⟩
  rw [this, Bool.and_false]
theorem keepS_long {L : List ByteArray} (h : ¬ L.length ≤ 20) : keepS L = false := by unfold keepS; rw [decide_eq_false h, Bool.false_and]
theorem keepS_more {L : List ByteArray} {k : Nat} (h : k < L.length) (ha : (L.take k).all okS = true) (e : L[k].size ≤ 100) : (L.take (k + 1)).all okS = true := by
  rw [List.take_add_one, List.getElem?_eq_getElem h, List.all_append, ha]
  simp [okS, e]
theorem keepS_end {L : List ByteArray} (ha : (L.take L.length).all okS = true) (h : L.length ≤ 20) : keepS L = true := by
  rw [List.take_length] at ha
  unfold keepS; rw [ha, decide_eq_true h]; rfl
theorem keepS_small {L : List ByteArray} (h : keepS L = true) : L.length ≤ 20 ∧ ∀ x ∈ L, x.size ≤ 100 := by
  unfold keepS at h
  rw [Bool.and_eq_true, decide_eq_true_eq, List.all_eq_true] at h
  exact ⟨h.1, fun x hx => by have := h.2 x hx; unfold okS at this; simpa using this⟩
theorem keepStrings_any (a : Option Addr) (cap : Nat) (L : List ByteArray) (w : World) (hl : L.length ≤ maxLen) (hF : Box (Ss w a L)) :
    Calls Try.prog 16 #[.slice a L.length cap] w fun e w' => e = .returned (.bool (keepS L)) ∧ w = w' := by
  unfold maxLen at hl
  go_enter Try.func16, Try.ntmps16
  go_wp2
  go_loop [3] (fun i => ∃ k : Nat, k ≤ L.length ∧ k ≤ 21 ∧ i = .int .i64 k ∧ (L.take k).all okS = true) (fun i => 21 - (intOf i).toNat)
  case atStart => exact ⟨0, Nat.zero_le _, Nat.zero_le _, rfl, rfl⟩
  case round =>
    obtain ⟨k, hk, hk71, rfl, hall⟩ := hrel
    have HA := box hall
    clear hall
    by_cases hlt : k < L.length
    · by_cases h71 : k < 21
      · obtain ⟨g, off, rfl, c0⟩ := hF.out k hlt
        by_cases e1 : L[k].size ≤ 100
        · have ei : ¬ (100 : Int) < (L[k].size : Int) := by omega
          have HN := box (keepS_more hlt HA.out e1)
          clear e1
          go_wp2
          go_round
          case rel => exact ⟨k + 1, by omega, by omega, by go_num, HN.out⟩
          case measure => simp [intOf]; omega
        · have ei : (100 : Int) < (L[k].size : Int) := by omega
          have HN := box (keepS_bad hlt e1)
          clear e1
          go_wp2
          go_ret
          exact ⟨ret_bool HN.out.symm, rfl⟩
      · go_wp2
        go_ret
        exact ⟨ret_bool (by rw [keepS_long (by omega)]; simp; omega), rfl⟩
    · have e : k = L.length := by omega
      have E := box e
      clear e
      by_cases h70 : L.length ≤ 20
      · go_wp2
        go_ret
        refine ⟨ret_bool ?_, rfl⟩
        have ha := HA.out
        rw [E.out] at ha
        rw [keepS_end ha h70]
        simp; omega
      · go_wp2
        go_ret
        exact ⟨ret_bool (by rw [keepS_long h70]; simp; omega), rfl⟩
end
section
open Go.RowKit
theorem mTag_is {s : ByteArray} {b : Bool} {w : World} (hs : s.size ≤ 65000) (h : Box (tagL s.data.toList = b)) :
    Calls Try.prog 9 #[.string s] w fun e w' => e = .returned (.bool b) ∧ Below w.heap.size w w' :=
  (mTag_any s w hs).mono fun e w' ⟨h1, h2⟩ => ⟨by rw [h1, h.out], h2⟩
theorem mRange_tis {s : ByteArray} {b : Bool} {w : World} (hs : s.size ≤ 65000) (h : Box (rangeT s.data.toList = b)) :
    Calls Try.prog 11 #[.string s] w fun e w' => e = .returned (.bool b) ∧ Below w.heap.size w w' :=
  (mRangeT_any s w hs).mono fun e w' ⟨h1, h2⟩ => ⟨by rw [h1, h.out], h2⟩
theorem mMatchT_is {r t : ByteArray} {i : Int} {w : World} (hr : r.size ≤ 65000) (ht : t.size ≤ 65000) (h : Box (matchT r.data.toList t.data.toList = i)) :
    Calls Try.prog 14 #[.string r, .string t] w fun e w' => e = .returned (.int .i64 i) ∧ Below w.heap.size w w' :=
  (mMatchT_any r t w hr ht).mono fun e w' ⟨h1, h2⟩ => ⟨by rw [h1, h.out], h2⟩
theorem mLookup_is {r : ByteArray} {a : Option Addr} {cap n : Nat} {T : List ByteArray} {i : Int} {w : World} (hr : r.size ≤ 65000) (hn : Box (T.length = n)) (hT : Box (T.length ≤ 65536)) (hz : Box (∀ i (hi : i < T.length), T[i].size ≤ 65536)) (hS : Ss w a T) (h : Box (lookT r.data.toList T = i)) :
    Calls Try.prog 20 #[.string r, .slice a n cap] w fun e w' => e = .returned (.int .i64 i) ∧ Below w.heap.size w w' := by
  have := mLookup_any r a cap T w hr hT.out hz (box hS)
  rw [hn.out, h.out] at this; exact this
theorem rLookup_is {r : ByteArray} {a : Option Addr} {cap n : Nat} {T : List ByteArray} {i : Int} {w : World} (hr : r.size ≤ 65000) (hn : Box (T.length = n)) (hT : Box (T.length ≤ 65536)) (hz : Box (∀ i (hi : i < T.length), T[i].size ≤ 65536)) (hS : Ss w a T) (h : Box (lookT r.data.toList T = i)) :
    Calls Try.prog 21 #[.string r, .slice a n cap] w fun e w' => e = .returned (.int .i64 i) ∧ Below w.heap.size w w' := by
  have := rLookup_any r a cap T w hr hT.out hz (box hS)
  rw [hn.out, h.out] at this; exact this
/-- keep.SameInts at equal lists -/
theorem sameInts_any (a b : Option Addr) (ca cb : Nat) (L : List Nat) (w : World) (hl : L.length ≤ 65536) (hA : Box (Is w a L)) (hB : Box (Is w b L)) :
    Calls Try.prog 17 #[.slice a L.length ca, .slice b L.length cb] w fun e w' => e = .returned (.bool true) ∧ Below w.heap.size w w' := by
  have hne : ((L.length : Int) != (L.length : Int)) = false := by simp
  go_enter Try.func17, Try.ntmps17
  go_wp2
  go_loopw [5] (fun i wr => ∃ k : Nat, i = .int .i64 k ∧ k ≤ L.length ∧ Below w.heap.size w wr) (fun i _ => L.length - (intOf i).toNat)
  case atStart => exact ⟨0, rfl, Nat.zero_le _, Below.refl _ _⟩
  case round =>
    obtain ⟨k, rfl, hk, hb⟩ := hrel
    have BL := box hb
    by_cases hlt : k < L.length
    · have hki : (k : Int) < (L.length : Int) := by omega
      obtain ⟨g, off, rfl, c0⟩ := hA.out.below hb k hlt
      obtain ⟨g', off', rfl, c1⟩ := hB.out.below hb k hlt
      obtain ⟨z, hz⟩ : ∃ z : Int, ((L[k] : Nat) : Int) = z := ⟨_, rfl⟩
      unfold intV at c0 c1
      rw [hz] at c0 c1
      have hzz : (z != z) = false := by simp
      clear hb hz
      go_wp2
      go_region
      all_goals
        go_wp2
        go_roundw
        case rel => exact ⟨k + 1, by go_num, hlt, BL.out.trans ((below_drewN _ _).mono BL.out.size)⟩
        case measure => simp [intOf]; omega
    · have hki : ¬ (k : Int) < (L.length : Int) := by omega
      go_wp2
      go_ret
      exact ⟨rfl, BL.out⟩
theorem ss_two (a b : ByteArray) (w : World) (t : TypeId) : Ss (w.alloc (.cells #[.string a, .string b] t)) (some ⟨w.heap.size, 0, none⟩) [a, b] := by
  intro i hi
  refine ⟨w.heap.size, 0, rfl, ?_⟩
  rw [World.cell?_alloc_mark]
  match i, hi with
  | 0, _ => rfl
  | 1, _ => rfl
theorem ss_one11 (a : ByteArray) (w : World) (t : TypeId) : Ss (w.alloc (.cells #[.string a] t)) (some ⟨w.heap.size, 0, none⟩) [a] := by
  intro i hi
  refine ⟨w.heap.size, 0, rfl, ?_⟩
  rw [World.cell?_alloc_mark]
  match i, hi with
  | 0, _ => rfl
def awR : ByteArray := ⟨#[122, 104, 45, 72, 97, 110, 116, 45, 120, 45, 97, 98, 99]⟩
def awT1 : List ByteArray := [⟨#[122, 104]⟩, ⟨#[122, 104, 45, 72, 97, 110, 116]⟩]
theorem aw11_look : lookT awR.data.toList awT1 = 1 := by decide +kernel
theorem aw11_match : matchT (⟨#[100, 101]⟩ : ByteArray).data.toList (⟨#[100, 101, 45, 67, 72]⟩ : ByteArray).data.toList = 1 := by decide +kernel
theorem aw11_small : ∀ i (hi : i < awT1.length), awT1[i].size ≤ 65536 := by
  intro i hi
  match i, hi with
  | 0, _ => show 2 ≤ 65536; omega
  | 1, _ => show 7 ≤ 65536; omega
theorem awake11_any (w : World) : Calls Try.prog 13 #[] w fun e w' => e = .returned (.bool true) ∧ Below w.heap.size w w' := by
  have HL := box aw11_look
  have HM := box aw11_match
  have HS := box aw11_small
  have hz : awR.size ≤ 65000 := by decide
  go_enter Try.func13, Try.ntmps13
  go_wp2_with fail
  refine (mLookup_is (r := awR) (T := awT1) hz (box rfl) (box (by decide)) HS (ss_two _ _ _ _) HL).mono ?_; rintro e w1 ⟨rfl, hb1⟩
  have B1 := box ((below_new w _).trans (hb1.mono (below_new w _).size))
  clear hb1
  go_wp2_with fail
  refine (mMatchT_is (by decide) (by decide) HM).mono ?_; rintro e w2 ⟨rfl, hb2⟩
  have B2 := box (B1.out.trans (hb2.mono B1.out.size))
  clear hb2
  go_wp2
  go_ret
  exact ⟨rfl, B2.out⟩
theorem tags11_walk (s : ByteArray) (w : World) (S : s.size ≤ maxLen) :
    Calls Try.prog 3 #[.string s] w fun e w' => e = .returned (.bool true) ∧ Below w.heap.size w w' := by
  unfold maxLen at S
  by_cases h : 2000 < s.size
  · have hi : (2000 : Int) < (s.size : Int) := by omega
    go_enter Try.func3, Try.ntmps3
    go_wp2
    go_ret
    exact ⟨rfl, Below.refl _ _⟩
  · have hi : ¬ (2000 : Int) < (s.size : Int) := by omega
    have hs : s.size ≤ 65000 := by omega
    obtain ⟨b, hb⟩ : ∃ b, tagL s.data.toList = b := ⟨_, rfl⟩
    obtain ⟨c, hc⟩ : ∃ c, rangeT s.data.toList = c := ⟨_, rfl⟩
    have HB := box hb
    have HC := box hc
    have e1 : (b == b) = true := by simp
    have e2 : (c == c) = true := by simp
    clear hb hc
    go_enter Try.func3, Try.ntmps3
    go_wp2_with fail
    refine (mTag_is hs HB).mono ?_; rintro e w1 ⟨rfl, hb1⟩
    have B1 := box hb1
    clear hb1
    go_wp2_with fail
    refine (rTag_is hs HB).mono ?_; rintro e w2 ⟨rfl, hb2⟩
    have B2 := box (B1.out.trans (hb2.mono B1.out.size))
    clear hb2
    go_wp2_with fail
    refine (mRange_tis hs HC).mono ?_; rintro e w3 ⟨rfl, hb3⟩
    have B3 := box (B2.out.trans (hb3.mono B2.out.size))
    clear hb3
    go_wp2_with fail
    refine (rRange_tis hs HC).mono ?_; rintro e w4 ⟨rfl, hb4⟩
    have B4 := box (B3.out.trans (hb4.mono B3.out.size))
    clear hb4
    go_wp2_with fail
    refine (awake11_any _).mono ?_; rintro e w5 ⟨rfl, hb5⟩
    have B5 := box (B4.out.trans (hb5.mono B4.out.size))
    clear hb5
    go_wp2
    go_ret
    exact ⟨rfl, B5.out⟩
theorem matches11_walk (r t : ByteArray) (w : World) (S : r.size ≤ maxLen) (S2 : t.size ≤ maxLen) :
    Calls Try.prog 4 #[.string r, .string t] w fun e w' => e = .returned (.bool true) ∧ Below w.heap.size w w' := by
  unfold maxLen at S S2
  by_cases h : 1000 < r.size
  · have hi : (1000 : Int) < (r.size : Int) := by omega
    go_enter Try.func4, Try.ntmps4
    go_wp2
    go_ret
    exact ⟨rfl, Below.refl _ _⟩
  · have hi : ¬ (1000 : Int) < (r.size : Int) := by omega
    by_cases h2 : 1000 < t.size
    · have hi2 : (1000 : Int) < (t.size : Int) := by omega
      go_enter Try.func4, Try.ntmps4
      go_wp2
      go_ret
      exact ⟨rfl, Below.refl _ _⟩
    · have hi2 : ¬ (1000 : Int) < (t.size : Int) := by omega
      have hr : r.size ≤ 65000 := by omega
      have ht : t.size ≤ 65000 := by omega
      obtain ⟨m, hm⟩ : ∃ m, matchT r.data.toList t.data.toList = m := ⟨_, rfl⟩
      have HM := box hm
      have e1 : (m == m) = true := by simp
      clear hm
      go_enter Try.func4, Try.ntmps4
      go_wp2_with fail
      refine (mMatchT_is hr ht HM).mono ?_; rintro e w1 ⟨rfl, hb1⟩
      have B1 := box hb1
      clear hb1
      go_wp2_with fail
      refine (rMatchT_is hr ht HM).mono ?_; rintro e w2 ⟨rfl, hb2⟩
      have B2 := box (B1.out.trans (hb2.mono B1.out.size))
      clear hb2
      go_wp2_with fail
      refine (awake11_any _).mono ?_; rintro e w3 ⟨rfl, hb3⟩
      have B3 := box (B2.out.trans (hb3.mono B2.out.size))
      clear hb3
      go_wp2
      go_ret
      exact ⟨rfl, B3.out⟩
end
section
open Go.RowKit
/-- what keep.Strings says of a list -/
theorem keepS_bounds {L : List ByteArray} (h : keepS L = true) : L.length ≤ 20 ∧ (∀ i (hi : i < L.length), L[i].size ≤ 100) := by
  obtain ⟨h1, h2⟩ := keepS_small h
  exact ⟨h1, fun i hi => h2 _ (List.getElem_mem hi)⟩
theorem mFilter_is {a a' : Option Addr} {cap cap' : Nat} {R T : List ByteArray} {K : List Nat} {w : World} (hR : R.length ≤ 200) (hT : T.length ≤ 200) (hzR : Box (∀ i (hi : i < R.length), R[i].size ≤ 65000)) (hzT : Box (∀ i (hi : i < T.length), T[i].size ≤ 65000)) (hSR : Ss w a R) (hST : Ss w a' T) (h : Box (filtT T R [] = K)) :
    Calls Try.prog 18 #[.slice a R.length cap, .slice a' T.length cap'] w fun e w' => ∃ p c, e = .returned (.slice p K.length c) ∧ Is w' p K ∧ Below w.heap.size w w' :=
  (mFilter_any a a' cap cap' R T w hR hT hzR hzT (box hSR) (box hST)).mono fun e w' ⟨v, h1, h2, h3⟩ => by
    rw [h.out] at h2
    obtain ⟨p, c, rfl, hI, _⟩ := h2.is
    exact ⟨p, c, h1, hI, h3⟩
theorem rFilter_is {a a' : Option Addr} {cap cap' : Nat} {R T : List ByteArray} {K : List Nat} {w : World} (hR : R.length ≤ 200) (hT : T.length ≤ 200) (hzR : Box (∀ i (hi : i < R.length), R[i].size ≤ 65000)) (hzT : Box (∀ i (hi : i < T.length), T[i].size ≤ 65000)) (hSR : Ss w a R) (hST : Ss w a' T) (h : Box (filtT T R [] = K)) :
    Calls Try.prog 19 #[.slice a R.length cap, .slice a' T.length cap'] w fun e w' => ∃ p c, e = .returned (.slice p K.length c) ∧ Is w' p K ∧ Below w.heap.size w w' :=
  (rFilter_any a a' cap cap' R T w hR hT hzR hzT (box hSR) (box hST)).mono fun e w' ⟨v, h1, h2, h3⟩ => by
    rw [h.out] at h2
    obtain ⟨p, c, rfl, hI, _⟩ := h2.is
    exact ⟨p, c, h1, hI, h3⟩
theorem filt_len {T : List ByteArray} : ∀ (R : List ByteArray) (acc : List Nat), (filtT T R acc).length ≤ acc.length + R.length * T.length
  | [], acc => by simp [filtT]
  | r :: R, acc => by
    have ih := filt_len (T := T) R (acc ++ oneT r T acc T.length)
    have h1 : (oneT r T acc T.length).length ≤ T.length := by
      unfold oneT
      exact Nat.le_trans (List.length_filter_le _ _) (by simp)
    rw [List.length_append] at ih
    have e : (R.length + 1) * T.length = R.length * T.length + T.length := by rw [Nat.add_mul, Nat.one_mul]
    show (filtT T R (acc ++ oneT r T acc T.length)).length ≤ acc.length + (R.length + 1) * T.length
    omega
theorem filt_small {T R : List ByteArray} (hR : R.length ≤ 20) (hT : T.length ≤ 20) : (filtT T R []).length ≤ 400 := by
  have := filt_len (T := T) R []
  have h2 : R.length * T.length ≤ 20 * 20 := Nat.mul_le_mul hR hT
  simp only [List.length_nil] at this
  omega
set_option maxHeartbeats 1000000 in
theorem selects11_walk (r : ByteArray) (a : Option Addr) (cap : Nat) (R : List ByteArray) (a' : Option Addr) (cap' : Nat) (T : List ByteArray) (w : World) (S : r.size ≤ maxLen)
    (hl : R.length ≤ maxLen) (hF : Ss w a R) (hc : R.length ≤ cap) (hl' : T.length ≤ maxLen) (hF' : Ss w a' T) (hc' : T.length ≤ cap') :
    Calls Try.prog 5 #[.string r, .slice a R.length cap, .slice a' T.length cap'] w fun e w' => e = .returned (.bool true) ∧ Below w.heap.size w w' := by
  have F0 := box hF
  have G0 := box hF'
  have HL := box hl
  have HL' := box hl'
  clear hF hF' hl hl' hc hc'
  unfold maxLen at S
  by_cases h : 300 < r.size
  · have hi : (300 : Int) < (r.size : Int) := by omega
    go_enter Try.func5, Try.ntmps5
    go_wp2
    go_ret
    exact ⟨rfl, Below.refl _ _⟩
  · have hi : ¬ (300 : Int) < (r.size : Int) := by omega
    rcases hk1 : keepS R with _ | _
    · have HK := box hk1
      clear hk1
      go_enter Try.func5, Try.ntmps5
      go_wp2_with fail
      refine (keepStrings_any a cap R _ HL.out F0).mono ?_; rintro e w1 ⟨rfl, rfl⟩; rw [HK.out]
      go_wp2
      go_ret
      exact ⟨rfl, Below.refl _ _⟩
    · have HK := box hk1
      rcases hk2 : keepS T with _ | _
      · have HK2 := box hk2
        clear hk1 hk2
        go_enter Try.func5, Try.ntmps5
        go_wp2_with fail
        refine (keepStrings_any a cap R _ HL.out F0).mono ?_; rintro e w1 ⟨rfl, rfl⟩; rw [HK.out]
        go_wp2_with fail
        refine (keepStrings_any a' cap' T _ HL'.out G0).mono ?_; rintro e w1 ⟨rfl, rfl⟩; rw [HK2.out]
        go_wp2
        go_ret
        exact ⟨rfl, Below.refl _ _⟩
      · have HK2 := box hk2
        obtain ⟨b1, b2⟩ := keepS_bounds hk1
        obtain ⟨d1, d2⟩ := keepS_bounds hk2
        have hR : R.length ≤ 200 := by omega
        have hT : T.length ≤ 200 := by omega
        have zR : Box (∀ i (hi : i < R.length), R[i].size ≤ 65000) := box (fun i hi => by have := b2 i hi; omega)
        have zT : Box (∀ i (hi : i < T.length), T[i].size ≤ 65000) := box (fun i hi => by have := d2 i hi; omega)
        have zT6 : Box (∀ i (hi : i < T.length), T[i].size ≤ 65536) := box (fun i hi => by have := d2 i hi; omega)
        have hT6 : Box (T.length ≤ 65536) := box (by omega)
        have hr : r.size ≤ 65000 := by omega
        have hsm := filt_small b1 d1
        obtain ⟨K, hK⟩ : ∃ K, filtT T R [] = K := ⟨_, rfl⟩
        rw [hK] at hsm
        have hK6 : K.length ≤ 65536 := by omega
        obtain ⟨m, hm⟩ : ∃ m, lookT r.data.toList T = m := ⟨_, rfl⟩
        have HKK := box hK
        have HM := box hm
        have e1 : (m == m) = true := by simp
        clear hk1 hk2 b2 d2 hK hm
        go_enter Try.func5, Try.ntmps5
        go_wp2_with fail
        refine (keepStrings_any a cap R _ HL.out F0).mono ?_; rintro e w1 ⟨rfl, rfl⟩; rw [HK.out]
        go_wp2_with fail
        refine (keepStrings_any a' cap' T _ HL'.out G0).mono ?_; rintro e w1 ⟨rfl, rfl⟩; rw [HK2.out]
        go_wp2_with fail
        refine (mFilter_is hR hT zR zT F0.out G0.out HKK).mono ?_; rintro e w1 ⟨p1, c1, rfl, hI1, hb1⟩
        have B1 := box hb1
        have F1 := box (F0.out.below hb1)
        have G1 := box (G0.out.below hb1)
        have I1 := box hI1
        clear hb1 hI1
        go_wp2_with fail
        refine (rFilter_is hR hT zR zT F1.out G1.out HKK).mono ?_; rintro e w2 ⟨p2, c2, rfl, hI2, hb2⟩
        have B2 := box (B1.out.trans (hb2.mono B1.out.size))
        have G2 := box (G1.out.below hb2)
        have J1 := box (I1.out.below hb2)
        have I2 := box hI2
        clear hb2 hI2
        go_wp2_with fail
        refine (sameInts_any p1 p2 c1 c2 K _ hK6 J1 I2).mono ?_; rintro e w3 ⟨rfl, hb3⟩
        have B3 := box (B2.out.trans (hb3.mono B2.out.size))
        have G3 := box (G2.out.below hb3)
        clear hb3
        go_wp2_with fail
        refine (mLookup_is hr (box rfl) hT6 zT6 G3.out HM).mono ?_; rintro e w4 ⟨rfl, hb4⟩
        have B4 := box (B3.out.trans (hb4.mono B3.out.size))
        have G4 := box (G3.out.below hb4)
        clear hb4
        go_wp2_with fail
        refine (rLookup_is hr (box rfl) hT6 zT6 G4.out HM).mono ?_; rintro e w5 ⟨rfl, hb5⟩
        have B5 := box (B4.out.trans (hb5.mono B4.out.size))
        clear hb5
        go_wp2_with fail
        refine (awake11_any _).mono ?_; rintro e w6 ⟨rfl, hb6⟩
        have B6 := box (B5.out.trans (hb6.mono B5.out.size))
        clear hb6
        go_wp2
        go_ret
        exact ⟨rfl, B6.out⟩
end
section
open Go.RowKit Go.ChangeShapes Go.WideShapes Go.Deep
def strOf : Value → ByteArray
  | .string s => s
  | _ => ByteArray.empty
theorem laid : laidOutB Try.prog = true := by kernel_rfl
end
section
open Go.RowKit Go.ChangeShapes Go.WideShapes Go.Deep
theorem open_strings {H : Type} {enc : TypeId × Value → H} {W : World} {base : Nat} {sp : Nat → Bool} {held : Bool} {r : Reach} {b0 : Nat} {v : Value} {d : DataW H} {p : List MemPlace}
    (hval : Value.okWide Try.prog W r b0 26 v) (h : DataW.Trod enc Try.prog W base sp held 26 v d p) :
    ∃ (a : Option Addr) (cap : Nat) (L : List ByteArray), v = .slice a L.length cap ∧ L.length ≤ maxLen ∧ Ss W a L ∧ L.length ≤ cap := by
  obtain ⟨a0, len, cap, rfl⟩ := okWide_slice Try.underlying26 hval
  obtain ⟨fuel, hf⟩ := h
  rcases open_slice1 Try.underlying26 (by kernel_rfl) hf with ⟨hcs, hx⟩ | ⟨a, len', cap', m, n, V, D, Pl, hcs, _, hl, hm, hmm, hx, hi⟩
  · simp [Value.cells] at hcs
    obtain ⟨rfl, rfl, rfl⟩ := hcs
    exact ⟨none, 0, [], rfl, Nat.zero_le _, fun i hi => absurd hi (by simp), Nat.le_refl _⟩
  · simp [Value.cells] at hcs
    obtain ⟨rfl, rfl, rfl⟩ := hcs
    have hlm : len ≤ m := by rw [hmm]; split <;> omega
    refine ⟨some a, cap, (List.range len).map fun i => strOf (V i), by simp, by simp; omega, fun i hi2 => ?_, by simp; omega⟩
    have hil : i < len := by simpa using hi2
    obtain ⟨g, off, spot⟩ := a
    obtain ⟨z0, _⟩ := hi 0 (by omega)
    have hspot : spot = none := by simpa [Addr.add] using World.cell?_spot z0
    subst hspot
    obtain ⟨k0, t0⟩ := hi i (by omega)
    obtain ⟨s0, e0, _, _⟩ := DataW.trod_string Try.underlying9 t0
    rw [add_plain] at k0
    simp at e0
    refine ⟨g, off, rfl, ?_⟩
    rw [k0, e0]; simp [strOf, e0]
end
section
open Go.RowKit
theorem rLow11_is {s x : ByteArray} {w : World} (hs : s.size ≤ 4294967296) (h : Box (bs (lowL s.data.toList) = x)) :
    Calls Try.prog 22 #[.string s] w fun e w' => e = .returned (.string x) ∧ Below w.heap.size w w' :=
  (rLower_any s w hs).mono fun e w' ⟨h1, h2⟩ => ⟨by rw [h1, ← h.out]; rfl, h2⟩
theorem one_small {t : ByteArray} (h : t.size ≤ 65536) : ∀ i (hi : i < [t].length), [t][i].size ≤ 65536 := by
  intro i hi
  match i, hi with
  | 0, _ => exact h
set_option maxHeartbeats 1000000 in
theorem cases11_walk (r t : ByteArray) (w : World) (S : r.size ≤ maxLen) (S2 : t.size ≤ maxLen) :
    Calls Try.prog 6 #[.string r, .string t] w fun e w' => e = .returned (.bool true) ∧ Below w.heap.size w w' := by
  unfold maxLen at S S2
  by_cases h : 300 < r.size
  · have hi : (300 : Int) < (r.size : Int) := by omega
    go_enter Try.func6, Try.ntmps6
    go_wp2
    go_ret
    exact ⟨rfl, Below.refl _ _⟩
  · have hi : ¬ (300 : Int) < (r.size : Int) := by omega
    by_cases h2 : 300 < t.size
    · have hi2 : (300 : Int) < (t.size : Int) := by omega
      go_enter Try.func6, Try.ntmps6
      go_wp2
      go_ret
      exact ⟨rfl, Below.refl _ _⟩
    · have hi2 : ¬ (300 : Int) < (t.size : Int) := by omega
      obtain ⟨x, hx⟩ : ∃ x, bs (lowL r.data.toList) = x := ⟨_, rfl⟩
      obtain ⟨y, hy⟩ : ∃ y, bs (lowL t.data.toList) = y := ⟨_, rfl⟩
      have hxz : x.size ≤ 300 := by rw [← hx, bs_size, lowL_len2]; simp; omega
      have hyz : y.size ≤ 300 := by rw [← hy, bs_size, lowL_len2]; simp; omega
      obtain ⟨m, hm⟩ : ∃ m, matchT r.data.toList t.data.toList = m := ⟨_, rfl⟩
      obtain ⟨l, hl⟩ : ∃ l, lookT r.data.toList [t] = l := ⟨_, rfl⟩
      have HM := box hm
      have HL := box hl
      have HM2 : Box (matchT x.data.toList y.data.toList = m) := box (by rw [← hx, ← hy, bs_toList, bs_toList, match_low, hm])
      have HL2 : Box (lookT x.data.toList [y] = l) := box (by
        have e := look_low r.data.toList [t]
        rw [List.map_cons, List.map_nil, hy, hl] at e
        rw [← hx, bs_toList, e])
      have HX := box hx
      have HY := box hy
      have hr : r.size ≤ 65000 := by omega
      have ht : t.size ≤ 65000 := by omega
      have hx6 : x.size ≤ 65000 := by omega
      have hy6 : y.size ≤ 65000 := by omega
      have hr4 : r.size ≤ 4294967296 := by omega
      have ht4 : t.size ≤ 4294967296 := by omega
      have zt := box (one_small (t := t) (by omega))
      have zy := box (one_small (t := y) (by omega))
      have e1 : (m == m) = true := by simp
      have e2 : (l == l) = true := by simp
      clear hx hy hm hl
      go_enter Try.func6, Try.ntmps6
      go_wp2_with fail
      refine (rLow11_is hr4 HX).mono ?_; rintro e w1 ⟨rfl, hb1⟩
      have B1 := box hb1
      clear hb1
      go_wp2_with fail
      refine (rLow11_is ht4 HY).mono ?_; rintro e w2 ⟨rfl, hb2⟩
      have B2 := box (B1.out.trans (hb2.mono B1.out.size))
      clear hb2
      go_wp2_with fail
      refine (mMatchT_is hr ht HM).mono ?_; rintro e w3 ⟨rfl, hb3⟩
      have B3 := box (B2.out.trans (hb3.mono B2.out.size))
      clear hb3
      go_wp2_with fail
      refine (mMatchT_is hx6 hy6 HM2).mono ?_; rintro e w4 ⟨rfl, hb4⟩
      have B4 := box (B3.out.trans (hb4.mono B3.out.size))
      clear hb4
      go_wp2_with fail
      refine (mLookup_is (T := [t]) hr (box rfl) (box (by simp)) zt (ss_one11 _ _ _) HL).mono ?_; rintro e w5 ⟨rfl, hb5⟩
      have B5 := box ((B4.out.alloc B4.out.size _).trans (hb5.mono (B4.out.alloc B4.out.size _).size))
      clear hb5
      go_wp2_with fail
      refine (mLookup_is (T := [y]) hx6 (box rfl) (box (by simp)) zy (ss_one11 _ _ _) HL2).mono ?_; rintro e w6 ⟨rfl, hb6⟩
      have B6 := box ((B5.out.alloc B5.out.size _).trans (hb6.mono (B5.out.alloc B5.out.size _).size))
      clear hb6
      go_wp2_with fail
      refine (awake11_any _).mono ?_; rintro e w7 ⟨rfl, hb7⟩
      have B7 := box (B6.out.trans (hb7.mono B6.out.size))
      clear hb7
      go_wp2
      go_ret
      exact ⟨rfl, B7.out⟩
end
end Go.Proofs.Ytcjngcafaenhbaa.Asc
