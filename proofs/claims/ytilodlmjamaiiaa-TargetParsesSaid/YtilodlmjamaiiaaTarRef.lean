/- The contracts of the reference's letter, Hex and Authority. -/
import Derived.Test.YtilodlmjamaiiaaTarUri
import Derived.Test.YtilodlmjamaiiaaStaCut
import Derived.Test.YtilodlmjamaiiaaAscLow
import Derived.Test.YtilodlmjamaiiaaAscNum
set_option linter.unusedVariables false
set_option linter.unusedSimpArgs false
namespace Go.Proofs.Ytilodlmjamaiiaa.Asc
open Go.RowKit

theorem rletter_any (c : UInt8) (w : World) :
    Calls Try.prog 31 #[.int .u8 c.toNat] w fun e w' => e = .returned (.bool (alnumI c.toNat)) ∧ w = w' := by
  have hc := c.toNat_lt
  go_enter Try.func31, Try.ntmps31
  go_wp2_with (go_at_call 49; refine (rDigit_any _ _ (by omega) (by omega)).mono ?_; rintro e w1 ⟨rfl, rfl⟩)
  all_goals (go_ret; exact ⟨ret_bool (by rw [Bool.eq_iff_iff]; simp [alnumI, letterI, digitI] <;> omega), rfl⟩)
theorem rHex_any (c : UInt8) (w : World) :
    Calls Try.prog 36 #[.int .u8 c.toNat] w fun e w' => e = .returned (.int .i64 (hexI c.toNat)) ∧ w = w' := by
  have hc := c.toNat_lt
  go_enter Try.func36, Try.ntmps36
  go_wp2_with (go_at_call 49; refine (rDigit_any _ _ (by omega) (by omega)).mono ?_; rintro e w1 ⟨rfl, rfl⟩)
  · have hd : digitI c.toNat = true := by assumption
    have hb := digitI_bd hd
    go_ret
    exact ⟨ret_int (by unfold hexI; rw [if_pos hd]; omega), rfl⟩
  all_goals
    have hd : digitI c.toNat = false := by assumption
    go_ret
    exact ⟨ret_int (by unfold hexI; rw [hd]; simp only [Bool.false_eq_true, if_false]; split <;> (try split) <;> omega), rfl⟩

def authV : Option (List UInt8 × Int) → Value
  | none => .tuple #[.string ⟨#[]⟩, .int .i64 0, .bool false]
  | some (x, n) => .tuple #[.string (bs x), .int .i64 n, .bool true]
theorem ret_auth {a b : Option (List UInt8 × Int)} (h : a = b) : Ending.returned (authV a) = .returned (authV b) := by rw [h]
theorem auth_port {l : List UInt8} (h : portL (cut2 58 l) = none) : authL l = none := by unfold authL; rw [h]
theorem auth_bad {l : List UInt8} (h : hostOk (cut1 58 l) = false) : authL l = none := by
  unfold authL
  split
  · rw [if_neg (by rw [h]; simp)]
  · rfl
theorem auth_good {l : List UInt8} {n : Int} (hp : portL (cut2 58 l) = some n) (h : hostOk (cut1 58 l) = true) : authL l = some (lowL (cut1 58 l), n) := by
  unfold authL; rw [hp]; simp only [h, if_true]
theorem hostOk_not {s : ByteArray} {k : Nat} (hk : k < s.size) (hp : hostI (s[k].toNat) = false) : hostOk s.data.toList = false := by
  unfold hostOk; rw [all_not hk hp]; simp
theorem hostOk_end {s : ByteArray} {k : Nat} (h : allI hostI (s.data.toList.take k) = true) (hk : s.size ≤ k) : hostOk s.data.toList = !s.toList.isEmpty := by
  unfold hostOk; rw [all_end h hk, toList_data]; simp
set_option maxHeartbeats 800000 in
theorem rAuth_none (s : ByteArray) (w : World) (hs : s.size ≤ 65536) (HI : Box (idxF s.data.toList 58 0 = -1)) (H1 : Box (cut1 58 s.data.toList = s.data.toList)) (HP : Box (portL (cut2 58 s.data.toList) = some 80)) :
    Calls Try.prog 14 #[.string s] w fun e w' => e = .returned (authV (authL s.data.toList)) ∧ Below w.heap.size w w' := by
  have S : Box (s.size ≤ maxLen) := box (by unfold maxLen; omega)
  go_enter Try.func14, Try.ntmps14
  go_wp2_with fail
  refine (rIndex_any s 58 58 0 _ S.out (Nat.zero_le _) rfl).mono ?_; rintro e w1 ⟨rfl, rfl⟩; rw [HI.out]
  go_wp2
  go_loop [11] (fun i => ∃ k : Nat, k ≤ s.size ∧ i = .int .i64 k ∧ allI hostI (s.data.toList.take k) = true) (fun i => s.size - (intOf i).toNat)
  case atStart => exact ⟨0, Nat.zero_le _, rfl, rfl⟩
  case round =>
    obtain ⟨k, hk, rfl, hall⟩ := hrel
    have HA := box hall
    clear hall
    by_cases hlt : k < s.size
    · rcases ha : alnumI (s[k].toNat) with _ | _
      · have HAL := box ha
        clear ha
        go_wp2_with fail
        refine (rletter_any s[k] _).mono ?_; rintro e w1 ⟨rfl, rfl⟩; rw [HAL.out]
        go_wp2
        · have q : (s[k].toNat : Int) = 45 := by assumption
          have e1 : hostI (s[k].toNat) = true := by unfold hostI; simp [q]
          have E1 := box (all_more HA.out hlt e1)
          clear e1
          go_round
          case rel => exact ⟨k + 1, by omega, by go_num, E1.out⟩
          case measure => simp [intOf]; omega
        · have q : ((s[k].toNat : Int) != 45) = true ∧ ((s[k].toNat : Int) != 46) = true := by assumption
          have e1 : hostI (s[k].toNat) = false := by
            unfold hostI; rw [HAL.out]
            simp only [bne_iff_ne] at q
            simp only [Bool.false_or, Bool.or_eq_false_iff, beq_eq_false_iff_ne]
            exact q
          go_ret3
          exact ⟨ret_auth (auth_bad (by rw [H1.out]; exact hostOk_not hlt e1)).symm, Below.refl _ _⟩
        · have q1 : ¬ (s[k].toNat : Int) = 45 := by assumption
          have q : ((s[k].toNat : Int) != 45) = false ∨ ((s[k].toNat : Int) != 46) = false := by assumption
          have e1 : hostI (s[k].toNat) = true := by
            unfold hostI
            simp at q
            simp; omega
          have E1 := box (all_more HA.out hlt e1)
          clear e1
          go_round
          case rel => exact ⟨k + 1, by omega, by go_num, E1.out⟩
          case measure => simp [intOf]; omega
      · have e1 : hostI (s[k].toNat) = true := by unfold hostI; rw [ha]; rfl
        have E1 := box (all_more HA.out hlt e1)
        have HAL := box ha
        clear e1 ha
        go_wp2_with fail
        refine (rletter_any s[k] _).mono ?_; rintro e w1 ⟨rfl, rfl⟩; rw [HAL.out]
        go_wp2
        go_round
        case rel => exact ⟨k + 1, by omega, by go_num, E1.out⟩
        case measure => simp [intOf]; omega
    · have E1 := box (hostOk_end HA.out (by omega))
      rcases he : s.toList.isEmpty with _ | _
      · have HE := box he
        go_wp2_with fail
        refine (rLower_any s _ (by omega)).mono ?_; rintro e w1 ⟨rfl, hb1⟩
        go_wp2
        go_ret3
        refine ⟨ret_auth (a := some (lowL s.data.toList, 80)) ?_, hb1⟩
        rw [auth_good HP.out (by rw [H1.out, E1.out, HE.out]; rfl), H1.out]
      · have HE := box he
        go_wp2
        go_ret3
        exact ⟨ret_auth (auth_bad (by rw [H1.out, E1.out, HE.out]; rfl)).symm, Below.refl _ _⟩
set_option maxHeartbeats 800000 in
theorem rAuth_empty (s : ByteArray) (w : World) (hs : s.size ≤ 65536) (o : Nat) (ho : o < s.size) (x p : ByteArray) (hx : x.size ≤ 65536) (hp : p.size ≤ 65536) (HI : Box (idxF s.data.toList 58 0 = (o : Int))) (HX : Box (s.extract 0 o = x)) (HQ : Box (s.extract (o + 1) s.size = p)) (H1 : Box (cut1 58 s.data.toList = x.data.toList)) (hE : (s.extract (o + 1) s.size).toList.isEmpty = true) (HP : Box (portL (cut2 58 s.data.toList) = some 80)) :
    Calls Try.prog 14 #[.string s] w fun e w' => e = .returned (authV (authL s.data.toList)) ∧ Below w.heap.size w w' := by
  have S : Box (s.size ≤ maxLen) := box (by unfold maxLen; omega)
  have PP : Box (p.size ≤ maxLen) := box (by unfold maxLen; omega)
  go_enter Try.func14, Try.ntmps14
  go_wp2_with fail
  refine (rIndex_any s 58 58 0 _ S.out (Nat.zero_le _) rfl).mono ?_; rintro e w1 ⟨rfl, rfl⟩; rw [HI.out]
  go_wp2
  rw [HX.out]
  clear hE
  go_loop [11] (fun i => ∃ k : Nat, k ≤ x.size ∧ i = .int .i64 k ∧ allI hostI (x.data.toList.take k) = true) (fun i => x.size - (intOf i).toNat)
  case atStart => exact ⟨0, Nat.zero_le _, rfl, rfl⟩
  case round =>
    obtain ⟨k, hk, rfl, hall⟩ := hrel
    have HA := box hall
    clear hall
    by_cases hlt : k < x.size
    · rcases ha : alnumI (x[k].toNat) with _ | _
      · have HAL := box ha
        clear ha
        go_wp2_with fail
        refine (rletter_any x[k] _).mono ?_; rintro e w1 ⟨rfl, rfl⟩; rw [HAL.out]
        go_wp2
        · have q : (x[k].toNat : Int) = 45 := by assumption
          have e1 : hostI (x[k].toNat) = true := by unfold hostI; simp [q]
          have E1 := box (all_more HA.out hlt e1)
          clear e1
          go_round
          case rel => exact ⟨k + 1, by omega, by go_num, E1.out⟩
          case measure => simp [intOf]; omega
        · have q : ((x[k].toNat : Int) != 45) = true ∧ ((x[k].toNat : Int) != 46) = true := by assumption
          have e1 : hostI (x[k].toNat) = false := by
            unfold hostI; rw [HAL.out]
            simp only [bne_iff_ne] at q
            simp only [Bool.false_or, Bool.or_eq_false_iff, beq_eq_false_iff_ne]
            exact q
          go_ret3
          exact ⟨ret_auth (auth_bad (by rw [H1.out]; exact hostOk_not hlt e1)).symm, Below.refl _ _⟩
        · have q1 : ¬ (x[k].toNat : Int) = 45 := by assumption
          have q : ((x[k].toNat : Int) != 45) = false ∨ ((x[k].toNat : Int) != 46) = false := by assumption
          have e1 : hostI (x[k].toNat) = true := by
            unfold hostI
            simp at q
            simp; omega
          have E1 := box (all_more HA.out hlt e1)
          clear e1
          go_round
          case rel => exact ⟨k + 1, by omega, by go_num, E1.out⟩
          case measure => simp [intOf]; omega
      · have e1 : hostI (x[k].toNat) = true := by unfold hostI; rw [ha]; rfl
        have E1 := box (all_more HA.out hlt e1)
        have HAL := box ha
        clear e1 ha
        go_wp2_with fail
        refine (rletter_any x[k] _).mono ?_; rintro e w1 ⟨rfl, rfl⟩; rw [HAL.out]
        go_wp2
        go_round
        case rel => exact ⟨k + 1, by omega, by go_num, E1.out⟩
        case measure => simp [intOf]; omega
    · have E1 := box (hostOk_end HA.out (by omega))
      rcases he : x.toList.isEmpty with _ | _
      · have HE := box he
        go_wp2_with fail
        refine (rLower_any x _ (by omega)).mono ?_; rintro e w1 ⟨rfl, hb1⟩
        go_wp2
        go_ret3
        refine ⟨ret_auth (a := some (lowL x.data.toList, 80)) ?_, hb1⟩
        rw [auth_good HP.out (by rw [H1.out, E1.out, HE.out]; rfl), H1.out]
      · have HE := box he
        go_wp2
        go_ret3
        exact ⟨ret_auth (auth_bad (by rw [H1.out, E1.out, HE.out]; rfl)).symm, Below.refl _ _⟩
set_option maxHeartbeats 800000 in
theorem rAuth_nonum (s : ByteArray) (w : World) (hs : s.size ≤ 65536) (o : Nat) (ho : o < s.size) (x p : ByteArray) (hx : x.size ≤ 65536) (hp : p.size ≤ 65536) (HI : Box (idxF s.data.toList 58 0 = (o : Int))) (HX : Box (s.extract 0 o = x)) (HQ : Box (s.extract (o + 1) s.size = p)) (H1 : Box (cut1 58 s.data.toList = x.data.toList)) (hE : (s.extract (o + 1) s.size).toList.isEmpty = false) (HNUM : Box (numL p.data.toList = none)) (HP : Box (portL (cut2 58 s.data.toList) = none)) :
    Calls Try.prog 14 #[.string s] w fun e w' => e = .returned (authV (authL s.data.toList)) ∧ Below w.heap.size w w' := by
  have S : Box (s.size ≤ maxLen) := box (by unfold maxLen; omega)
  have PP : Box (p.size ≤ maxLen) := box (by unfold maxLen; omega)
  go_enter Try.func14, Try.ntmps14
  go_wp2_with fail
  refine (rIndex_any s 58 58 0 _ S.out (Nat.zero_le _) rfl).mono ?_; rintro e w1 ⟨rfl, rfl⟩; rw [HI.out]
  go_wp2_with fail
  rw [HQ.out]
  refine (rNumber_any p _ PP.out).mono ?_; rintro e w1 ⟨rfl, rfl⟩; rw [HNUM.out]; unfold numT numV
  go_wp2
  go_ret3
  exact ⟨ret_auth (auth_port HP.out).symm, Below.refl _ _⟩
set_option maxHeartbeats 800000 in
theorem rAuth_wide (s : ByteArray) (w : World) (hs : s.size ≤ 65536) (o : Nat) (ho : o < s.size) (x p : ByteArray) (hx : x.size ≤ 65536) (hp : p.size ≤ 65536) (HI : Box (idxF s.data.toList 58 0 = (o : Int))) (HX : Box (s.extract 0 o = x)) (HQ : Box (s.extract (o + 1) s.size = p)) (H1 : Box (cut1 58 s.data.toList = x.data.toList)) (hE : (s.extract (o + 1) s.size).toList.isEmpty = false) (n : Int) (HNUM : Box (numL p.data.toList = some n)) (HP : Box (portL (cut2 58 s.data.toList) = none)) (hw : 5 < p.size ∨ n < 1 ∨ 65535 < n) :
    Calls Try.prog 14 #[.string s] w fun e w' => e = .returned (authV (authL s.data.toList)) ∧ Below w.heap.size w w' := by
  have S : Box (s.size ≤ maxLen) := box (by unfold maxLen; omega)
  have PP : Box (p.size ≤ maxLen) := box (by unfold maxLen; omega)
  go_enter Try.func14, Try.ntmps14
  go_wp2_with fail
  refine (rIndex_any s 58 58 0 _ S.out (Nat.zero_le _) rfl).mono ?_; rintro e w1 ⟨rfl, rfl⟩; rw [HI.out]
  go_wp2_with fail
  rw [HQ.out]
  refine (rNumber_any p _ PP.out).mono ?_; rintro e w1 ⟨rfl, rfl⟩; rw [HNUM.out]; unfold numT numV
  rcases hw with hw | hw | hw
  · go_wp2
    go_ret3
    exact ⟨ret_auth (auth_port HP.out).symm, Below.refl _ _⟩
  · by_cases h5 : 5 < p.size
    · go_wp2
      go_ret3
      exact ⟨ret_auth (auth_port HP.out).symm, Below.refl _ _⟩
    · go_wp2
      go_ret3
      exact ⟨ret_auth (auth_port HP.out).symm, Below.refl _ _⟩
  · by_cases h5 : 5 < p.size
    · go_wp2
      go_ret3
      exact ⟨ret_auth (auth_port HP.out).symm, Below.refl _ _⟩
    · go_wp2
      go_ret3
      exact ⟨ret_auth (auth_port HP.out).symm, Below.refl _ _⟩
set_option maxHeartbeats 800000 in
theorem rAuth_num (s : ByteArray) (w : World) (hs : s.size ≤ 65536) (o : Nat) (ho : o < s.size) (x p : ByteArray) (hx : x.size ≤ 65536) (hp : p.size ≤ 65536) (HI : Box (idxF s.data.toList 58 0 = (o : Int))) (HX : Box (s.extract 0 o = x)) (HQ : Box (s.extract (o + 1) s.size = p)) (H1 : Box (cut1 58 s.data.toList = x.data.toList)) (hE : (s.extract (o + 1) s.size).toList.isEmpty = false) (n : Int) (HNUM : Box (numL p.data.toList = some n)) (HP : Box (portL (cut2 58 s.data.toList) = some n)) (h5 : ¬ 5 < p.size) (h1 : ¬ n < 1) (h6 : ¬ 65535 < n) :
    Calls Try.prog 14 #[.string s] w fun e w' => e = .returned (authV (authL s.data.toList)) ∧ Below w.heap.size w w' := by
  have S : Box (s.size ≤ maxLen) := box (by unfold maxLen; omega)
  have PP : Box (p.size ≤ maxLen) := box (by unfold maxLen; omega)
  go_enter Try.func14, Try.ntmps14
  go_wp2_with fail
  refine (rIndex_any s 58 58 0 _ S.out (Nat.zero_le _) rfl).mono ?_; rintro e w1 ⟨rfl, rfl⟩; rw [HI.out]
  go_wp2_with fail
  rw [HQ.out]
  refine (rNumber_any p _ PP.out).mono ?_; rintro e w1 ⟨rfl, rfl⟩; rw [HNUM.out]; unfold numT numV
  go_wp2
  rw [HX.out]
  clear hE
  go_loop [11] (fun i => ∃ k : Nat, k ≤ x.size ∧ i = .int .i64 k ∧ allI hostI (x.data.toList.take k) = true) (fun i => x.size - (intOf i).toNat)
  case atStart => exact ⟨0, Nat.zero_le _, rfl, rfl⟩
  case round =>
    obtain ⟨k, hk, rfl, hall⟩ := hrel
    have HA := box hall
    clear hall
    by_cases hlt : k < x.size
    · rcases ha : alnumI (x[k].toNat) with _ | _
      · have HAL := box ha
        clear ha
        go_wp2_with fail
        refine (rletter_any x[k] _).mono ?_; rintro e w1 ⟨rfl, rfl⟩; rw [HAL.out]
        go_wp2
        · have q : (x[k].toNat : Int) = 45 := by assumption
          have e1 : hostI (x[k].toNat) = true := by unfold hostI; simp [q]
          have E1 := box (all_more HA.out hlt e1)
          clear e1
          go_round
          case rel => exact ⟨k + 1, by omega, by go_num, E1.out⟩
          case measure => simp [intOf]; omega
        · have q : ((x[k].toNat : Int) != 45) = true ∧ ((x[k].toNat : Int) != 46) = true := by assumption
          have e1 : hostI (x[k].toNat) = false := by
            unfold hostI; rw [HAL.out]
            simp only [bne_iff_ne] at q
            simp only [Bool.false_or, Bool.or_eq_false_iff, beq_eq_false_iff_ne]
            exact q
          go_ret3
          exact ⟨ret_auth (auth_bad (by rw [H1.out]; exact hostOk_not hlt e1)).symm, Below.refl _ _⟩
        · have q1 : ¬ (x[k].toNat : Int) = 45 := by assumption
          have q : ((x[k].toNat : Int) != 45) = false ∨ ((x[k].toNat : Int) != 46) = false := by assumption
          have e1 : hostI (x[k].toNat) = true := by
            unfold hostI
            simp at q
            simp; omega
          have E1 := box (all_more HA.out hlt e1)
          clear e1
          go_round
          case rel => exact ⟨k + 1, by omega, by go_num, E1.out⟩
          case measure => simp [intOf]; omega
      · have e1 : hostI (x[k].toNat) = true := by unfold hostI; rw [ha]; rfl
        have E1 := box (all_more HA.out hlt e1)
        have HAL := box ha
        clear e1 ha
        go_wp2_with fail
        refine (rletter_any x[k] _).mono ?_; rintro e w1 ⟨rfl, rfl⟩; rw [HAL.out]
        go_wp2
        go_round
        case rel => exact ⟨k + 1, by omega, by go_num, E1.out⟩
        case measure => simp [intOf]; omega
    · have E1 := box (hostOk_end HA.out (by omega))
      rcases he : x.toList.isEmpty with _ | _
      · have HE := box he
        go_wp2_with fail
        refine (rLower_any x _ (by omega)).mono ?_; rintro e w1 ⟨rfl, hb1⟩
        go_wp2
        go_ret3
        refine ⟨ret_auth (a := some (lowL x.data.toList, n)) ?_, hb1⟩
        rw [auth_good HP.out (by rw [H1.out, E1.out, HE.out]; rfl), H1.out]
      · have HE := box he
        go_wp2
        go_ret3
        exact ⟨ret_auth (auth_bad (by rw [H1.out, E1.out, HE.out]; rfl)).symm, Below.refl _ _⟩
theorem rAuthority_any (s : ByteArray) (w : World) (hs : s.size ≤ 65536) :
    Calls Try.prog 14 #[.string s] w fun e w' => e = .returned (authV (authL s.data.toList)) ∧ Below w.heap.size w w' := by
  by_cases hi : idxF s.data.toList 58 0 < 0
  · have q := idxF_none hi
    rw [List.drop_zero] at q
    obtain ⟨c1, c2, _⟩ := cut_no q
    have q2 : idxF s.data.toList 58 0 = -1 := by unfold idxF; rw [List.drop_zero, if_pos q]
    exact rAuth_none s w hs (box q2) (box c1) (box (by rw [c2]; rfl))
  · obtain ⟨o, h1, h2, h3⟩ := idxF_some hi
    rw [List.drop_zero] at h1
    simp only [Nat.zero_add] at h2 h3
    have hz : s.data.toList.length = s.size := by simp
    rw [hz] at h3
    obtain ⟨_, c1, c2, _⟩ := cut_at h1
    have ex : s.extract 0 o = bs (cut1 58 s.data.toList) := by rw [ext_bs, List.drop_zero, c1]
    have ep : s.extract (o + 1) s.size = bs (cut2 58 s.data.toList) := by rw [ext_bs, List.take_of_length_le (by simp), c2]
    have zx : (bs (cut1 58 s.data.toList)).size ≤ 65536 := by rw [← ex, ByteArray.size_extract]; omega
    have zp : (bs (cut2 58 s.data.toList)).size ≤ 65536 := by rw [← ep, ByteArray.size_extract]; omega
    rcases he : (s.extract (o + 1) s.size).toList.isEmpty with _ | _
    · have hne : cut2 58 s.data.toList ≠ [] := by
        intro e; rw [ep, toList_bs, e] at he; cases he
      rcases hn : numL (cut2 58 s.data.toList) with _ | n
      · exact rAuth_nonum s w hs o h3 _ _ zx zp (box h2) (box ex) (box ep) (box rfl) he (box hn) (box (by unfold portL; rw [if_neg hne, hn]))
      · by_cases hw : 5 < (bs (cut2 58 s.data.toList)).size ∨ n < 1 ∨ 65535 < n
        · refine rAuth_wide s w hs o h3 _ _ zx zp (box h2) (box ex) (box ep) (box rfl) he n (box hn) (box ?_) hw
          rw [bs_size] at hw
          unfold portL; rw [if_neg hne, hn]
          simp only
          rw [if_neg (by omega)]
        · have hw2 : ¬ 5 < (bs (cut2 58 s.data.toList)).size ∧ ¬ n < 1 ∧ ¬ 65535 < n := by omega
          refine rAuth_num s w hs o h3 _ _ zx zp (box h2) (box ex) (box ep) (box rfl) he n (box hn) (box ?_) hw2.1 hw2.2.1 hw2.2.2
          rw [bs_size] at hw2
          unfold portL; rw [if_neg hne, hn]
          simp only
          rw [if_pos (by omega)]
    · have hnil : cut2 58 s.data.toList = [] := by
        rw [ep, toList_bs] at he; exact List.isEmpty_iff.mp he
      exact rAuth_empty s w hs o h3 _ _ zx zp (box h2) (box ex) (box ep) (box rfl) he (box (by rw [hnil]; rfl))

end Go.Proofs.Ytilodlmjamaiiaa.Asc
