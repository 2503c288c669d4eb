/- The contract of the reference's ParseQ. -/
import Derived.Test.YtlimfofjhedikaaDoorQvaSpec
import Derived.Test.YtlimfofjhedikaaDoorAscTok
import Derived.Test.YtlimfofjhedikaaDoorAscNum
import Derived.Test.YtlimfofjhedikaaDoorStaCut
set_option linter.unusedVariables false
set_option linter.unusedSimpArgs false
set_option maxRecDepth 100000
namespace Go.Proofs.YtlimfofjhedikaaDoor.Asc
open Go.RowKit

def qvT (o : Option Int) : Value := .tuple #[.int .i64 (qvV o).1, .bool (qvV o).2]
theorem qv_long {l : List UInt8} (h : 5 < l.length) : qvL l = none := by
  match l, h with
  | a :: r, h =>
    have h' : 5 < r.length + 1 := h
    show (if 5 < r.length + 1 ∨ ¬ (a = 48 ∨ a = 49) then none else _) = none
    rw [if_pos (Or.inl h')]
theorem qv_first {a : UInt8} {r : List UInt8} (h : ¬ (a = 48 ∨ a = 49)) : qvL (a :: r) = none := by
  show (if 5 < r.length + 1 ∨ ¬ (a = 48 ∨ a = 49) then none else _) = none
  rw [if_pos (Or.inr h)]
theorem qv_one {a : UInt8} (h : a = 48 ∨ a = 49) : qvL [a] = qvEnd (some (((a.toNat : Int) - 48) * 1000)) := by
  show (if 5 < 0 + 1 ∨ ¬ (a = 48 ∨ a = 49) then none else _) = _
  rw [if_neg (fun q => q.elim (fun q => by omega) (fun q => q h))]
/-- the weight ahead of place k -/
def wtOf (k : Nat) : Int := if k = 2 then 100 else if k = 3 then 10 else if k = 4 then 1 else 0
def QvRel (s : ByteArray) (q wt i : Value) : Prop :=
  ∃ (k : Nat) (qv : Int), i = .int .i64 k ∧ q = .int .i64 qv ∧ wt = .int .i64 (wtOf k) ∧ 2 ≤ k ∧ (k = 2 ∨ k ≤ s.size) ∧ 0 ≤ qv ∧ qv ≤ 1000 * k ∧ qvL s.data.toList = qvEnd (qvD qv (wtOf k) (s.data.toList.drop k))
theorem list_first {s : ByteArray} (h : 0 < s.size) : s.data.toList = s[0] :: s.data.toList.drop 1 := by
  have := List.drop_eq_getElem_cons (l := s.data.toList) (i := 0) (by simpa using h)
  rw [List.drop_zero] at this
  exact this
theorem list_second {s : ByteArray} (h : 1 < s.size) : s.data.toList = s[0] :: s[1] :: s.data.toList.drop 2 := by
  have h1 := list_first (s := s) (by omega)
  have := List.drop_eq_getElem_cons (l := s.data.toList) (i := 1) (by simpa using h)
  rw [this] at h1
  exact h1
theorem byte8 {c d : UInt8} (h : (c.toNat : Int) = (d.toNat : Int)) : c = d := UInt8.toNat_inj.mp (by omega)
set_option maxHeartbeats 2000000 in
theorem rParseQ_z1 (s : ByteArray) (w : World) (p0 : 0 < s.size) (h5 : s.size ≤ 5) (ha : (s[0].toNat : Int) = 48) (h1 : s.size = 1) :
    Calls Tryd.prog 7 #[.string s] w fun e w' => e = .returned (qvT (qvL s.data.toList)) ∧ w = w' := by
  have hz : s.data.toList.length = s.size := by simp
  have ha8 : s[0] = 48 ∨ s[0] = 49 := .inl (byte8 (d := 48) ha)
  have HST : Box (qvL s.data.toList = qvEnd (qvD 0 100 (s.data.toList.drop 2))) := box (by
    have e : s.data.toList = [s[0]] := by
      have := list_first p0
      rw [List.drop_of_length_le (l := s.data.toList) (i := 1) (by omega)] at this
      exact this
    rw [e, qv_one ha8, ha]; rfl)
  have i1 : ¬ (s.size : Int) < 1 := by omega
  have i2 : ¬ (5 : Int) < (s.size : Int) := by omega
  have i3 : ¬ (1 : Int) < (s.size : Int) := by omega
  clear hz ha8
  · skip
    · skip
      go_enter Tryd.func7, Tryd.ntmps7
      go_wp2
      go_loop [4, 5, 6] (fun q wt i => QvRel s q wt i) (fun _ _ i => 6 - (intOf i).toNat)
      case atStart => exact ⟨2, 0, rfl, rfl, rfl, Nat.le_refl _, .inl rfl, by omega, by omega, HST.out⟩
      case round =>
        obtain ⟨k, qv, rfl, rfl, rfl, hk2, hks, hq0, hq1, hQ⟩ := hrel
        have HQ := box hQ
        clear hQ
        by_cases hlt : k < s.size
        · exact absurd hlt (by omega)
        · have hsl : s.data.toList.length = s.size := by simp
          have HE : Box (qvL s.data.toList = qvEnd (some qv)) := box (by rw [HQ.out, List.drop_of_length_le (by omega)]; rfl)
          clear HQ hsl
          by_cases hbig : 1000 < qv
          · have HE2 : Box (qvL s.data.toList = none) := box (by rw [HE.out]; show (if 1000 < qv then none else some qv) = none; rw [if_pos hbig])
            go_wp2
            go_ret2
            exact ⟨by rw [HE2.out]; rfl, rfl⟩
          · have HE2 : Box (qvL s.data.toList = some qv) := box (by rw [HE.out]; show (if 1000 < qv then none else some qv) = some qv; rw [if_neg hbig])
            go_wp2
            go_ret2
            exact ⟨by rw [HE2.out]; rfl, rfl⟩
set_option maxHeartbeats 2000000 in
theorem rParseQ_zm (s : ByteArray) (w : World) (p0 : 0 < s.size) (h5 : s.size ≤ 5) (ha : (s[0].toNat : Int) = 48) (p1 : 1 < s.size) (h46 : ((s[1].toNat : Int) != 46) = false) :
    Calls Tryd.prog 7 #[.string s] w fun e w' => e = .returned (qvT (qvL s.data.toList)) ∧ w = w' := by
  have hz : s.data.toList.length = s.size := by simp
  have ha8 : s[0] = 48 ∨ s[0] = 49 := .inl (byte8 (d := 48) ha)
  have HST : Box (qvL s.data.toList = qvEnd (qvD 0 100 (s.data.toList.drop 2))) := box (by
    have e8 : s[1] = 46 := byte8 (d := 46) (by simpa using h46)
    rw [list_second p1, qv_more, if_pos ⟨by rw [List.length_drop]; omega, ha8, e8⟩, ha]; rfl)
  have i1 : ¬ (s.size : Int) < 1 := by omega
  have i2 : ¬ (5 : Int) < (s.size : Int) := by omega
  have i3 : (1 : Int) < (s.size : Int) := by omega
  clear hz ha8
  · skip
    · skip
      go_enter Tryd.func7, Tryd.ntmps7
      go_wp2
      go_loop [4, 5, 6] (fun q wt i => QvRel s q wt i) (fun _ _ i => 6 - (intOf i).toNat)
      case atStart => exact ⟨2, 0, rfl, rfl, rfl, Nat.le_refl _, .inl rfl, by omega, by omega, HST.out⟩
      case round =>
        obtain ⟨k, qv, rfl, rfl, rfl, hk2, hks, hq0, hq1, hQ⟩ := hrel
        have HQ := box hQ
        clear hQ
        by_cases hlt : k < s.size
        · have hb := byte_bd s k hlt
          have hd : s.data.toList.drop k = s[k] :: s.data.toList.drop (k + 1) := List.drop_eq_getElem_cons (l := s.data.toList) (i := k) (by simpa using hlt)
          rcases hp : digitI (s[k].toNat) with _ | _
          · have HE : Box (qvL s.data.toList = none) := box (by rw [HQ.out, hd, qvD_cons, if_neg (by rw [hp]; simp)]; rfl)
            go_wp2_with (go_at_call 13; refine (rDigit_any _ _ hb.1 hb.2).mono ?_; rintro e w' ⟨rfl, rfl⟩)
            go_ret2
            exact ⟨by rw [HE.out]; rfl, rfl⟩
          · have hdb := digitI_bd hp
            have HN := box (HQ.out.trans (congrArg qvEnd (by rw [hd, qvD_cons, if_pos hp] : qvD qv (wtOf k) (s.data.toList.drop k) = qvD (qv + ((s[k].toNat : Int) - 48) * wtOf k) (wtOf k / 10) (s.data.toList.drop (k + 1)))))
            have hk4 : k = 2 ∨ k = 3 ∨ k = 4 := by omega
            clear hd HQ
            rcases hk4 with rfl | rfl | rfl
            · rw [show wtOf 2 = 100 from rfl] at HN ⊢
              go_wp2_with (go_at_call 13; refine (rDigit_any _ _ hb.1 hb.2).mono ?_; rintro e w' ⟨rfl, rfl⟩)
              go_round
              case rel => exact ⟨3, _, by go_num, rfl, by go_num, by omega, .inr (by omega), by omega, by omega, HN.out⟩
              case measure => simp [intOf]
            · rw [show wtOf 3 = 10 from rfl] at HN ⊢
              go_wp2_with (go_at_call 13; refine (rDigit_any _ _ hb.1 hb.2).mono ?_; rintro e w' ⟨rfl, rfl⟩)
              go_round
              case rel => exact ⟨4, _, by go_num, rfl, by go_num, by omega, .inr (by omega), by omega, by omega, HN.out⟩
              case measure => simp [intOf]
            · rw [show wtOf 4 = 1 from rfl] at HN ⊢
              rw [Int.mul_one] at HN
              go_wp2_with (go_at_call 13; refine (rDigit_any _ _ hb.1 hb.2).mono ?_; rintro e w' ⟨rfl, rfl⟩)
              go_round
              case rel => exact ⟨5, _, by go_num, rfl, by go_num, by omega, .inr (by omega), by omega, by omega, HN.out⟩
              case measure => simp [intOf]
        · have hsl : s.data.toList.length = s.size := by simp
          have HE : Box (qvL s.data.toList = qvEnd (some qv)) := box (by rw [HQ.out, List.drop_of_length_le (by omega)]; rfl)
          clear HQ hsl
          by_cases hbig : 1000 < qv
          · have HE2 : Box (qvL s.data.toList = none) := box (by rw [HE.out]; show (if 1000 < qv then none else some qv) = none; rw [if_pos hbig])
            go_wp2
            go_ret2
            exact ⟨by rw [HE2.out]; rfl, rfl⟩
          · have HE2 : Box (qvL s.data.toList = some qv) := box (by rw [HE.out]; show (if 1000 < qv then none else some qv) = some qv; rw [if_neg hbig])
            go_wp2
            go_ret2
            exact ⟨by rw [HE2.out]; rfl, rfl⟩
set_option maxHeartbeats 2000000 in
theorem rParseQ_o1 (s : ByteArray) (w : World) (p0 : 0 < s.size) (h5 : s.size ≤ 5) (ha : (s[0].toNat : Int) = 49) (h1 : s.size = 1) :
    Calls Tryd.prog 7 #[.string s] w fun e w' => e = .returned (qvT (qvL s.data.toList)) ∧ w = w' := by
  have hz : s.data.toList.length = s.size := by simp
  have ha8 : s[0] = 48 ∨ s[0] = 49 := .inr (byte8 (d := 49) ha)
  have HST : Box (qvL s.data.toList = qvEnd (qvD 1000 100 (s.data.toList.drop 2))) := box (by
    have e : s.data.toList = [s[0]] := by
      have := list_first p0
      rw [List.drop_of_length_le (l := s.data.toList) (i := 1) (by omega)] at this
      exact this
    rw [e, qv_one ha8, ha]; rfl)
  have i1 : ¬ (s.size : Int) < 1 := by omega
  have i2 : ¬ (5 : Int) < (s.size : Int) := by omega
  have i3 : ¬ (1 : Int) < (s.size : Int) := by omega
  clear hz ha8
  · skip
    · skip
      go_enter Tryd.func7, Tryd.ntmps7
      go_wp2
      go_loop [4, 5, 6] (fun q wt i => QvRel s q wt i) (fun _ _ i => 6 - (intOf i).toNat)
      case atStart => exact ⟨2, 1000, rfl, rfl, rfl, Nat.le_refl _, .inl rfl, by omega, by omega, HST.out⟩
      case round =>
        obtain ⟨k, qv, rfl, rfl, rfl, hk2, hks, hq0, hq1, hQ⟩ := hrel
        have HQ := box hQ
        clear hQ
        by_cases hlt : k < s.size
        · exact absurd hlt (by omega)
        · have hsl : s.data.toList.length = s.size := by simp
          have HE : Box (qvL s.data.toList = qvEnd (some qv)) := box (by rw [HQ.out, List.drop_of_length_le (by omega)]; rfl)
          clear HQ hsl
          by_cases hbig : 1000 < qv
          · have HE2 : Box (qvL s.data.toList = none) := box (by rw [HE.out]; show (if 1000 < qv then none else some qv) = none; rw [if_pos hbig])
            go_wp2
            go_ret2
            exact ⟨by rw [HE2.out]; rfl, rfl⟩
          · have HE2 : Box (qvL s.data.toList = some qv) := box (by rw [HE.out]; show (if 1000 < qv then none else some qv) = some qv; rw [if_neg hbig])
            go_wp2
            go_ret2
            exact ⟨by rw [HE2.out]; rfl, rfl⟩
set_option maxHeartbeats 2000000 in
theorem rParseQ_om (s : ByteArray) (w : World) (p0 : 0 < s.size) (h5 : s.size ≤ 5) (ha : (s[0].toNat : Int) = 49) (p1 : 1 < s.size) (h46 : ((s[1].toNat : Int) != 46) = false) :
    Calls Tryd.prog 7 #[.string s] w fun e w' => e = .returned (qvT (qvL s.data.toList)) ∧ w = w' := by
  have hz : s.data.toList.length = s.size := by simp
  have ha8 : s[0] = 48 ∨ s[0] = 49 := .inr (byte8 (d := 49) ha)
  have HST : Box (qvL s.data.toList = qvEnd (qvD 1000 100 (s.data.toList.drop 2))) := box (by
    have e8 : s[1] = 46 := byte8 (d := 46) (by simpa using h46)
    rw [list_second p1, qv_more, if_pos ⟨by rw [List.length_drop]; omega, ha8, e8⟩, ha]; rfl)
  have i1 : ¬ (s.size : Int) < 1 := by omega
  have i2 : ¬ (5 : Int) < (s.size : Int) := by omega
  have i3 : (1 : Int) < (s.size : Int) := by omega
  clear hz ha8
  · skip
    · skip
      go_enter Tryd.func7, Tryd.ntmps7
      go_wp2
      go_loop [4, 5, 6] (fun q wt i => QvRel s q wt i) (fun _ _ i => 6 - (intOf i).toNat)
      case atStart => exact ⟨2, 1000, rfl, rfl, rfl, Nat.le_refl _, .inl rfl, by omega, by omega, HST.out⟩
      case round =>
        obtain ⟨k, qv, rfl, rfl, rfl, hk2, hks, hq0, hq1, hQ⟩ := hrel
        have HQ := box hQ
        clear hQ
        by_cases hlt : k < s.size
        · have hb := byte_bd s k hlt
          have hd : s.data.toList.drop k = s[k] :: s.data.toList.drop (k + 1) := List.drop_eq_getElem_cons (l := s.data.toList) (i := k) (by simpa using hlt)
          rcases hp : digitI (s[k].toNat) with _ | _
          · have HE : Box (qvL s.data.toList = none) := box (by rw [HQ.out, hd, qvD_cons, if_neg (by rw [hp]; simp)]; rfl)
            go_wp2_with (go_at_call 13; refine (rDigit_any _ _ hb.1 hb.2).mono ?_; rintro e w' ⟨rfl, rfl⟩)
            go_ret2
            exact ⟨by rw [HE.out]; rfl, rfl⟩
          · have hdb := digitI_bd hp
            have HN := box (HQ.out.trans (congrArg qvEnd (by rw [hd, qvD_cons, if_pos hp] : qvD qv (wtOf k) (s.data.toList.drop k) = qvD (qv + ((s[k].toNat : Int) - 48) * wtOf k) (wtOf k / 10) (s.data.toList.drop (k + 1)))))
            have hk4 : k = 2 ∨ k = 3 ∨ k = 4 := by omega
            clear hd HQ
            rcases hk4 with rfl | rfl | rfl
            · rw [show wtOf 2 = 100 from rfl] at HN ⊢
              go_wp2_with (go_at_call 13; refine (rDigit_any _ _ hb.1 hb.2).mono ?_; rintro e w' ⟨rfl, rfl⟩)
              go_round
              case rel => exact ⟨3, _, by go_num, rfl, by go_num, by omega, .inr (by omega), by omega, by omega, HN.out⟩
              case measure => simp [intOf]
            · rw [show wtOf 3 = 10 from rfl] at HN ⊢
              go_wp2_with (go_at_call 13; refine (rDigit_any _ _ hb.1 hb.2).mono ?_; rintro e w' ⟨rfl, rfl⟩)
              go_round
              case rel => exact ⟨4, _, by go_num, rfl, by go_num, by omega, .inr (by omega), by omega, by omega, HN.out⟩
              case measure => simp [intOf]
            · rw [show wtOf 4 = 1 from rfl] at HN ⊢
              rw [Int.mul_one] at HN
              go_wp2_with (go_at_call 13; refine (rDigit_any _ _ hb.1 hb.2).mono ?_; rintro e w' ⟨rfl, rfl⟩)
              go_round
              case rel => exact ⟨5, _, by go_num, rfl, by go_num, by omega, .inr (by omega), by omega, by omega, HN.out⟩
              case measure => simp [intOf]
        · have hsl : s.data.toList.length = s.size := by simp
          have HE : Box (qvL s.data.toList = qvEnd (some qv)) := box (by rw [HQ.out, List.drop_of_length_le (by omega)]; rfl)
          clear HQ hsl
          by_cases hbig : 1000 < qv
          · have HE2 : Box (qvL s.data.toList = none) := box (by rw [HE.out]; show (if 1000 < qv then none else some qv) = none; rw [if_pos hbig])
            go_wp2
            go_ret2
            exact ⟨by rw [HE2.out]; rfl, rfl⟩
          · have HE2 : Box (qvL s.data.toList = some qv) := box (by rw [HE.out]; show (if 1000 < qv then none else some qv) = some qv; rw [if_neg hbig])
            go_wp2
            go_ret2
            exact ⟨by rw [HE2.out]; rfl, rfl⟩

theorem rParseQ_any (s : ByteArray) (w : World) (hs : s.size ≤ 9223372036854775807) :
    Calls Tryd.prog 7 #[.string s] w fun e w' => e = .returned (qvT (qvL s.data.toList)) ∧ w = w' := by
  have hz : s.data.toList.length = s.size := by simp
  by_cases h0 : s.size = 0
  · have HE : Box (qvL s.data.toList = none) := box (by rw [List.eq_nil_of_length_eq_zero (by omega : s.data.toList.length = 0)]; rfl)
    have i1 : (s.size : Int) < 1 := by omega
    clear hz h0
    go_enter Tryd.func7, Tryd.ntmps7
    go_wp2
    go_ret2
    exact ⟨by rw [HE.out]; rfl, rfl⟩
  · by_cases h5 : 5 < s.size
    · have HE : Box (qvL s.data.toList = none) := box (qv_long (by omega))
      have i1 : ¬ (s.size : Int) < 1 := by omega
      have i2 : (5 : Int) < (s.size : Int) := by omega
      clear hz h0
      go_enter Tryd.func7, Tryd.ntmps7
      go_wp2
      go_ret2
      exact ⟨by rw [HE.out]; rfl, rfl⟩
    · have p0 : 0 < s.size := by omega
      have i1 : ¬ (s.size : Int) < 1 := by omega
      have i2 : ¬ (5 : Int) < (s.size : Int) := by omega
      by_cases ha : (s[0].toNat : Int) = 48 ∨ (s[0].toNat : Int) = 49
      · have ha8 : s[0] = 48 ∨ s[0] = 49 := ha.imp (byte8 (d := 48)) (byte8 (d := 49))
        by_cases h1 : s.size = 1
        · rcases ha with ha | ha
          · exact rParseQ_z1 s w p0 (by omega) ha h1
          · exact rParseQ_o1 s w p0 (by omega) ha h1
        · have p1 : 1 < s.size := by omega
          rcases h46 : ((s[1].toNat : Int) != 46) with _ | _
          · rcases ha with ha | ha
            · exact rParseQ_zm s w p0 (by omega) ha p1 h46
            · exact rParseQ_om s w p0 (by omega) ha p1 h46
          · have HE : Box (qvL s.data.toList = none) := box (by
              have hn : ¬ s[1] = 46 := by intro e; rw [e] at h46; exact absurd h46 (by decide)
              rw [list_second p1, qv_more, if_neg (fun q => hn q.2.2)])
            have i3 : (1 : Int) < (s.size : Int) := by omega
            clear hz h0 ha8 h1
            rcases ha with ha | ha
            all_goals
              go_enter Tryd.func7, Tryd.ntmps7
              go_wp2
              go_ret2
              exact ⟨by rw [HE.out]; rfl, rfl⟩
      · have HE : Box (qvL s.data.toList = none) := box (by
          rw [list_first p0]
          refine qv_first (fun q => ha (q.imp ?_ ?_))
          · intro e; rw [e]; rfl
          · intro e; rw [e]; rfl)
        have c8 : ((s[0].toNat : Int) != 48) = true := by rw [bne_iff_ne]; exact fun e => ha (.inl e)
        have c9 : ((s[0].toNat : Int) != 49) = true := by rw [bne_iff_ne]; exact fun e => ha (.inr e)
        clear hz h0 ha
        go_enter Tryd.func7, Tryd.ntmps7
        go_wp2
        go_ret2
        exact ⟨by rw [HE.out]; rfl, rfl⟩

end Go.Proofs.YtlimfofjhedikaaDoor.Asc
