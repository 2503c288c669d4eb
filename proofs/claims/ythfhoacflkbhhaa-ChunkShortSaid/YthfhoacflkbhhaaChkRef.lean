/- The contracts of the reference's NextLine, size and hexadecimal. -/
import Derived.Test.YthfhoacflkbhhaaChkSpec
import Derived.Test.YthfhoacflkbhhaaTarRef
import Derived.Test.YthfhoacflkbhhaaAscTrim
import Derived.IntWalk
set_option linter.unusedVariables false
set_option linter.unusedSimpArgs false
namespace Go.Proofs.Ythfhoacflkbhhaa.Asc
open Go.RowKit

theorem take_while2 {p : UInt8 → Bool} (m : List UInt8) : m.take (m.takeWhile p).length = m.takeWhile p ∧ m.drop (m.takeWhile p).length = m.dropWhile p := by
  have e := List.takeWhile_append_dropWhile (p := p) (l := m)
  constructor
  · have h : (m.takeWhile p ++ m.dropWhile p).take (m.takeWhile p).length = m.takeWhile p := List.take_left
    rwa [e] at h
  · have h : (m.takeWhile p ++ m.dropWhile p).drop (m.takeWhile p).length = m.dropWhile p := List.drop_left
    rwa [e] at h
/-- how far the bytes from f on go that p holds of -/
theorem while_at (p : UInt8 → Bool) (s : ByteArray) (f : Nat) (hf : f ≤ s.size) (t : Nat) (ht : t = f + ((s.data.toList.drop f).takeWhile p).length) :
    t ≤ s.size ∧ (∀ k, f ≤ k → k < t → ∀ h : k < s.size, p s[k] = true) ∧ (∀ h : t < s.size, p s[t] = false) ∧ (s.data.toList.drop f).takeWhile p = (s.data.toList.drop f).take (t - f) ∧ (s.data.toList.drop f).dropWhile p = s.data.toList.drop t := by
  have e := List.takeWhile_append_dropWhile (p := p) (l := s.data.toList.drop f)
  have hz : s.data.toList.length = s.size := by simp
  have hl := congrArg List.length e
  rw [List.length_append, List.length_drop, hz] at hl
  obtain ⟨w1, w2⟩ := take_while2 (p := p) (s.data.toList.drop f)
  have h1 : t - f = ((s.data.toList.drop f).takeWhile p).length := by omega
  have htw : (s.data.toList.drop f).takeWhile p = (s.data.toList.drop f).take (t - f) := by rw [h1]; exact w1.symm
  have hdw : (s.data.toList.drop f).dropWhile p = s.data.toList.drop t := by
    rw [← w2, List.drop_drop, ht]
  refine ⟨by omega, fun k hk hkt h => ?_, fun h => ?_, htw, hdw⟩
  · have hm : s[k] ∈ (s.data.toList.drop f).takeWhile p := by
      rw [htw]
      refine List.mem_iff_getElem.mpr ⟨k - f, by rw [List.length_take, List.length_drop]; omega, ?_⟩
      rw [List.getElem_take, List.getElem_drop]
      have : f + (k - f) = k := by omega
      simp only [this]; rfl
    exact List.all_eq_true.mp (List.all_takeWhile (p := p) (l := s.data.toList.drop f)) _ hm
  · have hd := List.head?_dropWhile_not (p := p) (l := s.data.toList.drop f)
    rw [hdw, drop_cons s t h] at hd
    simpa using hd
def nlV (n : Nat) : Int ⊕ (List UInt8 × List UInt8) → Value
  | .inl e => .tuple #[.string ⟨#[]⟩, .int .i64 0, .int .i64 e]
  | .inr (t, r) => .tuple #[.string (bs t), .int .i64 ((n : Int) - r.length), .int .i64 0]
theorem eol_not {c : UInt8} (h : eolB c = false) : c = 13 ∨ c = 10 := by
  unfold eolB at h
  rw [Bool.and_eq_false_iff] at h
  rcases h with h | h
  · left; simpa using h
  · right; simpa using h
theorem eol_yes {c : UInt8} (h : eolB c = true) : ((c.toNat : Int) != 13) = true ∧ ((c.toNat : Int) != 10) = true := by
  have key : ∀ x : Fin 256, eolB (UInt8.ofNat x.1) = true → (((x.1 : Nat) : Int) != 13) = true ∧ (((x.1 : Nat) : Int) != 10) = true := by decide +kernel
  have := key ⟨c.toNat, c.toNat_lt⟩
  simp only [UInt8.ofNat_toNat] at this
  exact this h
set_option maxHeartbeats 1000000 in
theorem rNextLine_any (s : ByteArray) (f : Nat) (w : World) (hs : s.size ≤ 4000000) (hf : f ≤ s.size) :
    Calls Try.prog 22 #[.string s, .int .i64 f] w fun e w' => e = .returned (nlV s.size (nextL (s.data.toList.drop f))) ∧ w = w' := by
  obtain ⟨t, ht⟩ : ∃ t, t = f + ((s.data.toList.drop f).takeWhile eolB).length := ⟨_, rfl⟩
  obtain ⟨h1, h2, h3, h4, h5⟩ := while_at eolB s f hf t ht
  have hft : f ≤ t := by omega
  have hz : s.data.toList.length = s.size := by simp
  have HY := box h2
  have HN : Box (nextL (s.data.toList.drop f) = if 2000 < t - f then .inl 4 else match s.data.toList.drop t with | [] => .inl 2 | [c] => if c = 10 then .inl 1 else .inl 2 | c :: d :: r => if c = 10 then .inl 1 else if d = 10 then .inr ((s.data.toList.drop f).take (t - f), r) else .inl 1) := box (by
    unfold nextL
    rw [h4, h5]
    have : ((s.data.toList.drop f).take (t - f)).length = t - f := by rw [← h4]; omega
    rw [this]; rfl)
  clear h2 h4 h5 ht
  go_enter Try.func22, Try.ntmps22
  go_wp2
  go_loop [7] (fun i => ∃ k : Nat, f ≤ k ∧ k ≤ t ∧ i = .int .i64 k) (fun i => t - (intOf i).toNat)
  case atStart => exact ⟨f, Nat.le_refl _, hft, rfl⟩
  case round =>
    obtain ⟨k, hk1, hk2, rfl⟩ := hrel
    by_cases hlt : k < t
    · have hks : k < s.size := by omega
      have hki : (k : Int) < (s.size : Int) := by omega
      obtain ⟨e1, e2⟩ := eol_yes (HY.out k hk1 hlt hks)
      go_wp2
      go_round
      case rel => exact ⟨k + 1, by omega, by omega, by go_num⟩
      case measure => simp [intOf]; omega
    · obtain rfl : k = t := by omega
      clear hlt hk2
      by_cases hlong : 2000 < k - f
      · have HE : Box (nextL (s.data.toList.drop f) = .inl 4) := box (by rw [HN.out, if_pos hlong])
        have hli : (2000 : Int) < (k : Int) - (f : Int) := by omega
        by_cases hks : k < s.size
        · have hki : (k : Int) < (s.size : Int) := by omega
          rcases eol_not (h3 hks) with e | e
          · have e1 : ((s[k].toNat : Int) != 13) = false := by rw [e]; rfl
            go_wp2
            go_ret3
            exact ⟨by rw [HE.out]; rfl, rfl⟩
          · have e1 : ((s[k].toNat : Int) != 13) = true := by rw [e]; rfl
            have e2 : ((s[k].toNat : Int) != 10) = false := by rw [e]; rfl
            go_wp2
            go_ret3
            exact ⟨by rw [HE.out]; rfl, rfl⟩
        · have hki : ¬ (k : Int) < (s.size : Int) := by omega
          go_wp2
          go_ret3
          exact ⟨by rw [HE.out]; rfl, rfl⟩
      · have hli : ¬ (2000 : Int) < (k : Int) - (f : Int) := by omega
        rw [if_neg hlong] at HN
        by_cases hks : k < s.size
        · have hki : (k : Int) < (s.size : Int) := by omega
          have hke : ((k : Int) == (s.size : Int)) = false := by rw [beq_eq_false_iff_ne]; omega
          have hdk := drop_cons s k hks
          rw [hdk] at HN
          rcases eol_not (h3 hks) with e | e
          · have e1 : ((s[k].toNat : Int) != 13) = false := by rw [e]; rfl
            have e3 : ((s[k].toNat : Int) == 10) = false := by rw [e]; rfl
            have e10 : s[k] ≠ 10 := by rw [e]; decide
            by_cases hk1s : k + 1 < s.size
            · have hk1i : (k : Int) + 1 < (s.size : Int) := by omega
              have hk1e : ((k : Int) + 1 == (s.size : Int)) = false := by rw [beq_eq_false_iff_ne]; omega
              rw [drop_cons s (k + 1) hk1s] at HN
              simp only [if_neg e10] at HN
              rcases hq : ((s[k + 1].toNat : Int) != 10) with _ | _
              · have hq10 : s[k + 1] = 10 := byte_eq (n := 10) (by simpa using hq) (by omega)
                have HE : Box (nextL (s.data.toList.drop f) = .inr ((s.data.toList.drop f).take (k - f), s.data.toList.drop (k + 1 + 1))) := box (by rw [HN.out, if_pos hq10])
                have hfk : (f : Int) ≤ (k : Int) := by omega
                clear e hdk HN hq10 e10
                go_wp2
                go_ret3
                refine ⟨?_, rfl⟩
                rw [HE.out]
                show Ending.returned (.tuple #[.string (s.extract f k), .int .i64 ((k : Int) + 2), .int .i64 0]) = _
                show _ = Ending.returned (.tuple #[.string (bs ((s.data.toList.drop f).take (k - f))), .int .i64 ((s.size : Int) - ((s.data.toList.drop (k + 1 + 1)).length : Int)), .int .i64 0])
                rw [ext_bs, List.length_drop, hz, List.drop_take]
                have e5 : (s.size : Int) - ((s.size - (k + 1 + 1) : Nat) : Int) = (k : Int) + 2 := by omega
                rw [e5]
              · have hq10 : ¬ s[k + 1] = 10 := by intro e; rw [e] at hq; simp at hq
                have HE : Box (nextL (s.data.toList.drop f) = .inl 1) := box (by rw [HN.out, if_neg hq10])
                clear e hdk HN hq10 e10
                go_wp2
                go_ret3
                exact ⟨by rw [HE.out]; rfl, rfl⟩
            · have hk1e : ((k : Int) + 1 == (s.size : Int)) = true := by rw [beq_iff_eq]; omega
              rw [List.drop_of_length_le (i := k + 1) (by omega)] at HN
              have HE : Box (nextL (s.data.toList.drop f) = .inl 2) := box (by rw [HN.out]; simp only [if_neg e10])
              clear e hdk HN e10
              go_wp2
              go_ret3
              exact ⟨by rw [HE.out]; rfl, rfl⟩
          · have e1 : ((s[k].toNat : Int) != 13) = true := by rw [e]; rfl
            have e2 : ((s[k].toNat : Int) != 10) = false := by rw [e]; rfl
            have e3 : ((s[k].toNat : Int) == 10) = true := by rw [e]; rfl
            have HE : Box (nextL (s.data.toList.drop f) = .inl 1) := box (by
              rw [HN.out]
              rcases s.data.toList.drop (k + 1) with _ | ⟨d, r⟩ <;> simp only [if_pos e])
            clear e hdk HN
            go_wp2
            go_ret3
            exact ⟨by rw [HE.out]; rfl, rfl⟩
        · have hki : ¬ (k : Int) < (s.size : Int) := by omega
          have hke : ((k : Int) == (s.size : Int)) = true := by rw [beq_iff_eq]; omega
          rw [List.drop_of_length_le (i := k) (by omega)] at HN
          have HE : Box (nextL (s.data.toList.drop f) = .inl 2) := box HN.out
          clear HN
          go_wp2
          go_ret3
          exact ⟨by rw [HE.out]; rfl, rfl⟩

end Go.Proofs.Ythfhoacflkbhhaa.Asc
