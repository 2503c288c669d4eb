/- The contract of package target's Authority. -/
import Derived.Test.YtilodlmjamaiiaaTarByt
import Derived.Test.YtilodlmjamaiiaaAscLow
import Derived.Test.YtilodlmjamaiiaaStaCut
import Derived.Test.YtilodlmjamaiiaaAscTrim
set_option linter.unusedVariables false
set_option linter.unusedSimpArgs false
namespace Go.Proofs.Ytilodlmjamaiiaa.Asc
open Go.RowKit

/-- a port, or none -/
def portV : Option Int → Value
  | some n => .tuple #[.int .i64 n, .bool true]
  | none => .tuple #[.int .i64 0, .bool false]
theorem Number_is {s : ByteArray} {v : Int} {b : Bool} {w : World} (hs : Box (s.size ≤ maxLen)) (h : Box (numV (numL s.data.toList) = (v, b))) :
    Calls Try.prog 46 #[.string s] w fun e w' => e = .returned (.tuple #[.int .i64 v, .bool b]) ∧ w = w' :=
  (Number_any s w hs.out).mono fun e w' ⟨h1, h2⟩ => ⟨by rw [h1]; unfold numT; rw [h.out], h2⟩
theorem tPort_any (s : ByteArray) (w : World) (hs : s.size ≤ 65536) :
    Calls Try.prog 27 #[.string s] w fun e w' => e = .returned (portV (portL s.data.toList)) ∧ w = w' := by
  have HZ : Box (s.size ≤ maxLen) := box (by unfold maxLen; omega)
  have hz : s.data.toList.length = s.size := by simp
  rcases he : s.toList.isEmpty with _ | _
  · have hne : s.data.toList ≠ [] := by rw [toList_data] at he; intro e; rw [e] at he; cases he
    rcases hn : numL s.data.toList with _ | n
    · have HN : Box (numV (numL s.data.toList) = (0, false)) := box (by rw [hn]; rfl)
      have HE : Box (portL s.data.toList = none) := box (by unfold portL; rw [if_neg hne, hn])
      clear hn hz hne
      by_cases h5 : (5 : Int) < (s.size : Int)
      all_goals
        go_enter Try.func27, Try.ntmps27
        go_wp2_with fail
        refine (Number_is HZ HN).mono ?_; rintro e w1 ⟨rfl, rfl⟩
        go_wp2
        go_ret2
        exact ⟨by rw [HE.out]; rfl, rfl⟩
    · have HN : Box (numV (numL s.data.toList) = (n, true)) := box (by rw [hn]; rfl)
      by_cases hg : s.data.toList.length ≤ 5 ∧ 1 ≤ n ∧ n ≤ 65535
      · have HE : Box (portL s.data.toList = some n) := box (by unfold portL; rw [if_neg hne, hn]; simp only; rw [if_pos hg])
        obtain ⟨g1, g2, g3⟩ := hg
        have g0 : ¬ (5 : Int) < (s.size : Int) := by omega
        clear hn hz hne g1
        go_enter Try.func27, Try.ntmps27
        go_wp2_with fail
        refine (Number_is HZ HN).mono ?_; rintro e w1 ⟨rfl, rfl⟩
        go_wp2
        go_ret2
        exact ⟨by rw [HE.out]; rfl, rfl⟩
      · have HE : Box (portL s.data.toList = none) := box (by unfold portL; rw [if_neg hne, hn]; simp only; rw [if_neg hg])
        have hg2 : (5 : Int) < (s.size : Int) ∨ n < 1 ∨ 65535 < n := by omega
        clear hn hz hne hg
        by_cases g0 : (5 : Int) < (s.size : Int)
        · clear hg2
          go_enter Try.func27, Try.ntmps27
          go_wp2_with fail
          refine (Number_is HZ HN).mono ?_; rintro e w1 ⟨rfl, rfl⟩
          go_wp2
          go_ret2
          exact ⟨by rw [HE.out]; rfl, rfl⟩
        · by_cases g1 : n < 1
          · clear hg2
            go_enter Try.func27, Try.ntmps27
            go_wp2_with fail
            refine (Number_is HZ HN).mono ?_; rintro e w1 ⟨rfl, rfl⟩
            go_wp2
            go_ret2
            exact ⟨by rw [HE.out]; rfl, rfl⟩
          · have g2 : 65535 < n := by omega
            have g3 : 1 ≤ n := by omega
            clear hg2
            go_enter Try.func27, Try.ntmps27
            go_wp2_with fail
            refine (Number_is HZ HN).mono ?_; rintro e w1 ⟨rfl, rfl⟩
            go_wp2
            go_ret2
            exact ⟨by rw [HE.out]; rfl, rfl⟩
  · have HE : Box (portL s.data.toList = some 80) := box (by
      rw [toList_data, List.isEmpty_iff] at he
      unfold portL; rw [if_pos he])
    go_enter Try.func27, Try.ntmps27
    go_wp2
    go_ret2
    exact ⟨by rw [HE.out]; rfl, rfl⟩
theorem tHostByte_is {c : UInt8} {b : Bool} {w : World} (h : Box (hostI c.toNat = b)) :
    Calls Try.prog 47 #[.int .u8 c.toNat] w fun e w' => e = .returned (.bool b) ∧ w = w' :=
  (tHostByte_any c w).mono fun e w' ⟨h1, h2⟩ => ⟨by rw [h1, h.out], h2⟩
theorem tIsHost_any (s : ByteArray) (w : World) (hs : s.size ≤ 65536) :
    Calls Try.prog 28 #[.string s] w fun e w' => e = .returned (.bool (hostOk s.data.toList)) ∧ w = w' := by
  go_enter Try.func28, Try.ntmps28
  go_wp2
  go_loop [6] (fun i => ∃ k : Nat, k ≤ s.size ∧ i = .int .i64 k ∧ allI hostI (s.data.toList.take k) = true) (fun i => s.size - (intOf i).toNat)
  case atStart => exact ⟨0, Nat.zero_le _, rfl, rfl⟩
  case round =>
    obtain ⟨k, hk, rfl, hall⟩ := hrel
    have HA := box hall
    clear hall
    by_cases hlt : k < s.size
    · rcases hp : hostI (s[k].toNat) with _ | _
      · have HP := box hp
        have HE : Box (hostOk s.data.toList = false) := box (hostOk_not hlt hp)
        clear hp
        go_wp2_with fail
        refine (tHostByte_is HP).mono ?_; rintro e w1 ⟨rfl, rfl⟩
        go_wp2
        go_ret
        exact ⟨ret_bool HE.out.symm, rfl⟩
      · have HP := box hp
        have HM := box (all_more HA.out hlt hp)
        clear hp
        go_wp2_with fail
        refine (tHostByte_is HP).mono ?_; rintro e w1 ⟨rfl, rfl⟩
        go_wp2
        go_round
        case rel => exact ⟨k + 1, by omega, by go_num, HM.out⟩
        case measure => simp [intOf]; omega
    · have HE := box (hostOk_end HA.out (by omega))
      rcases he : s.toList.isEmpty with _ | _
      all_goals
        rw [he] at HE
        go_wp2
        go_ret
        exact ⟨ret_bool HE.out.symm, rfl⟩
theorem tPort_is {s : ByteArray} {p : Option Int} {w : World} (hs : Box (s.size ≤ 65536)) (h : Box (portL s.data.toList = p)) :
    Calls Try.prog 27 #[.string s] w fun e w' => e = .returned (portV p) ∧ w = w' :=
  (tPort_any s w hs.out).mono fun e w' ⟨h1, h2⟩ => ⟨by rw [h1, h.out], h2⟩
theorem tIsHost_is {s : ByteArray} {b : Bool} {w : World} (hs : Box (s.size ≤ 65536)) (h : Box (hostOk s.data.toList = b)) :
    Calls Try.prog 28 #[.string s] w fun e w' => e = .returned (.bool b) ∧ w = w' :=
  (tIsHost_any s w hs.out).mono fun e w' ⟨h1, h2⟩ => ⟨by rw [h1, h.out], h2⟩
theorem cut_sizes (c : UInt8) (s : ByteArray) : (bs (cut1 c s.data.toList)).size ≤ s.size ∧ (bs (cut2 c s.data.toList)).size ≤ s.size := by
  have hz : s.data.toList.length = s.size := by simp
  have z1 : (bs (cut1 c s.data.toList)).size = (cut1 c s.data.toList).length := by simp [bs, ByteArray.size]
  have z2 : (bs (cut2 c s.data.toList)).size = (cut2 c s.data.toList).length := by simp [bs, ByteArray.size]
  rw [z1, z2, ← hz]
  rcases h : cutB c s.data.toList with _ | _
  · have hn : c ∉ s.data.toList := by simpa [cutB] using h
    rw [(cut_none hn).1, (cut_none hn).2]; simp
  · have := congrArg List.length (cut_join h)
    simp at this ⊢; omega
theorem tAuthority_any (s : ByteArray) (w : World) (hs : s.size ≤ 50000) :
    Calls Try.prog 13 #[.string s] w fun e w' => e = .returned (authV (authL s.data.toList)) ∧ Below w.heap.size w w' := by
  have hsz := cut_sizes 58 s
  have HS : Box (s.size ≤ maxLen) := box (by unfold maxLen; omega)
  have H1 : Box ((bs (cut1 58 s.data.toList)).size ≤ 65536) := box (by omega)
  have H2 : Box ((bs (cut2 58 s.data.toList)).size ≤ 65536) := box (by omega)
  clear hsz
  obtain ⟨x, hx⟩ : ∃ x, bs (cut1 58 s.data.toList) = x := ⟨_, rfl⟩
  obtain ⟨y, hy⟩ : ∃ y, bs (cut2 58 s.data.toList) = y := ⟨_, rfl⟩
  have hxl : x.data.toList = cut1 58 s.data.toList := by rw [← hx]; rfl
  have hyl : y.data.toList = cut2 58 s.data.toList := by rw [← hy]; rfl
  rw [hx] at H1
  rw [hy] at H2
  obtain ⟨p, hp⟩ : ∃ p, portL y.data.toList = p := ⟨_, rfl⟩
  have HX := box hx
  have HY := box hy
  have HP := box hp
  rw [hyl] at hp
  rcases p with _ | n
  · have HE : Box (authL s.data.toList = none) := box (auth_port hp)
    clear hx hy hp hxl hyl
    go_enter Try.func13, Try.ntmps13
    go_wp2_with fail
    refine (Cut_any s 58 _ HS.out).mono ?_; rintro e w1 ⟨rfl, hb1⟩; unfold cutV
    rw [HX.out, HY.out]
    have B1 := box hb1
    clear hb1
    go_wp2_with fail
    refine (tPort_is H2 HP).mono ?_; rintro e w2 ⟨rfl, rfl⟩; unfold portV
    go_wp2
    go_ret3
    exact ⟨by rw [HE.out]; rfl, B1.out⟩
  · rcases hh : hostOk x.data.toList with _ | _
    · have HH := box hh
      have HE : Box (authL s.data.toList = none) := box (auth_bad (by rw [← hxl]; exact hh))
      clear hx hy hp hxl hyl hh
      go_enter Try.func13, Try.ntmps13
      go_wp2_with fail
      refine (Cut_any s 58 _ HS.out).mono ?_; rintro e w1 ⟨rfl, hb1⟩; unfold cutV
      rw [HX.out, HY.out]
      have B1 := box hb1
      clear hb1
      go_wp2_with fail
      refine (tPort_is H2 HP).mono ?_; rintro e w2 ⟨rfl, rfl⟩; unfold portV
      go_wp2_with fail
      refine (tIsHost_is H1 HH).mono ?_; rintro e w2 ⟨rfl, rfl⟩
      go_wp2
      go_ret3
      exact ⟨by rw [HE.out]; rfl, B1.out⟩
    · have HH := box hh
      have HE : Box (authL s.data.toList = some (lowL x.data.toList, n)) := box (by rw [hxl]; exact auth_good hp (by rw [← hxl]; exact hh))
      have H3 : Box (x.size ≤ 4294967296) := box (by have := H1.out; omega)
      clear hx hy hp hxl hyl hh
      go_enter Try.func13, Try.ntmps13
      go_wp2_with fail
      refine (Cut_any s 58 _ HS.out).mono ?_; rintro e w1 ⟨rfl, hb1⟩; unfold cutV
      rw [HX.out, HY.out]
      have B1 := box hb1
      clear hb1
      go_wp2_with fail
      refine (tPort_is H2 HP).mono ?_; rintro e w2 ⟨rfl, rfl⟩; unfold portV
      go_wp2_with fail
      refine (tIsHost_is H1 HH).mono ?_; rintro e w2 ⟨rfl, rfl⟩
      go_wp2_with fail
      refine (Lower_any x _ H3.out).mono ?_; rintro e w3 ⟨rfl, hb3⟩
      have B3 := box (B1.out.trans (hb3.mono B1.out.size))
      clear hb3
      go_wp2
      go_ret3
      exact ⟨by rw [HE.out]; rfl, B3.out⟩

end Go.Proofs.Ytilodlmjamaiiaa.Asc
