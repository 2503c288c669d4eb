/- The contracts of SameStrings and of SameFields. -/
import Derived.Test.YtmhedadollmekaaLstGet
set_option linter.unusedVariables false
set_option linter.unusedSimpArgs false
namespace Go.Proofs.Ytmhedadollmekaa.Asc
open Go.RowKit

theorem str_eq {a b : ByteArray} (h : (a.toList == b.toList) = true) : a = b := by
  rw [toList_data, toList_data] at h
  rw [bs_of a, bs_of b, eq_of_beq h]
theorem take_same {α : Type} {K L : List α} {k : Nat} (hK : k < K.length) (hL : k < L.length) (h : K.take k = L.take k) (e : K[k] = L[k]) : K.take (k + 1) = L.take (k + 1) := by
  rw [take_next hK, take_next hL, h, e]
theorem not_same {α : Type} {K L : List α} {k : Nat} (hK : k < K.length) (hL : k < L.length) (e : K[k] ≠ L[k]) : K ≠ L := by
  intro h; subst h; exact e rfl
set_option maxHeartbeats 800000 in
theorem SameS_any (a b : Option Addr) (ca cb : Nat) (K L : List ByteArray) (w : World) (hk : K.length ≤ 65536) (hl : L.length ≤ 65536) (hK : Box (Ss w a K)) (hL : Box (Ss w b L)) :
    Calls Try.prog 41 #[.slice a K.length ca, .slice b L.length cb] w fun e w' => e = .returned (.bool (decide (K = L))) ∧ Below w.heap.size w w' := by
  by_cases hn : K.length = L.length
  · have HN := box hn
    have hne : ((K.length : Int) != (L.length : Int)) = false := by simp [hn]
    clear hn
    go_enter Try.func41, Try.ntmps41
    go_wp2
    go_loopw [5] (fun i wr => ∃ k : Nat, k ≤ K.length ∧ i = .int .i64 k ∧ K.take k = L.take k ∧ Below w.heap.size w wr) (fun i _ => K.length - (intOf i).toNat)
    case atStart => exact ⟨0, Nat.zero_le _, rfl, rfl, Below.refl _ _⟩
    case round =>
      obtain ⟨k, hk2, rfl, hall, hbel⟩ := hrel
      have HA := box hall
      clear hall
      by_cases hlt : k < K.length
      · have hlt2 : k < L.length := by rw [← HN.out]; exact hlt
        obtain ⟨q, off, rfl, c0⟩ := (hK.out.below hbel) k hlt
        obtain ⟨r, off2, rfl, d0⟩ := (hL.out.below hbel) k hlt2
        go_wp2
        go_quiet (fail)
        go_wp2
        · have h : (!K[k].toList == L[k].toList) = true := by assumption
          go_ret
          have hne2 : K[k] ≠ L[k] := fun e => by rw [e] at h; simp at h
          exact ⟨ret_bool (decide_eq_false (not_same hlt hlt2 hne2)).symm, hbel.trans ((below_drewN _ _).mono hbel.size)⟩
        · have h : (!K[k].toList == L[k].toList) = false := by assumption
          have e : K[k] = L[k] := str_eq (by simpa using h)
          have E := box e
          clear e h
          go_roundw
          case rel => exact ⟨k + 1, by omega, by go_num, take_same hlt hlt2 HA.out E.out, hbel.trans ((below_drewN _ _).mono hbel.size)⟩
          case measure => simp [intOf]; omega
      · have e : k = K.length := by omega
        have E : Box (K = L) := box (by
          have h := HA.out
          subst e
          rw [List.take_length, HN.out, List.take_length] at h
          exact h)
        clear e
        go_wp2
        go_ret
        exact ⟨ret_bool (decide_eq_true E.out).symm, hbel⟩
  · have hne : ((K.length : Int) != (L.length : Int)) = true := by simp; omega
    have HN := box hn
    clear hn
    go_enter Try.func41, Try.ntmps41
    go_wp2
    go_ret
    exact ⟨ret_bool (decide_eq_false (fun e => HN.out (by rw [e]))).symm, Below.refl _ _⟩
theorem kSameS_any (a b : Option Addr) (ca cb : Nat) (K L : List ByteArray) (w : World) (hk : K.length ≤ 65536) (hl : L.length ≤ 65536) (hK : Box (Ss w a K)) (hL : Box (Ss w b L)) :
    Calls Try.prog 19 #[.slice a K.length ca, .slice b L.length cb] w fun e w' => e = .returned (.bool (decide (K = L))) ∧ Below w.heap.size w w' := by
  go_enter Try.func19, Try.ntmps19
  go_wp2_with fail
  refine (SameS_any a b ca cb K L _ hk hl hK hL).mono ?_; rintro e w1 ⟨rfl, hb⟩
  go_wp2
  go_ret
  exact ⟨rfl, hb⟩

theorem fld_eq {p q : F} (h1 : (p.1.toList == q.1.toList) = true) (h2 : (p.2.toList == q.2.toList) = true) : p = q := by
  obtain ⟨a, b⟩ := p
  obtain ⟨c, d⟩ := q
  rw [show a = c from str_eq h1, show b = d from str_eq h2]
set_option maxHeartbeats 800000 in
theorem SameF_any (a b : Option Addr) (ca cb : Nat) (K L : List F) (w : World) (hk : K.length ≤ 65536) (hl : L.length ≤ 65536) (hK : Box (Fs w a K)) (hL : Box (Fs w b L)) :
    Calls Try.prog 24 #[.slice a K.length ca, .slice b L.length cb] w fun e w' => e = .returned (.bool (decide (K = L))) ∧ Below w.heap.size w w' := by
  by_cases hn : K.length = L.length
  · have HN := box hn
    have hne : ((K.length : Int) != (L.length : Int)) = false := by simp [hn]
    clear hn
    go_enter Try.func24, Try.ntmps24
    go_wp2
    go_loopw [5] (fun i wr => ∃ k : Nat, k ≤ K.length ∧ i = .int .i64 k ∧ K.take k = L.take k ∧ Below w.heap.size w wr) (fun i _ => K.length - (intOf i).toNat)
    case atStart => exact ⟨0, Nat.zero_le _, rfl, rfl, Below.refl _ _⟩
    case round =>
      obtain ⟨k, hk2, rfl, hall, hbel⟩ := hrel
      have HA := box hall
      clear hall
      by_cases hlt : k < K.length
      · have hlt2 : k < L.length := by rw [← HN.out]; exact hlt
        obtain ⟨q, off, rfl, c0, c1⟩ := (hK.out.below hbel) k hlt
        obtain ⟨r, off2, rfl, d0, d1⟩ := (hL.out.below hbel) k hlt2
        rcases h1 : (K[k].1.toList == L[k].1.toList) with _ | _
        · go_wp2
          go_quiet (fail)
          go_wp2
          go_ret
          have hne2 : K[k] ≠ L[k] := fun e => by rw [e] at h1; simp at h1
          exact ⟨ret_bool (decide_eq_false (not_same hlt hlt2 hne2)).symm, hbel.trans ((below_drewN _ _).mono hbel.size)⟩
        · rcases h2 : (K[k].2.toList == L[k].2.toList) with _ | _
          · go_wp2
            go_quiet (fail)
            go_wp2
            go_ret
            have hne2 : K[k] ≠ L[k] := fun e => by rw [e] at h2; simp at h2
            exact ⟨ret_bool (decide_eq_false (not_same hlt hlt2 hne2)).symm, hbel.trans ((below_drewN _ _).mono hbel.size)⟩
          · have E := box (fld_eq h1 h2)
            go_wp2
            go_quiet (fail)
            go_wp2
            go_roundw
            case rel => exact ⟨k + 1, by omega, by go_num, take_same hlt hlt2 HA.out E.out, hbel.trans ((below_drewN _ _).mono hbel.size)⟩
            case measure => simp [intOf]; omega
      · have e : k = K.length := by omega
        have E : Box (K = L) := box (by
          have h := HA.out
          subst e
          rw [List.take_length, HN.out, List.take_length] at h
          exact h)
        clear e
        go_wp2
        go_ret
        exact ⟨ret_bool (decide_eq_true E.out).symm, hbel⟩
  · have hne : ((K.length : Int) != (L.length : Int)) = true := by simp; omega
    have HN := box hn
    clear hn
    go_enter Try.func24, Try.ntmps24
    go_wp2
    go_ret
    exact ⟨ret_bool (decide_eq_false (fun e => HN.out (by rw [e]))).symm, Below.refl _ _⟩

end Go.Proofs.Ytmhedadollmekaa.Asc
