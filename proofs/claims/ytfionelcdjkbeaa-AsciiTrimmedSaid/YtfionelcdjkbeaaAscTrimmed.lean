/- The walk of the law AsciiTrimmed: for every input it returns true, and what was in memory stays as it was. -/
import Derived.Test.YtfionelcdjkbeaaAscLaws
set_option linter.unusedVariables false
set_option linter.unusedSimpArgs false
namespace Go.Proofs.Ytfionelcdjkbeaa.Asc
open Go.RowKit

/-- t is the string s between blanks: i of them ahead of it, j behind it -/
def Around (l : List UInt8) (i j : Nat) (t : ByteArray) : Prop :=
  ∃ p q : List UInt8, t.data.toList = p ++ (l ++ q) ∧ (∀ c ∈ p, blankB c = true) ∧ (∀ c ∈ q, blankB c = true) ∧ p.length = i ∧ q.length = j
theorem Around.start (s : ByteArray) : Around s.data.toList 0 0 s := ⟨[], [], by simp, by simp, by simp, rfl, rfl⟩
theorem Around.size {l : List UInt8} {i j : Nat} {t : ByteArray} (h : Around l i j t) : t.size = i + l.length + j := by
  obtain ⟨p, q, e, _, _, rfl, rfl⟩ := h
  rw [list_size e]; simp; omega
theorem Around.trim {l : List UInt8} {i j : Nat} {t : ByteArray} (h : Around l i j t) : trimL t.data.toList = trimL l := by
  obtain ⟨p, q, e, hp, hq, _, _⟩ := h
  rw [e]; exact trim_around p q l hp hq

theorem app_list (a b : ByteArray) : (a ++ b).data.toList = a.data.toList ++ b.data.toList := by simp
theorem Around.left {l : List UInt8} {i j : Nat} {t : ByteArray} (h : Around l i j t) (c : UInt8) (hc : blankB c = true) : Around l (i + 1) j (⟨#[c]⟩ ++ t) := by
  obtain ⟨p, q, e, hp, hq, rfl, rfl⟩ := h
  exact ⟨c :: p, q, by rw [app_list, e]; rfl, by intro d hd; rcases List.mem_cons.mp hd with rfl | h; exact hc; exact hp d h, hq, rfl, rfl⟩
theorem Around.right {l : List UInt8} {i j : Nat} {t : ByteArray} (h : Around l i j t) (c : UInt8) (hc : blankB c = true) : Around l i (j + 1) (t ++ ⟨#[c]⟩) := by
  obtain ⟨p, q, e, hp, hq, rfl, rfl⟩ := h
  exact ⟨p, q ++ [c], by rw [app_list, e]; simp, hp, by intro d hd; rcases List.mem_append.mp hd with h | h; exact hq d h; simp at h; subst h; exact hc, rfl, by simp⟩
theorem pair_at (k : Nat) (x y : UInt8) (hx : blankB x = true) (hy : blankB y = true) : ∃ c, blankB c = true ∧ [Value.string ⟨#[x]⟩, Value.string ⟨#[y]⟩][k % 2]? = some (.string ⟨#[c]⟩) := by
  rcases Nat.mod_two_eq_zero_or_one k with h | h
  · exact ⟨x, hx, by rw [h]; rfl⟩
  · exact ⟨y, hy, by rw [h]; rfl⟩

set_option maxHeartbeats 800000 in
theorem trimmed_in (left right : Int) (s : ByteArray) (w : World) (hs : ¬ 1000 < s.size) (h1 : 0 ≤ left) (h2 : left ≤ 20) (h3 : 0 ≤ right) (h4 : right ≤ 20) :
    Calls Try.prog 8 #[.int .i64 left, .int .i64 right, .string s] w fun e w' => e = .returned (.bool true) ∧ Below w.heap.size w w' := by
  have hz : s.data.toList.length = s.size := by simp
  have HZ := Lib.hid hz
  clear hz
  go_enter Try.func8, Try.ntmps8
  go_wp2
  go_loopw [7, 8] (fun t i wr => ∃ (k : Nat) (tt : ByteArray), (k : Int) ≤ left ∧ i = .int .i64 k ∧ t = .string tt ∧ Hid (Around s.data.toList k 0 tt) ∧ Below w.heap.size w wr) (fun _ i _ => left.toNat - (intOf i).toNat)
  case atStart => exact ⟨0, s, by omega, rfl, rfl, Lib.hid (Around.start s), Below.refl _ _⟩
  case round =>
    obtain ⟨k, tt, hk, rfl, rfl, hA, hbel⟩ := hrel
    by_cases hlt : (k : Int) < left
    · have hsz : tt.size ≤ 2000 := by have := hA.out.size; have := HZ.out; omega
      obtain ⟨c, hc, hcell⟩ := pair_at k 32 9 (by decide) (by decide)
      go_wp2
      go_roundw
      case rel => exact ⟨k + 1, _, by omega, by go_num, rfl, Lib.hid (hA.out.left c hc), hbel.alloc hbel.size _⟩
      case measure => simp [intOf]; omega
    · go_wp2
      obtain ⟨wo, hwo⟩ : ∃ wo : World, wo = wr := ⟨_, rfl⟩
      subst hwo
      go_loopw [7, 9] (fun t i wr => ∃ (j : Nat) (tt : ByteArray), (j : Int) ≤ right ∧ i = .int .i64 j ∧ t = .string tt ∧ Hid (Around s.data.toList k j tt) ∧ Below w.heap.size w wr) (fun _ i _ => right.toNat - (intOf i).toNat)
      case atStart => exact ⟨0, tt, by omega, rfl, rfl, hA, hbel⟩
      case round =>
        obtain ⟨j, tt, hj, rfl, rfl, hA, hbel⟩ := hrel
        have hsz : tt.size ≤ 2000 := by have := hA.out.size; have := HZ.out; omega
        by_cases hlt2 : (j : Int) < right
        · obtain ⟨c, hc, hcell⟩ := pair_at j 9 32 (by decide) (by decide)
          go_wp2
          go_roundw
          case rel => exact ⟨j + 1, _, by omega, by go_num, rfl, Lib.hid (hA.out.right c hc), hbel.alloc hbel.size _⟩
          case measure => simp [intOf]; omega
        · have M1 : Hid (s.size ≤ maxLen) := Lib.hid (by unfold maxLen; omega)
          have M2 : Hid (tt.size ≤ maxLen) := Lib.hid (by unfold maxLen; omega)
          have M3 : Hid ((⟨(trimL s.data.toList).toArray⟩ : ByteArray).size ≤ maxLen) := Lib.hid (by
            show (trimL s.data.toList).toArray.size ≤ maxLen
            obtain ⟨a, b, e, _⟩ := trim_split s.data.toList
            have h1 := congrArg List.length e
            have h2 := HZ.out
            simp only [List.length_append] at h1
            rw [List.size_toArray]; unfold maxLen; omega)
          have T1 := Lib.hid hA.out.trim
          have T2 : Hid (trimL (⟨(trimL s.data.toList).toArray⟩ : ByteArray).data.toList = trimL s.data.toList) := Lib.hid (trim_trim s.data.toList)
          go_wp2_with fail
          refine (Trim_any _ _ M1.out).mono ?_; rintro e w1 ⟨rfl, rfl⟩
          go_wp2_with fail
          refine (Trim_any _ _ M2.out).mono ?_; rintro e w1 ⟨rfl, rfl⟩; rw [T1.out]
          go_wp2_with fail
          refine (Trim_any _ _ M3.out).mono ?_; rintro e w1 ⟨rfl, rfl⟩; rw [T2.out]
          go_wp2_with fail
          refine (awake_any _).mono ?_; rintro e w5 ⟨rfl, hb5⟩
          go_wp2
          go_ret
          exact ⟨rfl, hbel.trans (hb5.mono hbel.size)⟩

theorem trimmed_walk (left right : Int) (s : ByteArray) (w : World) (h1 : (Lit.int .i64 left).wf = true) (h2 : (Lit.int .i64 right).wf = true) (hs : s.size ≤ maxLen) :
    Calls Try.prog 8 #[.int .i64 left, .int .i64 right, .string s] w fun e w' => e = .returned (.bool true) ∧ Below w.heap.size w w' := by
  clear h1 h2
  by_cases a1 : 1000 < s.size
  · unfold maxLen at hs
    go_enter Try.func8, Try.ntmps8
    go_wp2
    go_ret
    exact ⟨rfl, Below.refl _ _⟩
  · clear hs
    by_cases a2 : 0 ≤ left ∧ left ≤ 20 ∧ 0 ≤ right ∧ right ≤ 20
    · exact trimmed_in left right s w a1 a2.1 a2.2.1 a2.2.2.1 a2.2.2.2
    · by_cases b1 : left < 0
      · clear a2
        go_enter Try.func8, Try.ntmps8
        go_wp2
        go_ret
        exact ⟨rfl, Below.refl _ _⟩
      · by_cases b2 : 20 < left
        · clear a2
          go_enter Try.func8, Try.ntmps8
          go_wp2
          go_ret
          exact ⟨rfl, Below.refl _ _⟩
        · by_cases b3 : right < 0
          · clear a2
            go_enter Try.func8, Try.ntmps8
            go_wp2
            go_ret
            exact ⟨rfl, Below.refl _ _⟩
          · have b4 : 20 < right := by omega
            clear a2
            go_enter Try.func8, Try.ntmps8
            go_wp2
            go_ret
            exact ⟨rfl, Below.refl _ _⟩
end Go.Proofs.Ytfionelcdjkbeaa.Asc
