/- A status line by places and by its spaces: the two ways of reading it agree. No program is named here. -/
import Derived.Test.YtlcojfkkeommoaaStaSpec
set_option linter.unusedVariables false
set_option linter.unusedSimpArgs false
set_option maxRecDepth 100000
namespace Go.Proofs.Ytlcojfkkeommoaa.Asc

theorem cut1_le (c : UInt8) (l : List UInt8) : (cut1 c l).length ≤ l.length := (List.takeWhile_sublist _).length_le
theorem cut2_le (c : UInt8) (l : List UInt8) : (cut2 c l).length ≤ l.length := by
  unfold cut2; rw [List.length_drop]; have := (List.dropWhile_sublist (· != c) (l := l)).length_le; omega
theorem cutB_of {c : UInt8} {l : List UInt8} (h : cut2 c l ≠ []) : cutB c l = true := by
  by_cases e : Lib.indexByte l c = -1
  · exact absurd (cut_no e).2.1 h
  · obtain ⟨k, hk⟩ : ∃ k : Nat, Lib.indexByte l c = k := ⟨(Lib.indexByte l c).toNat, by have := Lib.indexByte_ge l c; omega⟩
    exact (cut_at hk).2.2.2

theorem num3 {a b c : UInt8} (ha : digitI a.toNat = true) (hb : digitI b.toNat = true) (hc : digitI c.toNat = true) :
    numL [a, b, c] = some (((a.toNat : Int) - 48) * 100 + ((b.toNat : Int) - 48) * 10 + ((c.toNat : Int) - 48)) := by
  have h : allI digitI [a, b, c] = true := by simp [allI, ha, hb, hc]
  simp [digitI] at ha hb hc
  unfold numL
  rw [if_pos ⟨h, by simp⟩]
  simp only [numF, List.foldl, satI]
  congr 1
  repeat' split
  all_goals omega
theorem code3 {a b c : UInt8} (ha : digitI a.toNat = true) (hb : digitI b.toNat = true) (hc : digitI c.toNat = true) (h1 : 49 ≤ (a.toNat : Int)) (h2 : (a.toNat : Int) ≤ 53) :
    codeL [a, b, c] = numL [a, b, c] ∧ (codeL [a, b, c]).isSome = true := by
  have hn := num3 ha hb hc
  simp [digitI] at ha hb hc
  unfold codeL; rw [hn]; simp only []
  rw [if_pos ⟨rfl, by omega, by omega⟩]; exact ⟨rfl, rfl⟩
theorem code_ex {x : List UInt8} (h : (codeL x).isSome = true) : ∃ a b c : UInt8, x = [a, b, c] ∧ digitI a.toNat = true ∧ digitI b.toNat = true ∧ digitI c.toNat = true ∧ 49 ≤ (a.toNat : Int) ∧ (a.toNat : Int) ≤ 53 := by
  unfold codeL at h
  rcases hn : numL x with _ | n
  · rw [hn] at h; cases h
  · rw [hn] at h
    simp only [] at h
    split at h
    · rename_i hc
      have hd : allI digitI x = true := by
        unfold numL at hn; split at hn
        · rename_i q; exact q.1
        · cases hn
      obtain ⟨a, b, c, rfl⟩ : ∃ a b c, x = [a, b, c] := by
        match x, hc.1 with
        | [a, b, c], _ => exact ⟨a, b, c, rfl⟩
      simp [allI] at hd
      have h3 := num3 hd.1 hd.2.1 hd.2.2
      rw [hn] at h3
      have h4 := Option.some.inj h3
      have d1 := hd.1; have d2 := hd.2.1; have d3 := hd.2.2
      refine ⟨a, b, c, rfl, hd.1, hd.2.1, hd.2.2, ?_, ?_⟩ <;> (simp [digitI] at d1 d2 d3; omega)
    · cases h

/-- what the line must be by its places, but for the version -/
def refS (l : List UInt8) : Bool := decide (13 ≤ l.length) && (((l.getD 8 0).toNat : Int) == 32) && decide (49 ≤ ((l.getD 9 0).toNat : Int)) && decide (((l.getD 9 0).toNat : Int) ≤ 53) && digitI (l.getD 10 0).toNat && digitI (l.getD 11 0).toNat && (((l.getD 12 0).toNat : Int) == 32) && textL (l.drop 13)
def condS (l : List UInt8) : Bool := cutB 32 (cut2 32 l) && (codeL (cut1 32 (cut2 32 l))).isSome && textL (cut2 32 (cut2 32 l))
theorem ver_no32 {v : List UInt8} (h : isVerL v = true) : (32 : UInt8) ∉ v := by
  obtain ⟨a, b, rfl, ha, hb⟩ := isVer_ex h
  have hn : digitI ((32 : UInt8).toNat : Int) = false := by decide
  simp
  refine ⟨?_, ?_⟩
  · rintro rfl; rw [hn] at ha; cases ha
  · rintro rfl; rw [hn] at hb; cases hb
theorem dig_no32 {a b c : UInt8} (ha : digitI a.toNat = true) (hb : digitI b.toNat = true) (hc : digitI c.toNat = true) : (32 : UInt8) ∉ [a, b, c] := by
  simp
  refine ⟨?_, ?_, ?_⟩
  · rintro rfl; revert ha; decide
  · rintro rfl; revert hb; decide
  · rintro rfl; revert hc; decide
/-- a line of the shape: version, space, three bytes, space, rest -/
theorem shape_cut {v r : List UInt8} {a b c : UInt8} (hv : isVerL v = true) (ha : digitI a.toNat = true) (hb : digitI b.toNat = true) (hc : digitI c.toNat = true) :
    cut1 32 (v ++ 32 :: ([a, b, c] ++ 32 :: r)) = v ∧ cut2 32 (v ++ 32 :: ([a, b, c] ++ 32 :: r)) = [a, b, c] ++ 32 :: r ∧ cut1 32 ([a, b, c] ++ 32 :: r) = [a, b, c] ∧ cut2 32 ([a, b, c] ++ 32 :: r) = r ∧ cutB 32 ([a, b, c] ++ 32 :: r) = true :=
  ⟨(cut_app (ver_no32 hv)).1, (cut_app (ver_no32 hv)).2.1, (cut_app (dig_no32 ha hb hc)).1, (cut_app (dig_no32 ha hb hc)).2.1, (cut_app (dig_no32 ha hb hc)).2.2⟩
theorem ver_len {v : List UInt8} (h : isVerL v = true) : v.length = 8 := by obtain ⟨a, b, rfl, _⟩ := isVer_ex h; rfl
theorem shape_ref {v r : List UInt8} {a b c : UInt8} (hv : v.length = 8) : (v ++ 32 :: ([a, b, c] ++ 32 :: r)).take 8 = v ∧ (v ++ 32 :: ([a, b, c] ++ 32 :: r)).drop 13 = r ∧ ((v ++ 32 :: ([a, b, c] ++ 32 :: r)).take 12).drop 9 = [a, b, c]
    ∧ refS (v ++ 32 :: ([a, b, c] ++ 32 :: r)) = (decide (49 ≤ (a.toNat : Int)) && decide ((a.toNat : Int) ≤ 53) && digitI b.toNat && digitI c.toNat && textL r) := by
  match v, hv with
  | [x0, x1, x2, x3, x4, x5, x6, x7], _ =>
    refine ⟨rfl, rfl, rfl, ?_⟩
    simp [refS]
theorem ref_shape {l : List UInt8} (h : refS l = true) : ∃ (v r : List UInt8) (a b c : UInt8), v.length = 8 ∧ l = v ++ 32 :: ([a, b, c] ++ 32 :: r) ∧ digitI a.toNat = true ∧ digitI b.toNat = true ∧ digitI c.toNat = true ∧ 49 ≤ (a.toNat : Int) ∧ (a.toNat : Int) ≤ 53 ∧ textL r = true := by
  have hl : 13 ≤ l.length := by simp only [refS, Bool.and_eq_true, decide_eq_true_eq] at h; exact h.1.1.1.1.1.1.1
  match l, hl with
  | x0 :: x1 :: x2 :: x3 :: x4 :: x5 :: x6 :: x7 :: x8 :: x9 :: x10 :: x11 :: x12 :: r, _ =>
    simp only [refS, Bool.and_eq_true, decide_eq_true_eq] at h
    obtain ⟨⟨⟨⟨⟨⟨⟨_, h8⟩, h9⟩, h9'⟩, h10⟩, h11⟩, h12⟩, ht⟩ := h
    have e8 : x8 = 32 := byte_eq (n := 32) h8 (by omega)
    have e12 : x12 = 32 := byte_eq (n := 32) h12 (by omega)
    have h9a : 49 ≤ (x9.toNat : Int) := h9
    have h9b : (x9.toNat : Int) ≤ 53 := h9'
    subst e8 e12
    refine ⟨[x0, x1, x2, x3, x4, x5, x6, x7], r, x9, x10, x11, rfl, rfl, ?_, h10, h11, h9a, h9b, ht⟩
    simp [digitI]; omega
theorem ref_cond {l : List UInt8} (h : refS l = true) (hv : isVerL (l.take 8) = true) : condS l = true ∧ cut1 32 l = l.take 8 ∧ cut2 32 (cut2 32 l) = l.drop 13 ∧ codeL (cut1 32 (cut2 32 l)) = numL ((l.take 12).drop 9) := by
  obtain ⟨v, r, a, b, c, hl, rfl, ha, hb, hc, h1, h2, ht⟩ := ref_shape h
  have hr := shape_ref (r := r) (a := a) (b := b) (c := c) hl
  rw [hr.1] at hv
  have hs := shape_cut (r := r) hv ha hb hc
  have h3 := code3 ha hb hc h1 h2
  refine ⟨?_, ?_, ?_, ?_⟩
  · unfold condS; rw [hs.2.1, hs.2.2.1, hs.2.2.2.1, hs.2.2.2.2, h3.2, ht]; rfl
  · rw [hs.1, hr.1]
  · rw [hs.2.1, hs.2.2.2.1, hr.2.1]
  · rw [hs.2.1, hs.2.2.1, hr.2.2.1, h3.1]
theorem cond_shape {l : List UInt8} (h : condS l = true) : ∃ (r : List UInt8) (a b c : UInt8), l = cut1 32 l ++ 32 :: ([a, b, c] ++ 32 :: r) ∧ digitI a.toNat = true ∧ digitI b.toNat = true ∧ digitI c.toNat = true ∧ 49 ≤ (a.toNat : Int) ∧ (a.toNat : Int) ≤ 53 ∧ textL r = true ∧ cut2 32 (cut2 32 l) = r ∧ cut1 32 (cut2 32 l) = [a, b, c] := by
  unfold condS at h
  simp only [Bool.and_eq_true] at h
  obtain ⟨⟨hB, hO⟩, hT⟩ := h
  obtain ⟨a, b, c, hx, ha, hb, hc, h1, h2⟩ := code_ex hO
  have j2 := cut_join hB
  have hB1 : cutB 32 l = true := cutB_of (by intro e; rw [e] at hB; cases hB)
  have j1 := cut_join hB1
  refine ⟨cut2 32 (cut2 32 l), a, b, c, ?_, ha, hb, hc, h1, h2, hT, rfl, hx⟩
  rw [← hx, ← j2]; exact j1
theorem cond_ref {l : List UInt8} (h : condS l = true) (hv : isVerL (cut1 32 l) = true) : refS l = true ∧ cut1 32 l = l.take 8 := by
  obtain ⟨r, a, b, c, hl, ha, hb, hc, h1, h2, ht, _, _⟩ := cond_shape h
  have hr := shape_ref (r := r) (a := a) (b := b) (c := c) (ver_len hv)
  rw [← hl] at hr
  exact ⟨by rw [hr.2.2.2, hb, hc, ht]; simp [h1, h2], hr.1.symm⟩
theorem sta_ref_no {l : List UInt8} (h : ¬ 2000 < l.length) (hr : refS l = false) : staL l = (0, 0, [], 1) := by
  rcases hc : condS l with _ | _
  · exact sta_bad h hc
  · rcases hv : isVerL (cut1 32 l) with _ | _
    · rw [sta_ver h hc (by rw [verE_no hv]; omega), verE_no hv]
    · rw [(cond_ref hc hv).1] at hr; cases hr
theorem sta_ref_ver {l : List UInt8} (h : ¬ 2000 < l.length) (hr : refS l = true) (hE : verE (l.take 8) ≠ 0) : staL l = (0, 0, [], verE (l.take 8)) := by
  rcases hv8 : isVerL (l.take 8) with _ | _
  · rw [verE_no hv8]
    rcases hc : condS l with _ | _
    · exact sta_bad h hc
    · rcases hv : isVerL (cut1 32 l) with _ | _
      · rw [sta_ver h hc (by rw [verE_no hv]; omega), verE_no hv]
      · rw [(cond_ref hc hv).2, hv8] at hv; cases hv
  · have hc := ref_cond hr hv8
    rw [← hc.2.1] at hE ⊢
    exact sta_ver h hc.1 hE
theorem sta_ref_ok {l : List UInt8} (h : ¬ 2000 < l.length) (hr : refS l = true) (hE : verE (l.take 8) = 0) : staL l = (verM (l.take 8), (numL ((l.take 12).drop 9)).getD 0, l.drop 13, 0) := by
  have hv8 : isVerL (l.take 8) = true := by
    rcases hv8 : isVerL (l.take 8) with _ | _
    · rw [verE_no hv8] at hE; cases hE
    · rfl
  have hc := ref_cond hr hv8
  rw [sta_ok h hc.1 (by rw [hc.2.1]; exact hE), hc.2.1, hc.2.2.1, hc.2.2.2]
theorem refS_num {l : List UInt8} (hr : refS l = true) : ∃ n, numL ((l.take 12).drop 9) = some n := by
  obtain ⟨v, r, a, b, c, hl, rfl, ha, hb, hc, h1, h2, ht⟩ := ref_shape hr
  rw [(shape_ref (r := r) (a := a) (b := b) (c := c) hl).2.2.1]
  exact ⟨_, num3 ha hb hc⟩

end Go.Proofs.Ytlcojfkkeommoaa.Asc
