/- Merged texts: StaSpec2 StaSpec3 MsgSpec MsgSpec6 MsgSpec2 MsgSpec3 LstMem. -/
import Derived.Test.YtjabcfabenobiaaGreatM01
import Derived.Test.YtjabcfabenobiaaGreatM03
import Derived.Test.YtjabcfabenobiaaGreatM05
import Derived.Test.YtjabcfabenobiaaGreatM06
import Derived.LoopTactic
set_option linter.unusedVariables false
set_option linter.unusedSimpArgs false
set_option maxRecDepth 100000
namespace Go.Proofs.YtjabcfabenobiaaGreat.Asc
section
theorem cut1_le (c : UInt8) (l : List UInt8) : (cut1 c l).length ≤ l.length := (List.takeWhile_sublist _).length_le
theorem cut2_le (c : UInt8) (l : List UInt8) : (cut2 c l).length ≤ l.length := by
  unfold cut2; rw [List.length_drop]; have := (List.dropWhile_sublist (· != c) (l := l)).length_le; omega
theorem cutB_of {c : UInt8} {l : List UInt8} (h : cut2 c l ≠ []) : cutB c l = true := by
  by_cases e : Lib.indexByte l c = -1
  · exact absurd (cut_no e).2.1 h
  · obtain ⟨k, hk⟩ : ∃ k : Nat, Lib.indexByte l c = k := ⟨(Lib.indexByte l c).toNat, by have := Lib.indexByte_ge l c; omega⟩
    exact (cut_at hk).2.2.2
theorem num3 {a b c : UInt8} (ha : digitI a.toNat = true) (hb : digitI b.toNat = true) (hc : digitI c.toNat = true) :
    numL [a, b, c] = some (((a.toNat : Int) - 48) * 100 + ((b.toNat : Int) - 48) * 10 + ((c.toNat : Int) - 48)) := by
  have h : allI digitI [a, b, c] = true := by simp [allI, ha, hb, hc]
  simp [digitI] at ha hb hc
  unfold numL
  rw [if_pos ⟨h, by simp⟩]
  simp only [numF, List.foldl, satI]
  congr 1
  repeat' split
  all_goals omega
theorem code3 {a b c : UInt8} (ha : digitI a.toNat = true) (hb : digitI b.toNat = true) (hc : digitI c.toNat = true) (h1 : 49 ≤ (a.toNat : Int)) (h2 : (a.toNat : Int) ≤ 53) :
    codeL [a, b, c] = numL [a, b, c] ∧ (codeL [a, b, c]).isSome = true := by
  have hn := num3 ha hb hc
  simp [digitI] at ha hb hc
  unfold codeL; rw [hn]; simp only []
  rw [if_pos ⟨rfl, by omega, by omega⟩]; exact ⟨rfl, rfl⟩
theorem code_ex {x : List UInt8} (h : (codeL x).isSome = true) : ∃ a b c : UInt8, x = [a, b, c] ∧ digitI a.toNat = true ∧ digitI b.toNat = true ∧ digitI c.toNat = true ∧ 49 ≤ (a.toNat : Int) ∧ (a.toNat : Int) ≤ 53 := by
  unfold codeL at h
  rcases hn : numL x with _ | n
  · rw [hn] at h; cases h
  · rw [hn] at h
    simp only [] at h
    split at h
    · rename_i hc
      have hd : allI digitI x = true := by
        unfold numL at hn; split at hn
        · rename_i q; exact q.1
        · cases hn
      obtain ⟨a, b, c, rfl⟩ : ∃ a b c, x = [a, b, c] := by
        match x, hc.1 with
        | [a, b, c], _ => exact ⟨a, b, c, rfl⟩
      simp [allI] at hd
      have h3 := num3 hd.1 hd.2.1 hd.2.2
      rw [hn] at h3
      have h4 := Option.some.inj h3
      have d1 := hd.1; have d2 := hd.2.1; have d3 := hd.2.2
      refine ⟨a, b, c, rfl, hd.1, hd.2.1, hd.2.2, ?_, ?_⟩ <;> (simp [digitI] at d1 d2 d3; omega)
    · cases h
/-- what the line must be by its places, but for the version -/
def refS (l : List UInt8) : Bool := decide (13 ≤ l.length) && (((l.getD 8 0).toNat : Int) == 32) && decide (49 ≤ ((l.getD 9 0).toNat : Int)) && decide (((l.getD 9 0).toNat : Int) ≤ 53) && digitI (l.getD 10 0).toNat && digitI (l.getD 11 0).toNat && (((l.getD 12 0).toNat : Int) == 32) && textL (l.drop 13)
def condS (l : List UInt8) : Bool := cutB 32 (cut2 32 l) && (codeL (cut1 32 (cut2 32 l))).isSome && textL (cut2 32 (cut2 32 l))
theorem ver_no32 {v : List UInt8} (h : isVerL v = true) : (32 : UInt8) ∉ v := by
  obtain ⟨a, b, rfl, ha, hb⟩ := isVer_ex h
  have hn : digitI ((32 : UInt8).toNat : Int) = false := by decide
  simp
  refine ⟨?_, ?_⟩
  · rintro rfl; rw [hn] at ha; cases ha
  · rintro rfl; rw [hn] at hb; cases hb
theorem dig_no32 {a b c : UInt8} (ha : digitI a.toNat = true) (hb : digitI b.toNat = true) (hc : digitI c.toNat = true) : (32 : UInt8) ∉ [a, b, c] := by
  simp
  refine ⟨?_, ?_, ?_⟩
  · rintro rfl; revert ha; decide
  · rintro rfl; revert hb; decide
  · rintro rfl; revert hc; decide
/-- a line of the shape: version, space, three bytes, space, rest -/
theorem shape_cut {v r : List UInt8} {a b c : UInt8} (hv : isVerL v = true) (ha : digitI a.toNat = true) (hb : digitI b.toNat = true) (hc : digitI c.toNat = true) :
    cut1 32 (v ++ 32 :: ([a, b, c] ++ 32 :: r)) = v ∧ cut2 32 (v ++ 32 :: ([a, b, c] ++ 32 :: r)) = [a, b, c] ++ 32 :: r ∧ cut1 32 ([a, b, c] ++ 32 :: r) = [a, b, c] ∧ cut2 32 ([a, b, c] ++ 32 :: r) = r ∧ cutB 32 ([a, b, c] ++ 32 :: r) = true :=
  ⟨(cut_app (ver_no32 hv)).1, (cut_app (ver_no32 hv)).2.1, (cut_app (dig_no32 ha hb hc)).1, (cut_app (dig_no32 ha hb hc)).2.1, (cut_app (dig_no32 ha hb hc)).2.2⟩
theorem ver_len {v : List UInt8} (h : isVerL v = true) : v.length = 8 := by obtain ⟨a, b, rfl, _⟩ := isVer_ex h; rfl
theorem shape_ref {v r : List UInt8} {a b c : UInt8} (hv : v.length = 8) : (v ++ 32 :: ([a, b, c] ++ 32 :: r)).take 8 = v ∧ (v ++ 32 :: ([a, b, c] ++ 32 :: r)).drop 13 = r ∧ ((v ++ 32 :: ([a, b, c] ++ 32 :: r)).take 12).drop 9 = [a, b, c]
    ∧ refS (v ++ 32 :: ([a, b, c] ++ 32 :: r)) = (decide (49 ≤ (a.toNat : Int)) && decide ((a.toNat : Int) ≤ 53) && digitI b.toNat && digitI c.toNat && textL r) := by
  match v, hv with
  | [x0, x1, x2, x3, x4, x5, x6, x7], _ =>
    refine ⟨rfl, rfl, rfl, ?_⟩
    simp [refS]
theorem ref_shape {l : List UInt8} (h : refS l = true) : ∃ (v r : List UInt8) (a b c : UInt8), v.length = 8 ∧ l = v ++ 32 :: ([a, b, c] ++ 32 :: r) ∧ digitI a.toNat = true ∧ digitI b.toNat = true ∧ digitI c.toNat = true ∧ 49 ≤ (a.toNat : Int) ∧ (a.toNat : Int) ≤ 53 ∧ textL r = true := by
  have hl : 13 ≤ l.length := by simp only [refS, Bool.and_eq_true, decide_eq_true_eq] at h; exact h.1.1.1.1.1.1.1
  match l, hl with
  | x0 :: x1 :: x2 :: x3 :: x4 :: x5 :: x6 :: x7 :: x8 :: x9 :: x10 :: x11 :: x12 :: r, _ =>
    simp only [refS, Bool.and_eq_true, decide_eq_true_eq] at h
    obtain ⟨⟨⟨⟨⟨⟨⟨_, h8⟩, h9⟩, h9'⟩, h10⟩, h11⟩, h12⟩, ht⟩ := h
    have e8 : x8 = 32 := byte_eq (n := 32) h8 (by omega)
    have e12 : x12 = 32 := byte_eq (n := 32) h12 (by omega)
    have h9a : 49 ≤ (x9.toNat : Int) := h9
    have h9b : (x9.toNat : Int) ≤ 53 := h9'
    subst e8 e12
    refine ⟨[x0, x1, x2, x3, x4, x5, x6, x7], r, x9, x10, x11, rfl, rfl, ?_, h10, h11, h9a, h9b, ht⟩
    simp [digitI]; omega
theorem ref_cond {l : List UInt8} (h : refS l = true) (hv : isVerL (l.take 8) = true) : condS l = true ∧ cut1 32 l = l.take 8 ∧ cut2 32 (cut2 32 l) = l.drop 13 ∧ codeL (cut1 32 (cut2 32 l)) = numL ((l.take 12).drop 9) := by
  obtain ⟨v, r, a, b, c, hl, rfl, ha, hb, hc, h1, h2, ht⟩ := ref_shape h
  have hr := shape_ref (r := r) (a := a) (b := b) (c := c) hl
  rw [hr.1] at hv
  have hs := shape_cut (r := r) hv ha hb hc
  have h3 := code3 ha hb hc h1 h2
  refine ⟨?_, ?_, ?_, ?_⟩
  · unfold condS; rw [hs.2.1, hs.2.2.1, hs.2.2.2.1, hs.2.2.2.2, h3.2, ht]; rfl
  · rw [hs.1, hr.1]
  · rw [hs.2.1, hs.2.2.2.1, hr.2.1]
  · rw [hs.2.1, hs.2.2.1, hr.2.2.1, h3.1]
theorem cond_shape {l : List UInt8} (h : condS l = true) : ∃ (r : List UInt8) (a b c : UInt8), l = cut1 32 l ++ 32 :: ([a, b, c] ++ 32 :: r) ∧ digitI a.toNat = true ∧ digitI b.toNat = true ∧ digitI c.toNat = true ∧ 49 ≤ (a.toNat : Int) ∧ (a.toNat : Int) ≤ 53 ∧ textL r = true ∧ cut2 32 (cut2 32 l) = r ∧ cut1 32 (cut2 32 l) = [a, b, c] := by
  unfold condS at h
  simp only [Bool.and_eq_true] at h
  obtain ⟨⟨hB, hO⟩, hT⟩ := h
  obtain ⟨a, b, c, hx, ha, hb, hc, h1, h2⟩ := code_ex hO
  have j2 := cut_join hB
  have hB1 : cutB 32 l = true := cutB_of (by intro e; rw [e] at hB; cases hB)
  have j1 := cut_join hB1
  refine ⟨cut2 32 (cut2 32 l), a, b, c, ?_, ha, hb, hc, h1, h2, hT, rfl, hx⟩
  rw [← hx, ← j2]; exact j1
theorem cond_ref {l : List UInt8} (h : condS l = true) (hv : isVerL (cut1 32 l) = true) : refS l = true ∧ cut1 32 l = l.take 8 := by
  obtain ⟨r, a, b, c, hl, ha, hb, hc, h1, h2, ht, _, _⟩ := cond_shape h
  have hr := shape_ref (r := r) (a := a) (b := b) (c := c) (ver_len hv)
  rw [← hl] at hr
  exact ⟨by rw [hr.2.2.2, hb, hc, ht]; simp [h1, h2], hr.1.symm⟩
theorem sta_ref_no {l : List UInt8} (h : ¬ 2000 < l.length) (hr : refS l = false) : staL l = (0, 0, [], 1) := by
  rcases hc : condS l with _ | _
  · exact sta_bad h hc
  · rcases hv : isVerL (cut1 32 l) with _ | _
    · rw [sta_ver h hc (by rw [verE_no hv]; omega), verE_no hv]
    · rw [(cond_ref hc hv).1] at hr; cases hr
theorem sta_ref_ver {l : List UInt8} (h : ¬ 2000 < l.length) (hr : refS l = true) (hE : verE (l.take 8) ≠ 0) : staL l = (0, 0, [], verE (l.take 8)) := by
  rcases hv8 : isVerL (l.take 8) with _ | _
  · rw [verE_no hv8]
    rcases hc : condS l with _ | _
    · exact sta_bad h hc
    · rcases hv : isVerL (cut1 32 l) with _ | _
      · rw [sta_ver h hc (by rw [verE_no hv]; omega), verE_no hv]
      · rw [(cond_ref hc hv).2, hv8] at hv; cases hv
  · have hc := ref_cond hr hv8
    rw [← hc.2.1] at hE ⊢
    exact sta_ver h hc.1 hE
theorem sta_ref_ok {l : List UInt8} (h : ¬ 2000 < l.length) (hr : refS l = true) (hE : verE (l.take 8) = 0) : staL l = (verM (l.take 8), (numL ((l.take 12).drop 9)).getD 0, l.drop 13, 0) := by
  have hv8 : isVerL (l.take 8) = true := by
    rcases hv8 : isVerL (l.take 8) with _ | _
    · rw [verE_no hv8] at hE; cases hE
    · rfl
  have hc := ref_cond hr hv8
  rw [sta_ok h hc.1 (by rw [hc.2.1]; exact hE), hc.2.1, hc.2.2.1, hc.2.2.2]
theorem refS_num {l : List UInt8} (hr : refS l = true) : ∃ n, numL ((l.take 12).drop 9) = some n := by
  obtain ⟨v, r, a, b, c, hl, rfl, ha, hb, hc, h1, h2, ht⟩ := ref_shape hr
  rw [(shape_ref (r := r) (a := a) (b := b) (c := c) hl).2.2.1]
  exact ⟨_, num3 ha hb hc⟩
end
section
def http7 : List UInt8 := [72, 84, 84, 80, 47, 49, 46]
def reqLine (m t : List UInt8) (n : Int) : List UInt8 := m ++ 32 :: (t ++ 32 :: (http7 ++ decL n))
def staLine (n s : Int) (r : List UInt8) : List UInt8 := (http7 ++ decL n) ++ 32 :: (decL s ++ 32 :: r)
def fmtReqL (m t : List UInt8) (n : Int) : List UInt8 := if reqL (reqLine m t n) = (m, t, n, 0) then reqLine m t n else []
def fmtStaL (n s : Int) (r : List UInt8) : List UInt8 := if staL (staLine n s r) = (n, s, r, 0) then staLine n s r else []
theorem dec_0 : decL 0 = [48] := by decide
theorem dec_1 : decL 1 = [49] := by decide
theorem dec_3 : ∀ (i : Fin 5) (j k : Fin 10), decL ((i.1 + 1) * 100 + j.1 * 10 + k.1 : Nat) = [UInt8.ofNat (49 + i.1), UInt8.ofNat (48 + j.1), UInt8.ofNat (48 + k.1)] := by decide +kernel
theorem dec_abc {a b c : UInt8} (hb : digitI b.toNat = true) (hc : digitI c.toNat = true) (h1 : 49 ≤ (a.toNat : Int)) (h2 : (a.toNat : Int) ≤ 53) :
    decL (((a.toNat : Int) - 48) * 100 + ((b.toNat : Int) - 48) * 10 + ((c.toNat : Int) - 48)) = [a, b, c] := by
  simp [digitI] at hb hc
  have h := dec_3 ⟨a.toNat - 49, by omega⟩ ⟨b.toNat - 48, by omega⟩ ⟨c.toNat - 48, by omega⟩
  simp only [] at h
  have e : (((a.toNat - 49 + 1) * 100 + (b.toNat - 48) * 10 + (c.toNat - 48) : Nat) : Int) = ((a.toNat : Int) - 48) * 100 + ((b.toNat : Int) - 48) * 10 + ((c.toNat : Int) - 48) := by omega
  rw [e] at h
  rw [h, show 49 + (a.toNat - 49) = a.toNat from by omega, show 48 + (b.toNat - 48) = b.toNat from by omega, show 48 + (c.toNat - 48) = c.toNat from by omega]
  simp
theorem dec_ex {s : Int} (h1 : 100 ≤ s) (h2 : s ≤ 599) : ∃ a b c : UInt8, decL s = [a, b, c] ∧ digitI a.toNat = true ∧ digitI b.toNat = true ∧ digitI c.toNat = true ∧ 49 ≤ (a.toNat : Int) ∧ (a.toNat : Int) ≤ 53 ∧ numL [a, b, c] = some s := by
  obtain ⟨n, rfl⟩ := Int.eq_ofNat_of_zero_le (by omega : 0 ≤ s)
  have h := dec_3 ⟨n / 100 - 1, by omega⟩ ⟨n / 10 % 10, by omega⟩ ⟨n % 10, by omega⟩
  simp only [] at h
  rw [show (n / 100 - 1 + 1) * 100 + n / 10 % 10 * 10 + n % 10 = n from by omega] at h
  have ea : (UInt8.ofNat (49 + (n / 100 - 1))).toNat = 49 + (n / 100 - 1) := by rw [UInt8.toNat_ofNat']; omega
  have eb : (UInt8.ofNat (48 + n / 10 % 10)).toNat = 48 + n / 10 % 10 := by rw [UInt8.toNat_ofNat']; omega
  have ec : (UInt8.ofNat (48 + n % 10)).toNat = 48 + n % 10 := by rw [UInt8.toNat_ofNat']; omega
  have da : digitI (UInt8.ofNat (49 + (n / 100 - 1))).toNat = true := by rw [ea]; simp [digitI]; omega
  have db : digitI (UInt8.ofNat (48 + n / 10 % 10)).toNat = true := by rw [eb]; simp [digitI]; omega
  have dc : digitI (UInt8.ofNat (48 + n % 10)).toNat = true := by rw [ec]; simp [digitI]; omega
  refine ⟨_, _, _, h, da, db, dc, by rw [ea]; omega, by rw [ea]; omega, ?_⟩
  rw [num3 da db dc, ea, eb, ec]; congr 1; omega
/-- request lines -/
theorem req_parts {l m t : List UInt8} {v : Int} (h : reqL l = (m, t, v, 0)) : l.length ≤ 2000 ∧ m = cut1 32 l ∧ t = cut1 32 (cut2 32 l) ∧ tokL m = true ∧ visL t = true ∧ verE (cut2 32 (cut2 32 l)) = 0 ∧ v = verM (cut2 32 (cut2 32 l)) := by
  unfold reqL at h
  split at h
  · simp at h
  · split at h
    · simp at h
    · rename_i h1 h2
      split at h
      · rename_i h3; simp at h; exact absurd h.2.2.2 h3
      · rename_i h3
        simp only [Prod.mk.injEq] at h
        simp only [Bool.and_eq_false_iff, not_or, Bool.not_eq_false] at h2
        obtain ⟨rfl, rfl, rfl, _⟩ := h
        exact ⟨by omega, rfl, rfl, h2.1, h2.2, by simpa using h3, rfl⟩
theorem ver_text {x : List UInt8} (h : verE x = 0) : x = http7 ++ decL (verM x) := by
  rcases verE_ok h with rfl | rfl <;> decide
theorem ver_min {x : List UInt8} : verM x = 0 ∨ verM x = 1 := by unfold verM; split <;> simp
theorem req_back {l m t : List UInt8} {v : Int} (h : reqL l = (m, t, v, 0)) : reqLine m t v = l := by
  obtain ⟨hl, rfl, rfl, h1, h2, h3, rfl⟩ := req_parts h
  have c2 : cutB 32 (cut2 32 l) = true := cutB_of (by intro e; rw [e] at h3; revert h3; decide)
  have c1 : cutB 32 l = true := cutB_of (by intro e; rw [e] at h2; revert h2; decide)
  unfold reqLine
  rw [← ver_text h3, ← cut_join c2, ← cut_join c1]
theorem fmtReq_min {m t : List UInt8} {n : Int} (h : n < 0 ∨ 1 < n) : fmtReqL m t n = [] := by
  unfold fmtReqL; rw [if_neg]
  intro e
  have := (req_parts e).2.2.2.2.2.2
  rcases ver_min (x := cut2 32 (cut2 32 (reqLine m t n))) with q | q <;> omega
theorem fmtReq_long {m t : List UInt8} {n : Int} (h : 2000 < m.length ∨ 2000 < t.length) : fmtReqL m t n = [] := by
  unfold fmtReqL; rw [if_neg]
  intro e
  have := (req_parts e).1
  simp [reqLine] at this
  omega
/-- status lines -/
theorem sta_parts {l r : List UInt8} {n s : Int} (h : staL l = (n, s, r, 0)) : l.length ≤ 2000 ∧ condS l = true ∧ verE (cut1 32 l) = 0 ∧ n = verM (cut1 32 l) ∧ s = (codeL (cut1 32 (cut2 32 l))).getD 0 ∧ r = cut2 32 (cut2 32 l) := by
  unfold staL at h
  split at h
  · simp at h
  · split at h
    · simp at h
    · rename_i h1 h2
      split at h
      · rename_i h3; simp at h; exact absurd h.2.2.2 h3
      · rename_i h3
        simp only [Prod.mk.injEq] at h
        obtain ⟨rfl, rfl, rfl, _⟩ := h
        exact ⟨by omega, by unfold condS; rw [← Bool.not_eq_false]; exact h2, by simpa using h3, rfl, rfl, rfl⟩
theorem code_num {x : List UInt8} {s : Int} (h : codeL x = some s) : numL x = some s ∧ 100 ≤ s ∧ s ≤ 599 := by
  unfold codeL at h
  rcases hn : numL x with _ | n
  · rw [hn] at h; cases h
  · rw [hn] at h; simp only [] at h
    split at h
    · rename_i q; cases h; exact ⟨rfl, q.2.1, q.2.2⟩
    · cases h
theorem sta_code {l : List UInt8} (h : condS l = true) : ∃ s, codeL (cut1 32 (cut2 32 l)) = some s := by
  unfold condS at h; simp only [Bool.and_eq_true] at h
  exact Option.isSome_iff_exists.mp h.1.2
theorem sta_range {l r : List UInt8} {n s : Int} (h : staL l = (n, s, r, 0)) : (n = 0 ∨ n = 1) ∧ 100 ≤ s ∧ s ≤ 599 ∧ r.length ≤ 2000 := by
  obtain ⟨hl, hc, _, rfl, rfl, rfl⟩ := sta_parts h
  obtain ⟨q, hq⟩ := sta_code hc
  have := code_num hq
  rw [hq]
  refine ⟨ver_min, this.2.1, this.2.2, ?_⟩
  have a := cut2_le 32 (cut2 32 l)
  have b := cut2_le 32 l
  omega
theorem sta_back {l r : List UInt8} {n s : Int} (h : staL l = (n, s, r, 0)) : staLine n s r = l := by
  obtain ⟨hl, hc, hv, rfl, rfl, rfl⟩ := sta_parts h
  obtain ⟨r, a, b, c, hj, ha, hb, hcc, h1, h2, ht, hr, hx⟩ := cond_shape hc
  have h3 := num3 ha hb hcc
  have h4 := code3 ha hb hcc h1 h2
  unfold staLine
  rw [← ver_text hv, hx, hr, h4.1, h3]
  show cut1 32 l ++ 32 :: (decL _ ++ 32 :: r) = l
  rw [Option.getD_some, dec_abc hb hcc h1 h2]; exact hj.symm
theorem fmtSta_out {r : List UInt8} {n s : Int} (h : n < 0 ∨ 1 < n ∨ s < 100 ∨ 599 < s ∨ 2000 < r.length) : fmtStaL n s r = [] := by
  unfold fmtStaL; rw [if_neg]
  intro e
  have := sta_range e
  omega
theorem sta_in {r : List UInt8} {n s : Int} (h0 : 0 ≤ n) (h1 : n ≤ 1) (h2 : 100 ≤ s) (h3 : s ≤ 599) (hE : (staL (staLine n s r)).2.2.2 = 0) : staL (staLine n s r) = (n, s, r, 0) := by
  obtain ⟨a, b, c, hd, ha, hb, hc, g1, g2, hn⟩ := dec_ex h2 h3
  have hv : isVerL (http7 ++ decL n) = true ∧ verE (http7 ++ decL n) = 0 ∧ verM (http7 ++ decL n) = n := by
    have : n = 0 ∨ n = 1 := by omega
    rcases this with rfl | rfl <;> decide
  have hs := shape_cut (r := r) hv.1 ha hb hc
  have h4 := code3 ha hb hc g1 g2
  rw [hn] at h4
  unfold staLine at hE ⊢
  rw [hd] at hE ⊢
  have hcd : condS (http7 ++ decL n ++ 32 :: ([a, b, c] ++ 32 :: r)) = textL r := by
    unfold condS; rw [hs.2.1, hs.2.2.1, hs.2.2.2.1, hs.2.2.2.2, h4.2]; rfl
  by_cases hl : 2000 < (http7 ++ decL n ++ 32 :: ([a, b, c] ++ 32 :: r)).length
  · rw [sta_long hl] at hE; simp at hE
  · rcases ht : condS (http7 ++ decL n ++ 32 :: ([a, b, c] ++ 32 :: r)) with _ | _
    · rw [sta_bad hl ht] at hE; simp at hE
    · rw [sta_ok hl ht (by rw [hs.1]; exact hv.2.1), hs.1, hs.2.1, hs.2.2.1, hs.2.2.2.1, h4.1, hv.2.2]; rfl
theorem fmtSta_ok {r : List UInt8} {n s : Int} (h0 : 0 ≤ n) (h1 : n ≤ 1) (h2 : 100 ≤ s) (h3 : s ≤ 599) (hE : (staL (staLine n s r)).2.2.2 = 0) : fmtStaL n s r = staLine n s r := by
  unfold fmtStaL; rw [if_pos (sta_in h0 h1 h2 h3 hE)]
theorem fmtSta_no {r : List UInt8} {n s : Int} (hE : (staL (staLine n s r)).2.2.2 ≠ 0) : fmtStaL n s r = [] := by
  unfold fmtStaL; rw [if_neg]; intro e; rw [e] at hE; exact hE rfl
end
section
def startE (rq : Bool) (t : List UInt8) : Int := if rq = true then (reqL t).2.2.2 else (staL t).2.2.2
/-- a head, line by line: k lines have been read, n bytes; the start line, the fields -/
def headF : Nat → Bool → Nat → List UInt8 → List F → Nat → List UInt8 → Int ⊕ (List UInt8 × List F × Nat × List UInt8)
  | 0, _, _, _, _, _, _ => .inl 0
  | f + 1, rq, k, st, L, n, l => match nextL l with
    | .inl e => .inl e
    | .inr (t, r) =>
      if 16000 < n + t.length + 2 ∨ (64 < k ∧ t ≠ []) then .inl 4
      else if k = 0 then (if startE rq t ≠ 0 then .inl (startE rq t) else headF f rq 1 t L (n + t.length + 2) r)
      else if t = [] then .inr (st, L, n + t.length + 2, r)
      else if (fieldL t).2.2 ≠ 0 then .inl (fieldL t).2.2
      else headF f rq (k + 1) st (L ++ [(bs (fieldL t).1, bs (fieldL t).2.1)]) (n + t.length + 2) r
def headL (rq : Bool) (l : List UInt8) : Int ⊕ (List UInt8 × List F × Nat × List UInt8) := headF 67 rq 0 [] [] 0 l
theorem head_bad {f k n : Nat} {rq : Bool} {st l : List UInt8} {L : List F} {e : Int} (h : nextL l = .inl e) : headF (f + 1) rq k st L n l = .inl e := by simp only [headF, h]
theorem head_long {f k n : Nat} {rq : Bool} {st l t r : List UInt8} {L : List F} (h : nextL l = .inr (t, r)) (hl : 16000 < n + t.length + 2 ∨ (64 < k ∧ t ≠ [])) : headF (f + 1) rq k st L n l = .inl 4 := by
  simp only [headF, h]; rw [if_pos hl]
theorem head_start {f n : Nat} {rq : Bool} {st l t r : List UInt8} {L : List F} (h : nextL l = .inr (t, r)) (hl : ¬ (16000 < n + t.length + 2 ∨ (64 < 0 ∧ t ≠ []))) (he : startE rq t ≠ 0) : headF (f + 1) rq 0 st L n l = .inl (startE rq t) := by
  simp only [headF, h]; rw [if_neg hl, if_pos trivial, if_pos he]
theorem head_first {f n : Nat} {rq : Bool} {st l t r : List UInt8} {L : List F} (h : nextL l = .inr (t, r)) (hl : ¬ (16000 < n + t.length + 2 ∨ (64 < 0 ∧ t ≠ []))) (he : startE rq t = 0) : headF (f + 1) rq 0 st L n l = headF f rq 1 t L (n + t.length + 2) r := by
  simp only [headF, h]; rw [if_neg hl, if_pos trivial, if_neg (by rw [he]; simp)]
theorem head_done {f k n : Nat} {rq : Bool} {st l r : List UInt8} {L : List F} (h : nextL l = .inr ([], r)) (hl : ¬ 16000 < n + 2) (hk : k ≠ 0) : headF (f + 1) rq k st L n l = .inr (st, L, n + 2, r) := by
  simp only [headF, h, List.length_nil, Nat.add_zero]; rw [if_neg (by simp; omega), if_neg hk]; simp
theorem head_field {f k n : Nat} {rq : Bool} {st l t r : List UInt8} {L : List F} (h : nextL l = .inr (t, r)) (hl : ¬ (16000 < n + t.length + 2 ∨ (64 < k ∧ t ≠ []))) (hk : k ≠ 0) (ht : t ≠ []) (he : (fieldL t).2.2 ≠ 0) : headF (f + 1) rq k st L n l = .inl (fieldL t).2.2 := by
  simp only [headF, h]; rw [if_neg hl, if_neg hk, if_neg ht, if_pos he]
theorem head_more {f k n : Nat} {rq : Bool} {st l t r : List UInt8} {L : List F} (h : nextL l = .inr (t, r)) (hl : ¬ (16000 < n + t.length + 2 ∨ (64 < k ∧ t ≠ []))) (hk : k ≠ 0) (ht : t ≠ []) (he : (fieldL t).2.2 = 0) :
    headF (f + 1) rq k st L n l = headF f rq (k + 1) st (L ++ [(bs (fieldL t).1, bs (fieldL t).2.1)]) (n + t.length + 2) r := by
  simp only [headF, h]; rw [if_neg hl, if_neg hk, if_neg ht, if_neg (by rw [he]; simp)]
def teN : ByteArray := ⟨#[84, 114, 97, 110, 115, 102, 101, 114, 45, 69, 110, 99, 111, 100, 105, 110, 103]⟩
def clN : ByteArray := ⟨#[67, 111, 110, 116, 101, 110, 116, 45, 76, 101, 110, 103, 116, 104]⟩
def hostN : ByteArray := ⟨#[72, 111, 115, 116]⟩
def chunkedL : List UInt8 := [99, 104, 117, 110, 107, 101, 100]
def unfrL (L : List F) : List F := remL teN (remL clN L)
/-- how a body is framed: -1 chunked, -2 not at all, or its length; an error -/
def framedL (L : List F) : Int × Int :=
  let te := getL teN L
  let cl := getL clN L
  if 1 < te.length ∨ (te.length = 1 ∧ te.all (fun x => foldL x.data.toList chunkedL) = false) then (0, 7)
  else if (0 < te.length ∧ 0 < cl.length) ∨ 1 < cl.length then (0, 8)
  else if 0 < te.length then (-1, 0)
  else match cl with
    | [] => (-2, 0)
    | x :: _ => match numL x.data.toList with
      | some v => if x.size ≤ 9 then (v, 0) else (0, 8)
      | none => (0, 8)
/-- a body that is framed in a way: its bytes, how many have been read -/
def bodyL (how : Int) (l : List UInt8) : Int ⊕ (List UInt8 × Int) :=
  if how = -1 then (if (decodeL l).2.2 ≠ 0 then .inl (decodeL l).2.2 else .inr ((decodeL l).1, (decodeL l).2.1))
  else if 100000 < how then .inl 5
  else if (l.length : Int) < how then .inl 2
  else .inr (l.take how.toNat, how)
/-- method, target, minor, fields, body; length; error -/
abbrev RQ := List UInt8 × List UInt8 × Int × List F × List UInt8
def zeroRQ : RQ := ([], [], 0, [], [])
def hostE (L : List F) (v : Int) : Bool := decide (1 < (getL hostN L).length ∨ ((getL hostN L).length = 0 ∧ v = 1))
def reqM (l : List UInt8) : RQ × Int × Int := match headL true l with
  | .inl e => (zeroRQ, 0, e)
  | .inr (st, L, n, r) =>
    if (framedL L).2 ≠ 0 then (zeroRQ, 0, (framedL L).2)
    else if hostE L (reqL st).2.2.1 = true then (zeroRQ, 0, 6)
    else match bodyL (if (framedL L).1 = -2 then 0 else (framedL L).1) r with
      | .inl e => (zeroRQ, 0, e)
      | .inr (b, c) => (((reqL st).1, (reqL st).2.1, (reqL st).2.2.1, unfrL L, b), (n : Int) + c, 0)
/-- minor, status, reason, fields, body; length; error -/
abbrev RS := Int × Int × List UInt8 × List F × List UInt8
def zeroRS : RS := (0, 0, [], [], [])
def headM : List UInt8 := [72, 69, 65, 68]
def bodilessL (status : Int) (m : List UInt8) : Bool := decide (100 ≤ status ∧ status ≤ 199) || status == 204 || status == 304 || m == headM
def resM (l m : List UInt8) (closed : Bool) : RS × Int × Int := match headL false l with
  | .inl e => (zeroRS, 0, e)
  | .inr (st, L, n, r) =>
    if (framedL L).2 ≠ 0 then (zeroRS, 0, (framedL L).2)
    else if bodilessL (staL st).2.1 m = true then (((staL st).1, (staL st).2.1, (staL st).2.2.1, unfrL L, []), (n : Int), 0)
    else if (framedL L).1 = -2 ∧ closed = false then (zeroRS, 0, 2)
    else match bodyL (if (framedL L).1 = -2 then (r.length : Int) else (framedL L).1) r with
      | .inl e => (zeroRS, 0, e)
      | .inr (b, c) => (((staL st).1, (staL st).2.1, (staL st).2.2.1, unfrL L, b), (n : Int) + c, 0)
/-- the lines of fields; a head as it is written -/
def flatL (L : List F) : List UInt8 := L.flatMap fun p => lineL p.1.data.toList p.2.data.toList ++ [13, 10]
def validF (p : F) : Bool := validL p.1.data.toList p.2.data.toList
def clenL (n : Int) : List UInt8 := clN.data.toList ++ [58, 32] ++ decL n ++ [13, 10]
def outL6 (st : List UInt8) (L : List F) (n : Int) (length : Bool) : List UInt8 := st ++ [13, 10] ++ flatL L ++ (if length = true then clenL n else []) ++ [13, 10]
def joinedL (st : List UInt8) (L0 : List F) (b : List UInt8) (length whole : Bool) : List UInt8 :=
  let L := unfrL L0
  if st = [] ∨ 63 < L.length ∨ 100000 < b.length ∨ L.all validF = false then []
  else if 16000 < (outL6 st L b.length length).length then []
  else outL6 st L b.length length ++ (if whole = true then b else [])
def lengthB (m b : List UInt8) : Bool := !b.isEmpty || m == [80, 79, 83, 84] || m == [80, 85, 84] || m == [80, 65, 84, 67, 72]
def fmtRQ (q : RQ) : List UInt8 := joinedL (fmtReqL q.1 q.2.1 q.2.2.1) q.2.2.2.1 q.2.2.2.2 (lengthB q.1 q.2.2.2.2) true
def fmtRS (r : RS) (m : List UInt8) : List UInt8 := joinedL (fmtStaL r.1 r.2.1 r.2.2.1) r.2.2.2.1 r.2.2.2.2 (!bodilessL r.2.1 m) (!bodilessL r.2.1 m)
theorem flat_cons (p : F) (L : List F) (more : List UInt8) : flatL (p :: L) ++ more = lineL p.1.data.toList p.2.data.toList ++ 13 :: 10 :: (flatL L ++ more) := by simp [flatL]
theorem flat_len (p : F) (L : List F) : (flatL (p :: L)).length = (lineL p.1.data.toList p.2.data.toList).length + 2 + (flatL L).length := by simp [flatL]; omega
theorem line_next {p : F} (h : validF p = true) (r : List UInt8) : nextL (lineL p.1.data.toList p.2.data.toList ++ 13 :: 10 :: r) = .inr (lineL p.1.data.toList p.2.data.toList, r) ∧ lineL p.1.data.toList p.2.data.toList ≠ [] ∧ fieldL (lineL p.1.data.toList p.2.data.toList) = (p.1.data.toList, p.2.data.toList, 0) := by
  obtain ⟨h1, h2⟩ := line_eol h
  refine ⟨next_ok h1 (by rw [lineN_eq]; exact (valid_parts h).2.2.2), h2, field_back h⟩
/-- the fields of a head, as they are written, are read -/
theorem head_fields : ∀ (L : List F) (f k n : Nat) (rq : Bool) (st : List UInt8) (acc : List F) (more : List UInt8), (∀ p ∈ L, validF p = true) → 1 ≤ k → k + L.length ≤ 65 → n + (flatL L).length ≤ 16000 →
    headF (f + L.length) rq k st acc n (flatL L ++ more) = headF f rq (k + L.length) st (acc ++ L) (n + (flatL L).length) more
  | [], f, k, n, rq, st, acc, more, _, _, _, _ => by simp [flatL]
  | p :: L, f, k, n, rq, st, acc, more, hv, hk, hkl, hn => by
    obtain ⟨h1, h2, h3⟩ := line_next (hv p (by simp)) (flatL L ++ more)
    rw [flat_len] at hn
    rw [flat_cons]
    show headF (f + L.length + 1) rq k st acc n _ = _
    rw [head_more h1 (by simp only [List.length_cons] at hkl; omega) (by omega) h2 (by rw [h3]), h3]
    have hp : (bs p.1.data.toList, bs p.2.data.toList) = p := rfl
    rw [hp, head_fields L f (k + 1) _ rq st (acc ++ [p]) more (fun q hq => hv q (by simp [hq])) (by omega) (by simp only [List.length_cons] at hkl; omega) (by omega)]
    rw [flat_len, List.append_assoc, List.length_cons]
    congr 1
    · omega
    · omega
theorem end_next (more : List UInt8) : nextL (13 :: 10 :: more) = .inr ([], more) := next_ok (t := []) (r := more) (by simp) (by simp)
/-- a head as it is written is read -/
theorem head_read {rq : Bool} {st more : List UInt8} {L : List F} (hs : ∀ c ∈ st, eolB c = true) (hsl : st.length ≤ 2000) (he : startE rq st = 0) (hv : ∀ p ∈ L, validF p = true) (hL : L.length ≤ 64) (hn : st.length + 2 + (flatL L).length + 2 ≤ 16000) :
    headL rq (st ++ 13 :: 10 :: (flatL L ++ 13 :: 10 :: more)) = .inr (st, L, st.length + 2 + (flatL L).length + 2, more) := by
  unfold headL
  rw [head_first (next_ok hs hsl) (by simp; omega) he]
  obtain ⟨g, hg⟩ : ∃ g, 66 = (g + 1) + L.length := ⟨65 - L.length, by omega⟩
  rw [show (66 : Nat) = (g + 1) + L.length from hg, head_fields L (g + 1) 1 _ rq st [] _ hv (by omega) (by omega) (by simp; omega), List.nil_append]
  rw [head_done (end_next more) (by omega) (by omega)]
  simp
end
section
theorem cut_le (c : UInt8) (l : List UInt8) : (cut1 c l).length ≤ l.length ∧ (cut2 c l).length ≤ l.length := by
  constructor
  · unfold cut1; exact (List.takeWhile_sublist _).length_le
  · unfold cut2; rw [List.length_drop]; have := (List.dropWhile_sublist (l := l) (· != c)).length_le; omega
theorem field_len (t : List UInt8) : (fieldL t).1.length ≤ t.length ∧ (fieldL t).2.1.length ≤ t.length := by
  have h := cut_le 58 t
  have h2 := trim_le (cut2 58 t)
  unfold fieldL
  split
  · simp
  · split
    · simp
    · split
      · simp
      · exact ⟨h.1, by simp only; omega⟩
/-- what has been read of a head: fields and their sizes, the length, what is left -/
structure HeadOk (rq : Bool) (n : Nat) (l : List UInt8) (st' : List UInt8) (L' : List F) (n' : Nat) (r : List UInt8) : Prop where
  start : startE rq st' = 0
  slen : st'.length ≤ 2000
  small : ∀ p ∈ L', p.1.size ≤ 2000 ∧ p.2.size ≤ 2000
  few : L'.length ≤ 64
  ahead : n ≤ n'
  len : n' ≤ 16000
  rest : r = l.drop (n' - n)
  most : n' ≤ n + l.length
theorem head_ok : ∀ {f k n : Nat} {rq : Bool} {st l st' r : List UInt8} {L L' : List F} {n' : Nat}, headF f rq k st L n l = .inr (st', L', n', r) → (k = 0 ∨ (startE rq st = 0 ∧ st.length ≤ 2000)) → (∀ p ∈ L, p.1.size ≤ 2000 ∧ p.2.size ≤ 2000) → L.length ≤ k - 1 → L.length ≤ 64 → HeadOk rq n l st' L' n' r
  | 0, k, n, rq, st, l, st', r, L, L', n', h, hs, hL, hk, h64 => by cases h
  | f + 1, k, n, rq, st, l, st', r, L, L', n', h, hs, hL, hk, h64 => by
    unfold headF at h
    split at h
    · cases h
    · rename_i t r2 hn
      obtain ⟨e1, e2, e3⟩ := next_line hn
      have hlen := congrArg List.length e1
      simp at hlen
      have hdr : r2 = l.drop (t.length + 2) := by
        rw [e1, ← List.drop_drop, List.drop_left]; rfl
      split at h
      · cases h
      · rename_i hlong
        have more : ∀ {k st L}, headF f rq k st L (n + t.length + 2) r2 = .inr (st', L', n', r) → (k = 0 ∨ (startE rq st = 0 ∧ st.length ≤ 2000)) → (∀ p ∈ L, p.1.size ≤ 2000 ∧ p.2.size ≤ 2000) → L.length ≤ k - 1 → L.length ≤ 64 → HeadOk rq n l st' L' n' r := by
          intro k st L h hs hL hk h64
          obtain ⟨a, b, c, d, e, g, i, j⟩ := head_ok h hs hL hk h64
          refine ⟨a, b, c, d, by omega, g, ?_, by omega⟩
          rw [i, hdr, List.drop_drop]
          congr 1; omega
        split at h
        · rename_i hk0
          split at h
          · cases h
          · rename_i hse
            exact more h (.inr ⟨by simpa using hse, e3⟩) hL (by omega) h64
        · rename_i hk0
          split at h
          · rename_i ht
            cases h
            subst ht
            have hs' := hs.resolve_left hk0
            refine ⟨hs'.1, hs'.2, hL, h64, by omega, by simp at hlong ⊢; omega, ?_, by simp; omega⟩
            rw [hdr]; congr 1; omega
          · rename_i ht
            split at h
            · cases h
            · have hf := field_len t
              refine more h (.inr (hs.resolve_left hk0)) (fun p hp => ?_) (by rw [List.length_append]; simp; omega) (by rw [List.length_append]; simp; simp [ht] at hlong; omega)
              rcases List.mem_append.mp hp with hp | hp
              · exact hL p hp
              · rw [List.mem_singleton] at hp
                subst hp
                exact ⟨by rw [bs_size]; omega, by rw [bs_size]; omega⟩
theorem headL_ok {rq : Bool} {l st r : List UInt8} {L : List F} {n : Nat} (h : headL rq l = .inr (st, L, n, r)) : HeadOk rq 0 l st L n r :=
  head_ok h (.inl rfl) (by simp) (by simp) (by simp)
end
section
theorem all_eol {P : Int → Bool} (hP : ∀ x : Fin 256, P (x.1 : Nat) = true → eolB (UInt8.ofNat x.1) = true) {l : List UInt8} (h : allI P l = true) : ∀ c ∈ l, eolB c = true := fun c hc => by
  have q := List.all_eq_true.mp h c hc
  have := hP ⟨c.toNat, c.toNat_lt⟩ q
  simpa using this
theorem tok_eol {l : List UInt8} (h : tokL l = true) : ∀ c ∈ l, eolB c = true := by
  unfold tokL at h
  simp only [Bool.and_eq_true] at h
  exact all_eol (by decide +kernel) h.2
theorem vis_eol {l : List UInt8} (h : visL l = true) : ∀ c ∈ l, eolB c = true := by
  unfold visL at h
  simp only [Bool.and_eq_true] at h
  exact all_eol (by decide +kernel) h.2
theorem texts_eol {l : List UInt8} (h : textL l = true) : ∀ c ∈ l, eolB c = true := fun c hc => text_eol (List.all_eq_true.mp h c hc)
theorem eol_app {a b : List UInt8} (ha : ∀ c ∈ a, eolB c = true) (hb : ∀ c ∈ b, eolB c = true) : ∀ c ∈ a ++ b, eolB c = true := fun c hc => by
  rcases List.mem_append.mp hc with e | e
  · exact ha c e
  · exact hb c e
theorem eol_cons {d : UInt8} {b : List UInt8} (hd : eolB d = true) (hb : ∀ c ∈ b, eolB c = true) : ∀ c ∈ d :: b, eolB c = true := fun c hc => by
  rcases List.mem_cons.mp hc with e | e
  · rw [e]; exact hd
  · exact hb c e
theorem ver_eol {n : Int} (h : n = 0 ∨ n = 1) : ∀ c ∈ http7 ++ decL n, eolB c = true := by
  rcases h with rfl | rfl
  · rw [dec_0]; decide
  · rw [dec_1]; decide
theorem req_eol {l m t : List UInt8} {v : Int} (h : reqL l = (m, t, v, 0)) : (∀ c ∈ l, eolB c = true) ∧ l.length ≤ 2000 := by
  have hp := req_parts h
  have hb := req_back h
  have hv : v = 0 ∨ v = 1 := by rw [hp.2.2.2.2.2.2]; exact ver_min
  refine ⟨?_, hp.1⟩
  rw [← hb]
  exact eol_app (tok_eol hp.2.2.2.1) (eol_cons (by decide) (eol_app (vis_eol hp.2.2.2.2.1) (eol_cons (by decide) (ver_eol hv))))
theorem sta_eol {l r : List UInt8} {n s : Int} (h : staL l = (n, s, r, 0)) : (∀ c ∈ l, eolB c = true) ∧ l.length ≤ 2000 := by
  have hp := sta_parts h
  have hr := sta_range h
  have hb := sta_back h
  obtain ⟨a, b, c, hd, ha, hb2, hc, _, _⟩ := dec_ex hr.2.1 hr.2.2.1
  refine ⟨?_, hp.1⟩
  rw [← hb]
  have ht : textL r = true := by
    have hcnd := hp.2.1
    unfold condS at hcnd
    simp only [Bool.and_eq_true] at hcnd
    rw [hp.2.2.2.2.2]; exact hcnd.2
  have hdig : ∀ x ∈ decL s, eolB x = true := by
    rw [hd]
    have key : ∀ y : UInt8, digitI y.toNat = true → eolB y = true := fun y hy => text_eol (by
      unfold textI; simp [digitI] at hy ⊢; omega)
    exact eol_cons (key a ha) (eol_cons (key b hb2) (eol_cons (key c hc) (by simp)))
  exact eol_app (ver_eol hr.1) (eol_cons (by decide) (eol_app hdig (eol_cons (by decide) (texts_eol ht))))
theorem start_eol {rq : Bool} {st : List UInt8} (h : startE rq st = 0) : (∀ c ∈ st, eolB c = true) ∧ st.length ≤ 2000 := by
  unfold startE at h
  cases rq
  · obtain ⟨n, s, r, e, hs⟩ : ∃ n s r e, staL st = (n, s, r, e) := ⟨_, _, _, _, rfl⟩
    rw [hs] at h
    simp at h; subst h
    exact sta_eol hs
  · obtain ⟨m, t, v, e, hs⟩ : ∃ m t v e, reqL st = (m, t, v, e) := ⟨_, _, _, _, rfl⟩
    rw [hs] at h
    simp at h; subst h
    exact req_eol hs
/-- no field of the list frames a body -/
def NoFr (L : List F) : Prop := ∀ p ∈ L, nmd teN p = false ∧ nmd clN p = false
theorem unfr_no (L : List F) : NoFr (unfrL L) := fun p hp => by
  unfold unfrL remL at hp
  simp only [List.mem_filter, Bool.not_eq_true', Bool.not_eq_eq_eq_not, Bool.not_true] at hp
  exact ⟨by simpa using hp.2, by simpa using hp.1.2⟩
theorem unfr_id {L : List F} (h : NoFr L) : unfrL L = L := by
  have k1 : L.filter (fun p => !nmd clN p) = L := List.filter_eq_self.mpr (fun p hp => by rw [(h p hp).2]; rfl)
  have k2 : L.filter (fun p => !nmd teN p) = L := List.filter_eq_self.mpr (fun p hp => by rw [(h p hp).1]; rfl)
  unfold unfrL remL
  rw [k1]; exact k2
theorem get_no {nm : ByteArray} {L : List F} (h : ∀ p ∈ L, nmd nm p = false) : getL nm L = [] := by
  unfold getL
  rw [List.filter_eq_nil_iff.mpr (fun p hp => by rw [h p hp]; simp)]; rfl
theorem get_app (nm : ByteArray) (A B : List F) : getL nm (A ++ B) = getL nm A ++ getL nm B := by unfold getL; rw [List.filter_append, List.map_append]
def clenF (n : Int) : F := (clN, bs (decL n))
theorem nmd_cl (n : Int) : nmd clN (clenF n) = true ∧ nmd teN (clenF n) = false ∧ nmd hostN (clenF n) = false := by
  refine ⟨?_, ?_, ?_⟩
  · show foldL clN.data.toList clN.data.toList = true; decide +kernel
  · show foldL clN.data.toList teN.data.toList = false; decide +kernel
  · show foldL clN.data.toList hostN.data.toList = false; decide +kernel
theorem cl_valid {n : Int} (h0 : 0 ≤ n) (h1 : n ≤ 100000) : validF (clenF n) = true ∧ lineL clN.data.toList (decL n) ++ [13, 10] = clenL n ∧ (decL n).length ≤ 9 ∧ decL n ≠ [] := by
  have hd : ∀ c ∈ decL n, digitI c.toNat = true := by
    have : allI digitI (decL n) = true := by rw [decL, if_neg (by omega)]; exact decF_digits _ _ _ rfl
    exact fun c hc => List.all_eq_true.mp this c hc
  have hne : decL n ≠ [] := by
    intro e
    have := num_dec h0 (by omega)
    rw [e] at this
    simp [numL] at this
  have hlen : (decL n).length ≤ 9 := by
    have key : ∀ f m acc, m < 1000000000 → (decF f m acc).length ≤ acc.length + 9 := by
      have s : ∀ k, ∀ f m acc, m < 10 ^ k → 1 ≤ k → (decF f m acc).length ≤ acc.length + k := by
        intro k
        induction k with
        | zero => intro f m acc _ h; omega
        | succ k ih =>
          intro f m acc hm _
          match f with
          | 0 => simp [decF]
          | f + 1 =>
            unfold decF
            split
            · simp <;> omega
            · by_cases hk : k = 0
              · subst hk; simp at hm; omega
              · have := ih f (m / 10) (digB m :: acc) (by rw [Nat.pow_succ] at hm; omega) (by omega)
                simp only [List.length_cons] at this; omega
      exact fun f m acc hm => s 9 f m acc hm (by omega)
    have := key 20 n.natAbs [] (by omega)
    rw [decL, if_neg (by omega)]
    simpa using this
  have htx : textL (decL n) = true := by
    unfold textL allI
    refine List.all_eq_true.mpr fun c hc => ?_
    have := hd c hc
    unfold textI; simp [digitI] at this ⊢; omega
  have htr : trimL (decL n) = decL n := by
    have hb : ∀ c ∈ decL n, blankB c = false := fun c hc => by
      have := hd c hc
      unfold blankB blankI
      simp [digitI] at this ⊢; omega
    obtain ⟨a, b, e, ha, hb2, _⟩ := trim_split (decL n)
    have ea : a = [] := by
      match a, ha, e with
      | [], _, _ => rfl
      | x :: a, ha, e =>
        have h1 := ha x (by simp)
        have h2 := hb x (by rw [e]; simp)
        rw [h1] at h2; cases h2
    have eb : b = [] := by
      match b, hb2, e with
      | [], _, _ => rfl
      | x :: b, hb2, e =>
        have h1 := hb2 x (by simp)
        have h2 := hb x (by rw [e]; simp)
        rw [h1] at h2; cases h2
    rw [ea, eb] at e
    simpa using e.symm
  refine ⟨?_, ?_, hlen, hne⟩
  · unfold validF clenF validL wellL
    rw [bs_toList, htx, htr]
    have ht : tokL clN.data.toList = true := by decide +kernel
    have hl : lineN clN.data.toList (decL n) ≤ 2000 := by
      unfold lineN
      have : clN.data.toList.length = 14 := rfl
      split <;> omega
    simp [ht, hl]
  · unfold lineL clenL; rw [if_neg hne]
def moreF (L : List F) (n : Int) (length : Bool) : List F := L ++ (if length = true then [clenF n] else [])
theorem out_flat {st : List UInt8} {L : List F} {n : Int} {length : Bool} (h0 : 0 ≤ n) (h1 : n ≤ 100000) (more : List UInt8) : outL6 st L n length ++ more = st ++ 13 :: 10 :: (flatL (moreF L n length) ++ 13 :: 10 :: more) := by
  cases length
  · simp [outL6, moreF]
  · have e := (cl_valid h0 h1).2.1
    have e2 : flatL [clenF n] = clenL n := by
      unfold flatL clenF
      simp only [List.flatMap_cons, List.flatMap_nil, List.append_nil, bs_toList]
      exact e
    have e3 : flatL (L ++ [clenF n]) = flatL L ++ clenL n := by
      rw [← e2]; unfold flatL; rw [List.flatMap_append]
    unfold outL6 moreF
    rw [if_pos rfl, if_pos rfl, e3]
    simp
theorem out_read {rq : Bool} {st : List UInt8} {L : List F} {n : Int} {length : Bool} (hs : startE rq st = 0) (hv : L.all validF = true) (hL : L.length ≤ 63) (h0 : 0 ≤ n) (h1 : n ≤ 100000) (hn : (outL6 st L n length).length ≤ 16000) (more : List UInt8) :
    headL rq (outL6 st L n length ++ more) = .inr (st, moreF L n length, (outL6 st L n length).length, more) := by
  obtain ⟨he, hl⟩ := start_eol hs
  have e0 := out_flat (st := st) (L := L) (length := length) h0 h1 []
  rw [List.append_nil] at e0
  have hlen : (outL6 st L n length).length = st.length + 2 + (flatL (moreF L n length)).length + 2 := by
    rw [e0]; simp; omega
  rw [out_flat h0 h1, head_read he hl hs ?_ ?_ (by omega), hlen]
  · intro p hp
    unfold moreF at hp
    rcases List.mem_append.mp hp with q | q
    · exact List.all_eq_true.mp hv p q
    · split at q
      · simp at q; rw [q]; exact (cl_valid h0 h1).1
      · simp at q
  · unfold moreF
    cases length <;> simp <;> omega
theorem framed_out {L : List F} {n : Int} {length : Bool} (hL : NoFr L) (h0 : 0 ≤ n) (h1 : n ≤ 100000) : framedL (moreF L n length) = ((if length = true then n else -2), 0) ∧ unfrL (moreF L n length) = L ∧ getL hostN (moreF L n length) = getL hostN L := by
  have ht : getL teN L = [] := get_no (fun p hp => (hL p hp).1)
  have hc : getL clN L = [] := get_no (fun p hp => (hL p hp).2)
  cases length
  · have e : moreF L n false = L := by simp [moreF]
    rw [e]
    refine ⟨?_, unfr_id hL, rfl⟩
    unfold framedL; rw [ht, hc]; simp
  · have e : moreF L n true = L ++ [clenF n] := by simp [moreF]
    obtain ⟨c1, c2, c3⟩ := nmd_cl n
    have g1 : getL teN [clenF n] = [] := get_no (fun p hp => by simp at hp; rw [hp]; exact c2)
    have g2 : getL clN [clenF n] = [bs (decL n)] := by unfold getL; rw [List.filter_cons, c1]; simp [clenF]
    have g3 : getL hostN [clenF n] = [] := get_no (fun p hp => by simp at hp; rw [hp]; exact c3)
    rw [e]
    refine ⟨?_, ?_, ?_⟩
    · unfold framedL
      rw [get_app, get_app, ht, hc, g1, g2]
      have hnum : numL (decL n) = some n := by
        rw [num_dec h0 (by omega)]
        have : min n 2147483647 = n := by omega
        rw [this]
      have hsz : (bs (decL n)).size ≤ 9 := by rw [bs_size]; exact (cl_valid h0 h1).2.2.1
      simp [bs_toList, hnum, hsz]
    · unfold unfrL remL
      have k1 : L.filter (fun p => !nmd clN p) = L := List.filter_eq_self.mpr (fun p hp => by rw [(hL p hp).2]; rfl)
      have k2 : L.filter (fun p => !nmd teN p) = L := List.filter_eq_self.mpr (fun p hp => by rw [(hL p hp).1]; rfl)
      rw [List.filter_append, k1, List.filter_cons, c1]
      simp only [Bool.not_true, Bool.false_eq_true, if_false, List.filter_nil, List.append_nil]
      exact k2
    · rw [get_app, g3, List.append_nil]
theorem joined_ne {st : List UInt8} {L0 : List F} {b : List UInt8} {length whole : Bool} (h : joinedL st L0 b length whole ≠ []) :
    st ≠ [] ∧ (unfrL L0).length ≤ 63 ∧ b.length ≤ 100000 ∧ (unfrL L0).all validF = true ∧ (outL6 st (unfrL L0) b.length length).length ≤ 16000 ∧ joinedL st L0 b length whole = outL6 st (unfrL L0) b.length length ++ (if whole = true then b else []) := by
  unfold joinedL at h ⊢
  simp only at h ⊢
  split at h
  · exact absurd rfl h
  · rename_i h1
    split at h
    · exact absurd rfl h
    · rename_i h2
      simp only [not_or, Nat.not_lt, Bool.not_eq_false] at h1
      refine ⟨h1.1, h1.2.1, h1.2.2.1, h1.2.2.2, by omega, ?_⟩
      rw [if_neg (by simp only [not_or, Nat.not_lt, Bool.not_eq_false]; exact h1), if_neg h2]
theorem body_all (b more : List UInt8) (h : b.length ≤ 100000) : bodyL (b.length : Int) (b ++ more) = .inr (b, (b.length : Int)) := by
  unfold bodyL
  rw [if_neg (by omega), if_neg (by omega), if_neg (by simp; omega)]
  simp
theorem fmtReq_ne {m t : List UInt8} {v : Int} (h : fmtReqL m t v ≠ []) : fmtReqL m t v = reqLine m t v ∧ reqL (fmtReqL m t v) = (m, t, v, 0) := by
  unfold fmtReqL at h ⊢
  split at h
  · rename_i q
    rw [if_pos q]; exact ⟨rfl, q⟩
  · exact absurd rfl h
/-- a request that has been written is read -/
theorem request_back {q : RQ} {more : List UInt8} (h : fmtRQ q ≠ []) (hh : (getL hostN (unfrL q.2.2.2.1)).length = 1) : reqM (fmtRQ q ++ more) = ((q.1, q.2.1, q.2.2.1, unfrL q.2.2.2.1, q.2.2.2.2), ((fmtRQ q).length : Int), 0) := by
  obtain ⟨m, t, v, L0, b⟩ := q
  simp only at hh ⊢
  unfold fmtRQ at h ⊢
  simp only at h ⊢
  obtain ⟨h1, h2, h3, h4, h5, h6⟩ := joined_ne h
  obtain ⟨g1, g2⟩ := fmtReq_ne h1
  have hs : startE true (fmtReqL m t v) = 0 := by unfold startE; rw [if_pos rfl, g2]
  rw [if_pos rfl] at h6
  rw [h6]
  have hr := out_read (rq := true) hs h4 h2 (by omega) (by omega) h5 (b ++ more)
  obtain ⟨f1, f2, f3⟩ := framed_out (L := unfrL L0) (n := (b.length : Int)) (length := lengthB m b) (unfr_no L0) (by omega) (by omega)
  unfold reqM
  rw [List.append_assoc, hr]
  simp only [f1, f2]
  have hhost : hostE (moreF (unfrL L0) (b.length : Int) (lengthB m b)) (reqL (fmtReqL m t v)).2.2.1 = false := by
    unfold hostE; rw [f3, hh]; simp
  rw [if_neg (by simp), hhost]
  rw [if_neg (by simp)]
  have hlb : lengthB m b = false → b = [] := by
    intro e
    unfold lengthB at e
    cases b with
    | nil => rfl
    | cons c b => simp at e
  have hbody : bodyL (if (if lengthB m b = true then (b.length : Int) else -2) = -2 then 0 else (if lengthB m b = true then (b.length : Int) else -2)) (b ++ more) = .inr (b, (b.length : Int)) := by
    cases hl : lengthB m b
    · have := hlb hl
      subst this
      simpa using body_all [] more (by simp)
    · rw [if_pos rfl, if_neg (by omega)]
      exact body_all b more h3
  rw [hbody]
  simp only [g2]
  rw [List.length_append]
  push_cast
  rfl
end
section
theorem fmtSta_ne {n s : Int} {r : List UInt8} (h : fmtStaL n s r ≠ []) : staL (fmtStaL n s r) = (n, s, r, 0) := by
  unfold fmtStaL at h ⊢
  split at h
  · rename_i q
    rw [if_pos q]; exact q
  · exact absurd rfl h
/-- a response that has been written is read -/
theorem response_back {r : RS} {m more : List UInt8} {closed : Bool} (h : fmtRS r m ≠ []) : resM (fmtRS r m ++ more) m closed = ((r.1, r.2.1, r.2.2.1, unfrL r.2.2.2.1, if bodilessL r.2.1 m = true then [] else r.2.2.2.2), ((fmtRS r m).length : Int), 0) := by
  obtain ⟨n, s, rs, L0, b⟩ := r
  unfold fmtRS at h ⊢
  simp only at h ⊢
  obtain ⟨h1, h2, h3, h4, h5, h6⟩ := joined_ne h
  have g2 := fmtSta_ne h1
  have hs : startE false (fmtStaL n s rs) = 0 := by unfold startE; rw [if_neg (by simp), g2]
  rw [h6]
  rcases hb : bodilessL s m with _ | _
  · rw [hb] at h5
    simp only [Bool.not_false, if_true] at h5 ⊢
    have hr := out_read (rq := false) hs h4 h2 (by omega) (by omega) h5 (b ++ more)
    obtain ⟨f1, f2, f3⟩ := framed_out (L := unfrL L0) (n := (b.length : Int)) (length := true) (unfr_no L0) (by omega) (by omega)
    unfold resM
    rw [List.append_assoc, hr]
    simp only [f1, f2, g2, hb, if_true]
    rw [if_neg (by simp), if_neg (by simp), if_neg (by omega), if_neg (by omega), body_all b more h3]
    simp
  · rw [hb] at h5
    simp only [Bool.not_true, Bool.false_eq_true, if_false, List.append_nil, if_true] at h5 ⊢
    have hr := out_read (rq := false) hs h4 h2 (by omega) (by omega) h5 more
    obtain ⟨f1, f2, f3⟩ := framed_out (L := unfrL L0) (n := (b.length : Int)) (length := false) (unfr_no L0) (by omega) (by omega)
    unfold resM
    rw [hr]
    simp only [f1, f2, g2, hb, if_true]
    rw [if_neg (by simp)]
theorem fields_short : ∀ (L : List F) (f k n : Nat) (rq : Bool) (st : List UInt8) (acc : List F) (q : List UInt8), (∀ p ∈ L, validF p = true) → 1 ≤ k → k + L.length ≤ 65 → n + (flatL L).length ≤ 16000 → q <+: flatL L ++ [13, 10] → q.length < (flatL L ++ [13, 10]).length →
    headF (f + L.length + 1) rq k st acc n q = .inl 2
  | [], f, k, n, rq, st, acc, q, _, _, _, _, hq, hl => by
    have e : flatL ([] : List F) = [] := rfl
    rw [e, List.nil_append] at hq hl
    rcases pre_two2 hq with rfl | rfl | ⟨q2, rfl, _⟩
    · exact head_bad (next_short (t := []) (by simp) (by simp))
    · exact head_bad (next_cr (t := []) (by simp) (by simp))
    · exfalso; simp at hl; omega
  | p :: L, f, k, n, rq, st, acc, q, hv, hk, hkl, hn, hq, hl => by
    have hvp := hv p (by simp)
    obtain ⟨he, hne⟩ := line_eol hvp
    have hll : (lineL p.1.data.toList p.2.data.toList).length ≤ 2000 := by rw [lineN_eq]; exact (valid_parts hvp).2.2.2
    rw [flat_len] at hn
    rw [flat_cons] at hq hl
    rcases pre_cases hq with ⟨h1, h2⟩ | ⟨q1, rfl, hq1⟩
    · exact head_bad (next_short (pre_all h1 he) (by omega))
    · rcases pre_two2 hq1 with rfl | rfl | ⟨q2, rfl, hq2⟩
      · rw [List.append_nil]; exact head_bad (next_short he hll)
      · exact head_bad (next_cr he hll)
      · obtain ⟨h1, h2, h3⟩ := line_next hvp q2
        have ih := fields_short L f (k + 1) (n + (lineL p.1.data.toList p.2.data.toList).length + 2) rq st (acc ++ [p]) q2 (fun x hx => hv x (by simp [hx])) (by omega) (by simp only [List.length_cons] at hkl; omega) (by omega) hq2 (by simp at hl ⊢; omega)
        show headF (f + L.length + 1 + 1) rq k st acc n _ = _
        rw [head_more h1 (by simp only [List.length_cons] at hkl; omega) (by omega) h2 (by rw [h3]), h3]
        exact ih
/-- a head that has been cut off -/
theorem head_cut {rq : Bool} {st p : List UInt8} {L : List F} (hs : startE rq st = 0) (hv : ∀ p ∈ L, validF p = true) (hL : L.length ≤ 64) (hn : st.length + 2 + (flatL L).length + 2 ≤ 16000) (hp : p <+: st ++ 13 :: 10 :: (flatL L ++ [13, 10])) (hl : p.length < (st ++ 13 :: 10 :: (flatL L ++ [13, 10])).length) : headL rq p = .inl 2 := by
  obtain ⟨he, hsl⟩ := start_eol hs
  unfold headL
  rcases pre_cases hp with ⟨h1, h2⟩ | ⟨q1, rfl, hq1⟩
  · exact head_bad (next_short (pre_all h1 he) (by omega))
  · rcases pre_two2 hq1 with rfl | rfl | ⟨q2, rfl, hq2⟩
    · rw [List.append_nil]; exact head_bad (next_short he hsl)
    · exact head_bad (next_cr he hsl)
    · rw [head_first (next_ok he hsl) (by simp; omega) hs]
      obtain ⟨g, hg⟩ : ∃ g, 66 = g + L.length + 1 := ⟨65 - L.length, by omega⟩
      rw [show (66 : Nat) = g + L.length + 1 from hg]
      exact fields_short L g 1 _ rq st [] q2 hv (by omega) (by omega) (by omega) hq2 (by simp at hl ⊢; omega)
/-- a request that has been cut off is too short -/
theorem request_short {q : RQ} {k : Nat} (h : fmtRQ q ≠ []) (hh : (getL hostN (unfrL q.2.2.2.1)).length = 1) (hk : k < (fmtRQ q).length) : reqM ((fmtRQ q).take k) = (zeroRQ, 0, 2) := by
  obtain ⟨m, t, v, L0, b⟩ := q
  simp only at hh ⊢
  unfold fmtRQ at h hk ⊢
  simp only at h hk ⊢
  obtain ⟨h1, h2, h3, h4, h5, h6⟩ := joined_ne h
  obtain ⟨g1, g2⟩ := fmtReq_ne h1
  have hs : startE true (fmtReqL m t v) = 0 := by unfold startE; rw [if_pos rfl, g2]
  rw [if_pos rfl] at h6
  rw [h6] at hk ⊢
  have hpre := List.take_prefix k (outL6 (fmtReqL m t v) (unfrL L0) b.length (lengthB m b) ++ b)
  have hplen : ((outL6 (fmtReqL m t v) (unfrL L0) b.length (lengthB m b) ++ b).take k).length = k := by rw [List.length_take]; omega
  obtain ⟨f1, f2, f3⟩ := framed_out (L := unfrL L0) (n := (b.length : Int)) (length := lengthB m b) (unfr_no L0) (by omega) (by omega)
  have hhost : hostE (moreF (unfrL L0) (b.length : Int) (lengthB m b)) (reqL (fmtReqL m t v)).2.2.1 = false := by
    unfold hostE; rw [f3, hh]; simp
  generalize hp : (outL6 (fmtReqL m t v) (unfrL L0) b.length (lengthB m b) ++ b).take k = p at *
  rcases pre_cases hpre with ⟨q1, q2⟩ | ⟨q1, rfl, hq1⟩
  · have e0 := out_flat (st := fmtReqL m t v) (L := unfrL L0) (n := (b.length : Int)) (length := lengthB m b) (by omega) (by omega) []
    rw [List.append_nil] at e0
    have hc : headL true p = .inl 2 := by
      rw [e0] at q1 q2 h5
      refine head_cut hs ?_ ?_ ?_ q1 q2
      · intro x hx
        unfold moreF at hx
        rcases List.mem_append.mp hx with y | y
        · exact List.all_eq_true.mp h4 x y
        · split at y
          · simp at y; rw [y]; exact (cl_valid (by omega) (by omega)).1
          · simp at y
      · unfold moreF; cases lengthB m b <;> simp <;> omega
      · simp at h5; omega
    unfold reqM; rw [hc]
  · have hr := out_read (rq := true) hs h4 h2 (by omega) (by omega) h5 q1
    have hq1l : q1.length < b.length := by
      rw [List.length_append] at hplen hk; omega
    have hlb : lengthB m b = true := by
      unfold lengthB
      cases b with
      | nil => simp at hq1l
      | cons c b => simp
    unfold reqM
    rw [hr]
    simp only [f1]
    rw [if_neg (by simp), hhost, if_neg (by simp), hlb]
    have hb : bodyL (if (if true = true then (b.length : Int) else -2) = -2 then 0 else (if true = true then (b.length : Int) else -2)) q1 = .inl 2 := by
      rw [if_pos rfl, if_neg (by omega)]
      unfold bodyL
      rw [if_neg (by omega), if_neg (by omega), if_pos (by omega)]
    rw [hb]
end
section
open Go.RowKit
/-- at the address lie the fields L, one behind the other -/
def Fs (w : World) (a : Option Addr) (L : List F) : Prop :=
  ∀ i (h : i < L.length), ∃ g off, a = some ⟨g, off, none⟩ ∧ w.cell? ⟨g, off + i * 2, none⟩ = some (.string L[i].1) ∧ w.cell? ⟨g, off + i * 2 + 1, none⟩ = some (.string L[i].2)
theorem Fs.below {w w' : World} {a : Option Addr} {L : List F} (h : Fs w a L) (hb : Below w.heap.size w w') : Fs w' a L := fun i hi => by
  obtain ⟨g, off, e, c0, c1⟩ := h i hi
  exact ⟨g, off, e, (hb.cell (cell_lt c0)).trans c0, (hb.cell (cell_lt c1)).trans c1⟩
theorem keepFields_any (a : Option Addr) (cap : Nat) (L : List F) (w : World) (hl : L.length ≤ maxLen) (hF : Box (Fs w a L)) :
    Calls Tryz.prog 35 #[.slice a L.length cap] w fun e w' => e = .returned (.bool (keepF L)) ∧ w = w' := by
  unfold maxLen at hl
  go_enter Tryz.func35, Tryz.ntmps35
  go_wp2
  go_loop [3] (fun i => ∃ k : Nat, k ≤ L.length ∧ k ≤ 71 ∧ i = .int .i64 k ∧ (L.take k).all okF = true) (fun i => 71 - (intOf i).toNat)
  case atStart => exact ⟨0, Nat.zero_le _, Nat.zero_le _, rfl, rfl⟩
  case round =>
    obtain ⟨k, hk, hk71, rfl, hall⟩ := hrel
    have HA := box hall
    clear hall
    by_cases hlt : k < L.length
    · by_cases h71 : k < 71
      · obtain ⟨g, off, rfl, c0, c1⟩ := hF.out k hlt
        go_wp2
        · have e1 : ¬ (L[k].1.size ≤ 300 ∧ L[k].2.size ≤ 300) := by omega
          go_ret
          exact ⟨ret_bool (keep_bad hlt e1).symm, rfl⟩
        · have e1 : L[k].1.size ≤ 300 := by omega
          have e2 : L[k].2.size ≤ 300 := by omega
          go_round
          case rel => exact ⟨k + 1, by omega, by omega, by go_num, keep_more hlt HA.out e1 e2⟩
          case measure => simp [intOf]; omega
        · have e1 : ¬ (L[k].1.size ≤ 300 ∧ L[k].2.size ≤ 300) := by omega
          go_ret
          exact ⟨ret_bool (keep_bad hlt e1).symm, rfl⟩
      · go_wp2
        go_ret
        exact ⟨ret_bool (by rw [keep_long (by omega)]; simp; omega), rfl⟩
    · have e : k = L.length := by omega
      have E := box e
      clear e
      by_cases h70 : L.length ≤ 70
      · go_wp2
        go_ret
        refine ⟨ret_bool ?_, rfl⟩
        have ha := HA.out
        rw [E.out] at ha
        rw [keep_end ha h70]
        simp; omega
      · go_wp2
        go_ret
        exact ⟨ret_bool (by rw [keep_long h70]; simp; omega), rfl⟩
end
end Go.Proofs.YtjabcfabenobiaaGreat.Asc
