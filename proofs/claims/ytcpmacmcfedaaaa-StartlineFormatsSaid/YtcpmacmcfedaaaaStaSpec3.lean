/- What the two Format functions of layer 2 write, and that it is what was read. No program is named here. -/
import Derived.Test.YtcpmacmcfedaaaaStaSpec2
set_option linter.unusedVariables false
set_option linter.unusedSimpArgs false
namespace Go.Proofs.Ytcpmacmcfedaaaa.Asc

def http7 : List UInt8 := [72, 84, 84, 80, 47, 49, 46]
def reqLine (m t : List UInt8) (n : Int) : List UInt8 := m ++ 32 :: (t ++ 32 :: (http7 ++ decL n))
def staLine (n s : Int) (r : List UInt8) : List UInt8 := (http7 ++ decL n) ++ 32 :: (decL s ++ 32 :: r)
def fmtReqL (m t : List UInt8) (n : Int) : List UInt8 := if reqL (reqLine m t n) = (m, t, n, 0) then reqLine m t n else []
def fmtStaL (n s : Int) (r : List UInt8) : List UInt8 := if staL (staLine n s r) = (n, s, r, 0) then staLine n s r else []

theorem dec_0 : decL 0 = [48] := by decide
theorem dec_1 : decL 1 = [49] := by decide
theorem dec_3 : ∀ (i : Fin 5) (j k : Fin 10), decL ((i.1 + 1) * 100 + j.1 * 10 + k.1 : Nat) = [UInt8.ofNat (49 + i.1), UInt8.ofNat (48 + j.1), UInt8.ofNat (48 + k.1)] := by decide +kernel
theorem dec_abc {a b c : UInt8} (hb : digitI b.toNat = true) (hc : digitI c.toNat = true) (h1 : 49 ≤ (a.toNat : Int)) (h2 : (a.toNat : Int) ≤ 53) :
    decL (((a.toNat : Int) - 48) * 100 + ((b.toNat : Int) - 48) * 10 + ((c.toNat : Int) - 48)) = [a, b, c] := by
  simp [digitI] at hb hc
  have h := dec_3 ⟨a.toNat - 49, by omega⟩ ⟨b.toNat - 48, by omega⟩ ⟨c.toNat - 48, by omega⟩
  simp only [] at h
  have e : (((a.toNat - 49 + 1) * 100 + (b.toNat - 48) * 10 + (c.toNat - 48) : Nat) : Int) = ((a.toNat : Int) - 48) * 100 + ((b.toNat : Int) - 48) * 10 + ((c.toNat : Int) - 48) := by omega
  rw [e] at h
  rw [h, show 49 + (a.toNat - 49) = a.toNat from by omega, show 48 + (b.toNat - 48) = b.toNat from by omega, show 48 + (c.toNat - 48) = c.toNat from by omega]
  simp
theorem dec_ex {s : Int} (h1 : 100 ≤ s) (h2 : s ≤ 599) : ∃ a b c : UInt8, decL s = [a, b, c] ∧ digitI a.toNat = true ∧ digitI b.toNat = true ∧ digitI c.toNat = true ∧ 49 ≤ (a.toNat : Int) ∧ (a.toNat : Int) ≤ 53 ∧ numL [a, b, c] = some s := by
  obtain ⟨n, rfl⟩ := Int.eq_ofNat_of_zero_le (by omega : 0 ≤ s)
  have h := dec_3 ⟨n / 100 - 1, by omega⟩ ⟨n / 10 % 10, by omega⟩ ⟨n % 10, by omega⟩
  simp only [] at h
  rw [show (n / 100 - 1 + 1) * 100 + n / 10 % 10 * 10 + n % 10 = n from by omega] at h
  have ea : (UInt8.ofNat (49 + (n / 100 - 1))).toNat = 49 + (n / 100 - 1) := by rw [UInt8.toNat_ofNat']; omega
  have eb : (UInt8.ofNat (48 + n / 10 % 10)).toNat = 48 + n / 10 % 10 := by rw [UInt8.toNat_ofNat']; omega
  have ec : (UInt8.ofNat (48 + n % 10)).toNat = 48 + n % 10 := by rw [UInt8.toNat_ofNat']; omega
  have da : digitI (UInt8.ofNat (49 + (n / 100 - 1))).toNat = true := by rw [ea]; simp [digitI]; omega
  have db : digitI (UInt8.ofNat (48 + n / 10 % 10)).toNat = true := by rw [eb]; simp [digitI]; omega
  have dc : digitI (UInt8.ofNat (48 + n % 10)).toNat = true := by rw [ec]; simp [digitI]; omega
  refine ⟨_, _, _, h, da, db, dc, by rw [ea]; omega, by rw [ea]; omega, ?_⟩
  rw [num3 da db dc, ea, eb, ec]; congr 1; omega

/-- request lines -/
theorem req_parts {l m t : List UInt8} {v : Int} (h : reqL l = (m, t, v, 0)) : l.length ≤ 2000 ∧ m = cut1 32 l ∧ t = cut1 32 (cut2 32 l) ∧ tokL m = true ∧ visL t = true ∧ verE (cut2 32 (cut2 32 l)) = 0 ∧ v = verM (cut2 32 (cut2 32 l)) := by
  unfold reqL at h
  split at h
  · simp at h
  · split at h
    · simp at h
    · rename_i h1 h2
      split at h
      · rename_i h3; simp at h; exact absurd h.2.2.2 h3
      · rename_i h3
        simp only [Prod.mk.injEq] at h
        simp only [Bool.and_eq_false_iff, not_or, Bool.not_eq_false] at h2
        obtain ⟨rfl, rfl, rfl, _⟩ := h
        exact ⟨by omega, rfl, rfl, h2.1, h2.2, by simpa using h3, rfl⟩
theorem ver_text {x : List UInt8} (h : verE x = 0) : x = http7 ++ decL (verM x) := by
  rcases verE_ok h with rfl | rfl <;> decide
theorem ver_min {x : List UInt8} : verM x = 0 ∨ verM x = 1 := by unfold verM; split <;> simp
theorem req_back {l m t : List UInt8} {v : Int} (h : reqL l = (m, t, v, 0)) : reqLine m t v = l := by
  obtain ⟨hl, rfl, rfl, h1, h2, h3, rfl⟩ := req_parts h
  have c2 : cutB 32 (cut2 32 l) = true := cutB_of (by intro e; rw [e] at h3; revert h3; decide)
  have c1 : cutB 32 l = true := cutB_of (by intro e; rw [e] at h2; revert h2; decide)
  unfold reqLine
  rw [← ver_text h3, ← cut_join c2, ← cut_join c1]
theorem fmtReq_back {l m t : List UInt8} {v : Int} (h : reqL l = (m, t, v, 0)) : fmtReqL m t v = l := by
  unfold fmtReqL; rw [req_back h, if_pos h]
theorem fmtReq_min {m t : List UInt8} {n : Int} (h : n < 0 ∨ 1 < n) : fmtReqL m t n = [] := by
  unfold fmtReqL; rw [if_neg]
  intro e
  have := (req_parts e).2.2.2.2.2.2
  rcases ver_min (x := cut2 32 (cut2 32 (reqLine m t n))) with q | q <;> omega
theorem fmtReq_long {m t : List UInt8} {n : Int} (h : 2000 < m.length ∨ 2000 < t.length) : fmtReqL m t n = [] := by
  unfold fmtReqL; rw [if_neg]
  intro e
  have := (req_parts e).1
  simp [reqLine] at this
  omega

/-- status lines -/
theorem sta_parts {l r : List UInt8} {n s : Int} (h : staL l = (n, s, r, 0)) : l.length ≤ 2000 ∧ condS l = true ∧ verE (cut1 32 l) = 0 ∧ n = verM (cut1 32 l) ∧ s = (codeL (cut1 32 (cut2 32 l))).getD 0 ∧ r = cut2 32 (cut2 32 l) := by
  unfold staL at h
  split at h
  · simp at h
  · split at h
    · simp at h
    · rename_i h1 h2
      split at h
      · rename_i h3; simp at h; exact absurd h.2.2.2 h3
      · rename_i h3
        simp only [Prod.mk.injEq] at h
        obtain ⟨rfl, rfl, rfl, _⟩ := h
        exact ⟨by omega, by unfold condS; rw [← Bool.not_eq_false]; exact h2, by simpa using h3, rfl, rfl, rfl⟩
theorem code_num {x : List UInt8} {s : Int} (h : codeL x = some s) : numL x = some s ∧ 100 ≤ s ∧ s ≤ 599 := by
  unfold codeL at h
  rcases hn : numL x with _ | n
  · rw [hn] at h; cases h
  · rw [hn] at h; simp only [] at h
    split at h
    · rename_i q; cases h; exact ⟨rfl, q.2.1, q.2.2⟩
    · cases h
theorem sta_code {l : List UInt8} (h : condS l = true) : ∃ s, codeL (cut1 32 (cut2 32 l)) = some s := by
  unfold condS at h; simp only [Bool.and_eq_true] at h
  exact Option.isSome_iff_exists.mp h.1.2
theorem sta_range {l r : List UInt8} {n s : Int} (h : staL l = (n, s, r, 0)) : (n = 0 ∨ n = 1) ∧ 100 ≤ s ∧ s ≤ 599 ∧ r.length ≤ 2000 := by
  obtain ⟨hl, hc, _, rfl, rfl, rfl⟩ := sta_parts h
  obtain ⟨q, hq⟩ := sta_code hc
  have := code_num hq
  rw [hq]
  refine ⟨ver_min, this.2.1, this.2.2, ?_⟩
  have a := cut2_le 32 (cut2 32 l)
  have b := cut2_le 32 l
  omega
theorem sta_back {l r : List UInt8} {n s : Int} (h : staL l = (n, s, r, 0)) : staLine n s r = l := by
  obtain ⟨hl, hc, hv, rfl, rfl, rfl⟩ := sta_parts h
  obtain ⟨r, a, b, c, hj, ha, hb, hcc, h1, h2, ht, hr, hx⟩ := cond_shape hc
  have h3 := num3 ha hb hcc
  have h4 := code3 ha hb hcc h1 h2
  unfold staLine
  rw [← ver_text hv, hx, hr, h4.1, h3]
  show cut1 32 l ++ 32 :: (decL _ ++ 32 :: r) = l
  rw [Option.getD_some, dec_abc hb hcc h1 h2]; exact hj.symm
theorem fmtSta_back {l r : List UInt8} {n s : Int} (h : staL l = (n, s, r, 0)) : fmtStaL n s r = l := by
  unfold fmtStaL; rw [sta_back h, if_pos h]
theorem fmtSta_out {r : List UInt8} {n s : Int} (h : n < 0 ∨ 1 < n ∨ s < 100 ∨ 599 < s ∨ 2000 < r.length) : fmtStaL n s r = [] := by
  unfold fmtStaL; rw [if_neg]
  intro e
  have := sta_range e
  omega
theorem sta_in {r : List UInt8} {n s : Int} (h0 : 0 ≤ n) (h1 : n ≤ 1) (h2 : 100 ≤ s) (h3 : s ≤ 599) (hE : (staL (staLine n s r)).2.2.2 = 0) : staL (staLine n s r) = (n, s, r, 0) := by
  obtain ⟨a, b, c, hd, ha, hb, hc, g1, g2, hn⟩ := dec_ex h2 h3
  have hv : isVerL (http7 ++ decL n) = true ∧ verE (http7 ++ decL n) = 0 ∧ verM (http7 ++ decL n) = n := by
    have : n = 0 ∨ n = 1 := by omega
    rcases this with rfl | rfl <;> decide
  have hs := shape_cut (r := r) hv.1 ha hb hc
  have h4 := code3 ha hb hc g1 g2
  rw [hn] at h4
  unfold staLine at hE ⊢
  rw [hd] at hE ⊢
  have hcd : condS (http7 ++ decL n ++ 32 :: ([a, b, c] ++ 32 :: r)) = textL r := by
    unfold condS; rw [hs.2.1, hs.2.2.1, hs.2.2.2.1, hs.2.2.2.2, h4.2]; rfl
  by_cases hl : 2000 < (http7 ++ decL n ++ 32 :: ([a, b, c] ++ 32 :: r)).length
  · rw [sta_long hl] at hE; simp at hE
  · rcases ht : condS (http7 ++ decL n ++ 32 :: ([a, b, c] ++ 32 :: r)) with _ | _
    · rw [sta_bad hl ht] at hE; simp at hE
    · rw [sta_ok hl ht (by rw [hs.1]; exact hv.2.1), hs.1, hs.2.1, hs.2.2.1, hs.2.2.2.1, h4.1, hv.2.2]; rfl
theorem fmtSta_ok {r : List UInt8} {n s : Int} (h0 : 0 ≤ n) (h1 : n ≤ 1) (h2 : 100 ≤ s) (h3 : s ≤ 599) (hE : (staL (staLine n s r)).2.2.2 = 0) : fmtStaL n s r = staLine n s r := by
  unfold fmtStaL; rw [if_pos (sta_in h0 h1 h2 h3 hE)]
theorem fmtSta_no {r : List UInt8} {n s : Int} (hE : (staL (staLine n s r)).2.2.2 ≠ 0) : fmtStaL n s r = [] := by
  unfold fmtStaL; rw [if_neg]; intro e; rw [e] at hE; exact hE rfl

/-- no line is both -/
theorem not_both {l m t r : List UInt8} {v n s : Int} (h : reqL l = (m, t, v, 0)) (k : staL l = (n, s, r, 0)) : False := by
  have h1 := (req_parts h).2.2.2.1
  rw [(req_parts h).2.1] at h1
  have h2 := (sta_parts k).2.2.1
  rcases verE_ok h2 with e | e <;> (rw [e] at h1; revert h1; decide)

end Go.Proofs.Ytcpmacmcfedaaaa.Asc
