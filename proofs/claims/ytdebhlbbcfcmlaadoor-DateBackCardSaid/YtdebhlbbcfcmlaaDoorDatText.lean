/- Plain functions of layer 20: the text of a date, and what its parts are read as. No program is named here. -/
import Derived.Test.YtdebhlbbcfcmlaaDoorDatSpec
set_option linter.unusedVariables false
set_option linter.unusedSimpArgs false
set_option maxRecDepth 100000
namespace Go.Proofs.YtdebhlbbcfcmlaaDoor.Asc

def wkL (k : Nat) : List UInt8 := [[84, 104, 117], [70, 114, 105], [83, 97, 116], [83, 117, 110], [77, 111, 110], [84, 117, 101], [87, 101, 100]].getD k []
def monL (m : Nat) : List UInt8 := [[74, 97, 110], [70, 101, 98], [77, 97, 114], [65, 112, 114], [77, 97, 121], [74, 117, 110], [74, 117, 108], [65, 117, 103], [83, 101, 112], [79, 99, 116], [78, 111, 118], [68, 101, 99]].getD (m - 1) []
def twoL (n : Nat) : List UInt8 := [digB (n / 10), digB n]
def fourL (n : Nat) : List UInt8 := [digB (n / 1000), digB (n / 100), digB (n / 10), digB n]
def clkL (s : Nat) : List UInt8 := twoL (s / 3600) ++ [58] ++ twoL (s / 60 % 60) ++ [58] ++ twoL (s % 60)
def dateL (y m d n s : Nat) : List UInt8 := wkL (n % 7) ++ [44, 32] ++ twoL d ++ [32] ++ monL m ++ [32] ++ fourL y ++ [32] ++ clkL s ++ [32, 71, 77, 84]
/-- l is the date t seconds after the beginning of 1970 -/
def TextOf (t : Int) (l : List UInt8) : Prop := ∃ n s y m d : Nat, t = (n * 86400 + s : Nat) ∧ s < 86400 ∧ IsCal n y m d ∧ l = dateL y m d n s
/-- l is what Format returns for t -/
def FmtIs (t : Int) (l : List UInt8) : Prop := TextOf t l ∨ ((t < 0 ∨ 253402300799 < t) ∧ l = [])
theorem wk_three {k : Nat} (h : k < 7) : ∃ a b c, wkL k = [a, b, c] := by
  have key : ∀ k : Fin 7, (wkL k.1).length = 3 := by decide
  have := key ⟨k, h⟩
  match hw : wkL k, this with
  | [a, b, c], _ => exact ⟨a, b, c, rfl⟩
theorem mon_three {m : Nat} (h1 : 1 ≤ m) (h : m ≤ 12) : ∃ a b c, monL m = [a, b, c] := by
  have key : ∀ m : Fin 13, 1 ≤ m.1 → (monL m.1).length = 3 := by decide
  have := key ⟨m, by omega⟩ h1
  match hw : monL m, this with
  | [a, b, c], _ => exact ⟨a, b, c, rfl⟩
theorem date_len {y m d n s : Nat} (h1 : 1 ≤ m) (h : m ≤ 12) : (dateL y m d n s).length = 29 := by
  obtain ⟨a, b, c, hw⟩ := wk_three (Nat.mod_lt n (by omega : 0 < 7))
  obtain ⟨p, q, r, hm⟩ := mon_three h1 h
  unfold dateL clkL twoL fourL
  rw [hw, hm]; rfl
theorem text_len {t : Int} {l : List UInt8} (h : TextOf t l) : l.length = 29 := by
  obtain ⟨n, s, y, m, d, rfl, hs, hc, rfl⟩ := h
  exact date_len hc.1.2.1.1 hc.1.2.1.2
theorem text_range20 {t : Int} {l : List UInt8} (h : TextOf t l) : 0 ≤ t ∧ t ≤ 253402300799 := by
  obtain ⟨n, s, y, m, d, rfl, hs, hc, rfl⟩ := h
  have := cal_lt hc
  omega
theorem text_uniq {t : Int} {l l' : List UInt8} (h : TextOf t l) (h' : TextOf t l') : l = l' := by
  obtain ⟨n, s, y, m, d, rfl, hs, hc, rfl⟩ := h
  obtain ⟨n', s', y', m', d', e, hs', hc', rfl⟩ := h'
  obtain rfl : n = n' := by omega
  obtain rfl : s = s' := by omega
  obtain ⟨rfl, rfl, rfl⟩ := cal_uniq hc hc'
  rfl
theorem text_exists {t : Int} (h0 : 0 ≤ t) (h1 : t ≤ 253402300799) : ∃ n s y m d : Nat, t = (n * 86400 + s : Nat) ∧ s < 86400 ∧ IsCal n y m d := by
  obtain ⟨y, m, d, hc⟩ := cal_exists (n := t.toNat / 86400) (by omega)
  exact ⟨t.toNat / 86400, t.toNat % 86400, y, m, d, by omega, by omega, hc⟩
theorem fmt_exists (t : Int) : ∃ l, FmtIs t l := by
  by_cases h : t < 0 ∨ 253402300799 < t
  · exact ⟨[], .inr ⟨h, rfl⟩⟩
  · obtain ⟨n, s, y, m, d, e, hs, hc⟩ := text_exists (t := t) (by omega) (by omega)
    exact ⟨_, .inl ⟨n, s, y, m, d, e, hs, hc, rfl⟩⟩
theorem fmt_uniq {t : Int} {l l' : List UInt8} (h : FmtIs t l) (h' : FmtIs t l') : l = l' := by
  rcases h with h | ⟨h, rfl⟩
  · rcases h' with h' | ⟨h', rfl⟩
    · exact text_uniq h h'
    · have := text_range20 h; omega
  · rcases h' with h' | ⟨h', rfl⟩
    · have := text_range20 h'; omega
    · rfl
theorem fmt_len20 {t : Int} {l : List UInt8} (h : FmtIs t l) : l.length ≤ 29 := by
  rcases h with h | ⟨h, rfl⟩
  · rw [text_len h]; omega
  · exact Nat.zero_le _

/-! digits -/
theorem digB_is (m : Nat) : digitI ((digB m).toNat : Int) = true := by
  have := dig_toNat m
  unfold digitI
  simp; omega
theorem digB_mod (m k : Nat) (h : m % 10 = k % 10) : digB m = digB k := by unfold digB; rw [h]
theorem dig_back {c : UInt8} (h : digitI (c.toNat : Int) = true) : c = digB (c.toNat - 48) := by
  have hb := digitI_bd h
  have := dig_toNat (c.toNat - 48)
  exact UInt8.toNat_inj.mp (by omega)
theorem num_two (a b : UInt8) (v : Int) : numL [a, b] = some v ↔ (digitI (a.toNat : Int) = true ∧ digitI (b.toNat : Int) = true) ∧ v = ((a.toNat : Int) - 48) * 10 + ((b.toNat : Int) - 48) := by
  have e : allI digitI [a, b] = (digitI (a.toNat : Int) && digitI (b.toNat : Int)) := by simp [allI]
  unfold numL
  constructor
  · intro h
    split at h
    · rename_i q
      rw [e, Bool.and_eq_true] at q
      have h1 := digitI_bd q.1.1
      have h2 := digitI_bd q.1.2
      refine ⟨q.1, ?_⟩
      have : numF [a, b] = v := Option.some.inj h
      rw [← this]
      show satI (satI 0 _) _ = _
      unfold satI
      split <;> split <;> omega
    · cases h
  · rintro ⟨q, rfl⟩
    have h1 := digitI_bd q.1
    have h2 := digitI_bd q.2
    rw [if_pos ⟨by rw [e, q.1, q.2]; rfl, by simp⟩]
    congr 1
    show satI (satI 0 _) _ = _
    unfold satI
    split <;> split <;> omega
theorem num_four (a b c d : UInt8) (v : Int) : numL [a, b, c, d] = some v ↔ (digitI (a.toNat : Int) = true ∧ digitI (b.toNat : Int) = true ∧ digitI (c.toNat : Int) = true ∧ digitI (d.toNat : Int) = true) ∧ v = ((a.toNat : Int) - 48) * 1000 + ((b.toNat : Int) - 48) * 100 + ((c.toNat : Int) - 48) * 10 + ((d.toNat : Int) - 48) := by
  have e : allI digitI [a, b, c, d] = (digitI (a.toNat : Int) && (digitI (b.toNat : Int) && (digitI (c.toNat : Int) && digitI (d.toNat : Int)))) := by simp [allI]
  have key : ∀ x y z u : Int, (0 ≤ x ∧ x ≤ 9) → (0 ≤ y ∧ y ≤ 9) → (0 ≤ z ∧ z ≤ 9) → (0 ≤ u ∧ u ≤ 9) → satI (satI (satI (satI 0 x) y) z) u = x * 1000 + y * 100 + z * 10 + u := by
    intro x y z u hx hy hz hu
    have e1 : satI 0 x = x := by unfold satI; split <;> omega
    have e2 : satI x y = x * 10 + y := by unfold satI; split <;> omega
    have e3 : satI (x * 10 + y) z = x * 100 + y * 10 + z := by unfold satI; split <;> omega
    have e4 : satI (x * 100 + y * 10 + z) u = x * 1000 + y * 100 + z * 10 + u := by unfold satI; split <;> omega
    rw [e1, e2, e3, e4]
  unfold numL
  constructor
  · intro h
    split at h
    · rename_i q
      rw [e, Bool.and_eq_true, Bool.and_eq_true, Bool.and_eq_true] at q
      have h1 := digitI_bd q.1.1
      have h2 := digitI_bd q.1.2.1
      have h3 := digitI_bd q.1.2.2.1
      have h4 := digitI_bd q.1.2.2.2
      refine ⟨q.1, ?_⟩
      have : numF [a, b, c, d] = v := Option.some.inj h
      rw [← this]
      exact key _ _ _ _ (by omega) (by omega) (by omega) (by omega)
    · cases h
  · rintro ⟨q, rfl⟩
    have h1 := digitI_bd q.1
    have h2 := digitI_bd q.2.1
    have h3 := digitI_bd q.2.2.1
    have h4 := digitI_bd q.2.2.2
    rw [if_pos ⟨by rw [e, q.1, q.2.1, q.2.2.1, q.2.2.2]; rfl, by simp⟩]
    congr 1
    exact key _ _ _ _ (by omega) (by omega) (by omega) (by omega)
theorem num_twoL {n : Nat} (h : n < 100) : numL (twoL n) = some (n : Int) := by
  refine (num_two _ _ _).2 ⟨⟨digB_is _, digB_is _⟩, ?_⟩
  rw [dig_toNat, dig_toNat]; omega
theorem num_fourL {n : Nat} (h : n < 10000) : numL (fourL n) = some (n : Int) := by
  refine (num_four _ _ _ _ _).2 ⟨⟨digB_is _, digB_is _, digB_is _, digB_is _⟩, ?_⟩
  rw [dig_toNat, dig_toNat, dig_toNat, dig_toNat]; omega
theorem two_back {a b : UInt8} {v : Int} (h : numL [a, b] = some v) : ∃ n : Nat, v = n ∧ n < 100 ∧ [a, b] = twoL n := by
  obtain ⟨⟨ha, hb⟩, rfl⟩ := (num_two _ _ _).1 h
  have h1 := digitI_bd ha
  have h2 := digitI_bd hb
  refine ⟨(a.toNat - 48) * 10 + (b.toNat - 48), by omega, by omega, ?_⟩
  unfold twoL
  have e : ∀ (c : UInt8) (k : Nat), digitI (c.toNat : Int) = true → k % 10 = (c.toNat - 48) % 10 → digB k = c := fun c k h q => (digB_mod _ _ q).trans (dig_back h).symm
  rw [e a _ ha (by omega), e b _ hb (by omega)]
theorem four_back {a b c d : UInt8} {v : Int} (h : numL [a, b, c, d] = some v) : ∃ n : Nat, v = n ∧ n < 10000 ∧ [a, b, c, d] = fourL n := by
  obtain ⟨⟨ha, hb, hc, hd⟩, rfl⟩ := (num_four _ _ _ _ _).1 h
  have h1 := digitI_bd ha
  have h2 := digitI_bd hb
  have h3 := digitI_bd hc
  have h4 := digitI_bd hd
  refine ⟨(a.toNat - 48) * 1000 + (b.toNat - 48) * 100 + (c.toNat - 48) * 10 + (d.toNat - 48), by omega, by omega, ?_⟩
  unfold fourL
  have e : ∀ (c : UInt8) (k : Nat), digitI (c.toNat : Int) = true → k % 10 = (c.toNat - 48) % 10 → digB k = c := fun c k h q => (digB_mod _ _ q).trans (dig_back h).symm
  rw [e a _ ha (by omega), e b _ hb (by omega), e c _ hc (by omega), e d _ hd (by omega)]
/-- what Decimal writes -/
theorem dec_one {n : Nat} (h : n < 10) : decL (n : Int) = [digB n] := by
  unfold decL
  rw [if_neg (by omega), show ((n : Int)).natAbs = n from rfl]
  show (if n / 10 = 0 then [digB n] else _) = _
  rw [if_pos (by omega)]
theorem decF_last {f m : Nat} {acc : List UInt8} (h : m / 10 = 0) : decF (f + 1) m acc = digB m :: acc := by
  show (if m / 10 = 0 then _ else _) = _
  rw [if_pos h]
theorem decF_more {f m : Nat} {acc : List UInt8} (h : ¬ m / 10 = 0) : decF (f + 1) m acc = decF f (m / 10) (digB m :: acc) := by
  show (if m / 10 = 0 then _ else _) = _
  rw [if_neg h]
theorem dec_fourL {n : Nat} (h1 : 1000 ≤ n) (h : n < 10000) : decL (n : Int) = fourL n := by
  unfold decL fourL
  rw [if_neg (by omega), show ((n : Int)).natAbs = n from rfl, decF_more (by omega), decF_more (by omega), decF_more (by omega), decF_last (by omega), show n / 10 / 10 / 10 = n / 1000 from by omega, show n / 10 / 10 = n / 100 from by omega]
theorem dec_threeL {n : Nat} (h : n < 100) : decL ((100 + n : Nat) : Int) = 49 :: twoL n := by
  unfold decL twoL
  rw [if_neg (by omega), show (((100 + n : Nat) : Int)).natAbs = 100 + n from rfl, decF_more (by omega), decF_more (by omega), decF_last (by omega)]
  rw [digB_mod ((100 + n) / 10) (n / 10) (by omega), digB_mod (100 + n) n (by omega), digB_mod ((100 + n) / 10 / 10) 1 (by omega)]
  rfl

/-! names -/
def monI (l : List UInt8) : Nat :=
  if l = monL 1 then 1 else if l = monL 2 then 2 else if l = monL 3 then 3 else if l = monL 4 then 4 else if l = monL 5 then 5 else if l = monL 6 then 6 else
  if l = monL 7 then 7 else if l = monL 8 then 8 else if l = monL 9 then 9 else if l = monL 10 then 10 else if l = monL 11 then 11 else if l = monL 12 then 12 else 0
theorem mon_back {m : Nat} (h1 : 1 ≤ m) (h : m ≤ 12) : monI (monL m) = m := by
  have key : ∀ m : Fin 13, 1 ≤ m.1 → monI (monL m.1) = m.1 := by decide
  exact key ⟨m, by omega⟩ h1
theorem mon_cases (l : List UInt8) : (∃ m, 1 ≤ m ∧ m ≤ 12 ∧ l = monL m ∧ monI l = m) ∨ ((∀ m, 1 ≤ m → m ≤ 12 → l ≠ monL m) ∧ monI l = 0) := by
  by_cases h : ∃ m, 1 ≤ m ∧ m ≤ 12 ∧ l = monL m
  · obtain ⟨m, h1, h2, rfl⟩ := h
    exact .inl ⟨m, h1, h2, rfl, mon_back h1 h2⟩
  · have hn : ∀ m, 1 ≤ m → m ≤ 12 → l ≠ monL m := fun m h1 h2 e => h ⟨m, h1, h2, e⟩
    refine .inr ⟨hn, ?_⟩
    unfold monI
    rw [if_neg (hn 1 (by omega) (by omega)), if_neg (hn 2 (by omega) (by omega)), if_neg (hn 3 (by omega) (by omega)), if_neg (hn 4 (by omega) (by omega)), if_neg (hn 5 (by omega) (by omega)), if_neg (hn 6 (by omega) (by omega)),
      if_neg (hn 7 (by omega) (by omega)), if_neg (hn 8 (by omega) (by omega)), if_neg (hn 9 (by omega) (by omega)), if_neg (hn 10 (by omega) (by omega)), if_neg (hn 11 (by omega) (by omega)), if_neg (hn 12 (by omega) (by omega))]
theorem mon_inj {a b : Nat} (ha : 1 ≤ a) (ha2 : a ≤ 12) (hb : 1 ≤ b) (hb2 : b ≤ 12) (h : monL a = monL b) : a = b := by
  rw [← mon_back ha ha2, h, mon_back hb hb2]

/-! what a text is read as -/
def cutD (l : List UInt8) (a b : Nat) : List UInt8 := (l.take b).drop a
def nmD (l : List UInt8) (a b : Nat) : Int := (numV (numL (cutD l a b))).1
def dayD (l : List UInt8) : Int := daysV (nmD l 12 16) (monI (cutD l 8 11)) (nmD l 5 7)
def timeD (l : List UInt8) : Int := dayD l * 86400 + (nmD l 17 19 * 3600 + nmD l 20 22 * 60 + nmD l 23 25)
theorem ext_cut (s : ByteArray) (a b : Nat) : s.extract a b = bs (cutD s.data.toList a b) := ext_bs s a b
structure GoodD (l : List UInt8) : Prop where
  len : l.length = 29
  c3 : cutD l 3 5 = [44, 32]
  c7 : l.getD 7 0 = 32
  c11 : l.getD 11 0 = 32
  c16 : l.getD 16 0 = 32
  c19 : l.getD 19 0 = 58
  c22 : l.getD 22 0 = 58
  c25 : l.drop 25 = [32, 71, 77, 84]
  n5 : ∃ v, numL (cutD l 5 7) = some v
  n12 : ∃ v, numL (cutD l 12 16) = some v
  n17 : ∃ v, numL (cutD l 17 19) = some v
  n20 : ∃ v, numL (cutD l 20 22) = some v
  n23 : ∃ v, numL (cutD l 23 25) = some v
  day : ¬ dayD l < 0
  hh : ¬ 23 < nmD l 17 19
  mi : ¬ 59 < nmD l 20 22
  ss : ¬ 59 < nmD l 23 25
  wk : wkL ((dayD l).toNat % 7) = l.take 3
theorem nmD_of {l : List UInt8} {a b : Nat} {v : Int} (h : numL (cutD l a b) = some v) : nmD l a b = v := by unfold nmD; rw [h]; rfl
theorem cells29 {l : List UInt8} (h : l.length = 29) : ∃ a0 a1 a2 a3 a4 a5 a6 a7 a8 a9 a10 a11 a12 a13 a14 a15 a16 a17 a18 a19 a20 a21 a22 a23 a24 a25 a26 a27 a28, l = [a0, a1, a2, a3, a4, a5, a6, a7, a8, a9, a10, a11, a12, a13, a14, a15, a16, a17, a18, a19, a20, a21, a22, a23, a24, a25, a26, a27, a28] := by
  match l, h with
  | [a0, a1, a2, a3, a4, a5, a6, a7, a8, a9, a10, a11, a12, a13, a14, a15, a16, a17, a18, a19, a20, a21, a22, a23, a24, a25, a26, a27, a28], _ => exact ⟨a0, a1, a2, a3, a4, a5, a6, a7, a8, a9, a10, a11, a12, a13, a14, a15, a16, a17, a18, a19, a20, a21, a22, a23, a24, a25, a26, a27, a28, rfl⟩
theorem good_text {l : List UInt8} (h : GoodD l) : TextOf (timeD l) l := by
  obtain ⟨len, c3, c7, c11, c16, c19, c22, c25, ⟨v5, n5⟩, ⟨v12, n12⟩, ⟨v17, n17⟩, ⟨v20, n20⟩, ⟨v23, n23⟩, day, hh, mi, ss, wk⟩ := h
  have e5 := nmD_of n5
  have e12 := nmD_of n12
  have e17 := nmD_of n17
  have e20 := nmD_of n20
  have e23 := nmD_of n23
  rw [e17] at hh; rw [e20] at mi; rw [e23] at ss
  have ht : timeD l = dayD l * 86400 + (v17 * 3600 + v20 * 60 + v23) := by unfold timeD; rw [e17, e20, e23]
  have hd : dayD l = daysV v12 (monI (cutD l 8 11)) v5 := by unfold dayD; rw [e12, e5]
  rw [ht]
  rcases days_cases v12 (monI (cutD l 8 11)) v5 with ⟨y, m, d, rfl, hm, rfl, hD, hV⟩ | ⟨_, hV⟩
  · rw [hd, hV] at wk
    rw [hd, hV]
    obtain ⟨a0, a1, a2, a3, a4, a5, a6, a7, a8, a9, a10, a11, a12, a13, a14, a15, a16, a17, a18, a19, a20, a21, a22, a23, a24, a25, a26, a27, a28, rfl⟩ := cells29 len
    obtain ⟨z5, q5, r5, s5⟩ := two_back n5
    obtain ⟨z12, q12, r12, s12⟩ := four_back n12
    obtain ⟨z17, rfl, r17, s17⟩ := two_back n17
    obtain ⟨z20, rfl, r20, s20⟩ := two_back n20
    obtain ⟨z23, rfl, r23, s23⟩ := two_back n23
    obtain rfl : d = z5 := by omega
    obtain rfl : y = z12 := by omega
    refine ⟨dayN y m d, z17 * 3600 + z20 * 60 + z23, y, m, d, by omega, by omega, ⟨hD, rfl⟩, ?_⟩
    have hmon : [a8, a9, a10] = monL m := by
      rcases mon_cases [a8, a9, a10] with ⟨k, k1, k2, k3, k4⟩ | ⟨_, k4⟩
      · have : monI [a8, a9, a10] = m := by exact_mod_cast hm
        rw [k3, ← this, k4]
      · exfalso
        have : monI [a8, a9, a10] = m := by exact_mod_cast hm
        have := hD.2.1.1
        omega
    have e1 : [a0, a1, a2] = wkL (dayN y m d % 7) := wk.symm
    have e3 : [a3, a4] = [44, 32] := c3
    have e7 : a7 = 32 := c7
    have e11 : a11 = 32 := c11
    have e16 : a16 = 32 := c16
    have e19 : a19 = 58 := c19
    have e22 : a22 = 58 := c22
    have e25 : [a25, a26, a27, a28] = [32, 71, 77, 84] := c25
    unfold dateL clkL
    rw [show (z17 * 3600 + z20 * 60 + z23) / 3600 = z17 from by omega, show (z17 * 3600 + z20 * 60 + z23) / 60 % 60 = z20 from by omega, show (z17 * 3600 + z20 * 60 + z23) % 60 = z23 from by omega,
      ← e1, ← s5, ← s12, ← s17, ← s20, ← s23, ← hmon, ← e3, ← e25, e7, e11, e16, e19, e22]
    rfl
  · exfalso; rw [hd, hV] at day; omega
theorem text_good {t : Int} {l : List UInt8} (h : TextOf t l) : GoodD l ∧ timeD l = t := by
  have hlen := text_len h
  obtain ⟨n, s, y, m, d, rfl, hs, hc, rfl⟩ := h
  obtain ⟨a, b, c, hw⟩ := wk_three (Nat.mod_lt n (by omega : 0 < 7))
  obtain ⟨p, q, r, hm⟩ := mon_three hc.1.2.1.1 hc.1.2.1.2
  have hl : dateL y m d n s = [a, b, c, 44, 32, digB (d / 10), digB d, 32, p, q, r, 32, digB (y / 1000), digB (y / 100), digB (y / 10), digB y, 32, digB (s / 3600 / 10), digB (s / 3600), 58, digB (s / 60 % 60 / 10), digB (s / 60 % 60), 58, digB (s % 60 / 10), digB (s % 60), 32, 71, 77, 84] := by
    unfold dateL clkL twoL fourL; rw [hw, hm]; rfl
  have hd31 := (len_le (leapN y) hc.1.2.1.1 hc.1.2.1.2).1
  have hdd := hc.1.2.2
  have hyy := hc.1.1
  have n5 : numL (cutD (dateL y m d n s) 5 7) = some (d : Int) := by rw [hl]; exact num_twoL (n := d) (by omega)
  have n12 : numL (cutD (dateL y m d n s) 12 16) = some (y : Int) := by rw [hl]; exact num_fourL (n := y) (by omega)
  have n17 : numL (cutD (dateL y m d n s) 17 19) = some ((s / 3600 : Nat) : Int) := by rw [hl]; exact num_twoL (n := s / 3600) (by omega)
  have n20 : numL (cutD (dateL y m d n s) 20 22) = some ((s / 60 % 60 : Nat) : Int) := by rw [hl]; exact num_twoL (n := s / 60 % 60) (by omega)
  have n23 : numL (cutD (dateL y m d n s) 23 25) = some ((s % 60 : Nat) : Int) := by rw [hl]; exact num_twoL (n := s % 60) (by omega)
  have hmo : monI (cutD (dateL y m d n s) 8 11) = m := by
    rw [hl, show cutD [a, b, c, 44, 32, digB (d / 10), digB d, 32, p, q, r, 32, digB (y / 1000), digB (y / 100), digB (y / 10), digB y, 32, digB (s / 3600 / 10), digB (s / 3600), 58, digB (s / 60 % 60 / 10), digB (s / 60 % 60), 58, digB (s % 60 / 10), digB (s % 60), 32, 71, 77, 84] 8 11 = [p, q, r] from rfl, ← hm]
    exact mon_back hc.1.2.1.1 hc.1.2.1.2
  have hday : dayD (dateL y m d n s) = (n : Int) := by
    unfold dayD
    rw [nmD_of n12, nmD_of n5, hmo, days_yes hc.1, hc.2]
  refine ⟨⟨hlen, by rw [hl]; rfl, by rw [hl]; rfl, by rw [hl]; rfl, by rw [hl]; rfl, by rw [hl]; rfl, by rw [hl]; rfl, by rw [hl]; rfl, ⟨_, n5⟩, ⟨_, n12⟩, ⟨_, n17⟩, ⟨_, n20⟩, ⟨_, n23⟩, by rw [hday]; omega, by rw [nmD_of n17]; omega, by rw [nmD_of n20]; omega, by rw [nmD_of n23]; omega, ?_⟩, ?_⟩
  · rw [hday, show ((n : Int)).toNat = n from rfl, hw, hl]; rfl
  · unfold timeD
    rw [hday, nmD_of n17, nmD_of n20, nmD_of n23]
    omega
/-- what Parse returns -/
noncomputable def prsD (l : List UInt8) : Option Int := by classical exact if GoodD l then some (timeD l) else none
theorem prs_yes {l : List UInt8} (h : GoodD l) : prsD l = some (timeD l) := by unfold prsD; rw [if_pos h]
theorem prs_no {l : List UInt8} (h : ¬ GoodD l) : prsD l = none := by unfold prsD; rw [if_neg h]
theorem prs_text {t : Int} {l : List UInt8} (h : TextOf t l) : prsD l = some t := by rw [prs_yes (text_good h).1, (text_good h).2]
/-- the program's way: the time is read, and its text compared -/
theorem prs_fmt {l x : List UInt8} (hl : l.length = 29) (h : FmtIs (timeD l) x) : prsD l = if x = l then some (timeD l) else none := by
  by_cases e : x = l
  · rw [if_pos e]
    subst e
    rcases h with h | ⟨_, rfl⟩
    · exact prs_yes (text_good h).1
    · cases hl
  · rw [if_neg e]
    refine prs_no fun g => e ?_
    rcases h with h | ⟨h, rfl⟩
    · exact text_uniq h (good_text g)
    · have := text_range20 (good_text g); omega
theorem nm_bd (l : List UInt8) (a b : Nat) : 0 ≤ nmD l a b ∧ nmD l a b ≤ 2147483647 := by
  have hb : ∀ l : List UInt8, (∀ c ∈ l, digitI c.toNat = true) → ∀ v : Int, 0 ≤ v ∧ v ≤ 2147483647 → 0 ≤ l.foldl (fun n c => satI n ((c.toNat : Int) - 48)) v ∧ l.foldl (fun n c => satI n ((c.toNat : Int) - 48)) v ≤ 2147483647 := by
    intro l
    induction l with
    | nil => intro _ v h; exact h
    | cons c l ih =>
      intro hd v h
      have h1 := digitI_bd (hd c (by simp))
      exact ih (fun x hx => hd x (by simp [hx])) _ (satI_bd h.1 (by omega))
  unfold nmD numL
  split
  · rename_i hd
    exact hb _ (fun c hc => List.all_eq_true.mp hd.1 c hc) 0 ⟨by omega, by omega⟩
  · exact ⟨by show (0 : Int) ≤ 0; omega, by show (0 : Int) ≤ 2147483647; omega⟩
theorem day_bd (l : List UInt8) : -1 ≤ dayD l ∧ dayD l ≤ 2932896 := by
  unfold dayD
  rcases days_cases (nmD l 12 16) (monI (cutD l 8 11)) (nmD l 5 7) with ⟨y, m, d, _, _, _, hD, hV⟩ | ⟨_, hV⟩
  · rw [hV]
    have := cal_lt (n := dayN y m d) (y := y) (m := m) (d := d) ⟨hD, rfl⟩
    omega
  · rw [hV]; omega
theorem prs_nil : prsD [] = none := prs_no fun g => by have := g.len; cases this

end Go.Proofs.YtdebhlbbcfcmlaaDoor.Asc
