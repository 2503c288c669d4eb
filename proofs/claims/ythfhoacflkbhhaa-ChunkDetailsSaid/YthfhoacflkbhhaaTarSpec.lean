/- Plain functions on lists of bytes: percent triplets, dot segments. No program is named here. -/
import Derived.Test.YthfhoacflkbhhaaStaSpec
import Derived.Test.YthfhoacflkbhhaaAscSpec3
set_option linter.unusedVariables false
set_option linter.unusedSimpArgs false
namespace Go.Proofs.Ythfhoacflkbhhaa.Asc

def alnumI (b : Int) : Bool := letterI b || digitI b
def hexI (b : Int) : Int := if digitI b = true then b - 48 else if 97 ≤ b ∧ b ≤ 102 then b - 87 else if 65 ≤ b ∧ b ≤ 70 then b - 55 else -1
def hexB (c : UInt8) : Bool := decide (0 ≤ hexI c.toNat)
def unresI (b : Int) : Bool := alnumI b || b == 45 || b == 46 || b == 95 || b == 126
def okI (b : Int) : Bool := decide (33 ≤ b ∧ b ≤ 126) && !(b == 35)
def okB (c : UInt8) : Bool := okI c.toNat
def hexD : List UInt8 := [48, 49, 50, 51, 52, 53, 54, 55, 56, 57, 65, 66, 67, 68, 69, 70]
/-- the byte of a triplet, and what is written for it -/
def tripN (a b : UInt8) : Nat := (hexI a.toNat * 16 + hexI b.toNat).toNat
def tripL (x : Nat) : List UInt8 := if unresI x = true then [UInt8.ofNat x] else [37, hexD.getD (x / 16) 0, hexD.getD (x % 16) 0]
def normL : List UInt8 → Option (List UInt8)
  | [] => some []
  | c :: r =>
    if okB c = false then none
    else if c ≠ 37 then (normL r).map (c :: ·)
    else match r with
      | a :: b :: r2 => if (hexB a && hexB b) = true then (normL r2).map (tripL (tripN a b) ++ ·) else none
      | _ => none
theorem norm_bad {c : UInt8} {r : List UInt8} (h : okB c = false) : normL (c :: r) = none := by
  unfold normL; rw [if_pos h]
theorem norm_plain {c : UInt8} {r : List UInt8} (h : okB c = true) (h2 : c ≠ 37) : normL (c :: r) = (normL r).map (c :: ·) := by
  conv => lhs; unfold normL
  rw [if_neg (by rw [h]; simp), if_pos h2]
theorem norm_trip {a b : UInt8} {r : List UInt8} (h : hexB a = true) (h2 : hexB b = true) : normL (37 :: a :: b :: r) = (normL r).map (tripL (tripN a b) ++ ·) := by
  rw [normL, if_neg (by decide), if_neg (by decide)]
  simp [h, h2]
theorem norm_notrip {a b : UInt8} {r : List UInt8} (h : (hexB a && hexB b) = false) : normL (37 :: a :: b :: r) = none := by
  rw [normL, if_neg (by decide), if_neg (by decide)]
  simp only [h]; rfl
theorem norm_short1 : normL [37] = none := by decide
theorem norm_short2 (a : UInt8) : normL [37, a] = none := by
  unfold normL; rw [if_neg (by decide), if_neg (by decide)]
theorem hex_bd {c : UInt8} (h : hexB c = true) : 0 ≤ hexI c.toNat ∧ hexI c.toNat ≤ 15 := by
  unfold hexB at h
  have h0 : 0 ≤ hexI c.toNat := by simpa using h
  refine ⟨h0, ?_⟩
  unfold hexI at h0 ⊢
  split
  · rename_i q; have := digitI_bd q; omega
  · split
    · omega
    · split
      · omega
      · omega
theorem trip_lt {a b : UInt8} (h : hexB a = true) (h2 : hexB b = true) : tripN a b < 256 := by
  have := hex_bd h; have := hex_bd h2
  unfold tripN; omega
/-- what is written for a byte, read again -/
theorem trip_again : ∀ x : Fin 256, unresI (x.1 : Nat) = false → hexB (hexD.getD (x.1 / 16) 0) = true ∧ hexB (hexD.getD (x.1 % 16) 0) = true ∧ tripN (hexD.getD (x.1 / 16) 0) (hexD.getD (x.1 % 16) 0) = x.1 := by decide +kernel
theorem unres_ok : ∀ x : Fin 256, unresI (x.1 : Nat) = true → okB (UInt8.ofNat x.1) = true ∧ UInt8.ofNat x.1 ≠ 37 := by decide +kernel
theorem norm_tripL {x : Nat} {m : List UInt8} (hx : x < 256) (h : normL m = some m) : normL (tripL x ++ m) = some (tripL x ++ m) := by
  by_cases q : unresI x = true
  · have e : tripL x = [UInt8.ofNat x] := by unfold tripL; rw [if_pos q]
    obtain ⟨h1, h2⟩ := unres_ok ⟨x, hx⟩ q
    rw [e]
    show normL (UInt8.ofNat x :: m) = some (UInt8.ofNat x :: m)
    rw [norm_plain h1 h2, h]; rfl
  · have q' : unresI x = false := by simpa using q
    have e : tripL x = [37, hexD.getD (x / 16) 0, hexD.getD (x % 16) 0] := by unfold tripL; rw [if_neg q]
    obtain ⟨h1, h2, h3⟩ := trip_again ⟨x, hx⟩ q'
    rw [e]
    show normL (37 :: hexD.getD (x / 16) 0 :: hexD.getD (x % 16) 0 :: m) = some _
    rw [norm_trip h1 h2, h, h3, e]; rfl
theorem norm_norm : ∀ (n : Nat) (l m : List UInt8), l.length ≤ n → normL l = some m → normL m = some m
  | _, [], m, _, h => by cases h; rfl
  | 0, c :: r, m, hn, h => by simp at hn
  | n + 1, c :: r, m, hn, h => by
    simp only [List.length_cons] at hn
    rcases hc : okB c with _ | _
    · rw [norm_bad hc] at h; cases h
    · by_cases h37 : c = 37
      · subst h37
        match r, h, hn with
        | [], h, _ => rw [norm_short1] at h; cases h
        | [a], h, _ => rw [norm_short2] at h; cases h
        | a :: b :: r2, h, hn =>
          rcases ha : (hexB a && hexB b) with _ | _
          · rw [norm_notrip ha] at h; cases h
          · simp only [Bool.and_eq_true] at ha
            rw [norm_trip ha.1 ha.2] at h
            obtain ⟨m2, h2, rfl⟩ := Option.map_eq_some_iff.mp h
            exact norm_tripL (trip_lt ha.1 ha.2) (norm_norm n r2 m2 (by simp only [List.length_cons] at hn; omega) h2)
      · rw [norm_plain hc h37] at h
        obtain ⟨m2, h2, rfl⟩ := Option.map_eq_some_iff.mp h
        rw [norm_plain hc h37, norm_norm n r m2 (by omega) h2]; rfl
theorem norm_idem {l m : List UInt8} (h : normL l = some m) : normL m = some m := norm_norm l.length l m (Nat.le_refl _) h
/-- a byte that no triplet holds parts what is normalized -/
theorem norm_split {d : UInt8} (hd : okB d = true) (h37 : d ≠ 37) (hx : hexB d = false) : ∀ (n : Nat) (l r : List UInt8), l.length ≤ n → normL (l ++ d :: r) = (normL l).bind fun x => (normL r).map fun y => x ++ d :: y
  | _, [], r, _ => by
    show normL (d :: r) = _
    rw [norm_plain hd h37]; rfl
  | 0, c :: l, r, hn => by simp at hn
  | n + 1, c :: l, r, hn => by
    simp only [List.length_cons] at hn
    show normL (c :: (l ++ d :: r)) = _
    rcases hc : okB c with _ | _
    · rw [norm_bad hc, norm_bad hc]; rfl
    · by_cases hc37 : c = 37
      · subst hc37
        match l, hn with
        | [], _ =>
          rw [norm_short1]
          match r with
          | [] => show normL [37, d] = none; exact norm_short2 d
          | b :: r2 => show normL (37 :: d :: b :: r2) = none; exact norm_notrip (by rw [hx]; rfl)
        | [a], _ =>
          rw [norm_short2]
          show normL (37 :: a :: d :: r) = none
          exact norm_notrip (by rw [hx]; simp)
        | a :: b :: l2, hn =>
          show normL (37 :: a :: b :: (l2 ++ d :: r)) = _
          rcases ha : (hexB a && hexB b) with _ | _
          · rw [norm_notrip ha, norm_notrip ha]; rfl
          · simp only [Bool.and_eq_true] at ha
            rw [norm_trip ha.1 ha.2, norm_trip ha.1 ha.2, norm_split hd h37 hx n l2 r (by simp only [List.length_cons] at hn; omega)]
            cases normL l2 <;> cases normL r <;> simp
      · rw [norm_plain hc hc37, norm_plain hc hc37, norm_split hd h37 hx n l r (by omega)]
        cases normL l <;> cases normL r <;> simp
/-- a byte that is not unreserved and no digit comes into no normal form -/
theorem trip_not {d : UInt8} (h37 : d ≠ 37) (hu : unresI d.toNat = false) (hx : d ∉ hexD) {x : Nat} (hlt : x < 256) : d ∉ tripL x := by
  unfold tripL
  split
  · rename_i q
    intro hm
    simp at hm
    subst hm
    rw [UInt8.toNat_ofNat', Nat.mod_eq_of_lt (by omega)] at hu
    rw [hu] at q; cases q
  · intro hm
    simp only [List.mem_cons, List.not_mem_nil, or_false] at hm
    have hg : ∀ k, k < 16 → hexD.getD k 0 ∈ hexD := fun k hk => by
      have : k < hexD.length := hk
      rw [List.getD_eq_getElem?_getD, List.getElem?_eq_getElem this]; exact List.getElem_mem this
    rcases hm with e | e | e
    · exact h37 e
    · exact hx (by rw [e]; exact hg _ (by omega))
    · exact hx (by rw [e]; exact hg _ (by omega))
theorem norm_not {d : UInt8} (h37 : d ≠ 37) (hu : unresI d.toNat = false) (hx : d ∉ hexD) : ∀ (n : Nat) (l m : List UInt8), l.length ≤ n → d ∉ l → normL l = some m → d ∉ m
  | _, [], m, _, _, h => by cases h; simp
  | 0, c :: r, m, hn, _, h => by simp at hn
  | n + 1, c :: r, m, hn, hd, h => by
    simp only [List.length_cons] at hn
    rcases hc : okB c with _ | _
    · rw [norm_bad hc] at h; cases h
    · by_cases hc37 : c = 37
      · subst hc37
        match r, h, hn, hd with
        | [], h, _, _ => rw [norm_short1] at h; cases h
        | [a], h, _, _ => rw [norm_short2] at h; cases h
        | a :: b :: r2, h, hn, hd =>
          rcases ha : (hexB a && hexB b) with _ | _
          · rw [norm_notrip ha] at h; cases h
          · simp only [Bool.and_eq_true] at ha
            rw [norm_trip ha.1 ha.2] at h
            obtain ⟨m2, h2, rfl⟩ := Option.map_eq_some_iff.mp h
            intro hm
            rcases List.mem_append.mp hm with q | q
            · exact trip_not h37 hu hx (trip_lt ha.1 ha.2) q
            · exact norm_not h37 hu hx n r2 m2 (by simp only [List.length_cons] at hn; omega) (fun q => hd (by simp [q])) h2 q
      · rw [norm_plain hc hc37] at h
        obtain ⟨m2, h2, rfl⟩ := Option.map_eq_some_iff.mp h
        intro hm
        rcases List.mem_cons.mp hm with q | q
        · exact hd (by simp [q])
        · exact norm_not h37 hu hx n r m2 (by omega) (fun q => hd (by simp [q])) h2 q

end Go.Proofs.Ythfhoacflkbhhaa.Asc
