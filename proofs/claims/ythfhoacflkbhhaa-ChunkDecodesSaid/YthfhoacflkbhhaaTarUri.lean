/- Plain functions: authorities and URIs. No program is named here. -/
import Derived.Test.YthfhoacflkbhhaaTarSeg
set_option linter.unusedVariables false
set_option linter.unusedSimpArgs false
namespace Go.Proofs.Ythfhoacflkbhhaa.Asc

def hostI (b : Int) : Bool := alnumI b || b == 45 || b == 46
def hostOk (l : List UInt8) : Bool := !l.isEmpty && allI hostI l
def portL (l : List UInt8) : Option Int :=
  if l = [] then some 80 else match numL l with
    | some n => if l.length ≤ 5 ∧ 1 ≤ n ∧ n ≤ 65535 then some n else none
    | none => none
def authL (l : List UInt8) : Option (List UInt8 × Int) := match portL (cut2 58 l) with
  | some n => if hostOk (cut1 58 l) = true then some (lowL (cut1 58 l), n) else none
  | none => none
def http : List UInt8 := [104, 116, 116, 112, 58, 47, 47]
def schemeB (l : List UInt8) : Bool := decide (7 ≤ l.length) && foldL (l.take 7) http
def endB (c : UInt8) : Bool := c != 47 && c != 63
/-- the authority, and path and query -/
def restL (t h : List UInt8) : Option (List UInt8 × List UInt8) :=
  if t.head? = some 47 then some (h, t)
  else if schemeB t = true then some ((t.drop 7).takeWhile endB, (t.drop 7).dropWhile endB) else none
def queryL (r : List UInt8) : Option (List UInt8) := if cutB 63 r = true then normL (cut2 63 r) else some []
def slashL (p : List UInt8) : List UInt8 := if p = [] then [47] else p
def pathL (r : List UInt8) : Option (List UInt8) := (normL (cut1 63 r)).map fun p => segL (slashL p)
/-- host, port, path, query, whether there is a query -/
abbrev U := List UInt8 × Int × List UInt8 × List UInt8 × Bool
def zeroU : U := ([], 0, [], [], false)
def partsL (a r : List UInt8) : U × Int := match queryL r with
  | none => (zeroU, 9)
  | some q => match pathL r with
    | none => (zeroU, 9)
    | some p => match authL a with
      | none => (zeroU, 6)
      | some (x, n) => ((x, n, p, q, cutB 63 r), 0)
def uriL (t h : List UInt8) : U × Int := match restL t h with
  | none => (zeroU, 9)
  | some (a, r) => partsL a r
def siteL (x : List UInt8) (n : Int) : List UInt8 := if n = 80 then x else x ++ 58 :: decL n
def localL (p q : List UInt8) (b : Bool) : List UInt8 := if b = true then p ++ 63 :: q else p
def keyL (u : U) : List UInt8 := http ++ (siteL u.1 u.2.1 ++ localL u.2.2.1 u.2.2.2.1 u.2.2.2.2)
def refB (s : List UInt8) : Bool := schemeB s || (decide (s.head? = some 47) && !decide ((s.drop 1).head? = some 47))
def resL (u : U) (s : List UInt8) : U × Bool := if refB s = true then ((uriL s (siteL u.1 u.2.1)).1, decide ((uriL s (siteL u.1 u.2.1)).2 = 0)) else (zeroU, false)

/-- the two forms of a target -/
theorem while_end {a r : List UInt8} (ha : ∀ c ∈ a, endB c = true) (hr : r.head? = some 47) : (a ++ r).takeWhile endB = a ∧ (a ++ r).dropWhile endB = r := by
  match r, hr with
  | c :: r, hr =>
    simp at hr; subst hr
    exact ⟨by rw [List.takeWhile_append_of_pos ha, List.takeWhile_cons]; simp [endB], by rw [List.dropWhile_append_of_pos ha, List.dropWhile_cons]; simp [endB]⟩
theorem rest_scheme {s a r o : List UInt8} (hs : s.length = 7) (hf : foldL s http = true) (ha : ∀ c ∈ a, endB c = true) (hr : r.head? = some 47) : restL (s ++ (a ++ r)) o = some (a, r) := by
  obtain ⟨h1, h2⟩ := while_end ha hr
  have hh : (s ++ (a ++ r)).head? ≠ some 47 := by
    match s, hs, hf with
    | c :: s, _, hf =>
      intro e
      simp at e; subst e
      unfold foldL at hf
      simp [lowL, http] at hf
      exact absurd hf.1 (by decide)
  have hb : schemeB (s ++ (a ++ r)) = true := by
    unfold schemeB
    rw [List.take_append_of_le_length (by omega), List.take_of_length_le (by omega), hf]
    simp; omega
  have hd : (s ++ (a ++ r)).drop 7 = a ++ r := by
    rw [← hs, List.drop_left]
  unfold restL
  rw [if_neg hh, if_pos hb, hd, h1, h2]
theorem uri_forms {s p a o : List UInt8} (hs : s.length = 7) (hf : foldL s http = true) (hp : p.head? = some 47) (ha : ∀ c ∈ a, endB c = true) : uriL (s ++ (a ++ p)) o = uriL p a := by
  unfold uriL
  rw [rest_scheme hs hf ha hp]
  unfold restL
  rw [if_pos hp]
/-- what a URI is that has been read -/
theorem uri_ok {t h : List UInt8} {u : U} (e : uriL t h = (u, 0)) : ∃ a r, restL t h = some (a, r) ∧ queryL r = some u.2.2.2.1 ∧ pathL r = some u.2.2.1 ∧ authL a = some (u.1, u.2.1) ∧ u.2.2.2.2 = cutB 63 r := by
  unfold uriL at e
  rcases hr : restL t h with _ | ⟨a, r⟩
  · rw [hr] at e; simp at e
  · rw [hr] at e
    simp only [partsL] at e
    rcases hq : queryL r with _ | q
    · rw [hq] at e; simp at e
    · rw [hq] at e
      rcases hp : pathL r with _ | p
      · rw [hp] at e; simp at e
      · rw [hp] at e
        rcases ha : authL a with _ | ⟨x, n⟩
        · rw [ha] at e; simp at e
        · rw [ha] at e
          simp only [Prod.mk.injEq] at e
          obtain ⟨e1, _⟩ := e
          subst e1
          exact ⟨a, r, rfl, hq, hp, ha, rfl⟩
theorem port_ok {l : List UInt8} {n : Int} (h : portL l = some n) : 1 ≤ n ∧ n ≤ 65535 := by
  unfold portL at h
  split at h
  · cases h; omega
  · split at h
    · split at h
      · rename_i q; cases h; exact q.2
      · cases h
    · cases h
theorem auth_ok {a x : List UInt8} {n : Int} (h : authL a = some (x, n)) : hostOk x = true ∧ lowL x = x ∧ 1 ≤ n ∧ n ≤ 65535 := by
  unfold authL at h
  rcases hp : portL (cut2 58 a) with _ | m
  · rw [hp] at h; cases h
  · rw [hp] at h
    simp only at h
    split at h
    · rename_i hk
      cases h
      refine ⟨?_, low_low _, port_ok hp⟩
      unfold hostOk allI at hk ⊢
      simp only [Bool.and_eq_true] at hk ⊢
      refine ⟨by have := hk.1; simp [lowL] at this ⊢; exact this, ?_⟩
      rw [lowL_map, List.all_map]
      refine List.all_eq_true.mpr fun c hc => ?_
      have q := List.all_eq_true.mp hk.2 c hc
      have key : ∀ x : Fin 256, hostI (x.1 : Nat) = true → hostI (lowB (UInt8.ofNat x.1)).toNat = true := by decide +kernel
      have := key ⟨c.toNat, c.toNat_lt⟩ q
      simpa using this
    · cases h
theorem host_not {x : List UInt8} (h : hostOk x = true) {d : UInt8} (hd : hostI d.toNat = false) : d ∉ x := by
  intro hm
  unfold hostOk allI at h
  simp only [Bool.and_eq_true] at h
  have := List.all_eq_true.mp h.2 d hm
  rw [hd] at this; cases this
theorem cutB_not {d : UInt8} {l : List UInt8} (h : d ∉ l) : cutB d l = false := by simpa [cutB] using h
theorem cut_none {d : UInt8} {l : List UInt8} (h : d ∉ l) : cut1 d l = l ∧ cut2 d l = [] := by
  have hw : ∀ c ∈ l, (c != d) = true := fun c hc => by
    rw [bne_iff_ne]; intro e; subst e; exact h hc
  constructor
  · unfold cut1
    have := List.takeWhile_append_of_pos (l₂ := []) hw
    simpa using this
  · unfold cut2
    have := List.dropWhile_append_of_pos (l₂ := []) hw
    simp at this
    rw [this]; rfl
theorem dec_digits {n : Int} (h0 : 0 ≤ n) : ∀ c ∈ decL n, digitI c.toNat = true := by
  have hd : allI digitI (decL n) = true := by rw [decL, if_neg (by omega)]; exact decF_digits _ _ _ rfl
  exact fun c hc => List.all_eq_true.mp hd c hc
theorem dec_short {n : Int} (h0 : 1 ≤ n) (h1 : n ≤ 65535) : (decL n).length ≤ 5 ∧ decL n ≠ [] := by
  have e : decL n = decF 20 n.natAbs [] := by rw [decL, if_neg (by omega)]
  have key : ∀ f m acc, m < 100000 → m ≠ 0 → (decF (f + 5) m acc).length ≤ acc.length + 5 ∧ decF (f + 5) m acc ≠ [] := by
    intro f m acc hm h
    have s0 : ∀ g k (acc : List UInt8), k < 10 → decF (g + 1) k acc = digB k :: acc := fun g k acc hk => by
      unfold decF; rw [if_pos (by omega)]
    have s1 : ∀ g k (acc : List UInt8), ¬ k < 10 → decF (g + 1) k acc = decF g (k / 10) (digB k :: acc) := fun g k acc hk => by
      conv => lhs; unfold decF
      rw [if_neg (by omega)]
    by_cases a1 : m < 10
    · rw [s0 (f + 4) m acc a1]; simp
    · rw [s1 (f + 4) m acc a1]
      by_cases a2 : m / 10 < 10
      · rw [s0 (f + 3) _ _ a2]; simp
      · rw [s1 (f + 3) _ _ a2]
        by_cases a3 : m / 10 / 10 < 10
        · rw [s0 (f + 2) _ _ a3]; simp
        · rw [s1 (f + 2) _ _ a3]
          by_cases a4 : m / 10 / 10 / 10 < 10
          · rw [s0 (f + 1) _ _ a4]; simp
          · rw [s1 (f + 1) _ _ a4, s0 f _ _ (by omega)]; simp
  rw [e]
  have := key 15 n.natAbs [] (by omega) (by omega)
  simpa using this
theorem auth_site {x : List UInt8} {n : Int} (hx : hostOk x = true) (hl : lowL x = x) (h0 : 1 ≤ n) (h1 : n ≤ 65535) : authL (siteL x n) = some (x, n) := by
  have h58 : (58 : UInt8) ∉ x := host_not hx (by decide)
  unfold authL siteL
  by_cases e : n = 80
  · rw [if_pos e]
    obtain ⟨c1, c2⟩ := cut_none h58
    rw [c1, c2]
    simp only [portL, if_true, hx, hl, e]
  · rw [if_neg e]
    obtain ⟨c1, c2, _⟩ := cut_app (c := 58) (b := decL n) h58
    rw [c1, c2]
    have hp : portL (decL n) = some n := by
      unfold portL
      obtain ⟨d1, d2⟩ := dec_short h0 h1
      rw [if_neg d2, num_dec (by omega) (by omega)]
      have : min n 2147483647 = n := by omega
      simp only [this]
      rw [if_pos ⟨d1, h0, h1⟩]
    rw [hp]
    simp only [hx, if_true, hl]
theorem site_end {x : List UInt8} {n : Int} (hx : hostOk x = true) (h0 : 1 ≤ n) : ∀ c ∈ siteL x n, endB c = true := by
  intro c hc
  have h47 : (47 : UInt8) ∉ x := host_not hx (by decide)
  have h63 : (63 : UInt8) ∉ x := host_not hx (by decide)
  unfold endB
  simp only [Bool.and_eq_true, bne_iff_ne]
  unfold siteL at hc
  have hin : c ∈ x → c ≠ 47 ∧ c ≠ 63 := fun q => ⟨fun e => h47 (e ▸ q), fun e => h63 (e ▸ q)⟩
  split at hc
  · exact hin hc
  · rcases List.mem_append.mp hc with q | q
    · exact hin q
    · rcases List.mem_cons.mp q with e | q
      · subst e; exact ⟨by decide, by decide⟩
      · have := dec_digits (n := n) (by omega) c q
        refine ⟨fun e => ?_, fun e => ?_⟩ <;> (subst e; revert this; decide)
/-- the path that has been read -/
theorem slash_head {t h a r p : List UInt8} (hr : restL t h = some (a, r)) (hp : normL (cut1 63 r) = some p) : (slashL p).head? = some 47 := by
  have h47 : r = [] ∨ r.head? = some 47 ∨ r.head? = some 63 := by
    unfold restL at hr
    split at hr
    · rename_i q; cases hr; exact .inr (.inl q)
    · split at hr
      · cases hr
        rcases q : (t.drop 7).dropWhile endB with _ | ⟨c, r2⟩
        · exact .inl rfl
        · right
          have := List.head?_dropWhile_not (p := endB) (l := t.drop 7)
          rw [q] at this
          simp [endB] at this ⊢
          by_cases e : c = 47
          · exact .inl e
          · exact .inr (this e)
      · cases hr
  rcases h47 with e | e | e
  · subst e
    have : p = [] := by simp [cut1, normL] at hp; exact hp.symm ▸ rfl
    subst this; rfl
  · match r, e with
    | c :: r2, e =>
      simp at e; subst e
      have e1 : cut1 63 (47 :: r2) = 47 :: cut1 63 r2 := by simp [cut1]
      rw [e1, norm_plain (by decide) (by decide)] at hp
      obtain ⟨m, _, rfl⟩ := Option.map_eq_some_iff.mp hp
      simp [slashL]
  · match r, e with
    | c :: r2, e =>
      simp at e; subst e
      have : p = [] := by simp [cut1, normL] at hp; exact hp.symm ▸ rfl
      subst this; rfl
theorem norm_slash {p : List UInt8} (h : normL p = some p) : normL (slashL p) = some (slashL p) := by
  unfold slashL; split
  · decide
  · exact h
theorem join_not {d : UInt8} (hd : d ≠ 47) {ps : List (List UInt8)} (h : ∀ p ∈ ps, d ∉ p) : d ∉ joinL ps := by
  intro hm
  obtain ⟨p, hp, hq⟩ := List.mem_flatMap.mp hm
  rcases List.mem_cons.mp hq with e | e
  · exact hd e
  · exact h p hp e
theorem pieces_mem {d : UInt8} : ∀ {l : List UInt8}, d ∉ l → ∀ p ∈ piecesL l, d ∉ p := fun {l} h p hp hm => by
  have hj := join_pieces l
  by_cases e : d = 47
  · subst e; exact pieces_not l p hp hm
  · have : d ∈ joinL (piecesL l) := List.mem_flatMap.mpr ⟨p, hp, by simp [hm]⟩
    rw [hj] at this
    rcases List.mem_cons.mp this with q | q
    · exact e q
    · exact h q
theorem seg_not {d : UInt8} {l : List UInt8} (hd : d ≠ 47) (h : d ∉ l) : d ∉ segL l := by
  by_cases hs : l.head? = some 47
  · match l, hs, h with
    | c :: r, hs, h =>
      simp at hs; subst hs
      obtain ⟨ps, e, _, _, h3⟩ := seg_pieces r
      rw [e]
      refine join_not hd (fun p hp => ?_)
      rcases h3 p hp with q | q
      · rw [q]; simp
      · exact pieces_mem (fun k => h (by simp [k])) p q
  · rw [seg_other hs]; exact h
theorem seg_head {l : List UInt8} (h : l.head? = some 47) : (segL l).head? = some 47 := by
  match l, h with
  | c :: r, h =>
    simp at h; subst h
    obtain ⟨ps, e, h1, _⟩ := seg_pieces r
    obtain ⟨r2, e2⟩ := join_cons h1
    rw [e, e2]; rfl
theorem uri_back {t h o : List UInt8} {u : U} (e : uriL t h = (u, 0)) : uriL (keyL u) o = (u, 0) := by
  obtain ⟨a, r, hr, hq, hp, ha, hc⟩ := uri_ok e
  obtain ⟨x, n, p, q, b⟩ := u
  simp only at hq hp ha hc
  obtain ⟨hx, hl, h0, h1⟩ := auth_ok ha
  obtain ⟨p0, hp0, rfl⟩ := Option.map_eq_some_iff.mp hp
  have hsl := slash_head hr hp0
  have hph := seg_head hsl
  have hpn := norm_seg (norm_slash (norm_idem hp0))
  have h63 : (63 : UInt8) ∉ segL (slashL p0) := by
    refine seg_not (by decide) ?_
    have : (63 : UInt8) ∉ p0 := norm_not (by decide) (by decide) (by decide) _ _ _ (Nat.le_refl _) (cut1_not 63 r) hp0
    unfold slashL; split
    · decide
    · exact this
  have hlh : (localL (segL (slashL p0)) q b).head? = some 47 := by
    unfold localL
    match segL (slashL p0), hph with
    | c :: s, hph => split <;> exact hph
  have hne : segL (slashL p0) ≠ [] := fun k => by rw [k] at hph; cases hph
  unfold uriL keyL
  rw [rest_scheme rfl (by decide) (site_end hx h0) hlh]
  simp only [partsL]
  rcases b with _ | _
  · have e0 : localL (segL (slashL p0)) q false = segL (slashL p0) := by unfold localL; rw [if_neg (by simp)]
    rw [e0]
    obtain ⟨c1, c2⟩ := cut_none h63
    have hb := cutB_not h63
    have hq0 : q = [] := by
      unfold queryL at hq
      rw [if_neg (by rw [← hc]; simp)] at hq
      cases hq; rfl
    have g1 : queryL (segL (slashL p0)) = some [] := by unfold queryL; rw [if_neg (by rw [hb]; simp)]
    have g2 : pathL (segL (slashL p0)) = some (segL (slashL p0)) := by
      unfold pathL
      rw [c1, hpn]
      show some (segL (slashL (segL (slashL p0)))) = _
      rw [show slashL (segL (slashL p0)) = segL (slashL p0) from if_neg hne, seg_seg]
    rw [g1, g2, auth_site hx hl h0 h1, hb, hq0]
  · have e0 : localL (segL (slashL p0)) q true = segL (slashL p0) ++ 63 :: q := by unfold localL; rw [if_pos rfl]
    rw [e0]
    obtain ⟨c1, c2, c3⟩ := cut_app (c := 63) (b := q) h63
    have hqn : normL q = some q := by
      unfold queryL at hq
      rw [if_pos hc.symm] at hq
      exact norm_idem hq
    have g1 : queryL (segL (slashL p0) ++ 63 :: q) = some q := by unfold queryL; rw [if_pos c3, c2, hqn]
    have g2 : pathL (segL (slashL p0) ++ 63 :: q) = some (segL (slashL p0)) := by
      unfold pathL
      rw [c1, hpn]
      show some (segL (slashL (segL (slashL p0)))) = _
      rw [show slashL (segL (slashL p0)) = segL (slashL p0) from if_neg hne, seg_seg]
    rw [g1, g2, auth_site hx hl h0 h1, c3]

end Go.Proofs.Ythfhoacflkbhhaa.Asc
