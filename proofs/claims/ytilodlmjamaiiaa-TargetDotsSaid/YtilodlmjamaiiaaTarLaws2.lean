/- The walks of the laws TargetBack, TargetDots and TargetForms. -/
import Derived.Test.YtilodlmjamaiiaaTarLaws
set_option linter.unusedVariables false
set_option linter.unusedSimpArgs false
namespace Go.Proofs.Ytilodlmjamaiiaa.Asc
open Go.RowKit

theorem uri_err {t h : List UInt8} {u : U} {e : Int} (hu : uriL t h = (u, e)) : e = 0 ∨ (u = zeroU ∧ (e = 9 ∨ e = 6)) := by
  unfold uriL at hu
  rcases hr : restL t h with _ | ⟨a, r⟩
  · rw [hr] at hu; cases hu; exact .inr ⟨rfl, .inl rfl⟩
  · rw [hr] at hu
    simp only [partsL] at hu
    rcases hq : queryL r with _ | q
    · rw [hq] at hu; cases hu; exact .inr ⟨rfl, .inl rfl⟩
    · rw [hq] at hu
      rcases hp : pathL r with _ | p
      · rw [hp] at hu; cases hu; exact .inr ⟨rfl, .inl rfl⟩
      · rw [hp] at hu
        rcases ha : authL a with _ | ⟨x, n⟩
        · rw [ha] at hu; cases hu; exact .inr ⟨rfl, .inr rfl⟩
        · rw [ha] at hu; cases hu; exact .inl rfl
theorem uri_lens {t h : List UInt8} {u : U} (hu : uriL t h = (u, 0)) : (u.1.length ≤ h.length ∨ u.1.length ≤ t.length) ∧ u.2.2.1.length ≤ t.length + 1 ∧ u.2.2.2.1.length ≤ t.length ∧ InI64 u.2.1 := by
  obtain ⟨a, r, hr, hq, hp, ha, hc⟩ := uri_ok hu
  obtain ⟨x, n, p, q, b⟩ := u
  simp only at hq hp ha hc ⊢
  have hl := rest_le hr
  have hcl := cut_lens 63 r
  refine ⟨?_, ?_, ?_, ?_⟩
  · have hx : x.length ≤ a.length := by
      unfold authL at ha
      split at ha
      · split at ha
        · cases ha
          have := (cut_lens 58 a).1
          unfold lowL
          rw [List.length_map]; exact this
        · cases ha
      · cases ha
    omega
  · obtain ⟨p0, hp0, e⟩ := Option.map_eq_some_iff.mp hp
    have h1 := norm_len _ _ _ (Nat.le_refl _) hp0
    have h2 := slash_le p0
    have h3 := seg_len (slashL p0)
    rw [← e]; omega
  · unfold queryL at hq
    split at hq
    · have h1 := norm_len _ _ _ (Nat.le_refl _) hq
      omega
    · cases hq; simp
  · have := (auth_ok ha).2.2
    unfold InI64; omega
theorem key_le (u : U) : (keyL u).length ≤ u.1.length + u.2.2.1.length + u.2.2.2.1.length + 40 := by
  have hd : (decL u.2.1).length ≤ 21 := decL_le u.2.1
  unfold keyL siteL localL
  have : http.length = 7 := rfl
  simp only [List.length_append, this]
  split <;> split <;> simp <;> omega
set_option maxHeartbeats 1000000 in
theorem back4_in (t h o : ByteArray) (w : World) (ht : t.size ≤ 1500) (hh : h.size ≤ 300) (ho : o.size ≤ 300) :
    Calls Try.prog 6 #[.string t, .string h, .string o] w fun e w' => e = .returned (.bool true) ∧ Below w.heap.size w w' := by
  have z1 : t.data.toList.length = t.size := by simp
  have z2 : h.data.toList.length = h.size := by simp
  obtain ⟨x2, n2, p2, q2, b2, e2, hu⟩ : ∃ x2 n2 p2 q2 b2 e2, uriL t.data.toList h.data.toList = ((x2, n2, p2, q2, b2), e2) := ⟨_, _, _, _, _, _, rfl⟩
  rcases uri_err hu with rfl | ⟨h0, he⟩
  · obtain ⟨l1, l2, l3, l4⟩ := uri_lens hu
    have hb := uri_back (o := o.data.toList) hu
    have hk := key_le (x2, n2, p2, q2, b2)
    simp only at l1 l2 l3 l4 hk
    have HU := box hu
    have HB : Box (uriL (bs (keyL (x2, n2, p2, q2, b2))).data.toList o.data.toList = ((x2, n2, p2, q2, b2), 0)) := box (by rw [bs_toList]; exact hb)
    have HKS : Box ((bs (keyL (x2, n2, p2, q2, b2))).size ≤ 49000) := box (by rw [bs_size]; omega)
    have HXS : Box ((bs x2).size ≤ 50000) := box (by rw [bs_size]; omega)
    have HPS : Box ((bs p2).size ≤ 50000) := box (by rw [bs_size]; omega)
    have HQS : Box ((bs q2).size ≤ 50000) := box (by rw [bs_size]; omega)
    have HI := box l4
    clear hu hb hk l1 l2 l3 l4 z1 z2
    go_enter Try.func6, Try.ntmps6
    go_wp2_with fail
    refine (tParse_any t h _ (by omega) (by omega)).mono ?_; rintro e w1 ⟨rfl, hb1⟩; rw [HU.out]
    unfold uriV uV
    have A1 := box (UF.new (bs x2) n2 (bs p2) (bs q2) b2 w1 23)
    have B1 := box (hb1.alloc hb1.size (.cells #[.string (bs x2), .int .i64 n2, .string (bs p2), .string (bs q2), .bool b2] 23))
    clear hb1
    go_wp2_with fail
    refine (tKey_any (bs x2) n2 (bs p2) (bs q2) b2 _ HXS.out HPS.out HQS.out HI).mono ?_; rintro e w2 ⟨rfl, hb2⟩
    rw [bs_toList, bs_toList, bs_toList]
    have A2 := box (A1.out.below hb2 A1.out.lt)
    have B2 := box (B1.out.trans (hb2.mono B1.out.size))
    clear hb2
    go_wp2_with fail
    refine (tParse_any _ o _ HKS.out (by omega)).mono ?_; rintro e w3 ⟨rfl, hb3⟩; rw [HB.out]
    unfold uriV uV
    have A3 := A2.out.below hb3 A2.out.lt
    have hlt := A3.lt
    obtain ⟨⟨u0, u1, u2, u3, u4⟩, _⟩ := A3
    have B3 := box ((B2.out.trans (hb3.mono B2.out.size)).alloc (B2.out.trans (hb3.mono B2.out.size)).size (.cells #[.string (bs x2), .int .i64 n2, .string (bs p2), .string (bs q2), .bool b2] 23))
    clear hb3
    go_wp2_with fail
    refine (awake4_any _).mono ?_; rintro e w4 ⟨rfl, hb4⟩
    have B4 := box (B3.out.trans (hb4.mono B3.out.size))
    clear hb4
    go_wp2
    go_ret
    exact ⟨rfl, B4.out⟩
  · unfold zeroU at h0
    cases h0
    have HU := box hu
    clear hu z1 z2
    rcases he with rfl | rfl
    all_goals
      go_enter Try.func6, Try.ntmps6
      go_wp2_with fail
      refine (tParse_any t h _ (by omega) (by omega)).mono ?_; rintro e w1 ⟨rfl, hb1⟩; rw [HU.out]
      unfold uriV uV
      rw [show bs ([] : List UInt8) = (⟨#[]⟩ : ByteArray) from rfl]
      have B1 := box (hb1.alloc hb1.size (.cells #[.string ⟨#[]⟩, .int .i64 0, .string ⟨#[]⟩, .string ⟨#[]⟩, .bool false] 23))
      clear hb1
      go_wp2_with fail
      refine (awake4_any _).mono ?_; rintro e w4 ⟨rfl, hb4⟩
      have B4 := box (B1.out.trans (hb4.mono B1.out.size))
      clear hb4
      go_wp2
      go_ret
      exact ⟨rfl, B4.out⟩
theorem back4_walk (t h o : ByteArray) (w : World) (ht : t.size ≤ maxLen) (hh : h.size ≤ maxLen) (ho : o.size ≤ maxLen) :
    Calls Try.prog 6 #[.string t, .string h, .string o] w fun e w' => e = .returned (.bool true) ∧ Below w.heap.size w w' := by
  unfold maxLen at ht hh ho
  by_cases h1 : t.size ≤ 1500
  · by_cases h2 : h.size ≤ 300
    · by_cases h3 : o.size ≤ 300
      · exact back4_in t h o w h1 h2 h3
      · have h3i : (300 : Int) < (o.size : Int) := by omega
        have h2i : ¬ (300 : Int) < (h.size : Int) := by omega
        have h1i : ¬ (1500 : Int) < (t.size : Int) := by omega
        go_enter Try.func6, Try.ntmps6
        go_wp2
        go_ret
        exact ⟨rfl, Below.refl _ _⟩
    · have h2i : (300 : Int) < (h.size : Int) := by omega
      have h1i : ¬ (1500 : Int) < (t.size : Int) := by omega
      go_enter Try.func6, Try.ntmps6
      go_wp2
      go_ret
      exact ⟨rfl, Below.refl _ _⟩
  · have h1i : (1500 : Int) < (t.size : Int) := by omega
    go_enter Try.func6, Try.ntmps6
    go_wp2
    go_ret
    exact ⟨rfl, Below.refl _ _⟩

/-- a piece stands between two slashes, or behind the last -/
theorem piece_tail {b : List UInt8} : ∀ (a : List UInt8), ∀ x ∈ piecesL b, x ∈ (piecesL (a ++ 47 :: b)).tail
  | [], x, hx => by
    show x ∈ (piecesL (47 :: b)).tail
    rw [pieces_slash]; exact hx
  | c :: a, x, hx => by
    have ih := piece_tail a x hx
    show x ∈ (piecesL (c :: (a ++ 47 :: b))).tail
    by_cases hc : c = 47
    · subst hc
      rw [pieces_slash]; exact List.mem_of_mem_tail ih
    · obtain ⟨p, ps, h1, h2⟩ := pieces_other (r := a ++ 47 :: b) hc
      rw [h1] at ih
      rw [h2]; exact ih
theorem piece_first {g r : List UInt8} (hg : (47 : UInt8) ∉ g) (hr : r = [] ∨ r.head? = some 47) : g ∈ piecesL (g ++ r) := by
  rcases hr with rfl | hr
  · rw [List.append_nil, pieces_one hg]; simp
  · match r, hr with
    | c :: r, hr =>
      simp at hr; subst hr
      rw [pieces_app hg]; simp
/-- the segment from place f to place k of a path that begins with a slash -/
theorem seg_piece {P : List UInt8} {f k : Nat} (hf : 1 ≤ f) (hfk : f ≤ k) (hk : k ≤ P.length) (h47 : P.getD (f - 1) 0 = 47) (hno : ∀ j, f ≤ j → j < k → P.getD j 0 ≠ 47) (hend : k = P.length ∨ P.getD k 0 = 47) :
    (P.drop f).take (k - f) ∈ (piecesL P).tail := by
  have hlt : f - 1 < P.length := by
    rcases Nat.lt_or_ge (f - 1) P.length with q | q
    · exact q
    · rw [List.getD_eq_getElem?_getD, List.getElem?_eq_none q] at h47; cases h47
  have e0 : P = P.take (f - 1) ++ 47 :: P.drop f := by
    have h1 : P = P.take (f - 1) ++ P.drop (f - 1) := (List.take_append_drop _ _).symm
    have h2 : P.drop (f - 1) = P[f - 1] :: P.drop (f - 1 + 1) := List.drop_eq_getElem_cons hlt
    have h3 : P[f - 1] = 47 := by rw [← h47, getD_get _ _ hlt]
    rw [show f - 1 + 1 = f from by omega, h3] at h2
    rw [← h2]; exact h1
  have e1 : P.drop f = (P.drop f).take (k - f) ++ P.drop k := by
    have : (P.drop f).drop (k - f) = P.drop k := by rw [List.drop_drop]; congr 1; omega
    rw [← this, List.take_append_drop]
  have hm : (P.drop f).take (k - f) ∈ piecesL (P.drop f) := by
    have hng : (47 : UInt8) ∉ (P.drop f).take (k - f) := by
      intro hm
      obtain ⟨i, hi, hv⟩ := List.getElem_of_mem hm
      have hil : i < k - f ∧ f + i < P.length := by simp at hi; omega
      rw [List.getElem_take, List.getElem_drop] at hv
      exact hno (f + i) (by omega) (by omega) (by rw [getD_get _ _ hil.2]; exact hv)
    have hr : P.drop k = [] ∨ (P.drop k).head? = some 47 := by
      rcases hend with e | e
      · left; exact List.drop_of_length_le (by omega)
      · by_cases hl : k < P.length
        · right
          rw [List.head?_drop, List.getElem?_eq_getElem hl, ← getD_get _ _ hl, e]
        · left; exact List.drop_of_length_le (by omega)
    have := piece_first hng hr
    rwa [← e1] at this
  have := piece_tail (P.take (f - 1)) _ hm
  rwa [← e0] at this
set_option maxHeartbeats 1000000 in
theorem dots4_in (s : ByteArray) (w : World) (hs : s.size ≤ 1500) (h0 : 0 < s.size) (hne : s.toList.isEmpty = false) (h47 : ((s[0].toNat : Int) != 47) = false) :
    Calls Try.prog 8 #[.string s] w fun e w' => e = .returned (.bool true) ∧ Below w.heap.size w w' := by
  have e0 : s[0] = 47 := byte_eq (n := 47) (by simpa using h47) (by omega)
  have hd := drop_cons s 0 h0
  rw [List.drop_zero, e0] at hd
  have hz : s.data.toList.length = s.size := by simp
  have hsl := seg_len s.data.toList
  obtain ⟨ps, hj, hps, hall, _⟩ := seg_pieces (s.data.toList.drop 1)
  rw [← hd] at hj
  obtain ⟨r, hr⟩ := join_cons hps
  have hpl := pieces_join hps (fun p q => (hall p q).1)
  rw [hr] at hj hpl
  simp only [List.drop_succ_cons, List.drop_zero] at hpl
  obtain ⟨p, hp⟩ : ∃ p, bs (segL s.data.toList) = p := ⟨_, rfl⟩
  have hpd : p.data.toList = segL s.data.toList := by rw [← hp]; rfl
  have hps2 : p.size ≤ 1500 := by
    have : p.data.toList.length = p.size := by simp
    rw [hpd] at this; omega
  have hpos : 0 < p.size := by
    have : p.data.toList.length = p.size := by simp
    rw [hpd, hj] at this; simp at this; omega
  have hpne : p.toList.isEmpty = false := by rw [toList_data, hpd, hj]; rfl
  have hp0 : p[0] = 47 := by
    have := drop_cons p 0 hpos
    rw [List.drop_zero, hpd, hj] at this
    exact (List.cons.inj this).1.symm
  have hp47 : ((p[0].toNat : Int) != 47) = false := by rw [hp0]; rfl
  have hpieces : ∀ x ∈ (piecesL p.data.toList).tail, noDot x := by
    rw [hpd, hj, pieces_slash, List.tail_cons, hpl]
    exact fun x hx => (hall x hx).2
  have HP := box hp
  have HPC := box hpieces
  have HG0 : Box (p.data.toList.getD 0 0 = 47) := box (by rw [hpd, hj]; rfl)
  have hposi : (0 : Int) < (p.size : Int) := by omega
  have h0i : (0 : Int) < (s.size : Int) := by omega
  have hsi : ¬ (1500 : Int) < (s.size : Int) := by omega
  clear hd hsl hj hall hr hpl hp hpd hpieces hp0 e0
  go_enter Try.func8, Try.ntmps8
  go_wp2_with fail
  refine (tSegments_any s _ (by omega)).mono ?_; rintro e w1 ⟨rfl, hb1⟩; rw [HP.out]
  have B1 := box hb1
  clear hb1
  go_wp2
  go_loopw [4, 5] (fun a i wr => ∃ f k : Nat, wr = w1 ∧ a = .int .i64 f ∧ i = .int .i64 k ∧ 1 ≤ f ∧ f ≤ k ∧ k ≤ p.size + 1 ∧ (k ≤ p.size → p.data.toList.getD (f - 1) 0 = 47 ∧ ∀ j, f ≤ j → j < k → p.data.toList.getD j 0 ≠ 47)) (fun _ i _ => p.size + 1 - (intOf i).toNat)
  case atStart => exact ⟨1, 1, rfl, rfl, rfl, Nat.le_refl _, Nat.le_refl _, by omega, fun _ => ⟨HG0.out, fun j h1 h2 => by omega⟩⟩
  case round =>
    obtain ⟨f, k, rfl, rfl, rfl, hf1, hfk, hk, hinv⟩ := hrel
    have HIV := box hinv
    clear hinv
    by_cases hle : k ≤ p.size
    · have hki : (k : Int) ≤ (p.size : Int) := by omega
      have hfi : (f : Int) ≤ (k : Int) := by omega
      obtain ⟨i1, i2⟩ := HIV.out hle
      have I1 := box i1
      have I2 := box i2
      clear i1 i2
      by_cases hlt : k < p.size
      · have hlti : (k : Int) < (p.size : Int) := by omega
        rcases hc : ((p[k].toNat : Int) != 47) with _ | _
        · have hck : Box (p.data.toList.getD k 0 = 47) := box (by rw [data_at p k hlt]; exact byte_eq (n := 47) (by simpa using hc) (by omega))
          have hsegm := HPC.out _ (seg_piece hf1 hfk (by simpa using hle) I1.out I2.out (.inr hck.out))
          have hx : (p.extract f k).data.toList = (p.data.toList.drop f).take (k - f) := by
            rw [ext_bs, bs_toList, List.drop_take]
          have hd1 : ((p.extract f k).toList == [46]) = false := by
            rw [toList_data, hx, beq_eq_false_iff_ne]; exact hsegm.1
          have hd2 : ((p.extract f k).toList == [46, 46]) = false := by
            rw [toList_data, hx, beq_eq_false_iff_ne]; exact hsegm.2
          clear hsegm hx
          go_wp2
          go_roundw
          case rel => exact ⟨k + 1, k + 1, trivial, by go_num, by go_num, by omega, by omega, by omega, fun _ => ⟨by simpa using hck.out, fun j h1 h2 => by omega⟩⟩
          case measure => simp [intOf]; omega
        · have hck : Box (p.data.toList.getD k 0 ≠ 47) := box (by rw [data_at p k hlt]; intro e; rw [e] at hc; simp at hc)
          go_wp2
          go_roundw
          case rel => exact ⟨f, k + 1, trivial, rfl, by go_num, by omega, by omega, by omega, fun _ => ⟨I1.out, fun j h1 h2 => by
            by_cases e : j = k
            · subst e; exact hck.out
            · exact I2.out j h1 (by omega)⟩⟩
          case measure => simp [intOf]; omega
      · have e : k = p.size := by omega
        have hsegm := HPC.out _ (seg_piece hf1 hfk (by simpa using hle) I1.out I2.out (.inl (by simpa using e)))
        have hx : (p.extract f k).data.toList = (p.data.toList.drop f).take (k - f) := by
          rw [ext_bs, bs_toList, List.drop_take]
        have hd1 : ((p.extract f k).toList == [46]) = false := by
          rw [toList_data, hx, beq_eq_false_iff_ne]; exact hsegm.1
        have hd2 : ((p.extract f k).toList == [46, 46]) = false := by
          rw [toList_data, hx, beq_eq_false_iff_ne]; exact hsegm.2
        have hlti : ¬ (k : Int) < (p.size : Int) := by omega
        clear hsegm hx e
        go_wp2
        go_roundw
        case rel => exact ⟨k + 1, k + 1, trivial, by go_num, by go_num, by omega, by omega, by omega, fun h => by omega⟩
        case measure => simp [intOf]; omega
    · have hki : ¬ (k : Int) ≤ (p.size : Int) := by omega
      go_wp2_with fail
      refine (awake4_any _).mono ?_; rintro e w4 ⟨rfl, hb4⟩
      have B4 := box (B1.out.trans (hb4.mono B1.out.size))
      clear hb4
      go_wp2
      go_ret
      exact ⟨rfl, B4.out⟩
theorem dots4_walk (s : ByteArray) (w : World) (hs : s.size ≤ maxLen) :
    Calls Try.prog 8 #[.string s] w fun e w' => e = .returned (.bool true) ∧ Below w.heap.size w w' := by
  unfold maxLen at hs
  by_cases h1 : s.size ≤ 1500
  · have h1i : ¬ (1500 : Int) < (s.size : Int) := by omega
    rcases he : s.toList.isEmpty with _ | _
    · have h0 := pos_of he
      have h0i : (0 : Int) < (s.size : Int) := by omega
      rcases h47 : ((s[0].toNat : Int) != 47) with _ | _
      · exact dots4_in s w h1 h0 he h47
      · go_enter Try.func8, Try.ntmps8
        go_wp2
        go_ret
        exact ⟨rfl, Below.refl _ _⟩
    · go_enter Try.func8, Try.ntmps8
      go_wp2
      go_ret
      exact ⟨rfl, Below.refl _ _⟩
  · have h1i : (1500 : Int) < (s.size : Int) := by omega
    go_enter Try.func8, Try.ntmps8
    go_wp2
    go_ret
    exact ⟨rfl, Below.refl _ _⟩

end Go.Proofs.Ytilodlmjamaiiaa.Asc
