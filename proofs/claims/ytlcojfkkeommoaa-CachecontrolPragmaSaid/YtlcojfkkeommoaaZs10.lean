/- Merged texts: CtlLaws5 LisLaws2 AscQuo. -/
import Derived.Test.YtlcojfkkeommoaaZs04
import Derived.Test.YtlcojfkkeommoaaZs08
import Derived.Test.YtlcojfkkeommoaaZs09
set_option linter.unusedVariables false
set_option linter.unusedSimpArgs false
set_option maxRecDepth 100000
namespace Go.Proofs.Ytlcojfkkeommoaa.Asc
section
open Go.RowKit
theorem pragma22_short (a : Option Addr) (cap : Nat) (L : List F) (v : ByteArray) (w : World) (hl : L.length ≤ maxLen) (hF : Box (Fs w a L)) (hv : v.size ≤ 9223372036854775807) (q : Bool) (HK : Box (keepF L = q)) (h : q = false ∨ (q = true ∧ 100 < v.size)) :
    Calls Try.prog 7 #[.slice a L.length cap, .string v] w fun e w' => e = .returned (.bool true) ∧ Below w.heap.size w w' := by
  rcases h with rfl | ⟨rfl, h1⟩
  · go_enter Try.func7, Try.ntmps7
    go_wp2_with fail
    refine (keepFields_any a cap L _ hl hF).mono ?_; rintro e w1 ⟨rfl, rfl⟩; rw [HK.out]
    go_wp2
    go_ret
    exact ⟨rfl, Below.refl _ _⟩
  · have h1i : (100 : Int) < (v.size : Int) := by omega
    go_enter Try.func7, Try.ntmps7
    go_wp2_with fail
    refine (keepFields_any a cap L _ hl hF).mono ?_; rintro e w1 ⟨rfl, rfl⟩; rw [HK.out]
    go_wp2
    go_ret
    exact ⟨rfl, Below.refl _ _⟩
theorem sm_more22 {L : List F} {n v : ByteArray} (h : Sm L) (hl : L.length ≤ 65000) (h1 : n.size ≤ 65536) (h2 : v.size ≤ 65536) : Sm (L ++ [(n, v)]) := by
  refine ⟨by rw [List.length_append]; show L.length + 1 ≤ 65536; omega, fun i hi => ?_⟩
  by_cases hlt : i < L.length
  · rw [List.getElem_append_left hlt]; exact h.2 i hlt
  · rw [List.getElem_append_right (by omega)]
    have e : i - L.length = 0 := by rw [List.length_append] at hi; have : i < L.length + 1 := hi; omega
    simp only [e, List.getElem_cons_zero]; exact ⟨h1, h2⟩
theorem get_more22 {L : List F} {n v : ByteArray} (h : ∀ nm, ∀ x ∈ getL nm L, x.size ≤ 65000) (h2 : v.size ≤ 65000) : ∀ nm, ∀ x ∈ getL nm (L ++ [(n, v)]), x.size ≤ 65000 := by
  intro nm x hx
  unfold getL at hx
  rw [List.filter_append, List.map_append] at hx
  rcases List.mem_append.1 hx with q | q
  · exact h nm x q
  · exact one_gets22 h2 x q
theorem rHasL22_is {a : Option Addr} {cap : Nat} {L : List F} {n : Nat} {nm : ByteArray} {q : Bool} {w : World} (S : Box (Sm L)) (M : nm.size ≤ 65536) (hF : Box (Fs w a L)) (hn : Box (L.length = n)) (h : Box (L.any (nmd nm) = q)) :
    Calls Try.prog 21 #[.slice a n cap, .string nm] w fun e w' => e = .returned (.bool q) ∧ Below w.heap.size w w' := by
  have := rHas22_is (cap := cap) S M hF h; rw [hn.out] at this; exact this
theorem mReqL_is {a : Option Addr} {cap : Nat} {L : List F} {n : Nat} {c : CT} {w : World} (S : Box (Sm L)) (hv : Box (∀ nm, ∀ x ∈ getL nm L, x.size ≤ 65000)) (hF : Box (Fs w a L)) (hn : Box (L.length = n)) (HC : Box (reqC (L.any (nmd ccN)) (allL ccN L) (allL pgN L) = c)) :
    Calls Try.prog 11 #[.slice a n cap] w fun e w' => e = .returned (.agg #[.bool c.ns, .bool c.nc, .bool c.mr, .bool c.pr, .bool c.pv, .bool c.pb, .bool c.oc, .int .i64 c.ma, .int .i64 c.sm, .int .i64 c.mf, .int .i64 c.ms]) ∧ Below w.heap.size w w' := by
  have := mReqC_is (cap := cap) S hv hF HC; rw [hn.out] at this; exact this
theorem mRespL_is {a : Option Addr} {cap : Nat} {L : List F} {n : Nat} {c : CT} {w : World} (S : Box (Sm L)) (hv : Box (∀ nm, ∀ x ∈ getL nm L, x.size ≤ 65000)) (hF : Box (Fs w a L)) (hn : Box (L.length = n)) (HC : Box (respC (allL ccN L) = c)) :
    Calls Try.prog 9 #[.slice a n cap] w fun e w' => e = .returned (.agg #[.bool c.ns, .bool c.nc, .bool c.mr, .bool c.pr, .bool c.pv, .bool c.pb, .bool c.oc, .int .i64 c.ma, .int .i64 c.sm, .int .i64 c.mf, .int .i64 c.ms]) ∧ Below w.heap.size w w' := by
  have := mResp_is (cap := cap) S (box (hv.out ccN)) hF HC; rw [hn.out] at this; exact this
theorem rAllL22_is {a : Option Addr} {cap n m : Nat} {L : List F} {nm : ByteArray} {K : List ByteArray} {w : World} (S : Box (Sm L)) (hv : Box (∀ nm, ∀ x ∈ getL nm L, x.size ≤ 65000)) (M : nm.size ≤ 65536) (hF : Box (Fs w a L)) (hm : Box (L.length = m)) (h : Box (allB nm L = K)) (hn : Box (K.length = n)) :
    Calls Try.prog 22 #[.slice a m cap, .string nm] w fun e w' => ∃ p c, e = .returned (.slice p n c) ∧ Below w.heap.size w w' := by
  have := rAll22_is (cap := cap) S (box (hv.out nm)) M hF h hn
  rw [hm.out] at this
  exact this.mono fun e w' ⟨p, c, h1, _, h2⟩ => ⟨p, c, h1, h2⟩
theorem pragma22_has (a : Option Addr) (cap n : Nat) (L : List F) (v : ByteArray) (w : World) (hl6 : L.length ≤ 70) (hv : v.size ≤ 100) (HK : Box (keepF L = true)) (hF : Box (Fs w a L)) (HN : Box (a = none → cap = 0)) (HNL : Box (L.length = n)) (HH : Box (L.any (nmd ccN) = true)) :
    Calls Try.prog 7 #[.slice a n cap, .string v] w fun e w' => e = .returned (.bool true) ∧ Below w.heap.size w w' := by
  have hvi : ¬ (100 : Int) < (v.size : Int) := by omega
  have h66 : L.length ≤ 65536 := by omega
  have hcc : ccN.size ≤ 65536 := by decide
  have hpg : pgN.size ≤ 65536 := by decide
  have SM := box (keep_sm7 HK.out)
  have HV := box (keep_get HK.out)
  have SM2 : Box (Sm (L ++ [(pgN, v)])) := box (sm_more22 SM.out (by omega) (by decide) (by omega))
  have HV2 : Box (∀ nm, ∀ x ∈ getL nm (L ++ [(pgN, v)]), x.size ≤ 65000) := box (get_more22 HV.out (by omega))
  have HKF : ∀ w : World, Box (Fs w a L) → Calls Try.prog 8 #[.slice a n cap] w fun e w' => e = .returned (.bool true) ∧ w = w' := fun w h => by
    have := keepFields_any a cap L w (by unfold maxLen; omega) h; rw [HK.out, HNL.out] at this; exact this
  have HKB := box HKF
  obtain ⟨n2, hn2⟩ : ∃ n2, (L ++ [(pgN, v)]).length = n2 := ⟨_, rfl⟩
  have HN2 := box hn2
  obtain ⟨d, hd⟩ : ∃ d, reqC (L.any (nmd ccN)) (allL ccN L) (allL pgN L) = d := ⟨_, rfl⟩
  have HD := box hd
  have HD2 : Box (reqC ((L ++ [(pgN, v)]).any (nmd ccN)) (allL ccN (L ++ [(pgN, v)])) (allL pgN (L ++ [(pgN, v)])) = d) := box (by
    rw [any_pg, all_pg, ← hd, HH.out, req_has, req_has])
  clear hd
  clear hn2 HKF
  go_enter Try.func7, Try.ntmps7
  go_wp2_with fail
  refine (HKB.out _ hF).mono ?_; rintro e w1 ⟨rfl, rfl⟩
  go_wp2_with (first | (at_builtin; refine wpList_append_flds17 _ rfl (.const (.slice none 0 0)) (.tmp 14) rfl w.heap.size (.slice none 0 0) [] L rfl (OwnF.nil _ _) a n cap rfl HNL.out HN.out hF.out (Nat.zero_le _) h66 (Nat.le_refl _) ?_; intro v3 w3 hO3 hb3; have O3 := box hO3; have B3 := box hb3; clear hO3 hb3) | (at_builtin; refine wpList_append_flds17 _ rfl (.tmp 15) (.tmp 18) rfl w.heap.size v3 L [(pgN, v)] rfl (own_below O3.out (below_new _ _)) (some ⟨w3.heap.size, 0, none⟩) 1 1 rfl rfl (fun h => by cases h) (fs_one22 pgN v w3 32) h66 (by simp) (Nat.le_trans B3.out.size (below_new _ _).size) ?_; intro v4 w4 hO4 hb4; obtain ⟨a4, c4, rfl, hS4, _⟩ := OwnF.fs hO4; have F4 := box hS4; have B4 := box ((B3.out.trans ((below_new w3 (.cells #[.string pgN, .string v] 32)).mono B3.out.size)).trans hb4); clear hO4 hb4 hS4; rw [HN2.out]))
  refine (rHasL22_is SM hcc (box (hF.out.below B4.out)) HNL HH).mono ?_; rintro e w5 ⟨rfl, hb5⟩
  have B5 := box (B4.out.trans (hb5.mono B4.out.size))
  have G5 := box (F4.out.below hb5)
  clear hb5
  go_wp2_with fail
  refine (mReqL_is SM2 HV2 G5 HN2 HD2).mono ?_; rintro e w6 ⟨rfl, hb6⟩
  have B6 := box (B5.out.trans (hb6.mono B5.out.size))
  clear hb6
  go_wp2_with fail
  refine (mReqL_is SM HV (box (hF.out.below B6.out)) HNL HD).mono ?_; rintro e w7 ⟨rfl, hb7⟩
  have B7 := box (B6.out.trans (hb7.mono B6.out.size))
  clear hb7
  go_wp2_with fail
  refine (awake22_any _).mono ?_; rintro e w9 ⟨rfl, hb9⟩
  have B9 := box (B7.out.trans (hb9.mono B7.out.size))
  clear hb9
  go_wp2
  go_ret
  exact ⟨rfl, B9.out⟩
theorem pragma22_other (a : Option Addr) (cap n : Nat) (L : List F) (v : ByteArray) (w : World) (hl6 : L.length ≤ 70) (hv : v.size ≤ 100) (HK : Box (keepF L = true)) (hF : Box (Fs w a L)) (HN : Box (a = none → cap = 0)) (HNL : Box (L.length = n)) (HH : Box (L.any (nmd ccN) = false)) (HF : Box (foldL v.data.toList (bs ncN).data.toList = false)) :
    Calls Try.prog 7 #[.slice a n cap, .string v] w fun e w' => e = .returned (.bool true) ∧ Below w.heap.size w w' := by
  have hvi : ¬ (100 : Int) < (v.size : Int) := by omega
  have h66 : L.length ≤ 65536 := by omega
  have hcc : ccN.size ≤ 65536 := by decide
  have hpg : pgN.size ≤ 65536 := by decide
  have SM := box (keep_sm7 HK.out)
  have HV := box (keep_get HK.out)
  have SM2 : Box (Sm (L ++ [(pgN, v)])) := box (sm_more22 SM.out (by omega) (by decide) (by omega))
  have HV2 : Box (∀ nm, ∀ x ∈ getL nm (L ++ [(pgN, v)]), x.size ≤ 65000) := box (get_more22 HV.out (by omega))
  have HKF : ∀ w : World, Box (Fs w a L) → Calls Try.prog 8 #[.slice a n cap] w fun e w' => e = .returned (.bool true) ∧ w = w' := fun w h => by
    have := keepFields_any a cap L w (by unfold maxLen; omega) h; rw [HK.out, HNL.out] at this; exact this
  have HKB := box HKF
  obtain ⟨n2, hn2⟩ : ∃ n2, (L ++ [(pgN, v)]).length = n2 := ⟨_, rfl⟩
  have HN2 := box hn2
  obtain ⟨c, hc⟩ : ∃ c, respC (allL ccN L) = c := ⟨_, rfl⟩
  have HC := box hc
  have HC2 : Box (respC (allL ccN (L ++ [(pgN, v)])) = c) := box (by rw [all_pg, hc])
  have hnc : (bs ncN).size ≤ 65536 := by decide
  have hv6 : v.size ≤ 65536 := by omega
  clear hc
  clear hn2 HKF
  go_enter Try.func7, Try.ntmps7
  go_wp2_with fail
  refine (HKB.out _ hF).mono ?_; rintro e w1 ⟨rfl, rfl⟩
  go_wp2_with (first | (at_builtin; refine wpList_append_flds17 _ rfl (.const (.slice none 0 0)) (.tmp 14) rfl w.heap.size (.slice none 0 0) [] L rfl (OwnF.nil _ _) a n cap rfl HNL.out HN.out hF.out (Nat.zero_le _) h66 (Nat.le_refl _) ?_; intro v3 w3 hO3 hb3; have O3 := box hO3; have B3 := box hb3; clear hO3 hb3) | (at_builtin; refine wpList_append_flds17 _ rfl (.tmp 15) (.tmp 18) rfl w.heap.size v3 L [(pgN, v)] rfl (own_below O3.out (below_new _ _)) (some ⟨w3.heap.size, 0, none⟩) 1 1 rfl rfl (fun h => by cases h) (fs_one22 pgN v w3 32) h66 (by simp) (Nat.le_trans B3.out.size (below_new _ _).size) ?_; intro v4 w4 hO4 hb4; obtain ⟨a4, c4, rfl, hS4, _⟩ := OwnF.fs hO4; have F4 := box hS4; have B4 := box ((B3.out.trans ((below_new w3 (.cells #[.string pgN, .string v] 32)).mono B3.out.size)).trans hb4); clear hO4 hb4 hS4; rw [HN2.out]))
  refine (rHasL22_is SM hcc (box (hF.out.below B4.out)) HNL HH).mono ?_; rintro e w5 ⟨rfl, hb5⟩
  have B5 := box (B4.out.trans (hb5.mono B4.out.size))
  have G5 := box (F4.out.below hb5)
  clear hb5
  go_wp2_with fail
  refine (mRespL_is SM2 HV2 G5 HN2 HC2).mono ?_; rintro e w6 ⟨rfl, hb6⟩
  have B6 := box (B5.out.trans (hb6.mono B5.out.size))
  have G6 := box (G5.out.below hb6)
  clear hb6
  go_wp2_with fail
  refine (mRespL_is SM HV (box (hF.out.below B6.out)) HNL HC).mono ?_; rintro e w7 ⟨rfl, hb7⟩
  have B7 := box (B6.out.trans (hb7.mono B6.out.size))
  have G7 := box (G6.out.below hb7)
  clear hb7
  go_wp2_with fail
  refine (rFold22_is hv6 hnc HF).mono ?_; rintro e w8 ⟨rfl, hb8⟩
  have B8 := box (B7.out.trans (hb8.mono B7.out.size))
  have G8 := box (G7.out.below hb8)
  clear hb8
  go_wp2_with fail
  refine (awake22_any _).mono ?_; rintro e w9 ⟨rfl, hb9⟩
  have B9 := box (B8.out.trans (hb9.mono B8.out.size))
  clear hb9
  go_wp2
  go_ret
  exact ⟨rfl, B9.out⟩
theorem pragma22_full (a : Option Addr) (cap n : Nat) (L : List F) (v : ByteArray) (w : World) (hl6 : L.length ≤ 70) (hv : v.size ≤ 100) (HK : Box (keepF L = true)) (hF : Box (Fs w a L)) (HN : Box (a = none → cap = 0)) (HNL : Box (L.length = n)) (HH : Box (L.any (nmd ccN) = false)) (HF : Box (foldL v.data.toList (bs ncN).data.toList = true)) (h64 : 64 ≤ (allB pgN L).length) :
    Calls Try.prog 7 #[.slice a n cap, .string v] w fun e w' => e = .returned (.bool true) ∧ Below w.heap.size w w' := by
  have hvi : ¬ (100 : Int) < (v.size : Int) := by omega
  have h66 : L.length ≤ 65536 := by omega
  have hcc : ccN.size ≤ 65536 := by decide
  have hpg : pgN.size ≤ 65536 := by decide
  have SM := box (keep_sm7 HK.out)
  have HV := box (keep_get HK.out)
  have SM2 : Box (Sm (L ++ [(pgN, v)])) := box (sm_more22 SM.out (by omega) (by decide) (by omega))
  have HV2 : Box (∀ nm, ∀ x ∈ getL nm (L ++ [(pgN, v)]), x.size ≤ 65000) := box (get_more22 HV.out (by omega))
  have HKF : ∀ w : World, Box (Fs w a L) → Calls Try.prog 8 #[.slice a n cap] w fun e w' => e = .returned (.bool true) ∧ w = w' := fun w h => by
    have := keepFields_any a cap L w (by unfold maxLen; omega) h; rw [HK.out, HNL.out] at this; exact this
  have HKB := box HKF
  obtain ⟨n2, hn2⟩ : ∃ n2, (L ++ [(pgN, v)]).length = n2 := ⟨_, rfl⟩
  have HN2 := box hn2
  obtain ⟨c, hc⟩ : ∃ c, respC (allL ccN L) = c := ⟨_, rfl⟩
  have HC := box hc
  have HC2 : Box (respC (allL ccN (L ++ [(pgN, v)])) = c) := box (by rw [all_pg, hc])
  have hnc : (bs ncN).size ≤ 65536 := by decide
  have hv6 : v.size ≤ 65536 := by omega
  obtain ⟨K, hK⟩ : ∃ K, allB pgN L = K := ⟨_, rfl⟩
  obtain ⟨p, hp⟩ : ∃ p, K.length = p := ⟨_, rfl⟩
  have h64i : (64 : Int) ≤ (p : Int) := by rw [hK, hp] at h64; omega
  have HKP := box hK
  have HP := box hp
  clear hK hp h64
  clear hc
  clear hn2 HKF
  go_enter Try.func7, Try.ntmps7
  go_wp2_with fail
  refine (HKB.out _ hF).mono ?_; rintro e w1 ⟨rfl, rfl⟩
  go_wp2_with (first | (at_builtin; refine wpList_append_flds17 _ rfl (.const (.slice none 0 0)) (.tmp 14) rfl w.heap.size (.slice none 0 0) [] L rfl (OwnF.nil _ _) a n cap rfl HNL.out HN.out hF.out (Nat.zero_le _) h66 (Nat.le_refl _) ?_; intro v3 w3 hO3 hb3; have O3 := box hO3; have B3 := box hb3; clear hO3 hb3) | (at_builtin; refine wpList_append_flds17 _ rfl (.tmp 15) (.tmp 18) rfl w.heap.size v3 L [(pgN, v)] rfl (own_below O3.out (below_new _ _)) (some ⟨w3.heap.size, 0, none⟩) 1 1 rfl rfl (fun h => by cases h) (fs_one22 pgN v w3 32) h66 (by simp) (Nat.le_trans B3.out.size (below_new _ _).size) ?_; intro v4 w4 hO4 hb4; obtain ⟨a4, c4, rfl, hS4, _⟩ := OwnF.fs hO4; have F4 := box hS4; have B4 := box ((B3.out.trans ((below_new w3 (.cells #[.string pgN, .string v] 32)).mono B3.out.size)).trans hb4); clear hO4 hb4 hS4; rw [HN2.out]))
  refine (rHasL22_is SM hcc (box (hF.out.below B4.out)) HNL HH).mono ?_; rintro e w5 ⟨rfl, hb5⟩
  have B5 := box (B4.out.trans (hb5.mono B4.out.size))
  have G5 := box (F4.out.below hb5)
  clear hb5
  go_wp2_with fail
  refine (mRespL_is SM2 HV2 G5 HN2 HC2).mono ?_; rintro e w6 ⟨rfl, hb6⟩
  have B6 := box (B5.out.trans (hb6.mono B5.out.size))
  have G6 := box (G5.out.below hb6)
  clear hb6
  go_wp2_with fail
  refine (mRespL_is SM HV (box (hF.out.below B6.out)) HNL HC).mono ?_; rintro e w7 ⟨rfl, hb7⟩
  have B7 := box (B6.out.trans (hb7.mono B6.out.size))
  have G7 := box (G6.out.below hb7)
  clear hb7
  go_wp2_with fail
  refine (rFold22_is hv6 hnc HF).mono ?_; rintro e w8 ⟨rfl, hb8⟩
  have B8 := box (B7.out.trans (hb8.mono B7.out.size))
  have G8 := box (G7.out.below hb8)
  clear hb8
  go_wp2_with fail
  refine (rAllL22_is SM HV hpg (box (hF.out.below B8.out)) HNL HKP HP).mono ?_; rintro e wa ⟨pa, ca, rfl, hba⟩
  have Ba := box (B8.out.trans (hba.mono B8.out.size))
  have Ga := box (G8.out.below hba)
  clear hba
  go_wp2_with fail
  refine (awake22_any _).mono ?_; rintro e w9 ⟨rfl, hb9⟩
  have B9 := box (Ba.out.trans (hb9.mono Ba.out.size))
  clear hb9
  go_wp2
  go_ret
  exact ⟨rfl, B9.out⟩
theorem pragma22_counts (a : Option Addr) (cap n : Nat) (L : List F) (v : ByteArray) (w : World) (hl6 : L.length ≤ 70) (hv : v.size ≤ 100) (HK : Box (keepF L = true)) (hF : Box (Fs w a L)) (HN : Box (a = none → cap = 0)) (HNL : Box (L.length = n)) (HH : Box (L.any (nmd ccN) = false)) (HF : Box (foldL v.data.toList (bs ncN).data.toList = true)) (h64 : (allB pgN L).length < 64) :
    Calls Try.prog 7 #[.slice a n cap, .string v] w fun e w' => e = .returned (.bool true) ∧ Below w.heap.size w w' := by
  have hvi : ¬ (100 : Int) < (v.size : Int) := by omega
  have h66 : L.length ≤ 65536 := by omega
  have hcc : ccN.size ≤ 65536 := by decide
  have hpg : pgN.size ≤ 65536 := by decide
  have SM := box (keep_sm7 HK.out)
  have HV := box (keep_get HK.out)
  have SM2 : Box (Sm (L ++ [(pgN, v)])) := box (sm_more22 SM.out (by omega) (by decide) (by omega))
  have HV2 : Box (∀ nm, ∀ x ∈ getL nm (L ++ [(pgN, v)]), x.size ≤ 65000) := box (get_more22 HV.out (by omega))
  have HKF : ∀ w : World, Box (Fs w a L) → Calls Try.prog 8 #[.slice a n cap] w fun e w' => e = .returned (.bool true) ∧ w = w' := fun w h => by
    have := keepFields_any a cap L w (by unfold maxLen; omega) h; rw [HK.out, HNL.out] at this; exact this
  have HKB := box HKF
  obtain ⟨n2, hn2⟩ : ∃ n2, (L ++ [(pgN, v)]).length = n2 := ⟨_, rfl⟩
  have HN2 := box hn2
  obtain ⟨c, hc⟩ : ∃ c, respC (allL ccN L) = c := ⟨_, rfl⟩
  have HC := box hc
  have HC2 : Box (respC (allL ccN (L ++ [(pgN, v)])) = c) := box (by rw [all_pg, hc])
  have hnc : (bs ncN).size ≤ 65536 := by decide
  have hv6 : v.size ≤ 65536 := by omega
  obtain ⟨d, hd⟩ : ∃ d, reqC ((L ++ [(pgN, v)]).any (nmd ccN)) (allL ccN (L ++ [(pgN, v)])) (allL pgN (L ++ [(pgN, v)])) = d := ⟨_, rfl⟩
  have HD := box hd
  have hdn : d.nc = true := by
    have hq := pg_counts (v := v) (L := L) HF.out (by unfold allB at h64; rw [List.length_map] at h64; exact h64)
    rw [← hd, any_pg, HH.out]
    show ((dirD ncN _).isSome || (!false && pragC _)) = true
    rw [hq]; simp
  obtain ⟨K, hK⟩ : ∃ K, allB pgN L = K := ⟨_, rfl⟩
  obtain ⟨p, hp⟩ : ∃ p, K.length = p := ⟨_, rfl⟩
  have h64i : decide ((64 : Int) ≤ (p : Int)) = false := by rw [decide_eq_false_iff_not]; rw [hK, hp] at h64; omega
  have HKP := box hK
  have HP := box hp
  clear hK hp h64 hd
  clear hc
  clear hn2 HKF
  go_enter Try.func7, Try.ntmps7
  go_wp2_with fail
  refine (HKB.out _ hF).mono ?_; rintro e w1 ⟨rfl, rfl⟩
  go_wp2_with (first | (at_builtin; refine wpList_append_flds17 _ rfl (.const (.slice none 0 0)) (.tmp 14) rfl w.heap.size (.slice none 0 0) [] L rfl (OwnF.nil _ _) a n cap rfl HNL.out HN.out hF.out (Nat.zero_le _) h66 (Nat.le_refl _) ?_; intro v3 w3 hO3 hb3; have O3 := box hO3; have B3 := box hb3; clear hO3 hb3) | (at_builtin; refine wpList_append_flds17 _ rfl (.tmp 15) (.tmp 18) rfl w.heap.size v3 L [(pgN, v)] rfl (own_below O3.out (below_new _ _)) (some ⟨w3.heap.size, 0, none⟩) 1 1 rfl rfl (fun h => by cases h) (fs_one22 pgN v w3 32) h66 (by simp) (Nat.le_trans B3.out.size (below_new _ _).size) ?_; intro v4 w4 hO4 hb4; obtain ⟨a4, c4, rfl, hS4, _⟩ := OwnF.fs hO4; have F4 := box hS4; have B4 := box ((B3.out.trans ((below_new w3 (.cells #[.string pgN, .string v] 32)).mono B3.out.size)).trans hb4); clear hO4 hb4 hS4; rw [HN2.out]))
  refine (rHasL22_is SM hcc (box (hF.out.below B4.out)) HNL HH).mono ?_; rintro e w5 ⟨rfl, hb5⟩
  have B5 := box (B4.out.trans (hb5.mono B4.out.size))
  have G5 := box (F4.out.below hb5)
  clear hb5
  go_wp2_with fail
  refine (mRespL_is SM2 HV2 G5 HN2 HC2).mono ?_; rintro e w6 ⟨rfl, hb6⟩
  have B6 := box (B5.out.trans (hb6.mono B5.out.size))
  have G6 := box (G5.out.below hb6)
  clear hb6
  go_wp2_with fail
  refine (mRespL_is SM HV (box (hF.out.below B6.out)) HNL HC).mono ?_; rintro e w7 ⟨rfl, hb7⟩
  have B7 := box (B6.out.trans (hb7.mono B6.out.size))
  have G7 := box (G6.out.below hb7)
  clear hb7
  go_wp2_with fail
  refine (rFold22_is hv6 hnc HF).mono ?_; rintro e w8 ⟨rfl, hb8⟩
  have B8 := box (B7.out.trans (hb8.mono B7.out.size))
  have G8 := box (G7.out.below hb8)
  clear hb8
  go_wp2_with fail
  refine (rAllL22_is SM HV hpg (box (hF.out.below B8.out)) HNL HKP HP).mono ?_; rintro e wa ⟨pa, ca, rfl, hba⟩
  have Ba := box (B8.out.trans (hba.mono B8.out.size))
  have Ga := box (G8.out.below hba)
  clear hba
  go_wp2_with fail
  refine (mReqL_is SM2 HV2 Ga HN2 HD).mono ?_; rintro e wb ⟨rfl, hbb⟩
  rw [hdn]
  have r2 := run_field_nc d.ns true d.mr d.pr d.pv d.pb d.oc d.ma d.sm d.mf d.ms wb
  have Bb := box (Ba.out.trans (hbb.mono Ba.out.size))
  clear hbb
  go_wp2_with fail
  refine (awake22_any _).mono ?_; rintro e w9 ⟨rfl, hb9⟩
  have B9 := box (Bb.out.trans (hb9.mono Bb.out.size))
  clear hb9
  go_wp2
  go_ret
  exact ⟨rfl, B9.out⟩
theorem pragma22_walk (a : Option Addr) (cap : Nat) (L : List F) (v : ByteArray) (w : World) (hl : L.length ≤ maxLen) (hF : Fs w a L) (hc : L.length ≤ cap ∧ (a = none → cap = 0)) (hv : v.size ≤ maxLen) :
    Calls Try.prog 7 #[.slice a L.length cap, .string v] w fun e w' => e = .returned (.bool true) ∧ Below w.heap.size w w' := by
  unfold maxLen at hv
  cases hk : keepF L with
  | false => exact pragma22_short a cap L v w hl (box hF) hv false (box hk) (.inl rfl)
  | true =>
    by_cases h1 : 100 < v.size
    · exact pragma22_short a cap L v w hl (box hF) hv true (box hk) (.inr ⟨rfl, h1⟩)
    · have hl7 := (keep_parts hk).1
      cases hh : L.any (nmd ccN) with
      | true => exact pragma22_has a cap L.length L v w hl7 (by omega) (box hk) (box hF) (box hc.2) (box rfl) (box hh)
      | false =>
        cases hf : foldL v.data.toList (bs ncN).data.toList with
        | false => exact pragma22_other a cap L.length L v w hl7 (by omega) (box hk) (box hF) (box hc.2) (box rfl) (box hh) (box hf)
        | true =>
          by_cases h64 : 64 ≤ (allB pgN L).length
          · exact pragma22_full a cap L.length L v w hl7 (by omega) (box hk) (box hF) (box hc.2) (box rfl) (box hh) (box hf) h64
          · exact pragma22_counts a cap L.length L v w hl7 (by omega) (box hk) (box hF) (box hc.2) (box rfl) (box hh) (box hf) (by omega)
end
section
open Go.RowKit
theorem rSplit_len {s : ByteArray} {n : Nat} {w : World} (hs : s.size ≤ 65000) (h : Box ((splitL s.data.toList).length = n)) :
    Calls Try.prog 15 #[.string s] w fun e w' => (∃ a cap, e = .returned (.slice a n cap)) ∧ Below w.heap.size w w' :=
  (rSplit_any s w hs).mono fun e w' ⟨v, h1, h2, h3⟩ => by
    obtain ⟨a, cap, rfl, _, _⟩ := h2.ss
    unfold splitB at h1
    rw [List.length_map, h.out] at h1
    exact ⟨⟨a, cap, h1⟩, h3⟩
end
section
open Go.RowKit
set_option maxHeartbeats 400000 in
theorem rQuote_any (s : ByteArray) (w : World) (hs : s.size ≤ 1073741824) :
    Calls Try.prog 18 #[.string s] w fun e w' => e = .returned (.string ⟨(quoteL s.data.toList).toArray⟩) ∧ Below w.heap.size w w' := by
  go_enter Try.func18, Try.ntmps18
  go_wp2
  have hO0 : Own (w.alloc (.cells #[.int .u8 34] 5)) w.heap.size (.slice (some ⟨w.heap.size, 0, none⟩) 1 1) [34] :=
    ⟨rfl, .inr ⟨_, _, _, rfl, Nat.le_refl _, heap_alloc_new w _, Nat.le_refl _, by unfold maxLen; omega, rfl, rfl⟩⟩
  go_loopw [3, 4] (fun v i wr => ∃ k : Nat, k ≤ s.size ∧ i = .int .i64 k ∧ Own wr w.heap.size v ([34] ++ escL (s.data.toList.take k)) ∧ Below w.heap.size w wr) (fun _ i _ => s.size - (intOf i).toNat)
  case atStart => exact ⟨0, Nat.zero_le _, rfl, by simpa [escL] using hO0, (Below.refl _ _).alloc (Nat.le_refl _) _⟩
  case round =>
    obtain ⟨k, hk, rfl, hO, hbel⟩ := hrel
    have hle := escL_le' s k
    have hl0 : ([34] ++ escL (s.data.toList.take k)).length < 4294967296 := by simp; omega
    clear hle
    by_cases hlt : k < s.size
    · rcases h1 : ((s[k].toNat : Int) == 34) with _ | _
      · rcases h2 : ((s[k].toNat : Int) == 92) with _ | _
        · have HE := Lib.hid (esc_plain hlt h1 h2)
          go_wp2_with (at_builtin; refine wpList_append_byte _ rfl (.tmp 25) (.tmp 29) rfl w.heap.size _ _ rfl (hO.alloc _) _ rfl _ s[k] rfl (by go_simp) (by omega) (by have := (hbel).size; simp; omega) ?_; intro v1 w1 hO1 hb1; have hb1' := hbel |>.alloc (hbel).size _ |>.trans hb1)
          go_roundw
          case rel => exact ⟨k + 1, by omega, by go_num, by rw [HE.out]; simpa using hO1, hb1'⟩
          case measure => simp [intOf]; omega
        ·
          have HE := Lib.hid (esc_b hlt h2)
          go_wp2_with (first | (at_builtin; refine wpList_append_byte _ rfl (.tmp 22) (.tmp 23) rfl w.heap.size _ _ rfl (hO.alloc _) _ rfl 92 92 (by decide) (by go_simp) (by omega) (by have := (hbel).size; simp; omega) ?_; intro v1 w1 hO1 hb1; have hb1' := hbel |>.alloc (hbel).size _ |>.trans hb1) | (at_builtin; refine wpList_append_byte _ rfl (.tmp 25) (.tmp 29) rfl w.heap.size _ _ rfl (hO1.alloc _) _ rfl _ s[k] rfl (by go_simp) (by simp at hl0 ⊢; omega) (by have := (hb1').size; simp; omega) ?_; intro v2 w2 hO2 hb2; have hb2' := hb1' |>.alloc (hb1').size _ |>.trans hb2))
          go_roundw
          case rel => exact ⟨k + 1, by omega, by go_num, by rw [HE.out]; simpa using hO2, hb2'⟩
          case measure => simp [intOf]; omega
      ·
        have HE := Lib.hid (esc_q hlt h1)
        go_wp2_with (first | (at_builtin; refine wpList_append_byte _ rfl (.tmp 22) (.tmp 23) rfl w.heap.size _ _ rfl (hO.alloc _) _ rfl 92 92 (by decide) (by go_simp) (by omega) (by have := (hbel).size; simp; omega) ?_; intro v1 w1 hO1 hb1; have hb1' := hbel |>.alloc (hbel).size _ |>.trans hb1) | (at_builtin; refine wpList_append_byte _ rfl (.tmp 25) (.tmp 29) rfl w.heap.size _ _ rfl (hO1.alloc _) _ rfl _ s[k] rfl (by go_simp) (by simp at hl0 ⊢; omega) (by have := (hb1').size; simp; omega) ?_; intro v2 w2 hO2 hb2; have hb2' := hb1' |>.alloc (hb1').size _ |>.trans hb2))
        go_roundw
        case rel => exact ⟨k + 1, by omega, by go_num, by rw [HE.out]; simpa using hO2, hb2'⟩
        case measure => simp [intOf]; omega
    · go_wp2_with (at_builtin; refine wpList_append_byte _ rfl (.tmp 31) (.tmp 32) rfl w.heap.size _ _ rfl (hO.alloc _) _ rfl 34 34 (by decide) (by go_simp) (by omega) (by have := (hbel).size; simp; omega) ?_; intro v1 w1 hO1 hb1; have hb1' := hbel |>.alloc (hbel).size _ |>.trans hb1; have hst := hO1.str; rw [List.take_of_length_le (by simp; omega)] at hst)
      go_ret
      exact ⟨rfl, hb1'⟩
end
end Go.Proofs.Ytlcojfkkeommoaa.Asc
