/- Merged texts: CtlLaws4 CtlSpec3 AscDec. -/
import Derived.Test.YtlcojfkkeommoaaZs04
import Derived.Test.YtlcojfkkeommoaaZs09
import Derived.Test.YtlcojfkkeommoaaZs10
set_option linter.unusedVariables false
set_option linter.unusedSimpArgs false
set_option maxRecDepth 100000
namespace Go.Proofs.Ytlcojfkkeommoaa.Asc
section
open Go.RowKit
def lcN : ByteArray := ⟨#[99, 97, 99, 104, 101, 45, 99, 111, 110, 116, 114, 111, 108]⟩
theorem rQuote22_is {s x : ByteArray} {w : World} (hs : s.size ≤ 65536) (h : Box (bs (quoteL s.data.toList) = x)) :
    Calls Try.prog 18 #[.string s] w fun e w' => e = .returned (.string x) ∧ Below w.heap.size w w' :=
  (rQuote_any s w (by omega)).mono fun e w' ⟨h1, h2⟩ => ⟨by rw [h1, ← h.out]; rfl, h2⟩
theorem rText22_is {s : ByteArray} {b : Bool} {w : World} (hs : s.size ≤ 65536) (h : Box (textL s.data.toList = b)) :
    Calls Try.prog 19 #[.string s] w fun e w' => e = .returned (.bool b) ∧ w = w' :=
  (rText_any s w (by unfold maxLen; omega)).mono fun e w' ⟨h1, h2⟩ => ⟨by rw [h1, h.out], h2⟩
theorem rSplitN22 {s : ByteArray} {K : List ByteArray} {n : Nat} {w : World} (hs : s.size ≤ 65000) (h : Box (splitB s.data.toList = K)) (hn : Box (K.length = n)) :
    Calls Try.prog 15 #[.string s] w fun e w' => ∃ a cap, e = .returned (.slice a n cap) ∧ Ss w' a K ∧ Below w.heap.size w w' :=
  (rSplit_is hs h).mono fun e w' ⟨a, cap, h1, h2, _, h3⟩ => ⟨a, cap, by rw [h1, hn.out], h2, h3⟩
theorem rRespL22_is {a : Option Addr} {cap : Nat} {L : List F} {n : Nat} {c : CT} {w : World} (S : Box (Sm L)) (hv : Box (∀ nm, ∀ x ∈ getL nm L, x.size ≤ 65000)) (hF : Box (Fs w a L)) (hn : Box (L.length = n)) (HC : Box (respC (allL ccN L) = c)) :
    Calls Try.prog 10 #[.slice a n cap] w fun e w' => e = .returned (.agg #[.bool c.ns, .bool c.nc, .bool c.mr, .bool c.pr, .bool c.pv, .bool c.pb, .bool c.oc, .int .i64 c.ma, .int .i64 c.sm, .int .i64 c.mf, .int .i64 c.ms]) ∧ Below w.heap.size w w' := by
  have := rResp_is (cap := cap) S (box (hv.out ccN)) hF HC; rw [hn.out] at this; exact this
/-- what the guard lets by -/
theorem first22_size (a b nm : ByteArray) (w : World) (S1 : a.size ≤ 9223372036854775807) (S2 : b.size ≤ 9223372036854775807) (S3 : nm.size ≤ 9223372036854775807) (h : 200 < a.size ∨ (¬ 200 < a.size ∧ 200 < b.size) ∨ (¬ 200 < a.size ∧ ¬ 200 < b.size ∧ 50 < nm.size)) :
    Calls Try.prog 4 #[.string a, .string b, .string nm] w fun e w' => e = .returned (.bool true) ∧ Below w.heap.size w w' := by
  rcases h with h | ⟨h1, h⟩ | ⟨h1, h2, h⟩
  · have i1 : (200 : Int) < (a.size : Int) := by omega
    go_enter Try.func4, Try.ntmps4
    go_wp2
    go_ret
    exact ⟨rfl, Below.refl _ _⟩
  · have i1 : ¬ (200 : Int) < (a.size : Int) := by omega
    have i2 : (200 : Int) < (b.size : Int) := by omega
    go_enter Try.func4, Try.ntmps4
    go_wp2
    go_ret
    exact ⟨rfl, Below.refl _ _⟩
  · have i1 : ¬ (200 : Int) < (a.size : Int) := by omega
    have i2 : ¬ (200 : Int) < (b.size : Int) := by omega
    have i3 : (50 : Int) < (nm.size : Int) := by omega
    go_enter Try.func4, Try.ntmps4
    go_wp2
    go_ret
    exact ⟨rfl, Below.refl _ _⟩
theorem first22_notok (a b nm : ByteArray) (w : World) (h1 : a.size ≤ 200) (h2 : b.size ≤ 200) (h3 : nm.size ≤ 50) (HT : Box (tokL nm.data.toList = false)) :
    Calls Try.prog 4 #[.string a, .string b, .string nm] w fun e w' => e = .returned (.bool true) ∧ Below w.heap.size w w' := by
  have i1 : decide ((200 : Int) < (a.size : Int)) = false := by rw [decide_eq_false_iff_not]; omega
  have i2 : decide ((200 : Int) < (b.size : Int)) = false := by rw [decide_eq_false_iff_not]; omega
  have i3 : decide ((50 : Int) < (nm.size : Int)) = false := by rw [decide_eq_false_iff_not]; omega
  have j1 : ¬ (200 : Int) < (a.size : Int) := by omega
  have j2 : ¬ (200 : Int) < (b.size : Int) := by omega
  have j3 : ¬ (50 : Int) < (nm.size : Int) := by omega
  have hn6 : nm.size ≤ 65536 := by omega
  go_enter Try.func4, Try.ntmps4
  go_wp2_with fail
  refine (rToken22_is hn6 HT).mono ?_; rintro e w1 ⟨rfl, rfl⟩
  go_wp2
  go_ret
  exact ⟨rfl, Below.refl _ _⟩
theorem first22_open (a b nm : ByteArray) (w : World) (h1 : a.size ≤ 200) (h2 : b.size ≤ 200) (h3 : nm.size ≤ 50) (HT : Box (tokL nm.data.toList = true)) (n1 n2 : Nat) (H1 : Box ((splitL (a.data.toList ++ [44, 120])).length = n1)) (H2 : Box ((splitL a.data.toList).length = n2)) (hn2 : n2 ≤ 64) (hne : ¬ n1 = n2 + 1) :
    Calls Try.prog 4 #[.string a, .string b, .string nm] w fun e w' => e = .returned (.bool true) ∧ Below w.heap.size w w' := by
  have i1 : decide ((200 : Int) < (a.size : Int)) = false := by rw [decide_eq_false_iff_not]; omega
  have i2 : decide ((200 : Int) < (b.size : Int)) = false := by rw [decide_eq_false_iff_not]; omega
  have i3 : decide ((50 : Int) < (nm.size : Int)) = false := by rw [decide_eq_false_iff_not]; omega
  have j1 : ¬ (200 : Int) < (a.size : Int) := by omega
  have j2 : ¬ (200 : Int) < (b.size : Int) := by omega
  have j3 : ¬ (50 : Int) < (nm.size : Int) := by omega
  have hn6 : nm.size ≤ 65536 := by omega
  have ha6 : a.size ≤ 65000 := by omega
  have hz1 : (a ++ (⟨#[44, 120]⟩ : ByteArray)).size ≤ 65000 := by rw [ByteArray.size_append]; show a.size + 2 ≤ 65000; omega
  have r0 : ∀ w : World, (Op.stringOp .add a ⟨#[44, 120]⟩).run Try.prog w = .ok (.string (a ++ ⟨#[44, 120]⟩)) w := fun w => run_string_add_sum w _ _ (by show a.size + 2 ≤ 9223372036854775807; omega)
  have HD1 : Box ((splitL (a ++ (⟨#[44, 120]⟩ : ByteArray)).data.toList).length = n1) := box (by rw [← H1.out]; simp [ByteArray.data_append])
  have hni : ((n1 : Int) != (n2 : Int) + 1) = true := by rw [bne_iff_ne]; omega
  go_enter Try.func4, Try.ntmps4
  go_wp2_with fail
  refine (rToken22_is hn6 HT).mono ?_; rintro e w1 ⟨rfl, rfl⟩
  go_wp2_with fail
  refine (rSplit_len hz1 HD1).mono ?_; rintro e w1 ⟨⟨a1, cap1, rfl⟩, hb1⟩
  have B1 := box hb1
  clear hb1
  go_wp2_with fail
  refine (rSplit_len ha6 H2).mono ?_; rintro e w2 ⟨⟨a2, cap2, rfl⟩, hb2⟩
  have B2 := box (B1.out.trans (hb2.mono B1.out.size))
  clear hb2
  go_wp2
  go_ret
  exact ⟨rfl, B2.out⟩
set_option maxHeartbeats 16000000 in
theorem first22_in (a b nm : ByteArray) (w : World) (h1 : a.size ≤ 200) (h2 : b.size ≤ 200) (h3 : nm.size ≤ 50) (HT : Box (tokL nm.data.toList = true)) (n1 n2 : Nat) (H1 : Box ((splitL (a.data.toList ++ [44, 120])).length = n1)) (H2 : Box ((splitL a.data.toList).length = n2)) (hn2 : n2 ≤ 64) (hne : n1 = n2 + 1) :
    Calls Try.prog 4 #[.string a, .string b, .string nm] w fun e w' => e = .returned (.bool true) ∧ Below w.heap.size w w' := by
  have i1 : decide ((200 : Int) < (a.size : Int)) = false := by rw [decide_eq_false_iff_not]; omega
  have i2 : decide ((200 : Int) < (b.size : Int)) = false := by rw [decide_eq_false_iff_not]; omega
  have i3 : decide ((50 : Int) < (nm.size : Int)) = false := by rw [decide_eq_false_iff_not]; omega
  have j1 : ¬ (200 : Int) < (a.size : Int) := by omega
  have j2 : ¬ (200 : Int) < (b.size : Int) := by omega
  have j3 : ¬ (50 : Int) < (nm.size : Int) := by omega
  have hn6 : nm.size ≤ 65536 := by omega
  have ha6 : a.size ≤ 65000 := by omega
  have hz1 : (a ++ (⟨#[44, 120]⟩ : ByteArray)).size ≤ 65000 := by rw [ByteArray.size_append]; show a.size + 2 ≤ 65000; omega
  have r0 : ∀ w : World, (Op.stringOp .add a ⟨#[44, 120]⟩).run Try.prog w = .ok (.string (a ++ ⟨#[44, 120]⟩)) w := fun w => run_string_add_sum w _ _ (by show a.size + 2 ≤ 9223372036854775807; omega)
  have HD1 : Box ((splitL (a ++ (⟨#[44, 120]⟩ : ByteArray)).data.toList).length = n1) := box (by rw [← H1.out]; simp [ByteArray.data_append])
  have hni : ((n1 : Int) != (n2 : Int) + 1) = false := by rw [hne]; simp
  obtain ⟨K, hK⟩ : ∃ K, splitB a.data.toList = K := ⟨_, rfl⟩
  have HK := box hK
  have HKn : Box (K.length = n2) := box (by rw [← hK, ← H2.out]; unfold splitB; rw [List.length_map])
  have HKM : Box (∀ m ∈ K, m.data.toList ∈ splitL a.data.toList) := box (fun m hm => by
    rw [← hK] at hm
    obtain ⟨l, hl, rfl⟩ := List.mem_map.1 hm
    exact hl)
  have hal : a.data.toList.length = a.size := by simp
  have HZ : Box (∀ m ∈ K, m.size ≤ 65000) := box (fun m hm => by
    have h1 := split_small (HKM.out m hm)
    have e1 : m.data.toList.length = m.size := by simp
    omega)
  obtain ⟨q, hq⟩ : ∃ q, bs (quoteL b.data.toList) = q := ⟨_, rfl⟩
  have HQ := box hq
  have hqz : q.size ≤ 402 := by
    rw [← hq]; show (quoteL b.data.toList).length ≤ 402
    have := escL_le b.data.toList
    have e1 : b.data.toList.length = b.size := by simp
    unfold quoteL
    rw [List.length_cons, List.length_append]
    show (escL b.data.toList).length + 1 + 1 ≤ 402
    omega
  obtain ⟨z, hz⟩ : ∃ z, nm ++ (⟨#[61]⟩ : ByteArray) = z := ⟨_, rfl⟩
  have hzz : z.size ≤ 51 := by rw [← hz, ByteArray.size_append]; show nm.size + 1 ≤ 51; omega
  obtain ⟨V, hV⟩ : ∃ V, z ++ q = V := ⟨_, rfl⟩
  have hVz : V.size ≤ 453 := by rw [← hV, ByteArray.size_append]; omega
  have r1 : ∀ w : World, (Op.stringOp .add nm ⟨#[61]⟩).run Try.prog w = .ok (.string z) w := fun w => by
    have := run_string_add_sum (P := Try.prog) w nm ⟨#[61]⟩ (by show nm.size + 1 ≤ 9223372036854775807; omega)
    rw [this, hz]
  have r2 : ∀ w : World, (Op.stringOp .add z q).run Try.prog w = .ok (.string V) w := fun w => by
    have := run_string_add_sum (P := Try.prog) w z q (by omega)
    rw [this, hV]
  have HVE : Box (V = bs (nm.data.toList ++ 61 :: quoteL b.data.toList)) := box (by
    rw [← hV, ← hz, ← hq]
    have : bs (nm.data.toList ++ 61 :: quoteL b.data.toList) = (bs nm.data.toList ++ ⟨#[61]⟩) ++ bs (quoteL b.data.toList) := by
      rw [show nm.data.toList ++ 61 :: quoteL b.data.toList = (nm.data.toList ++ [61]) ++ quoteL b.data.toList from by simp]
      rfl
    rw [this, bs_all22])
  obtain ⟨c, hc⟩ : ∃ c, respC (allL ccN [(ccN, a)]) = c := ⟨_, rfl⟩
  have HC1 := box hc
  have hnm2 : nmd ccN (lcN, V) = true := by
    show foldL lcN.data.toList ccN.data.toList = true
    decide +kernel
  have HNM2 := box hnm2
  have S1 : Box (Sm [(ccN, a)]) := box (one_sm22 (by decide) (by omega))
  have V1 : Box (∀ nm, ∀ x ∈ getL nm [(ccN, a)], x.size ≤ 65000) := box (fun nm => one_gets22 (by omega))
  have S2 : Box (Sm [(ccN, a), (lcN, V)]) := box (sm_more22 (L := [(ccN, a)]) S1.out (by simp) (by decide) (by omega))
  have V2 : Box (∀ nm, ∀ x ∈ getL nm [(ccN, a), (lcN, V)], x.size ≤ 65000) := box (get_more22 (L := [(ccN, a)]) V1.out (by omega))
  have N1 : Box ([(ccN, a)].length = 1) := box rfl
  have N2 : Box ([(ccN, a), (lcN, V)].length = 2) := box rfl
  have hb6 : b.size ≤ 65536 := by omega
  clear hK hq hz hV hc hnm2 hal hne H1
  go_enter Try.func4, Try.ntmps4
  go_wp2_with fail
  refine (rToken22_is hn6 HT).mono ?_; rintro e w1 ⟨rfl, rfl⟩
  go_wp2_with fail
  refine (rSplit_len hz1 HD1).mono ?_; rintro e w1 ⟨⟨a1, cap1, rfl⟩, hb1⟩
  have B1 := box hb1
  clear hb1
  go_wp2_with fail
  refine (rSplit_len ha6 H2).mono ?_; rintro e w2 ⟨⟨a2, cap2, rfl⟩, hb2⟩
  have B2 := box (B1.out.trans (hb2.mono B1.out.size))
  clear hb2
  have F3 := box (fs_one22 ccN a w2 32)
  have B3 := box (B2.out.alloc B2.out.size (.cells #[.string ccN, .string a] 32))
  go_wp2_with fail
  refine (rSplitN22 ha6 HK HKn).mono ?_; rintro e w4 ⟨a4, cap4, rfl, hS4, hb4⟩
  have B4 := box (B3.out.trans (hb4.mono B3.out.size))
  have F4 := box (F3.out.below hb4)
  have S4 := box hS4
  clear hS4 hb4
  go_wp2
  go_loopw [9] (fun i wr => ∃ j : Nat, i = .int .i64 j ∧ j ≤ n2 ∧ Box (Below w4.heap.size w4 wr)) (fun i _ => n2 - (intOf i).toNat)
  case atStart => exact ⟨0, rfl, Nat.zero_le _, box (Below.refl _ _)⟩
  case round =>
    obtain ⟨j, rfl, hj, hbl⟩ := hrel
    by_cases hlt : j < n2
    · have hji : (j : Int) < (n2 : Int) := by omega
      have hjK : j < K.length := by rw [HKn.out]; exact hlt
      obtain ⟨s, hs⟩ : ∃ s, K[j] = s := ⟨_, rfl⟩
      have hsz : s.size ≤ 65000 := by rw [← hs]; exact HZ.out _ (List.getElem_mem hjK)
      have HSM : Box (s.data.toList ∈ splitL a.data.toList) := box (by rw [← hs]; exact HKM.out _ (List.getElem_mem hjK))
      obtain ⟨g, off, hga, cA⟩ := (S4.out.below hbl.out) j hjK
      cases hga
      rw [hs] at cA
      have hz : s.data.toList.length = s.size := by simp
      clear hs hjK
      go_wp2
      go_loop [10] (fun i => ∃ k : Nat, k ≤ s.size ∧ i = .int .i64 k ∧ Box (NamAt s.data.toList k)) (fun i => s.size - (intOf i).toNat)
      case atStart => exact ⟨0, Nat.zero_le _, rfl, box rfl⟩
      case round =>
        obtain ⟨k, hk, rfl, hall⟩ := hrel
        by_cases hkt : k < s.size
        · have hki : (k : Int) < (s.size : Int) := by omega
          have hb := byte_bd s k hkt
          rcases hp : tokI (s[k].toNat) with _ | _
          · have HC := nam_cut (l := s.data.toList) (k := k) (by omega) hall.out (fun h => by rw [Array.getElem_toList]; exact hp)
            have HTB : ∀ w : World, Calls Try.prog 16 #[.int .u8 (s[k].toNat : Int)] w fun e w' => e = .returned (.bool false) ∧ w = w' := fun w => by rw [← hp]; exact rTokenByte_any _ w hb.1 hb.2
            clear hp
            obtain ⟨y, hy⟩ : ∃ y, s.extract 0 k = y := ⟨_, rfl⟩
            have hyl : namD s.data.toList = y.data.toList := by rw [← hy, ext_bs, bs_toList, List.drop_zero]; exact HC.1
            have hyk : y.data.toList.length = k := by rw [← hyl, HC.1, List.length_take, hz]; omega
            have hys : y.size ≤ 65536 := by
              have e1 : y.data.toList.length = y.size := by simp
              rw [← e1, hyk]; omega
            have b0 : (0 : Int) ≤ (k : Int) := by omega
            have b1 : (k : Int) ≤ (s.size : Int) := by omega
            rcases hf : foldL y.data.toList nm.data.toList with _ | _
            · have HFF := box hf
              clear HC hyl hyk hz hall hf
              go_wp2_with (first | (go_at_call 16; refine (HTB _).mono ?_; rintro e w' ⟨rfl, rfl⟩) | (go_at_call 17; refine (rFold22_is hys hn6 HFF).mono ?_; rintro e w5 ⟨rfl, hb5⟩; have H5 := box (hbl.out.trans (hb5.mono hbl.out.size)); clear hb5 cA))
              go_roundw
              case rel => exact ⟨j + 1, by go_num, hlt, H5⟩
              case measure => simp [intOf]; omega
            · have HFF := box hf
              by_cases h40 : n2 < 40
              · have h40i : (n2 : Int) < 40 := by omega
                have HC2 : Box (respC (allL ccN [(ccN, a), (lcN, V)]) = c) := box (by
                  rw [← HC1.out]
                  exact first_same HT.out (by rw [H2.out]; exact h40) HVE.out HSM.out (by rw [hyl]; exact hf) HNM2.out)
                rcases htx : textL b.data.toList with _ | _
                · have HX := box htx
                  clear HC hyl hyk hz hall hf htx h40
                  go_wp2_with (first | (go_at_call 16; refine (HTB _).mono ?_; rintro e w' ⟨rfl, rfl⟩) | (go_at_call 17; refine (rFold22_is hys hn6 HFF).mono ?_; rintro e w5 ⟨rfl, hb5⟩; have H5 := box (hbl.out.trans (hb5.mono hbl.out.size)); clear hb5 cA) | (at_builtin; refine wpList_append_flds17 _ rfl (.const (.slice none 0 0)) (.tmp 83) rfl w5.heap.size (.slice none 0 0) [] [(ccN, a)] rfl (OwnF.nil _ _) (some ⟨w2.heap.size, 0, none⟩) 1 1 rfl rfl (fun h => by cases h) (F4.out.below H5.out) (Nat.zero_le _) (by simp) (Nat.le_refl _) ?_; intro v6 w6 hO6 hb6; have O6 := box hO6; have D6 := box hb6; clear hO6 hb6) | (go_at_call 18; refine (rQuote22_is hb6 HQ).mono ?_; rintro e w7 ⟨rfl, hb7⟩; have O7 := box (own_below O6.out hb7); have D7 := box (D6.out.trans (hb7.mono D6.out.size)); clear hb7) | (at_builtin; refine wpList_append_flds17 _ rfl (.tmp 84) (.tmp 91) rfl w5.heap.size v6 [(ccN, a)] [(lcN, V)] rfl (own_below O7.out (below_new _ _)) (some ⟨w7.heap.size, 0, none⟩) 1 1 rfl rfl (fun h => by cases h) (fs_one22 lcN V w7 32) (by simp) (by simp) (Nat.le_trans D7.out.size (below_new _ _).size) ?_; intro v8 w8 hO8 hb8; obtain ⟨a8, c8, rfl, hS8, _⟩ := OwnF.fs hO8; have F8 : Box (Fs w8 a8 [(ccN, a), (lcN, V)]) := box hS8; have D8 := box ((D7.out.trans ((below_new w7 (.cells #[.string lcN, .string V] 32)).mono D7.out.size)).trans hb8); clear hO8 hb8 hS8) | (go_at_call 19; refine (rText22_is hb6 HX).mono ?_; rintro e w' ⟨rfl, rfl⟩))
                  go_ret
                  exact ⟨rfl, B4.out.trans ((H5.out.trans (D8.out.mono H5.out.size)).mono B4.out.size)⟩
                · have HX := box htx
                  clear HC hyl hyk hz hall hf htx h40
                  go_wp2_with (first | (go_at_call 16; refine (HTB _).mono ?_; rintro e w' ⟨rfl, rfl⟩) | (go_at_call 17; refine (rFold22_is hys hn6 HFF).mono ?_; rintro e w5 ⟨rfl, hb5⟩; have H5 := box (hbl.out.trans (hb5.mono hbl.out.size)); clear hb5 cA) | (at_builtin; refine wpList_append_flds17 _ rfl (.const (.slice none 0 0)) (.tmp 83) rfl w5.heap.size (.slice none 0 0) [] [(ccN, a)] rfl (OwnF.nil _ _) (some ⟨w2.heap.size, 0, none⟩) 1 1 rfl rfl (fun h => by cases h) (F4.out.below H5.out) (Nat.zero_le _) (by simp) (Nat.le_refl _) ?_; intro v6 w6 hO6 hb6; have O6 := box hO6; have D6 := box hb6; clear hO6 hb6) | (go_at_call 18; refine (rQuote22_is hb6 HQ).mono ?_; rintro e w7 ⟨rfl, hb7⟩; have O7 := box (own_below O6.out hb7); have D7 := box (D6.out.trans (hb7.mono D6.out.size)); clear hb7) | (at_builtin; refine wpList_append_flds17 _ rfl (.tmp 84) (.tmp 91) rfl w5.heap.size v6 [(ccN, a)] [(lcN, V)] rfl (own_below O7.out (below_new _ _)) (some ⟨w7.heap.size, 0, none⟩) 1 1 rfl rfl (fun h => by cases h) (fs_one22 lcN V w7 32) (by simp) (by simp) (Nat.le_trans D7.out.size (below_new _ _).size) ?_; intro v8 w8 hO8 hb8; obtain ⟨a8, c8, rfl, hS8, _⟩ := OwnF.fs hO8; have F8 : Box (Fs w8 a8 [(ccN, a), (lcN, V)]) := box hS8; have D8 := box ((D7.out.trans ((below_new w7 (.cells #[.string lcN, .string V] 32)).mono D7.out.size)).trans hb8); clear hO8 hb8 hS8) | (go_at_call 19; refine (rText22_is hb6 HX).mono ?_; rintro e w' ⟨rfl, rfl⟩))
                  refine (mRespL_is S2 V2 F8 N2 HC2).mono ?_; rintro e w9 ⟨rfl, hb9⟩
                  have H8 := box (H5.out.trans (D8.out.mono H5.out.size))
                  have H9 := box (H8.out.trans (hb9.mono H8.out.size))
                  clear hb9
                  go_wp2_with fail
                  refine (mRespL_is S1 V1 (box (F4.out.below H9.out)) N1 HC1).mono ?_; rintro e wa ⟨rfl, hba⟩
                  have Ha := box (H9.out.trans (hba.mono H9.out.size))
                  clear hba
                  go_wp2_with fail
                  refine (awake22_any _).mono ?_; rintro e wb ⟨rfl, hbb⟩
                  have Hb := box (Ha.out.trans (hbb.mono Ha.out.size))
                  clear hbb
                  go_wp2
                  go_ret
                  exact ⟨rfl, B4.out.trans (Hb.out.mono B4.out.size)⟩
              · have h40i : decide ((n2 : Int) < 40) = false := by rw [decide_eq_false_iff_not]; omega
                clear HC hyl hyk hz hall hf h40
                go_wp2_with (first | (go_at_call 16; refine (HTB _).mono ?_; rintro e w' ⟨rfl, rfl⟩) | (go_at_call 17; refine (rFold22_is hys hn6 HFF).mono ?_; rintro e w5 ⟨rfl, hb5⟩; have H5 := box (hbl.out.trans (hb5.mono hbl.out.size)); clear hb5 cA))
                go_roundw
                case rel => exact ⟨j + 1, by go_num, hlt, H5⟩
                case measure => simp [intOf]; omega
          · have HN : Box (NamAt s.data.toList (k + 1)) := box (all_more hall.out hkt hp)
            have HTB : ∀ w : World, Calls Try.prog 16 #[.int .u8 (s[k].toNat : Int)] w fun e w' => e = .returned (.bool true) ∧ w = w' := fun w => by rw [← hp]; exact rTokenByte_any _ w hb.1 hb.2
            clear hp hz hall
            go_wp2_with (go_at_call 16; refine (HTB _).mono ?_; rintro e w' ⟨rfl, rfl⟩)
            go_round
            case rel => exact ⟨k + 1, by omega, by go_num, HN⟩
            case measure => simp [intOf]; omega
        · have hki : ¬ (k : Int) < (s.size : Int) := by omega
          have HC := nam_cut (l := s.data.toList) (k := k) (by omega) hall.out (fun h => absurd h (by rw [hz]; exact hkt))
          obtain ⟨y, hy⟩ : ∃ y, s.extract 0 k = y := ⟨_, rfl⟩
          have hyl : namD s.data.toList = y.data.toList := by rw [← hy, ext_bs, bs_toList, List.drop_zero]; exact HC.1
          have hyk : y.data.toList.length = k := by rw [← hyl, HC.1, List.length_take, hz]; omega
          have hys : y.size ≤ 65536 := by
            have e1 : y.data.toList.length = y.size := by simp
            rw [← e1, hyk]; omega
          have b0 : (0 : Int) ≤ (k : Int) := by omega
          have b1 : (k : Int) ≤ (s.size : Int) := by omega
          rcases hf : foldL y.data.toList nm.data.toList with _ | _
          · have HFF := box hf
            clear HC hyl hyk hz hall hf
            go_wp2_with (first | (go_at_call 17; refine (rFold22_is hys hn6 HFF).mono ?_; rintro e w5 ⟨rfl, hb5⟩; have H5 := box (hbl.out.trans (hb5.mono hbl.out.size)); clear hb5 cA))
            go_roundw
            case rel => exact ⟨j + 1, by go_num, hlt, H5⟩
            case measure => simp [intOf]; omega
          · have HFF := box hf
            by_cases h40 : n2 < 40
            · have h40i : (n2 : Int) < 40 := by omega
              have HC2 : Box (respC (allL ccN [(ccN, a), (lcN, V)]) = c) := box (by
                rw [← HC1.out]
                exact first_same HT.out (by rw [H2.out]; exact h40) HVE.out HSM.out (by rw [hyl]; exact hf) HNM2.out)
              rcases htx : textL b.data.toList with _ | _
              · have HX := box htx
                clear HC hyl hyk hz hall hf htx h40
                go_wp2_with (first | (go_at_call 17; refine (rFold22_is hys hn6 HFF).mono ?_; rintro e w5 ⟨rfl, hb5⟩; have H5 := box (hbl.out.trans (hb5.mono hbl.out.size)); clear hb5 cA) | (at_builtin; refine wpList_append_flds17 _ rfl (.const (.slice none 0 0)) (.tmp 83) rfl w5.heap.size (.slice none 0 0) [] [(ccN, a)] rfl (OwnF.nil _ _) (some ⟨w2.heap.size, 0, none⟩) 1 1 rfl rfl (fun h => by cases h) (F4.out.below H5.out) (Nat.zero_le _) (by simp) (Nat.le_refl _) ?_; intro v6 w6 hO6 hb6; have O6 := box hO6; have D6 := box hb6; clear hO6 hb6) | (go_at_call 18; refine (rQuote22_is hb6 HQ).mono ?_; rintro e w7 ⟨rfl, hb7⟩; have O7 := box (own_below O6.out hb7); have D7 := box (D6.out.trans (hb7.mono D6.out.size)); clear hb7) | (at_builtin; refine wpList_append_flds17 _ rfl (.tmp 84) (.tmp 91) rfl w5.heap.size v6 [(ccN, a)] [(lcN, V)] rfl (own_below O7.out (below_new _ _)) (some ⟨w7.heap.size, 0, none⟩) 1 1 rfl rfl (fun h => by cases h) (fs_one22 lcN V w7 32) (by simp) (by simp) (Nat.le_trans D7.out.size (below_new _ _).size) ?_; intro v8 w8 hO8 hb8; obtain ⟨a8, c8, rfl, hS8, _⟩ := OwnF.fs hO8; have F8 : Box (Fs w8 a8 [(ccN, a), (lcN, V)]) := box hS8; have D8 := box ((D7.out.trans ((below_new w7 (.cells #[.string lcN, .string V] 32)).mono D7.out.size)).trans hb8); clear hO8 hb8 hS8) | (go_at_call 19; refine (rText22_is hb6 HX).mono ?_; rintro e w' ⟨rfl, rfl⟩))
                go_ret
                exact ⟨rfl, B4.out.trans ((H5.out.trans (D8.out.mono H5.out.size)).mono B4.out.size)⟩
              · have HX := box htx
                clear HC hyl hyk hz hall hf htx h40
                go_wp2_with (first | (go_at_call 17; refine (rFold22_is hys hn6 HFF).mono ?_; rintro e w5 ⟨rfl, hb5⟩; have H5 := box (hbl.out.trans (hb5.mono hbl.out.size)); clear hb5 cA) | (at_builtin; refine wpList_append_flds17 _ rfl (.const (.slice none 0 0)) (.tmp 83) rfl w5.heap.size (.slice none 0 0) [] [(ccN, a)] rfl (OwnF.nil _ _) (some ⟨w2.heap.size, 0, none⟩) 1 1 rfl rfl (fun h => by cases h) (F4.out.below H5.out) (Nat.zero_le _) (by simp) (Nat.le_refl _) ?_; intro v6 w6 hO6 hb6; have O6 := box hO6; have D6 := box hb6; clear hO6 hb6) | (go_at_call 18; refine (rQuote22_is hb6 HQ).mono ?_; rintro e w7 ⟨rfl, hb7⟩; have O7 := box (own_below O6.out hb7); have D7 := box (D6.out.trans (hb7.mono D6.out.size)); clear hb7) | (at_builtin; refine wpList_append_flds17 _ rfl (.tmp 84) (.tmp 91) rfl w5.heap.size v6 [(ccN, a)] [(lcN, V)] rfl (own_below O7.out (below_new _ _)) (some ⟨w7.heap.size, 0, none⟩) 1 1 rfl rfl (fun h => by cases h) (fs_one22 lcN V w7 32) (by simp) (by simp) (Nat.le_trans D7.out.size (below_new _ _).size) ?_; intro v8 w8 hO8 hb8; obtain ⟨a8, c8, rfl, hS8, _⟩ := OwnF.fs hO8; have F8 : Box (Fs w8 a8 [(ccN, a), (lcN, V)]) := box hS8; have D8 := box ((D7.out.trans ((below_new w7 (.cells #[.string lcN, .string V] 32)).mono D7.out.size)).trans hb8); clear hO8 hb8 hS8) | (go_at_call 19; refine (rText22_is hb6 HX).mono ?_; rintro e w' ⟨rfl, rfl⟩))
                refine (mRespL_is S2 V2 F8 N2 HC2).mono ?_; rintro e w9 ⟨rfl, hb9⟩
                have H8 := box (H5.out.trans (D8.out.mono H5.out.size))
                have H9 := box (H8.out.trans (hb9.mono H8.out.size))
                clear hb9
                go_wp2_with fail
                refine (mRespL_is S1 V1 (box (F4.out.below H9.out)) N1 HC1).mono ?_; rintro e wa ⟨rfl, hba⟩
                have Ha := box (H9.out.trans (hba.mono H9.out.size))
                clear hba
                go_wp2_with fail
                refine (awake22_any _).mono ?_; rintro e wb ⟨rfl, hbb⟩
                have Hb := box (Ha.out.trans (hbb.mono Ha.out.size))
                clear hbb
                go_wp2
                go_ret
                exact ⟨rfl, B4.out.trans (Hb.out.mono B4.out.size)⟩
            · have h40i : decide ((n2 : Int) < 40) = false := by rw [decide_eq_false_iff_not]; omega
              clear HC hyl hyk hz hall hf h40
              go_wp2_with (first | (go_at_call 17; refine (rFold22_is hys hn6 HFF).mono ?_; rintro e w5 ⟨rfl, hb5⟩; have H5 := box (hbl.out.trans (hb5.mono hbl.out.size)); clear hb5 cA))
              go_roundw
              case rel => exact ⟨j + 1, by go_num, hlt, H5⟩
              case measure => simp [intOf]; omega
    · have hji : ¬ (j : Int) < (n2 : Int) := by omega
      have B5 := box (B4.out.trans (hbl.out.mono B4.out.size))
      have F5 := box (F4.out.below hbl.out)
      go_wp2_with fail
      refine (mRespL_is S1 V1 F5 N1 HC1).mono ?_; rintro e w6 ⟨rfl, hb⟩
      have B6 := box (B5.out.trans (hb.mono B5.out.size))
      have F6 := box (F5.out.below hb)
      clear hb
      go_wp2_with fail
      refine (rRespL22_is S1 V1 F6 N1 HC1).mono ?_; rintro e w7 ⟨rfl, hb⟩
      have B7 := box (B6.out.trans (hb.mono B6.out.size))
      clear hb
      go_wp2_with fail
      refine (awake22_any _).mono ?_; rintro e w8 ⟨rfl, hb⟩
      have B8 := box (B7.out.trans (hb.mono B7.out.size))
      clear hb
      go_wp2
      go_ret
      exact ⟨rfl, B8.out⟩
theorem first22_walk (a b nm : ByteArray) (w : World) (S1 : a.size ≤ maxLen) (S2 : b.size ≤ maxLen) (S3 : nm.size ≤ maxLen) :
    Calls Try.prog 4 #[.string a, .string b, .string nm] w fun e w' => e = .returned (.bool true) ∧ Below w.heap.size w w' := by
  unfold maxLen at S1 S2 S3
  by_cases h1 : 200 < a.size
  · exact first22_size a b nm w S1 S2 S3 (.inl h1)
  · by_cases h2 : 200 < b.size
    · exact first22_size a b nm w S1 S2 S3 (.inr (.inl ⟨h1, h2⟩))
    · by_cases h3 : 50 < nm.size
      · exact first22_size a b nm w S1 S2 S3 (.inr (.inr ⟨h1, h2, h3⟩))
      · cases ht : tokL nm.data.toList with
        | false => exact first22_notok a b nm w (by omega) (by omega) (by omega) (box ht)
        | true =>
          by_cases hne : (splitL (a.data.toList ++ [44, 120])).length = (splitL a.data.toList).length + 1
          · exact first22_in a b nm w (by omega) (by omega) (by omega) (box ht) _ _ (box rfl) (box rfl) (split_len _) hne
          · exact first22_open a b nm w (by omega) (by omega) (by omega) (box ht) _ _ (box rfl) (box rfl) (split_len _) hne
end
section
def maU : List UInt8 := [77, 65, 88, 45, 65, 71, 69]
/-- the digits: zeros, then the number -/
def digS (z : Nat) (n : Int) : List UInt8 := List.replicate z 48 ++ decL n
theorem digS_all {z : Nat} {n : Int} (h : 0 ≤ n) : allI digitI (digS z n) = true := by
  have h1 : allI digitI (decL n) = true := by rw [decL, if_neg (by omega)]; exact decF_digits _ _ _ rfl
  unfold digS allI at *
  rw [List.all_append, h1, Bool.and_true, List.all_eq_true]
  intro c hc
  rw [List.eq_of_mem_replicate hc]; decide
theorem digS_ne {z : Nat} {n : Int} (h : 0 ≤ n) : digS z n ≠ [] := by
  have hne : decL n ≠ [] := by rw [decL, if_neg (by omega)]; exact decF_ne 19 _ _
  unfold digS
  intro e
  exact hne (List.append_eq_nil_iff.1 e).2
theorem val_zeros : ∀ (z : Nat) (l : List UInt8), valF 0 (List.replicate z 48 ++ l) = valF 0 l
  | 0, l => rfl
  | z + 1, l => by
    show valF (0 * 10 + (((48 : UInt8).toNat : Int) - 48)) (List.replicate z 48 ++ l) = _
    exact val_zeros z l
theorem digS_num {z : Nat} {n : Int} (h0 : 0 ≤ n) (h1 : n ≤ 9223372036854775807) : numL (digS z n) = some (min n 2147483647) := by
  have h2 := num_dec h0 h1
  have hd : allI digitI (decL n) = true := by rw [decL, if_neg (by omega)]; exact decF_digits _ _ _ rfl
  unfold numL at h2 ⊢
  rw [if_pos ⟨digS_all h0, digS_ne h0⟩]
  have hne : decL n ≠ [] := by rw [decL, if_neg (by omega)]; exact decF_ne 19 _ _
  rw [if_pos ⟨hd, hne⟩, numF_eq _ hd] at h2
  rw [numF_eq _ (digS_all h0)]
  unfold digS
  rw [val_zeros]
  exact h2
theorem dig_tok (c : UInt8) (h : digitI c.toNat = true) : tokI c.toNat = true ∧ c ≠ 34 ∧ c ≠ 92 ∧ textI c.toNat = true := by
  have key : ∀ n : Fin 256, digitI ((UInt8.ofNat n.1).toNat) = true → tokI ((UInt8.ofNat n.1).toNat) = true ∧ UInt8.ofNat n.1 ≠ 34 ∧ UInt8.ofNat n.1 ≠ 92 ∧ textI ((UInt8.ofNat n.1).toNat) = true := by decide +kernel
  have h2 := key ⟨c.toNat, c.toNat_lt⟩
  rw [UInt8.ofNat_toNat] at h2
  exact h2 h
theorem dig_byte {s : List UInt8} (hd : allI digitI s = true) : ∀ c ∈ s, digitI c.toNat = true := fun c hc => List.all_eq_true.mp hd c hc
theorem digs_text {s : List UInt8} (hd : allI digitI s = true) : textL s = true := by
  unfold textL allI
  rw [List.all_eq_true]
  intro c hc
  exact (dig_tok c (dig_byte hd c hc)).2.2.2
theorem digs_esc {s : List UInt8} (hd : allI digitI s = true) : escL s = s := by
  have key : ∀ l : List UInt8, (∀ c ∈ l, digitI c.toNat = true) → escL l = l := by
    intro l
    induction l with
    | nil => intro _; rfl
    | cons c r ih =>
      intro h
      have e : escL (c :: r) = escB c ++ escL r := rfl
      obtain ⟨_, h34, h92, _⟩ := dig_tok c (h c (by simp))
      have hc : ¬ (c = 34 ∨ c = 92) := fun q => q.elim h34 h92
      rw [e, ih (fun d hd => h d (by simp [hd]))]
      unfold escB; rw [if_neg hc]; rfl
  exact key s (dig_byte hd)
theorem arg_quo {s : List UInt8} (hd : allI digitI s = true) : argD (61 :: quoteL s) = some s := by
  show (if (61 : UInt8) = 61 then (if tokL (quoteL s) = true then some (quoteL s) else unqL (quoteL s)) else none) = _
  rw [if_pos rfl, if_neg (by rw [quote_tok]; simp), unq_quote_text (digs_text hd)]
theorem digs_tokL {s : List UInt8} (hd : allI digitI s = true) (hne : s ≠ []) : tokL s = true := by
  have hall : allI tokI s = true := by
    unfold allI
    rw [List.all_eq_true]
    intro c hc
    exact (dig_tok c (dig_byte hd c hc)).1
  unfold tokL
  rw [hall, Bool.and_true]
  cases s with
  | nil => exact absurd rfl hne
  | cons c r => rfl
theorem arg_tok {s : List UInt8} (hd : allI digitI s = true) (hne : s ≠ []) : argD (61 :: s) = some s := by
  show (if (61 : UInt8) = 61 then (if tokL s = true then some s else unqL s) else none) = _
  rw [if_pos rfl, if_pos (digs_tokL hd hne)]
theorem tok_member_trim {n s a b : List UInt8} (hn : tokL n = true) (hs : tokL s = true) (ha : ∀ c ∈ a, blankB c = true) (hb : ∀ c ∈ b, blankB c = true) : trimL (a ++ ((n ++ 61 :: s) ++ b)) = n ++ 61 :: s := by
  have hnb : ∀ c ∈ n ++ 61 :: s, blankB c = false := by
    intro c hc
    rcases List.mem_append.1 hc with q | q
    · exact (tok_not (tok_byte hn c q)).2.2.2.2
    · rcases List.mem_cons.1 q with q | q
      · subst q; decide
      · exact (tok_not (tok_byte hs c q)).2.2.2.2
  exact trim_char a _ b ha hb (fun c r h => hnb c (by rw [h]; simp)) (fun c r h => hnb c (by rw [h]; simp))
theorem tok_member_piece {n s : List UInt8} (hn : tokL n = true) (hs : tokL s = true) : Piece 44 (n ++ 61 :: s) :=
  piece_tok44 hn (Piece.cons (by decide) (by decide) (tok_piece44 hs))
theorem quo_member_piece {n t : List UInt8} (hn : tokL n = true) : Piece 44 (n ++ 61 :: quoteL t) := by
  have h := Piece.quote 44 t (Piece.nil 44)
  rw [List.append_nil] at h
  exact piece_tok44 hn (Piece.cons (by decide) (by decide) h)
def fourL22 (s : List UInt8) : List (List UInt8) := [maU ++ 61 :: s, smN ++ 61 :: quoteL s, mfN ++ 61 :: s, msN ++ 61 :: quoteL s]
theorem four_split {s : List UInt8} (hs : tokL s = true) :
    splitL ((maU ++ 61 :: s) ++ 44 :: ((32 :: (smN ++ 61 :: quoteL s)) ++ 44 :: ((32 :: (mfN ++ 61 :: s)) ++ 44 :: (32 :: (msN ++ 61 :: quoteL s))))) = fourL22 s := by
  have h1 : Piece 44 (maU ++ 61 :: s) := tok_member_piece (by decide) hs
  have h2 : Piece 44 (32 :: (smN ++ 61 :: quoteL s)) := Piece.cons (by decide) (by decide) (quo_member_piece (by decide))
  have h3 : Piece 44 (32 :: (mfN ++ 61 :: s)) := Piece.cons (by decide) (by decide) (tok_member_piece (by decide) hs)
  have h4 : Piece 44 (32 :: (msN ++ 61 :: quoteL s)) := Piece.cons (by decide) (by decide) (quo_member_piece (by decide))
  have hb : ∀ c ∈ [(32 : UInt8)], blankB c = true := by simp; decide
  have t1 : trimL (maU ++ 61 :: s) = maU ++ 61 :: s := by
    have := tok_member_trim (n := maU) (s := s) (a := []) (b := []) (by decide) hs (by simp) (by simp)
    rwa [List.nil_append, List.append_nil] at this
  have t2 : trimL (32 :: (smN ++ 61 :: quoteL s)) = smN ++ 61 :: quoteL s := by
    have := quote_trim (n := smN) (t := s) (a := [32]) (b := []) (by decide) hb (by simp)
    rwa [List.append_nil] at this
  have t3 : trimL (32 :: (mfN ++ 61 :: s)) = mfN ++ 61 :: s := by
    have := tok_member_trim (n := mfN) (s := s) (a := [32]) (b := []) (by decide) hs hb (by simp)
    rwa [List.append_nil] at this
  have t4 : trimL (32 :: (msN ++ 61 :: quoteL s)) = msN ++ 61 :: quoteL s := by
    have := quote_trim (n := msN) (t := s) (a := [32]) (b := []) (by decide) hb (by simp)
    rwa [List.append_nil] at this
  unfold splitL
  rw [cut_pieces sep44 _ h1, cut_pieces sep44 _ h2, cut_pieces sep44 _ h3, cut_piece h4]
  rw [memL_cons, memL_cons, memL_cons, memL_cons, t1, t2, t3, t4]
  rw [if_neg (by simp), if_neg (by simp), if_neg (by simp), if_neg (by simp)]
  rfl
theorem isD_eq {m n t : List UInt8} (h : namD m = t) : isD n m = (!t.isEmpty && foldL t n) := by unfold isD; rw [h]
theorem four_resp {s : List UInt8} {v : Int} (hd : allI digitI s = true) (hne : s ≠ []) (hv : numL s = some v) : respC (fourL22 s) = ⟨false, false, false, false, false, false, false, v, v, v, v⟩ := by
  have n1 := nam_eq (n := maU) (t := s) (by decide)
  have n2 := nam_eq (n := smN) (t := quoteL s) (by decide)
  have n3 := nam_eq (n := mfN) (t := s) (by decide)
  have n4 := nam_eq (n := msN) (t := quoteL s) (by decide)
  have k1 : ∀ bare bad, numD bare bad (61 :: s) = v := fun bare bad => by rw [argD_num (arg_tok hd hne) _ _ (by simp), hv]; rfl
  have k2 : ∀ bare bad, numD bare bad (61 :: quoteL s) = v := fun bare bad => by rw [argD_num (arg_quo hd) _ _ (by simp), hv]; rfl
  have none : ∀ n, foldL maU n = false → foldL smN n = false → foldL mfN n = false → foldL msN n = false → dirD n (fourL22 s) = none := fun n f1 f2 f3 f4 => by
    unfold dirD fourL22
    rw [List.find?_cons_of_neg (by rw [isD_eq n1.1, f1]; simp), List.find?_cons_of_neg (by rw [isD_eq n2.1, f2]; simp), List.find?_cons_of_neg (by rw [isD_eq n3.1, f3]; simp), List.find?_cons_of_neg (by rw [isD_eq n4.1, f4]; simp)]
    rfl
  have d1 : dirD maN (fourL22 s) = some (61 :: s) := by
    unfold dirD fourL22
    rw [List.find?_cons_of_pos (by rw [isD_eq n1.1]; decide)]
    show some (rstD _) = _
    rw [n1.2]
  have d2 : dirD smN (fourL22 s) = some (61 :: quoteL s) := by
    unfold dirD fourL22
    rw [List.find?_cons_of_neg (by rw [isD_eq n1.1]; decide), List.find?_cons_of_pos (by rw [isD_eq n2.1]; decide)]
    show some (rstD _) = _
    rw [n2.2]
  have d3 : dirD mfN (fourL22 s) = some (61 :: s) := by
    unfold dirD fourL22
    rw [List.find?_cons_of_neg (by rw [isD_eq n1.1]; decide), List.find?_cons_of_neg (by rw [isD_eq n2.1]; decide), List.find?_cons_of_pos (by rw [isD_eq n3.1]; decide)]
    show some (rstD _) = _
    rw [n3.2]
  have d4 : dirD msN (fourL22 s) = some (61 :: quoteL s) := by
    unfold dirD fourL22
    rw [List.find?_cons_of_neg (by rw [isD_eq n1.1]; decide), List.find?_cons_of_neg (by rw [isD_eq n2.1]; decide), List.find?_cons_of_neg (by rw [isD_eq n3.1]; decide), List.find?_cons_of_pos (by rw [isD_eq n4.1]; decide)]
    show some (rstD _) = _
    rw [n4.2]
  unfold respC ctl0 secD
  rw [d1, d2, d3, d4, none nsN (by decide) (by decide) (by decide) (by decide), none ncN (by decide) (by decide) (by decide) (by decide), none mrN (by decide) (by decide) (by decide) (by decide), none prN (by decide) (by decide) (by decide) (by decide), none pvN (by decide) (by decide) (by decide) (by decide), none pbN (by decide) (by decide) (by decide) (by decide), none ocN (by decide) (by decide) (by decide) (by decide)]
  simp only [secO, k1, k2]
  rfl
end
section
open Go.RowKit
def InI64 (n : Int) : Prop := -9223372036854775808 ≤ n ∧ n ≤ 9223372036854775807
end
end Go.Proofs.Ytlcojfkkeommoaa.Asc
