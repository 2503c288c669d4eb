/- The contracts of the reference's size and hexadecimal. -/
import Derived.Test.YthfhoacflkbhhaaChkRef
set_option linter.unusedVariables false
set_option linter.unusedSimpArgs false
namespace Go.Proofs.Ythfhoacflkbhhaa.Asc
open Go.RowKit

def szV : Option Nat → Value
  | some n => .tuple #[.int .i64 n, .bool true]
  | none => .tuple #[.int .i64 0, .bool false]
theorem hexN_snoc (l : List UInt8) (c : UInt8) : hexN (l ++ [c]) = hexN l * 16 + (hexI c.toNat).toNat := by
  unfold hexN; rw [List.foldl_append]; rfl
theorem hexN_lt (l : List UInt8) (h : ∀ c ∈ l, hexB c = true) : hexN l < 16 ^ l.length := by
  have key : ∀ (l : List UInt8) (a : Nat), (∀ c ∈ l, hexB c = true) → l.foldl (fun n c => n * 16 + (hexI c.toNat).toNat) a < (a + 1) * 16 ^ l.length := by
    intro l
    induction l with
    | nil => intro a _; simp
    | cons c l ih =>
      intro a h
      have h1 := ih (a * 16 + (hexI c.toNat).toNat) (fun x hx => h x (by simp [hx]))
      have h2 := hex_bd (h c (by simp))
      rw [List.foldl_cons, List.length_cons, Nat.pow_succ, Nat.mul_comm (16 ^ l.length) 16, ← Nat.mul_assoc]
      refine Nat.lt_of_lt_of_le h1 (Nat.mul_le_mul_right _ (by omega))
  have := key l 0 h
  simpa [hexN] using this
theorem hex_is {c : UInt8} {p : Int} {w : World} (h : Box (hexI c.toNat = p)) : Calls Try.prog 35 #[.int .u8 c.toNat] w fun e w' => e = .returned (.int .i64 p) ∧ w = w' :=
  (rHex_any c w).mono fun e w' ⟨h1, h2⟩ => ⟨by rw [h1, h.out], h2⟩
theorem rText_is {s : ByteArray} {b : Bool} {w : World} (hs : Box (s.size ≤ maxLen)) (h : Box (textL s.data.toList = b)) :
    Calls Try.prog 13 #[.string s] w fun e w' => e = .returned (.bool b) ∧ w = w' :=
  (rText_any s w hs.out).mono fun e w' ⟨h1, h2⟩ => ⟨by rw [h1, h.out], h2⟩
set_option maxHeartbeats 1000000 in
theorem rsize_any (s : ByteArray) (w : World) (hs : s.size ≤ 4000000) :
    Calls Try.prog 23 #[.string s] w fun e w' => e = .returned (szV (sizeL s.data.toList)) ∧ w = w' := by
  obtain ⟨t, ht⟩ : ∃ t, t = 0 + ((s.data.toList.drop 0).takeWhile hexB).length := ⟨_, rfl⟩
  obtain ⟨h1, h2, h3, h4, h5⟩ := while_at hexB s 0 (Nat.zero_le _) t ht
  rw [List.drop_zero] at ht h4 h5
  rw [Nat.sub_zero] at h4
  rw [Nat.zero_add] at ht
  have hz : s.data.toList.length = s.size := by simp
  have HY := box h2
  have HE0 : Box (sizeL s.data.toList = if (decide (1 ≤ t ∧ t ≤ 8) && ((s.data.toList.drop t).isEmpty || decide ((s.data.toList.drop t).head? = some 59)) && textL (s.data.toList.drop t)) = true then some (hexN (s.data.toList.take t)) else none) := box (by
    unfold sizeL sizeOk
    rw [h5, ← ht, h4])
  have HAL : Box (∀ c ∈ s.data.toList.take t, hexB c = true) := box (by rw [← h4]; exact fun c hc => List.all_eq_true.mp (List.all_takeWhile (p := hexB) (l := s.data.toList)) c hc)
  have HZT : Box ((s.extract t s.size).size ≤ maxLen) := box (by rw [ByteArray.size_extract]; unfold maxLen; omega)
  have HXT : Box ((s.extract t s.size).data.toList = s.data.toList.drop t) := box (by rw [ext_bs, List.take_of_length_le (by simp)]; rfl)
  clear h2 h4 h5 ht
  go_enter Try.func23, Try.ntmps23
  go_wp2
  go_loop [5] (fun i => ∃ k : Nat, k ≤ t ∧ i = .int .i64 k) (fun i => t - (intOf i).toNat)
  case atStart => exact ⟨0, Nat.zero_le _, rfl⟩
  case round =>
    obtain ⟨k, hk2, rfl⟩ := hrel
    by_cases hlt : k < t
    · have hks : k < s.size := by omega
      have hki : (k : Int) < (s.size : Int) := by omega
      have hb := HY.out k (Nat.zero_le _) hlt hks
      obtain ⟨p, hp⟩ : ∃ p, hexI (s[k].toNat) = p := ⟨_, rfl⟩
      have hbd := hex_bd hb
      rw [hp] at hbd
      have HP := box hp
      have hp0 : (0 : Int) ≤ p := hbd.1
      clear hb hp hbd
      go_wp2_with fail
      refine (hex_is HP).mono ?_; rintro e w1 ⟨rfl, rfl⟩
      go_wp2
      go_round
      case rel => exact ⟨k + 1, by omega, by go_num⟩
      case measure => simp [intOf]; omega
    · obtain rfl : k = t := by omega
      clear hlt hk2
      -- the loop's test says no
      have hstop : ¬ k < s.size ∨ ∃ h : k < s.size, ∃ p : Int, Box (hexI (s[k].toNat) = p) ∧ p < 0 := by
        by_cases hks : k < s.size
        · right
          refine ⟨hks, _, box rfl, ?_⟩
          have := h3 hks
          unfold hexB at this
          simpa using this
        · exact .inl hks
      clear h3
      by_cases hlow : k < 1
      · have HE : Box (sizeL s.data.toList = none) := box (by
          rw [HE0.out, if_neg]
          simp; omega)
        have hli : (k : Int) < 1 := by omega
        rcases hstop with hks | ⟨hks, p, HP, hp0⟩
        · have hki : ¬ (k : Int) < (s.size : Int) := by omega
          go_wp2
          go_ret2
          exact ⟨by rw [HE.out]; rfl, rfl⟩
        · have hki : (k : Int) < (s.size : Int) := by omega
          go_wp2_with fail
          refine (hex_is HP).mono ?_; rintro e w1 ⟨rfl, rfl⟩
          go_wp2
          go_ret2
          exact ⟨by rw [HE.out]; rfl, rfl⟩
      · by_cases hhigh : 8 < k
        · have HE : Box (sizeL s.data.toList = none) := box (by
            rw [HE0.out, if_neg]
            simp; omega)
          have hli : ¬ (k : Int) < 1 := by omega
          have hhi : (8 : Int) < (k : Int) := by omega
          rcases hstop with hks | ⟨hks, p, HP, hp0⟩
          · have hki : ¬ (k : Int) < (s.size : Int) := by omega
            go_wp2
            go_ret2
            exact ⟨by rw [HE.out]; rfl, rfl⟩
          · have hki : (k : Int) < (s.size : Int) := by omega
            go_wp2_with fail
            refine (hex_is HP).mono ?_; rintro e w1 ⟨rfl, rfl⟩
            go_wp2
            go_ret2
            exact ⟨by rw [HE.out]; rfl, rfl⟩
        · have hli : ¬ (k : Int) < 1 := by omega
          have hhi : ¬ (8 : Int) < (k : Int) := by omega
          have hdk : decide (1 ≤ k ∧ k ≤ 8) = true := by rw [decide_eq_true_eq]; omega
          rw [hdk, Bool.true_and] at HE0
          obtain ⟨tx, htx⟩ : ∃ tx, textL (s.data.toList.drop k) = tx := ⟨_, rfl⟩
          rw [htx] at HE0
          have HT : Box (textL (s.extract k s.size).data.toList = tx) := box (by rw [HXT.out]; exact htx)
          clear htx
          have hk8 : k ≤ 8 := by omega
          -- what the second loop does
          have fin : ∀ (wx : World), True := fun _ => trivial
          clear fin
          rcases hstop with hks | ⟨hks, p, HP, hp0⟩
          · have hki : ¬ (k : Int) < (s.size : Int) := by omega
            have hkl : (k : Int) ≤ (s.size : Int) := by omega
            have hem : (s.data.toList.drop k).isEmpty = true := by rw [List.drop_of_length_le (by omega)]; rfl
            rw [hem, Bool.true_or, Bool.true_and] at HE0
            clear hem
            rcases tx with _ | _
            · have HE : Box (sizeL s.data.toList = none) := box HE0.out
              go_wp2_with fail
              refine (rText_is HZT HT).mono ?_; rintro e w1 ⟨rfl, rfl⟩
              go_wp2
              go_ret2
              exact ⟨by rw [HE.out]; rfl, rfl⟩
            · have HE : Box (sizeL s.data.toList = some (hexN (s.data.toList.take k))) := box HE0.out
              go_wp2_with fail
              refine (rText_is HZT HT).mono ?_; rintro e w1 ⟨rfl, rfl⟩
              go_wp2
              go_loop [4, 6] (fun v i => ∃ j : Nat, j ≤ k ∧ i = .int .i64 j ∧ v = .int .i64 (hexN (s.data.toList.take j))) (fun _ i => k - (intOf i).toNat)
              case atStart => exact ⟨0, Nat.zero_le _, rfl, rfl⟩
              case round =>
                obtain ⟨j, hj, rfl, rfl⟩ := hrel
                by_cases hlt : j < k
                · have hjs : j < s.size := by omega
                  have hjsi : (j : Int) < (s.size : Int) := by omega
                  have hjk : (j : Int) < (k : Int) := by omega
                  obtain ⟨p2, hp2⟩ : ∃ p2, hexI (s[j].toNat) = p2 := ⟨_, rfl⟩
                  obtain ⟨a, ha⟩ : ∃ a, hexN (s.data.toList.take j) = a := ⟨_, rfl⟩
                  have hb := hex_bd (HY.out j (Nat.zero_le _) hlt hjs)
                  rw [hp2] at hb
                  have ha16 : a < 16 ^ 8 := by
                    have h1 := hexN_lt (s.data.toList.take j) (fun c hc => HAL.out c (by
                      have : s.data.toList.take j = (s.data.toList.take k).take j := by rw [List.take_take]; congr 1; omega
                      rw [this] at hc
                      exact List.mem_of_mem_take hc))
                    rw [ha] at h1
                    exact Nat.lt_of_lt_of_le h1 (Nat.pow_le_pow_right (by omega) (by rw [List.length_take]; omega))
                  have ha2 : (a : Int) ≤ 4294967296 := by
                    have : (16 : Nat) ^ 8 = 4294967296 := by decide
                    omega
                  have HN2 : Box ((hexN (s.data.toList.take (j + 1)) : Int) = (a : Int) * 16 + p2) := box (by
                    rw [take_snoc s j hjs, hexN_snoc, ha, hp2]; omega)
                  have HP2 := box hp2
                  have HA := box ha
                  obtain ⟨b1, b2⟩ := hb
                  have ha0 : (0 : Int) ≤ (a : Int) := by omega
                  clear ha16 hp2
                  rw [HA.out]
                  clear ha
                  go_wp2_with fail
                  refine (hex_is HP2).mono ?_; rintro e w1 ⟨rfl, rfl⟩
                  go_wp2
                  go_round
                  case rel => exact ⟨j + 1, by omega, by go_num, by rw [HN2.out]⟩
                  case measure => simp [intOf]; omega
                · obtain rfl : j = k := by omega
                  clear hlt
                  go_wp2
                  go_ret2
                  exact ⟨by rw [HE.out]; rfl, rfl⟩
          · have hki : (k : Int) < (s.size : Int) := by omega
            have hkl : (k : Int) ≤ (s.size : Int) := by omega
            have hdc := drop_cons s k hks
            rw [hdc] at HE0
            clear hdc
            rcases h59 : ((s[k].toNat : Int) != 59) with _ | _
            · have e59 : s[k] = 59 := byte_eq (n := 59) (by simpa using h59) (by omega)
              have HE1 : Box (sizeL s.data.toList = if tx = true then some (hexN (s.data.toList.take k)) else none) := box (by
                rw [HE0.out, e59]; simp)
              clear HE0 e59
              rcases tx with _ | _
              · have HE : Box (sizeL s.data.toList = none) := box HE1.out
                go_wp2_with fail
                refine (hex_is HP).mono ?_; rintro e w1 ⟨rfl, rfl⟩
                go_wp2_with fail
                refine (rText_is HZT HT).mono ?_; rintro e w1 ⟨rfl, rfl⟩
                go_wp2
                go_ret2
                exact ⟨by rw [HE.out]; rfl, rfl⟩
              · have HE : Box (sizeL s.data.toList = some (hexN (s.data.toList.take k))) := box HE1.out
                go_wp2_with fail
                refine (hex_is HP).mono ?_; rintro e w1 ⟨rfl, rfl⟩
                go_wp2_with fail
                refine (rText_is HZT HT).mono ?_; rintro e w1 ⟨rfl, rfl⟩
                go_wp2
                go_loop [4, 6] (fun v i => ∃ j : Nat, j ≤ k ∧ i = .int .i64 j ∧ v = .int .i64 (hexN (s.data.toList.take j))) (fun _ i => k - (intOf i).toNat)
                case atStart => exact ⟨0, Nat.zero_le _, rfl, rfl⟩
                case round =>
                  obtain ⟨j, hj, rfl, rfl⟩ := hrel
                  by_cases hlt : j < k
                  · have hjs : j < s.size := by omega
                    have hjsi : (j : Int) < (s.size : Int) := by omega
                    have hjk : (j : Int) < (k : Int) := by omega
                    obtain ⟨p2, hp2⟩ : ∃ p2, hexI (s[j].toNat) = p2 := ⟨_, rfl⟩
                    obtain ⟨a, ha⟩ : ∃ a, hexN (s.data.toList.take j) = a := ⟨_, rfl⟩
                    have hb := hex_bd (HY.out j (Nat.zero_le _) hlt hjs)
                    rw [hp2] at hb
                    have ha16 : a < 16 ^ 8 := by
                      have h1 := hexN_lt (s.data.toList.take j) (fun c hc => HAL.out c (by
                        have : s.data.toList.take j = (s.data.toList.take k).take j := by rw [List.take_take]; congr 1; omega
                        rw [this] at hc
                        exact List.mem_of_mem_take hc))
                      rw [ha] at h1
                      exact Nat.lt_of_lt_of_le h1 (Nat.pow_le_pow_right (by omega) (by rw [List.length_take]; omega))
                    have ha2 : (a : Int) ≤ 4294967296 := by
                      have : (16 : Nat) ^ 8 = 4294967296 := by decide
                      omega
                    have HN2 : Box ((hexN (s.data.toList.take (j + 1)) : Int) = (a : Int) * 16 + p2) := box (by
                      rw [take_snoc s j hjs, hexN_snoc, ha, hp2]; omega)
                    have HP2 := box hp2
                    have HA := box ha
                    obtain ⟨b1, b2⟩ := hb
                    have ha0 : (0 : Int) ≤ (a : Int) := by omega
                    clear ha16 hp2
                    rw [HA.out]
                    clear ha
                    go_wp2_with fail
                    refine (hex_is HP2).mono ?_; rintro e w1 ⟨rfl, rfl⟩
                    go_wp2
                    go_round
                    case rel => exact ⟨j + 1, by omega, by go_num, by rw [HN2.out]⟩
                    case measure => simp [intOf]; omega
                  · obtain rfl : j = k := by omega
                    clear hlt
                    go_wp2
                    go_ret2
                    exact ⟨by rw [HE.out]; rfl, rfl⟩
            · have e59 : s[k] ≠ 59 := by intro e; rw [e] at h59; simp at h59
              have HE : Box (sizeL s.data.toList = none) := box (by
                rw [HE0.out, if_neg]
                simp [e59])
              clear HE0 e59
              go_wp2_with fail
              refine (hex_is HP).mono ?_; rintro e w1 ⟨rfl, rfl⟩
              go_wp2
              go_ret2
              exact ⟨by rw [HE.out]; rfl, rfl⟩

def lowS : ByteArray := ⟨#[48, 49, 50, 51, 52, 53, 54, 55, 56, 57, 97, 98, 99, 100, 101, 102]⟩
theorem lowS_at : ∀ k : Fin 16, lowS.extract k.1 (k.1 + 1) = bs [lowD.getD k.1 0] := by decide +kernel
set_option maxHeartbeats 1000000 in
theorem rhex_any (n : Nat) (w : World) (hn : n ≤ 4000000) :
    Calls Try.prog 26 #[.int .i64 n] w fun e w' => e = .returned (.string (bs (hexL n))) ∧ w = w' := by
  go_enter Try.func26, Try.ntmps26
  go_wp2
  go_loop [0, 3] (fun i v => ∃ (m f : Nat) (acc : ByteArray), i = .int .i64 m ∧ v = .string acc ∧ m ≤ f ∧ m + acc.size ≤ n ∧ hexL n = hexF f m acc.data.toList) (fun i _ => (intOf i).toNat)
  case atStart => exact ⟨n, n, ⟨#[]⟩, rfl, rfl, Nat.le_refl _, Nat.le_refl _, rfl⟩
  case round =>
    obtain ⟨m, f, acc, rfl, rfl, hmf, hma, hE⟩ := hrel
    have HE := box hE
    clear hE
    by_cases hm : m = 0
    · subst hm
      have HF : Box (hexL n = acc.data.toList) := box (by
        rw [HE.out]
        cases f <;> simp [hexF])
      have hmi : ¬ (0 : Int) < ((0 : Nat) : Int) := by omega
      go_wp2
      go_ret
      exact ⟨ret_str (by rw [HF.out]; rfl), rfl⟩
    · obtain ⟨d, hd⟩ : ∃ d, m % 16 = d := ⟨_, rfl⟩
      obtain ⟨q, hq⟩ : ∃ q, m / 16 = q := ⟨_, rfl⟩
      have hd16 : d < 16 := by omega
      have hmi : (0 : Int) < (m : Int) := by omega
      have e1 : (m : Int) % 16 = (d : Int) := by omega
      have e2 : (m : Int) / 16 = (q : Int) := by omega
      have d1 : (d : Int) + 1 ≤ 16 := by omega
      have hacc : acc.size ≤ 4000000 := by omega
      have hqm : q < m := by omega
      have hx := lowS_at ⟨d, hd16⟩
      obtain ⟨f', rfl⟩ : ∃ f', f = f' + 1 := ⟨f - 1, by omega⟩
      have HF : Box (hexL n = hexF f' q ((bs [lowD.getD d 0] ++ acc).data.toList)) := box (by
        rw [HE.out]
        conv => lhs; unfold hexF
        rw [if_neg hm, hd, hq]
        congr 1 <;> simp [ByteArray.data_append, bs])
      have HX := box hx
      have hb1 : (bs [lowD.getD d 0]).size = 1 := rfl
      have hsz : m / 16 + (1 + acc.size) ≤ n := by omega
      rw [hq] at hsz
      clear hx hd hq
      go_wp2
      rw [show (⟨#[48, 49, 50, 51, 52, 53, 54, 55, 56, 57, 97, 98, 99, 100, 101, 102]⟩ : ByteArray).extract d (d + 1) = bs [lowD.getD d 0] from HX.out]
      go_round
      case rel => exact ⟨q, f', _, rfl, rfl, by omega, by rw [ByteArray.size_append, hb1]; exact hsz, HF.out⟩
      case measure => simp [intOf]; omega

end Go.Proofs.Ythfhoacflkbhhaa.Asc
