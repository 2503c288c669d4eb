/- The contracts of package chunk's Encode and appendHex. -/
import Derived.Test.YthfhoacflkbhhaaChkMDec
import Derived.Test.YthfhoacflkbhhaaChkRef4
set_option linter.unusedVariables false
set_option linter.unusedSimpArgs false
namespace Go.Proofs.Ythfhoacflkbhhaa.Asc
open Go.RowKit

theorem hexF_acc : ∀ (f n : Nat) (acc : List UInt8), hexF f n acc = hexF f n [] ++ acc
  | 0, n, acc => rfl
  | f + 1, n, acc => by
    unfold hexF
    split
    · rfl
    · rw [hexF_acc f (n / 16) (lowD.getD (n % 16) 0 :: acc), hexF_acc f (n / 16) [lowD.getD (n % 16) 0], List.append_assoc]; rfl
theorem hexF_fuel : ∀ (f g n : Nat) (acc : List UInt8), n ≤ f → n ≤ g → hexF f n acc = hexF g n acc
  | 0, g, n, acc, h1, h2 => by
    have : n = 0 := by omega
    subst this
    cases g <;> simp [hexF]
  | f + 1, 0, n, acc, h1, h2 => by
    have : n = 0 := by omega
    subst this; simp [hexF]
  | f + 1, g + 1, n, acc, h1, h2 => by
    unfold hexF
    split
    · rfl
    · exact hexF_fuel f g (n / 16) _ (by omega) (by omega)
theorem hexL_step {n : Nat} (h : 16 ≤ n) : hexL n = hexL (n / 16) ++ [lowD.getD (n % 16) 0] := by
  obtain ⟨m, rfl⟩ : ∃ m, n = m + 1 := ⟨n - 1, by omega⟩
  unfold hexL
  conv => lhs; unfold hexF
  rw [if_neg (by omega), hexF_acc, hexF_fuel m ((m + 1) / 16) _ _ (by omega) (Nat.le_refl _)]
theorem hexL_one {n : Nat} (h0 : 1 ≤ n) (h : n < 16) : hexL n = [lowD.getD (n % 16) 0] := by
  obtain ⟨m, rfl⟩ : ∃ m, n = m + 1 := ⟨n - 1, by omega⟩
  unfold hexL
  conv => lhs; unfold hexF
  rw [if_neg (by omega)]
  have e : (m + 1) / 16 = 0 := by omega
  rw [e]
  cases m <;> simp [hexF]
theorem lowHex_at : ∀ k : Fin 16, lowHex[k.1]'(k.2) = lowD.getD k.1 0 := by decide +kernel
set_option maxHeartbeats 1000000 in
theorem cHex_any : ∀ (m n : Nat) (w : World) (B : Nat) (v : Value) (acc : List UInt8), n ≤ m → 1 ≤ n → n ≤ 100000 → B ≤ w.heap.size → Box (Own w B v acc) → acc.length ≤ 4000000 →
    Calls Try.prog 25 #[v, .int .i64 n] w (OwnRet B (acc ++ hexL n) w)
  | 0, n, w, B, v, acc, hm, h1, hn, hB, O, hl => by omega
  | m + 1, n, w, B, v, acc, hm, h1, hn, hB, O, hl => by
    obtain ⟨d, hd⟩ : ∃ d, n % 16 = d := ⟨_, rfl⟩
    have hd16 : d < 16 := by omega
    have e1 : (n : Int) % 16 = (d : Int) := by omega
    have hdi : (d : Int) < 16 := by omega
    have hat := lowHex_at ⟨d, hd16⟩
    by_cases h16 : 16 ≤ n
    · obtain ⟨q, hq⟩ : ∃ q, n / 16 = q := ⟨_, rfl⟩
      have e2 : (n : Int) / 16 = (q : Int) := by omega
      have hq1 : 1 ≤ q := by omega
      have hqm : q ≤ m := by omega
      have hqn : q ≤ 100000 := by omega
      have hni : (16 : Int) ≤ (n : Int) := by omega
      have HX : Box (acc ++ hexL n = acc ++ hexL q ++ [lowHex[d]'hd16]) := box (by rw [hexL_step h16, hq, hd, hat, List.append_assoc])
      have hlq : (acc ++ hexL q).length ≤ 4000006 := by
        have := hexL_le (n := q) (by omega)
        rw [List.length_append]; omega
      clear hd hq hat
      go_enter Try.func25, Try.ntmps25
      go_wp2_with fail
      refine (cHex_any m q _ B v acc hqm hq1 hqn hB O hl).mono ?_; rintro e w1 ⟨v1, rfl, hO1, hb1⟩
      have O1 := box hO1
      have B1 := box hb1
      have hB1 : B ≤ w1.heap.size := Nat.le_trans hB hb1.size
      clear hO1 hb1
      go_wp2_with (at_builtin; refine wpList_append_byte _ rfl (.tmp 11) (.tmp 15) rfl B _ (acc ++ hexL q) rfl (Own.alloc O1.out _) _ rfl _ (lowHex[d]'hd16) rfl (cell_new _ _ _ _ rfl) (by omega) (Nat.le_trans hB1 (size_more _ _)) ?_; intro v' w3 hO3 hb3; have O3 := box hO3; have B3 := box ((B1.out.alloc hB1 _).trans hb3); clear hO3 hb3)
      go_ret
      exact ⟨_, rfl, by rw [HX.out]; exact O3.out, B3.out⟩
    · have hni : ¬ (16 : Int) ≤ (n : Int) := by omega
      have HX : Box (acc ++ hexL n = acc ++ [lowHex[d]'hd16]) := box (by rw [hexL_one h1 (by omega), hd, hat])
      clear hd hat
      go_enter Try.func25, Try.ntmps25
      go_wp2_with (at_builtin; refine wpList_append_byte _ rfl (.tmp 11) (.tmp 15) rfl B _ acc rfl (Own.alloc O.out _) _ rfl _ (lowHex[d]'hd16) rfl (cell_new _ _ _ _ rfl) (by omega) (Nat.le_trans hB (size_more _ _)) ?_; intro v' w3 hO3 hb3; have O3 := box hO3; have B3 := box (((Below.refl B w).alloc hB _).trans hb3); clear hO3 hb3)
      go_ret
      exact ⟨_, rfl, by rw [HX.out]; exact O3.out, B3.out⟩

theorem enc_next {z g n : Nat} {rest D R : ByteArray} {out : List UInt8} (hne : rest.data.toList ≠ []) (hn : min z rest.data.toList.length = n) (hD : D.data.toList = rest.data.toList.take n) (hR : R.data.toList = rest.data.toList.drop n) :
    out ++ encF (g + 1) z rest.data.toList = out ++ hexL n ++ (⟨#[13, 10]⟩ : ByteArray).data.toList ++ D.data.toList ++ (⟨#[13, 10]⟩ : ByteArray).data.toList ++ encF g z R.data.toList := by
  rw [enc_step hne, hn, hD, hR]
  have hl : (rest.data.toList.take n).length = n := by rw [List.length_take]; omega
  unfold chunkT
  rw [hl]
  simp
def EncR (b : ByteArray) (w : World) (z : Nat) (v i : Value) (wr : World) : Prop := ∃ (g : Nat) (rest : ByteArray) (out : List UInt8), i = .string rest ∧ Own wr w.heap.size v out ∧ rest.size ≤ g ∧ out.length + 13 * rest.size ≤ 13 * b.size ∧ encF b.size z b.data.toList = out ++ encF g z rest.data.toList ∧ Below w.heap.size w wr
set_option maxRecDepth 100000 in
set_option maxHeartbeats 2000000 in
theorem cEnc_loop (b : ByteArray) (zi : Int) (z : Nat) (w : World) (hs : b.size ≤ 100000) (hz1 : 1 ≤ z ∨ b.size = 0) (HZ : Box ((if zi < 1 then b.data.toList.length else zi.toNat) = z)) (hzi : (zi < 1 ∧ z = b.size) ∨ (¬ zi < 1 ∧ zi = z)) :
    Calls Try.prog 11 #[.string b, .int .i64 zi] w fun e w' => e = .returned (.string (bs (encodeL b.data.toList zi))) ∧ Below w.heap.size w w' := by
  have hbl : b.data.toList.length = b.size := by simp
  have HEN : Box (encodeL b.data.toList zi = encF b.size z b.data.toList ++ endT) := box (by unfold encodeL; rw [HZ.out, hbl])
  rcases hzi with ⟨hzi, rfl⟩ | ⟨hzi, rfl⟩
  all_goals
    go_enter Try.func11, Try.ntmps11
    go_wp2
  · go_loopw [5, 6] (fun v i wr => EncR b w b.size v i wr) (fun _ i _ => strSize3 i)
    case atStart => exact ⟨b.size, b, [], rfl, Own.nil _ _, Nat.le_refl _, by simp, rfl, Below.refl _ _⟩
    case round =>
      obtain ⟨g, rest, out, rfl, hO, hg, hso, hE, hbel⟩ := hrel
      have HE := box hE
      have BL := box hbel
      have O0 := box hO
      have hB0 : w.heap.size ≤ wr.heap.size := hbel.size
      have hrl : rest.data.toList.length = rest.size := by simp
      clear hE hbel hO
      rcases hem : rest.toList.isEmpty with _ | _
      · have hne : rest.data.toList ≠ [] := ne_of_empty hem
        have hpos : 0 < rest.size := by rw [← hrl]; exact List.length_pos_iff.mpr hne
        obtain ⟨g', rfl⟩ : ∃ g', g = g' + 1 := ⟨g - 1, by omega⟩
        by_cases hle : b.size ≤ rest.size
        · skip
          have hlei : (b.size : Int) ≤ (rest.size : Int) := by omega
          have hmin : min (b.size : Int) (rest.size : Int) = (b.size : Int) := by omega
          have hmn : min b.size rest.data.toList.length = b.size := by omega
          have hn1 : 1 ≤ b.size := by omega
          have hnz : b.size ≤ rest.size := by omega
          have hn5 : b.size ≤ 100000 := by omega
          have hD : (rest.extract 0 (b.size)).data.toList = rest.data.toList.take (b.size) := by rw [ext_bs, List.drop_zero]; rfl
          have hR : (rest.extract (b.size) rest.size).data.toList = rest.data.toList.drop (b.size) := by rw [ext_bs, List.take_of_length_le (by omega)]; rfl
          have hx6 := hexL_le (n := b.size) (by omega)
          have hDl : (rest.extract 0 (b.size)).data.toList.length = b.size := by have q := congrArg List.length hD; rw [List.length_take] at q; omega
          have hDz : (rest.extract 0 (b.size)).size = b.size := (size_list _).symm.trans hDl
          have hRz : (rest.extract (b.size) rest.size).size = rest.size - b.size := by have q := congrArg List.length hR; rw [List.length_drop, size_list, hrl] at q; exact q
          have HN := box (HE.out.trans (enc_next (out := out) hne hmn hD hR))
          have HRG : Box ((rest.extract (b.size) rest.size).size ≤ g') := box (by rw [hRz]; omega)
          have e2 : (⟨#[13, 10]⟩ : ByteArray).size = 2 := rfl
          have e3 : (⟨#[13, 10]⟩ : ByteArray).data.toList.length = 2 := rfl
          have HL1 : Box ((out ++ hexL (b.size)).length + (⟨#[13, 10]⟩ : ByteArray).size < 8589934592) := box (by rw [List.length_append]; omega)
          have HL2 : Box ((out ++ hexL (b.size) ++ (⟨#[13, 10]⟩ : ByteArray).data.toList).length + (rest.extract 0 (b.size)).size < 8589934592) := box (by rw [List.length_append, List.length_append]; omega)
          have HL3 : Box ((out ++ hexL (b.size) ++ (⟨#[13, 10]⟩ : ByteArray).data.toList ++ (rest.extract 0 (b.size)).data.toList).length + (⟨#[13, 10]⟩ : ByteArray).size < 8589934592) := box (by rw [List.length_append, List.length_append, List.length_append, hDl]; omega)
          have HL4 : Box ((out ++ hexL (b.size) ++ (⟨#[13, 10]⟩ : ByteArray).data.toList ++ (rest.extract 0 (b.size)).data.toList ++ (⟨#[13, 10]⟩ : ByteArray).data.toList).length + 13 * (rest.extract (b.size) rest.size).size ≤ 13 * b.size) := box (by rw [List.length_append, List.length_append, List.length_append, List.length_append, hDl, hRz]; omega)
          have HMS : Box ((rest.extract (b.size) rest.size).size < rest.size) := box (by rw [hRz]; omega)
          have hout : out.length ≤ 4000000 := by omega
          clear hD hR hx6 hDz hDl hRz e2 e3 hne hmn hrl
          go_wp2_with fail
          refine (cHex_any b.size b.size _ w.heap.size _ out (Nat.le_refl _) hn1 hn5 hB0 O0 hout).mono ?_; rintro e w1 ⟨v1, rfl, hO1, hb1⟩
          have O1 := box hO1
          have B1 := box (BL.out.trans hb1)
          have hB1 : w.heap.size ≤ w1.heap.size := Nat.le_trans hB0 hb1.size
          clear hO1 hb1
          go_wp2_with (at_builtin; first | (refine wpList_append_sb _ rfl (.tmp 29) (.const (.string ⟨#[13, 10]⟩)) rfl w.heap.size _ (out ++ hexL (b.size)) rfl O1.out ⟨#[13, 10]⟩ rfl HL1.out hB1 ?_; intro v2 w2 hO2 hb2; have O2 := box hO2; have B2 := box (B1.out.trans hb2); have hB2 : w.heap.size ≤ w2.heap.size := Nat.le_trans hB1 hb2.size; clear hO2 hb2) | (refine wpList_append_sb _ rfl (.tmp 31) (.tmp 32) rfl w.heap.size _ _ rfl O2.out (rest.extract 0 (b.size)) rfl HL2.out hB2 ?_; intro v3 w3 hO3 hb3; have O3 := box hO3; have B3 := box (B2.out.trans hb3); have hB3 : w.heap.size ≤ w3.heap.size := Nat.le_trans hB2 hb3.size; clear hO3 hb3) | (refine wpList_append_sb _ rfl (.tmp 34) (.const (.string ⟨#[13, 10]⟩)) rfl w.heap.size _ _ rfl O3.out ⟨#[13, 10]⟩ rfl HL3.out hB3 ?_; intro v4 w4 hO4 hb4; have O4 := box hO4; have B4 := box (B3.out.trans hb4); clear hO4 hb4))
          go_roundw
          case rel => exact ⟨g', rest.extract (b.size) rest.size, _, rfl, O4.out, HRG.out, HL4.out, HN.out, B4.out⟩
          case measure => simpa [strSize3] using HMS.out
        · skip
          have hlei : (rest.size : Int) < (b.size : Int) := by omega
          have hmin : min (b.size : Int) (rest.size : Int) = (rest.size : Int) := by omega
          have hmn : min b.size rest.data.toList.length = rest.size := by omega
          have hn1 : 1 ≤ rest.size := by omega
          have hnz : rest.size ≤ rest.size := by omega
          have hn5 : rest.size ≤ 100000 := by omega
          have hD : (rest).data.toList = rest.data.toList.take (rest.size) := by rw [List.take_of_length_le (by omega)]
          have hR : (ByteArray.empty).data.toList = rest.data.toList.drop (rest.size) := by rw [List.drop_of_length_le (by omega)]; rfl
          have hx6 := hexL_le (n := rest.size) (by omega)
          have hDl : (rest).data.toList.length = rest.size := by have q := congrArg List.length hD; rw [List.length_take] at q; omega
          have hDz : (rest).size = rest.size := (size_list _).symm.trans hDl
          have hRz : (ByteArray.empty).size = rest.size - rest.size := by have q := congrArg List.length hR; rw [List.length_drop, size_list, hrl] at q; exact q
          have HN := box (HE.out.trans (enc_next (out := out) hne hmn hD hR))
          have HRG : Box ((ByteArray.empty).size ≤ g') := box (by rw [hRz]; omega)
          have e2 : (⟨#[13, 10]⟩ : ByteArray).size = 2 := rfl
          have e3 : (⟨#[13, 10]⟩ : ByteArray).data.toList.length = 2 := rfl
          have HL1 : Box ((out ++ hexL (rest.size)).length + (⟨#[13, 10]⟩ : ByteArray).size < 8589934592) := box (by rw [List.length_append]; omega)
          have HL2 : Box ((out ++ hexL (rest.size) ++ (⟨#[13, 10]⟩ : ByteArray).data.toList).length + (rest).size < 8589934592) := box (by rw [List.length_append, List.length_append]; omega)
          have HL3 : Box ((out ++ hexL (rest.size) ++ (⟨#[13, 10]⟩ : ByteArray).data.toList ++ (rest).data.toList).length + (⟨#[13, 10]⟩ : ByteArray).size < 8589934592) := box (by rw [List.length_append, List.length_append, List.length_append, hDl]; omega)
          have HL4 : Box ((out ++ hexL (rest.size) ++ (⟨#[13, 10]⟩ : ByteArray).data.toList ++ (rest).data.toList ++ (⟨#[13, 10]⟩ : ByteArray).data.toList).length + 13 * (ByteArray.empty).size ≤ 13 * b.size) := box (by rw [List.length_append, List.length_append, List.length_append, List.length_append, hDl, hRz]; omega)
          have HMS : Box ((ByteArray.empty).size < rest.size) := box (by rw [hRz]; omega)
          have hout : out.length ≤ 4000000 := by omega
          clear hD hR hx6 hDz hDl hRz e2 e3 hne hmn hrl
          go_wp2_with fail
          refine (cHex_any rest.size rest.size _ w.heap.size _ out (Nat.le_refl _) hn1 hn5 hB0 O0 hout).mono ?_; rintro e w1 ⟨v1, rfl, hO1, hb1⟩
          have O1 := box hO1
          have B1 := box (BL.out.trans hb1)
          have hB1 : w.heap.size ≤ w1.heap.size := Nat.le_trans hB0 hb1.size
          clear hO1 hb1
          go_wp2_with (at_builtin; first | (refine wpList_append_sb _ rfl (.tmp 29) (.const (.string ⟨#[13, 10]⟩)) rfl w.heap.size _ (out ++ hexL (rest.size)) rfl O1.out ⟨#[13, 10]⟩ rfl HL1.out hB1 ?_; intro v2 w2 hO2 hb2; have O2 := box hO2; have B2 := box (B1.out.trans hb2); have hB2 : w.heap.size ≤ w2.heap.size := Nat.le_trans hB1 hb2.size; clear hO2 hb2) | (refine wpList_append_sb _ rfl (.tmp 31) (.tmp 32) rfl w.heap.size _ _ rfl O2.out (rest) rfl HL2.out hB2 ?_; intro v3 w3 hO3 hb3; have O3 := box hO3; have B3 := box (B2.out.trans hb3); have hB3 : w.heap.size ≤ w3.heap.size := Nat.le_trans hB2 hb3.size; clear hO3 hb3) | (refine wpList_append_sb _ rfl (.tmp 34) (.const (.string ⟨#[13, 10]⟩)) rfl w.heap.size _ _ rfl O3.out ⟨#[13, 10]⟩ rfl HL3.out hB3 ?_; intro v4 w4 hO4 hb4; have O4 := box hO4; have B4 := box (B3.out.trans hb4); clear hO4 hb4))
          go_roundw
          case rel => exact ⟨g', ByteArray.empty, _, rfl, O4.out, HRG.out, HL4.out, HN.out, B4.out⟩
          case measure => simpa [strSize3] using HMS.out
      · have hnil : rest.data.toList = [] := nil_of_empty hem
        have HF : Box (encodeL b.data.toList zi = out ++ endT) := box (by
          rw [HEN.out, HE.out, hnil]
          have : encF g b.size ([] : List UInt8) = [] := by cases g <;> simp [encF]
          rw [this, List.append_nil])
        have hol : out.length + (⟨#[48, 13, 10, 13, 10]⟩ : ByteArray).size < 8589934592 := by
          have e5 : (⟨#[48, 13, 10, 13, 10]⟩ : ByteArray).size = 5 := rfl
          omega
        clear hnil hrl
        go_wp2_with (at_builtin; refine wpList_append_sb _ rfl (.tmp 36) (.const (.string ⟨#[48, 13, 10, 13, 10]⟩)) rfl w.heap.size _ out rfl O0.out ⟨#[48, 13, 10, 13, 10]⟩ rfl hol hB0 ?_; intro v' w3 hO3 hb3; have B3 := box (BL.out.trans hb3); have hst := Own.str hO3)
        go_ret
        exact ⟨ret_str (by rw [HF.out]; rfl), B3.out⟩
  · go_loopw [5, 6] (fun v i wr => EncR b w z v i wr) (fun _ i _ => strSize3 i)
    case atStart => exact ⟨b.size, b, [], rfl, Own.nil _ _, Nat.le_refl _, by simp, rfl, Below.refl _ _⟩
    case round =>
      obtain ⟨g, rest, out, rfl, hO, hg, hso, hE, hbel⟩ := hrel
      have HE := box hE
      have BL := box hbel
      have O0 := box hO
      have hB0 : w.heap.size ≤ wr.heap.size := hbel.size
      have hrl : rest.data.toList.length = rest.size := by simp
      clear hE hbel hO
      rcases hem : rest.toList.isEmpty with _ | _
      · have hne : rest.data.toList ≠ [] := ne_of_empty hem
        have hpos : 0 < rest.size := by rw [← hrl]; exact List.length_pos_iff.mpr hne
        obtain ⟨g', rfl⟩ : ∃ g', g = g' + 1 := ⟨g - 1, by omega⟩
        by_cases hle : z ≤ rest.size
        · skip
          have hlei : (z : Int) ≤ (rest.size : Int) := by omega
          have hmin : min (z : Int) (rest.size : Int) = (z : Int) := by omega
          have hmn : min z rest.data.toList.length = z := by omega
          have hn1 : 1 ≤ z := by omega
          have hnz : z ≤ rest.size := by omega
          have hn5 : z ≤ 100000 := by omega
          have hD : (rest.extract 0 z).data.toList = rest.data.toList.take (z) := by rw [ext_bs, List.drop_zero]; rfl
          have hR : (rest.extract z rest.size).data.toList = rest.data.toList.drop (z) := by rw [ext_bs, List.take_of_length_le (by omega)]; rfl
          have hx6 := hexL_le (n := z) (by omega)
          have hDl : (rest.extract 0 z).data.toList.length = z := by have q := congrArg List.length hD; rw [List.length_take] at q; omega
          have hDz : (rest.extract 0 z).size = z := (size_list _).symm.trans hDl
          have hRz : (rest.extract z rest.size).size = rest.size - z := by have q := congrArg List.length hR; rw [List.length_drop, size_list, hrl] at q; exact q
          have HN := box (HE.out.trans (enc_next (out := out) hne hmn hD hR))
          have HRG : Box ((rest.extract z rest.size).size ≤ g') := box (by rw [hRz]; omega)
          have e2 : (⟨#[13, 10]⟩ : ByteArray).size = 2 := rfl
          have e3 : (⟨#[13, 10]⟩ : ByteArray).data.toList.length = 2 := rfl
          have HL1 : Box ((out ++ hexL (z)).length + (⟨#[13, 10]⟩ : ByteArray).size < 8589934592) := box (by rw [List.length_append]; omega)
          have HL2 : Box ((out ++ hexL (z) ++ (⟨#[13, 10]⟩ : ByteArray).data.toList).length + (rest.extract 0 z).size < 8589934592) := box (by rw [List.length_append, List.length_append]; omega)
          have HL3 : Box ((out ++ hexL (z) ++ (⟨#[13, 10]⟩ : ByteArray).data.toList ++ (rest.extract 0 z).data.toList).length + (⟨#[13, 10]⟩ : ByteArray).size < 8589934592) := box (by rw [List.length_append, List.length_append, List.length_append, hDl]; omega)
          have HL4 : Box ((out ++ hexL (z) ++ (⟨#[13, 10]⟩ : ByteArray).data.toList ++ (rest.extract 0 z).data.toList ++ (⟨#[13, 10]⟩ : ByteArray).data.toList).length + 13 * (rest.extract z rest.size).size ≤ 13 * b.size) := box (by rw [List.length_append, List.length_append, List.length_append, List.length_append, hDl, hRz]; omega)
          have HMS : Box ((rest.extract z rest.size).size < rest.size) := box (by rw [hRz]; omega)
          have hout : out.length ≤ 4000000 := by omega
          clear hD hR hx6 hDz hDl hRz e2 e3 hne hmn hrl
          go_wp2_with fail
          refine (cHex_any z z _ w.heap.size _ out (Nat.le_refl _) hn1 hn5 hB0 O0 hout).mono ?_; rintro e w1 ⟨v1, rfl, hO1, hb1⟩
          have O1 := box hO1
          have B1 := box (BL.out.trans hb1)
          have hB1 : w.heap.size ≤ w1.heap.size := Nat.le_trans hB0 hb1.size
          clear hO1 hb1
          go_wp2_with (at_builtin; first | (refine wpList_append_sb _ rfl (.tmp 29) (.const (.string ⟨#[13, 10]⟩)) rfl w.heap.size _ (out ++ hexL (z)) rfl O1.out ⟨#[13, 10]⟩ rfl HL1.out hB1 ?_; intro v2 w2 hO2 hb2; have O2 := box hO2; have B2 := box (B1.out.trans hb2); have hB2 : w.heap.size ≤ w2.heap.size := Nat.le_trans hB1 hb2.size; clear hO2 hb2) | (refine wpList_append_sb _ rfl (.tmp 31) (.tmp 32) rfl w.heap.size _ _ rfl O2.out (rest.extract 0 z) rfl HL2.out hB2 ?_; intro v3 w3 hO3 hb3; have O3 := box hO3; have B3 := box (B2.out.trans hb3); have hB3 : w.heap.size ≤ w3.heap.size := Nat.le_trans hB2 hb3.size; clear hO3 hb3) | (refine wpList_append_sb _ rfl (.tmp 34) (.const (.string ⟨#[13, 10]⟩)) rfl w.heap.size _ _ rfl O3.out ⟨#[13, 10]⟩ rfl HL3.out hB3 ?_; intro v4 w4 hO4 hb4; have O4 := box hO4; have B4 := box (B3.out.trans hb4); clear hO4 hb4))
          go_roundw
          case rel => exact ⟨g', rest.extract z rest.size, _, rfl, O4.out, HRG.out, HL4.out, HN.out, B4.out⟩
          case measure => simpa [strSize3] using HMS.out
        · skip
          have hlei : (rest.size : Int) < (z : Int) := by omega
          have hmin : min (z : Int) (rest.size : Int) = (rest.size : Int) := by omega
          have hmn : min z rest.data.toList.length = rest.size := by omega
          have hn1 : 1 ≤ rest.size := by omega
          have hnz : rest.size ≤ rest.size := by omega
          have hn5 : rest.size ≤ 100000 := by omega
          have hD : (rest).data.toList = rest.data.toList.take (rest.size) := by rw [List.take_of_length_le (by omega)]
          have hR : (ByteArray.empty).data.toList = rest.data.toList.drop (rest.size) := by rw [List.drop_of_length_le (by omega)]; rfl
          have hx6 := hexL_le (n := rest.size) (by omega)
          have hDl : (rest).data.toList.length = rest.size := by have q := congrArg List.length hD; rw [List.length_take] at q; omega
          have hDz : (rest).size = rest.size := (size_list _).symm.trans hDl
          have hRz : (ByteArray.empty).size = rest.size - rest.size := by have q := congrArg List.length hR; rw [List.length_drop, size_list, hrl] at q; exact q
          have HN := box (HE.out.trans (enc_next (out := out) hne hmn hD hR))
          have HRG : Box ((ByteArray.empty).size ≤ g') := box (by rw [hRz]; omega)
          have e2 : (⟨#[13, 10]⟩ : ByteArray).size = 2 := rfl
          have e3 : (⟨#[13, 10]⟩ : ByteArray).data.toList.length = 2 := rfl
          have HL1 : Box ((out ++ hexL (rest.size)).length + (⟨#[13, 10]⟩ : ByteArray).size < 8589934592) := box (by rw [List.length_append]; omega)
          have HL2 : Box ((out ++ hexL (rest.size) ++ (⟨#[13, 10]⟩ : ByteArray).data.toList).length + (rest).size < 8589934592) := box (by rw [List.length_append, List.length_append]; omega)
          have HL3 : Box ((out ++ hexL (rest.size) ++ (⟨#[13, 10]⟩ : ByteArray).data.toList ++ (rest).data.toList).length + (⟨#[13, 10]⟩ : ByteArray).size < 8589934592) := box (by rw [List.length_append, List.length_append, List.length_append, hDl]; omega)
          have HL4 : Box ((out ++ hexL (rest.size) ++ (⟨#[13, 10]⟩ : ByteArray).data.toList ++ (rest).data.toList ++ (⟨#[13, 10]⟩ : ByteArray).data.toList).length + 13 * (ByteArray.empty).size ≤ 13 * b.size) := box (by rw [List.length_append, List.length_append, List.length_append, List.length_append, hDl, hRz]; omega)
          have HMS : Box ((ByteArray.empty).size < rest.size) := box (by rw [hRz]; omega)
          have hout : out.length ≤ 4000000 := by omega
          clear hD hR hx6 hDz hDl hRz e2 e3 hne hmn hrl
          go_wp2_with fail
          refine (cHex_any rest.size rest.size _ w.heap.size _ out (Nat.le_refl _) hn1 hn5 hB0 O0 hout).mono ?_; rintro e w1 ⟨v1, rfl, hO1, hb1⟩
          have O1 := box hO1
          have B1 := box (BL.out.trans hb1)
          have hB1 : w.heap.size ≤ w1.heap.size := Nat.le_trans hB0 hb1.size
          clear hO1 hb1
          go_wp2_with (at_builtin; first | (refine wpList_append_sb _ rfl (.tmp 29) (.const (.string ⟨#[13, 10]⟩)) rfl w.heap.size _ (out ++ hexL (rest.size)) rfl O1.out ⟨#[13, 10]⟩ rfl HL1.out hB1 ?_; intro v2 w2 hO2 hb2; have O2 := box hO2; have B2 := box (B1.out.trans hb2); have hB2 : w.heap.size ≤ w2.heap.size := Nat.le_trans hB1 hb2.size; clear hO2 hb2) | (refine wpList_append_sb _ rfl (.tmp 31) (.tmp 32) rfl w.heap.size _ _ rfl O2.out (rest) rfl HL2.out hB2 ?_; intro v3 w3 hO3 hb3; have O3 := box hO3; have B3 := box (B2.out.trans hb3); have hB3 : w.heap.size ≤ w3.heap.size := Nat.le_trans hB2 hb3.size; clear hO3 hb3) | (refine wpList_append_sb _ rfl (.tmp 34) (.const (.string ⟨#[13, 10]⟩)) rfl w.heap.size _ _ rfl O3.out ⟨#[13, 10]⟩ rfl HL3.out hB3 ?_; intro v4 w4 hO4 hb4; have O4 := box hO4; have B4 := box (B3.out.trans hb4); clear hO4 hb4))
          go_roundw
          case rel => exact ⟨g', ByteArray.empty, _, rfl, O4.out, HRG.out, HL4.out, HN.out, B4.out⟩
          case measure => simpa [strSize3] using HMS.out
      · have hnil : rest.data.toList = [] := nil_of_empty hem
        have HF : Box (encodeL b.data.toList (z : Int) = out ++ endT) := box (by
          rw [HEN.out, HE.out, hnil]
          have : encF g z ([] : List UInt8) = [] := by cases g <;> simp [encF]
          rw [this, List.append_nil])
        have hol : out.length + (⟨#[48, 13, 10, 13, 10]⟩ : ByteArray).size < 8589934592 := by
          have e5 : (⟨#[48, 13, 10, 13, 10]⟩ : ByteArray).size = 5 := rfl
          omega
        clear hnil hrl
        go_wp2_with (at_builtin; refine wpList_append_sb _ rfl (.tmp 36) (.const (.string ⟨#[48, 13, 10, 13, 10]⟩)) rfl w.heap.size _ out rfl O0.out ⟨#[48, 13, 10, 13, 10]⟩ rfl hol hB0 ?_; intro v' w3 hO3 hb3; have B3 := box (BL.out.trans hb3); have hst := Own.str hO3)
        go_ret
        exact ⟨ret_str (by rw [HF.out]; rfl), B3.out⟩

theorem cEncode_any (b : ByteArray) (zi : Int) (w : World) (hs : b.size ≤ 100000) :
    Calls Try.prog 11 #[.string b, .int .i64 zi] w fun e w' => e = .returned (.string (bs (encodeL b.data.toList zi))) ∧ Below w.heap.size w w' := by
  have hbl : b.data.toList.length = b.size := by simp
  by_cases h : zi < 1
  · exact cEnc_loop b zi b.size w hs (by omega) (box (by rw [if_pos h, hbl])) (.inl ⟨h, rfl⟩)
  · exact cEnc_loop b zi zi.toNat w hs (by omega) (box (by rw [if_neg h])) (.inr ⟨h, by omega⟩)

end Go.Proofs.Ythfhoacflkbhhaa.Asc
