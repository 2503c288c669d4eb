/- The contracts of package chunk's parseSize, nextSize, cutData. -/
import Derived.Test.YthfhoacflkbhhaaChkClo
import Derived.Test.YthfhoacflkbhhaaAscLow
import Derived.Lib.QuoteBits
set_option linter.unusedVariables false
set_option linter.unusedSimpArgs false
namespace Go.Proofs.Ythfhoacflkbhhaa.Asc
open Go.RowKit

/-- the size by the parts of the line at the first semicolon -/
def sizeC (d x : List UInt8) : Option Nat := if (decide (d.length ≤ 8) && textL x && d.all hexB && !d.isEmpty) = true then some (hexN d) else none
theorem hex_59 {c : UInt8} (h : hexB c = true) : c ≠ 59 := by intro e; subst e; exact absurd h (by decide)
theorem text_cons59 (x : List UInt8) : textL (59 :: x) = textL x := by
  unfold textL allI
  rw [List.all_cons]; rfl
theorem size_parts {d x : List UInt8} {b : Bool} (hd : 59 ∉ d) (hx : b = false → x = []) : sizeL (if b then d ++ 59 :: x else d) = sizeC d x := by
  have hsplit := List.takeWhile_append_dropWhile (p := hexB) (l := d)
  by_cases ha : d.all hexB = true
  · have hall : ∀ c ∈ d, hexB c = true := fun c hc => List.all_eq_true.mp ha c hc
    rcases b with _ | _
    · have ht : d.takeWhile hexB = d ∧ d.dropWhile hexB = [] := by
        have := while_all (r := []) hall (.inl rfl)
        rwa [List.append_nil] at this
      simp only [Bool.false_eq_true, if_false, sizeL, sizeOk, ht.1, ht.2, sizeC, ha, hx rfl]
      rcases d with _ | ⟨c, d⟩
      · simp
      · simp [textL, allI]
    · have ht := while_all (r := 59 :: x) hall (.inr ⟨_, _, rfl, by decide⟩)
      simp only [if_true, sizeL, sizeOk, ht.1, ht.2, sizeC, ha, text_cons59]
      rcases d with _ | ⟨c, d⟩
      · simp
      · simp
  · have hn : sizeC d x = none := by
      unfold sizeC
      rw [if_neg]
      simp only [Bool.and_eq_true, not_and]
      intro h
      simp_all
    rw [hn]
    -- the first byte that is no digit is no semicolon
    have key : ∀ (l : List UInt8), (∃ c t, d.dropWhile hexB = c :: t) → (l = d ∨ ∃ t, l = d ++ t) → sizeL l = none := by
      intro l ⟨c, t, hc⟩ hl
      have hcx : c ∈ d := by rw [← hsplit, hc]; simp
      have hc59 : c ≠ 59 := fun e => hd (by rw [← e]; exact hcx)
      have hcn : hexB c = false := by
        have := List.head?_dropWhile_not (p := hexB) (l := d)
        rw [hc] at this; simpa using this
      have hdl : ∃ t', l.dropWhile hexB = c :: t' := by
        have e : l = d.takeWhile hexB ++ c :: (t ++ l.drop d.length) := by
          rcases hl with rfl | ⟨t2, rfl⟩
          · simp only [List.drop_length, List.append_nil]; rw [← hc]; exact hsplit.symm
          · rw [List.drop_left]
            conv => lhs; rw [← hsplit, hc]
            simp
        have hw := while_all (t := d.takeWhile hexB) (r := c :: (t ++ l.drop d.length)) (fun c hc => List.all_eq_true.mp (List.all_takeWhile (p := hexB) (l := d)) c hc) (.inr ⟨_, _, rfl, hcn⟩)
        rw [← e] at hw
        exact ⟨_, hw.2⟩
      obtain ⟨t', ht'⟩ := hdl
      unfold sizeL sizeOk
      rw [ht', if_neg]
      simp [hc59]
    refine key _ ?_ ?_
    · rcases hq : d.dropWhile hexB with _ | ⟨c, t⟩
      · exfalso
        rw [hq, List.append_nil] at hsplit
        apply ha
        rw [← hsplit]
        exact List.all_takeWhile
      · exact ⟨c, t, rfl⟩
    · rcases b with _ | _
      · exact .inl rfl
      · exact .inr ⟨_, rfl⟩
def lowHex : ByteArray := ⟨#[48, 49, 50, 51, 52, 53, 54, 55, 56, 57, 97, 98, 99, 100, 101, 102]⟩
theorem hex_index (c : UInt8) : Lib.indexByte lowHex.data.toList (lowB c) = if hexB c = true then hexI c.toNat else -1 := by
  have key : ∀ x : Fin 256, Lib.indexByte lowHex.data.toList (lowB (UInt8.ofNat x.1)) = if hexB (UInt8.ofNat x.1) = true then hexI (UInt8.ofNat x.1).toNat else -1 := by decide +kernel
  have := key ⟨c.toNat, c.toNat_lt⟩
  simp only [UInt8.ofNat_toNat] at this
  exact this
theorem or_nat (a d : Nat) (ha : a < 4294967296) (hd : d < 16) : bits .or .i64 ((a : Int) * 16) (d : Int) = (a : Int) * 16 + (d : Int) := by
  have e : (a : Int) * 16 = ((a * 16 : Nat) : Int) := by omega
  rw [e]
  show IntKind.i64.wrap ((BitVec.ofInt 64 ((a * 16 : Nat) : Int) ||| BitVec.ofInt 64 ((d : Nat) : Int)).toNat : Int) = _
  rw [BitVec.toNat_or, ofInt_u64 _ (by omega), ofInt_u64 _ (by omega)]
  have h := Nat.two_pow_add_eq_or_of_lt (i := 4) (b := d) (by omega) a
  have e2 : a * 16 = 2 ^ 4 * a := by omega
  rw [e2, ← h, Lib.wrap_i64_small _ (by omega)]
  omega
theorem sIndexByte_is {s : ByteArray} {c n : Int} {w : World} (h : Box (Lib.indexByte s.data.toList c.toNat.toUInt8 = n)) :
    Calls Try.prog 46 #[.string s, .int .u8 c] w fun e w' => e = .returned (.int .i64 n) ∧ w = w' :=
  (sIndexByte_any s c w).mono fun e w' ⟨h1, h2⟩ => ⟨by rw [h1, h.out], h2⟩
theorem Text_is {s : ByteArray} {b : Bool} {w : World} (hs : Box (s.size ≤ maxLen)) (h : Box (textL s.data.toList = b)) :
    Calls Try.prog 44 #[.string s] w fun e w' => e = .returned (.bool b) ∧ w = w' :=
  (Text_any s w hs.out).mono fun e w' ⟨h1, h2⟩ => ⟨by rw [h1, h.out], h2⟩

theorem sizeC_no {d x : List UInt8} (h : ¬ (d.length ≤ 8) ∨ textL x = false ∨ d.all hexB = false ∨ d = []) : sizeC d x = none := by
  unfold sizeC
  rw [if_neg]
  rcases h with h | h | h | h <;> simp [h]
theorem sizeC_yes {d x : List UInt8} (h1 : d.length ≤ 8) (h2 : textL x = true) (h3 : d.all hexB = true) (h4 : d ≠ []) : sizeC d x = some (hexN d) := by
  unfold sizeC
  rw [if_pos]
  simp [h1, h2, h3, h4]
set_option maxRecDepth 100000 in
set_option maxHeartbeats 1000000 in
theorem cParse_any (s : ByteArray) (w : World) (hs : s.size ≤ 2000) :
    Calls Try.prog 33 #[.string s] w fun e w' => e = .returned (szV (sizeL s.data.toList)) ∧ Below w.heap.size w w' := by
  have hz : s.data.toList.length = s.size := by simp
  obtain ⟨d, x, b, hcut, hd, hx, hb, hsz⟩ : ∃ d x b, cutV 59 s.data.toList = .tuple #[.string (bs d), .string (bs x), .bool b] ∧ d.length ≤ 2000 ∧ x.length ≤ 2000 ∧ (b = true ∨ b = false) ∧ sizeL s.data.toList = sizeC d x := by
    refine ⟨cut1 59 s.data.toList, cut2 59 s.data.toList, cutB 59 s.data.toList, rfl, ?_, ?_, by cases cutB 59 s.data.toList <;> simp, ?_⟩
    · unfold cut1; exact Nat.le_trans (List.takeWhile_sublist _).length_le (by omega)
    · unfold cut2; rw [List.length_drop]; have := (List.dropWhile_sublist (l := s.data.toList) (· != (59 : UInt8))).length_le; omega
    · have h1 := size_parts (d := cut1 59 s.data.toList) (x := cut2 59 s.data.toList) (b := cutB 59 s.data.toList) (cut1_not _ _) (fun h => by
        by_cases e : Lib.indexByte s.data.toList 59 = -1
        · exact (cut_no e).2.1
        · obtain ⟨k, hk⟩ : ∃ k : Nat, Lib.indexByte s.data.toList 59 = k := ⟨(Lib.indexByte s.data.toList 59).toNat, by have := Lib.indexByte_ge s.data.toList 59; omega⟩
          have := (cut_at hk).2.2.2
          rw [this] at h; cases h)
      rw [← h1]
      rcases hb : cutB 59 s.data.toList with _ | _
      · by_cases e : Lib.indexByte s.data.toList 59 = -1
        · simp only [Bool.false_eq_true, if_false]; rw [(cut_no e).1]
        · obtain ⟨k, hk⟩ : ∃ k : Nat, Lib.indexByte s.data.toList 59 = k := ⟨(Lib.indexByte s.data.toList 59).toNat, by have := Lib.indexByte_ge s.data.toList 59; omega⟩
          have := (cut_at hk).2.2.2
          rw [this] at hb; cases hb
      · simp only [if_true]; rw [← cut_join hb]
  have HC := box hcut
  have HSZ := box hsz
  have HM : Box (s.size ≤ maxLen) := box (by unfold maxLen; omega)
  have HXM : Box ((bs x).size ≤ maxLen) := box (by rw [bs_size]; unfold maxLen; omega)
  have HDL : Box ((bs d).size = d.length) := box (bs_size d)
  clear hcut hsz hz
  by_cases h8 : d.length ≤ 8
  · have h8i : ¬ (8 : Int) < ((bs d).size : Int) := by rw [HDL.out]; omega
    rcases htx : textL x with _ | _
    · have HT : Box (textL (bs x).data.toList = false) := box htx
      have HE : Box (sizeL s.data.toList = none) := box (by rw [HSZ.out, sizeC_no (.inr (.inl htx))])
      clear htx
      go_enter Try.func33, Try.ntmps33
      go_wp2_with fail
      refine (Cut_any s 59 _ HM.out).mono ?_; rintro e w1 ⟨rfl, hb1⟩; rw [HC.out]
      go_wp2_with fail
      refine (Text_is HXM HT).mono ?_; rintro e w2 ⟨rfl, rfl⟩
      go_wp2
      go_ret2
      exact ⟨by rw [HE.out]; rfl, hb1⟩
    · have HT : Box (textL (bs x).data.toList = true) := box htx
      have HTX := box htx
      have HLZ : Box ((bs d).size ≤ 4294967296) := box (by rw [bs_size]; omega)
      obtain ⟨ld, hld⟩ : ∃ ld : ByteArray, (⟨(lowL (bs d).data.toList).toArray⟩ : ByteArray) = ld := ⟨_, rfl⟩
      have hlz : ld.size = d.length := by rw [← hld]; show (lowL d).toArray.size = _; simp [lowL]
      have HLD := box hld
      have HAT : Box (∀ k (h : k < ld.size) (h2 : k < d.length), ld[k] = lowB d[k]) := box (by
        intro k h h2
        subst hld
        show (lowL d).toArray[k]'_ = _
        simp [lowL_map, bs_toList])
      clear htx hld
      go_enter Try.func33, Try.ntmps33
      go_wp2_with fail
      refine (Cut_any s 59 _ HM.out).mono ?_; rintro e w1 ⟨rfl, hb1⟩; rw [HC.out]
      go_wp2_with fail
      refine (Text_is HXM HT).mono ?_; rintro e w2 ⟨rfl, rfl⟩
      go_wp2_with fail
      refine (Lower_any (bs d) _ HLZ.out).mono ?_; rintro e w2 ⟨rfl, hb2⟩; rw [HLD.out]
      have BL := box (hb1.trans (hb2.mono hb1.size))
      clear hb1 hb2
      go_wp2
      go_loop [8, 9, 10, 29] (fun v _ _ i => ∃ k : Nat, k ≤ d.length ∧ i = .int .i64 k ∧ v = .int .i64 (hexN (d.take k)) ∧ (d.take k).all hexB = true) (fun _ _ _ i => d.length - (intOf i).toNat)
      case atStart => exact ⟨0, Nat.zero_le _, rfl, rfl, rfl⟩
      case round =>
        obtain ⟨k, hk, rfl, rfl, hall⟩ := hrel
        have HA := box hall
        clear hall
        by_cases hlt : k < d.length
        · have hkl : k < ld.size := by omega
          have hki : (k : Int) < (ld.size : Int) := by omega
          have hat := HAT.out k hkl hlt
          obtain ⟨c, hc⟩ : ∃ c, d[k] = c := ⟨_, rfl⟩
          rw [hc] at hat
          have hix := hex_index c
          have HTK : Box (d.take (k + 1) = d.take k ++ [c]) := box (by rw [List.take_succ_eq_append_getElem hlt, hc])
          obtain ⟨y, hy⟩ : ∃ y : UInt8, ld[k] = y := ⟨_, rfl⟩
          have HY := box hy
          rw [hy] at hat
          rcases hh : hexB c with _ | _
          · rw [hh, if_neg (by simp)] at hix
            have HI : Box (Lib.indexByte lowHex.data.toList ((y.toNat : Int)).toNat.toUInt8 = -1) := box (by
              rw [← hix, hat]; congr 1; simp)
            have HE : Box (sizeL s.data.toList = none) := box (by
              rw [HSZ.out, sizeC_no (.inr (.inr (.inl ?_)))]
              rw [← List.take_append_drop (k + 1) d, HTK.out]
              simp [hh])
            clear hh hix hat hy hc
            go_wp2_with fail
            rw [HY.out]
            refine (sIndexByte_is HI).mono ?_; rintro e w3 ⟨rfl, rfl⟩
            go_wp2
            go_ret2
            exact ⟨by rw [HE.out]; rfl, BL.out⟩
          · rw [hh, if_pos rfl] at hix
            obtain ⟨p1, p2⟩ := hex_bd hh
            obtain ⟨p, hp⟩ : ∃ p : Nat, hexI c.toNat = (p : Int) := ⟨(hexI c.toNat).toNat, by omega⟩
            have HI : Box (Lib.indexByte lowHex.data.toList ((y.toNat : Int)).toNat.toUInt8 = (p : Int)) := box (by
              rw [← hp, ← hix, hat]; congr 1; simp)
            obtain ⟨a, ha⟩ : ∃ a, hexN (d.take k) = a := ⟨_, rfl⟩
            have ha2 : a < 4294967296 := by
              have h1 := hexN_lt (d.take k) (fun c hc => List.all_eq_true.mp HA.out c hc)
              rw [ha] at h1
              refine Nat.lt_of_lt_of_le h1 (Nat.le_trans (Nat.pow_le_pow_right (by omega) (?_ : _ ≤ 8)) (by decide))
              rw [List.length_take]; omega
            have HN : Box ((hexN (d.take (k + 1)) : Int) = (a : Int) * 16 + (p : Int)) := box (by
              rw [HTK.out, hexN_snoc, ha, hp]; simp)
            have HA2 : Box ((d.take (k + 1)).all hexB = true) := box (by rw [HTK.out, List.all_append, HA.out]; simp [hh])
            have HAA := box ha
            have hor := box (or_nat a p ha2 (by omega))
            have hp0 : (0 : Int) ≤ (p : Int) := by omega
            have hp15 : (p : Int) ≤ 15 := by omega
            have ha0 : (0 : Int) ≤ (a : Int) := by omega
            have ha3 : (a : Int) ≤ 4294967296 := by omega
            rw [HAA.out]
            clear hh hix hat hy hc hp p1 p2 ha ha2
            go_wp2_with fail
            rw [HY.out]
            refine (sIndexByte_is HI).mono ?_; rintro e w3 ⟨rfl, rfl⟩
            go_wp2
            go_round
            case rel => exact ⟨k + 1, by omega, by go_num, by rw [HN.out, ← hor.out], HA2.out⟩
            case measure => simp [intOf]; omega
        · obtain rfl : k = d.length := by omega
          rw [List.take_length] at HA
          clear hlt
          by_cases hd0 : d = []
          · subst hd0
            have HE : Box (sizeL s.data.toList = none) := box (by rw [HSZ.out, sizeC_no (.inr (.inr (.inr rfl)))])
            have hem : (bs ([] : List UInt8)).toList.isEmpty = true := by rw [toList_bs]; rfl
            go_wp2
            go_ret2
            exact ⟨by rw [HE.out]; rfl, BL.out⟩
          · have HE : Box (sizeL s.data.toList = some (hexN d)) := box (by rw [HSZ.out, sizeC_yes h8 HTX.out HA.out hd0])
            have hem : (bs d).toList.isEmpty = false := by rw [toList_bs]; cases d <;> simp_all
            rw [List.take_length]
            go_wp2
            go_ret2
            exact ⟨by rw [HE.out]; rfl, BL.out⟩
  · have h8i : (8 : Int) < ((bs d).size : Int) := by rw [HDL.out]; omega
    have HE : Box (sizeL s.data.toList = none) := box (by rw [HSZ.out, sizeC_no (.inl h8)])
    go_enter Try.func33, Try.ntmps33
    go_wp2_with fail
    refine (Cut_any s 59 _ HM.out).mono ?_; rintro e w1 ⟨rfl, hb1⟩; rw [HC.out]
    go_wp2
    go_ret2
    exact ⟨by rw [HE.out]; rfl, hb1⟩

/-- what nextSize returns for a line with room bytes left -/
def nsV (room : Int) : Int ⊕ (List UInt8 × List UInt8) → Value
  | .inl e => .tuple #[.int .i64 0, .int .i64 e]
  | .inr (t, r) => match sizeL t with
    | none => .tuple #[.int .i64 0, .int .i64 1]
    | some n => if room < (n : Int) then .tuple #[.int .i64 0, .int .i64 5] else .tuple #[.int .i64 n, .int .i64 0]
theorem clo5_is {k : Nat} {x r : ByteArray} {v : Value} {w : World} (hs : x.size ≤ 4000000) (h : Box (StrAt k x w)) (hv : Box (cloV (nextL x.data.toList) = v)) (hr : Box (cloR (nextL x.data.toList) = r)) :
    Calls Try.prog 17 #[.pointer (some ⟨k, 0, none⟩)] w fun e w' => e = .returned v ∧ StrAt k r w' ∧ Only k w w' :=
  (clo5_any k x w hs h).mono fun e w' ⟨h1, h2, h3⟩ => ⟨by rw [h1, hv.out], by rw [← hr.out]; exact h2, h3⟩
theorem parse5_is {t : List UInt8} {o : Option Nat} {w : World} (hs : t.length ≤ 2000) (h : Box (sizeL t = o)) :
    Calls Try.prog 33 #[.string (bs t)] w fun e w' => e = .returned (szV o) ∧ Below w.heap.size w w' :=
  (cParse_any (bs t) w (by rw [bs_size]; omega)).mono fun e w' ⟨h1, h2⟩ => ⟨by rw [h1, bs_toList, h.out], h2⟩
theorem next5_any (k : Nat) (x : ByteArray) (room : Int) (w : World) (hs : x.size ≤ 4000000) (h : Box (StrAt k x w)) (h0 : 0 ≤ room) (h1 : room ≤ 100000) :
    Calls Try.prog 19 #[.func (.func 17) #[] #[.pointer (some ⟨k, 0, none⟩)], .int .i64 room] w fun e w' => e = .returned (nsV room (nextL x.data.toList)) ∧ StrAt k (cloR (nextL x.data.toList)) w' ∧ Only k w w' := by
  obtain ⟨r, hr⟩ : ∃ r, cloR (nextL x.data.toList) = r := ⟨_, rfl⟩
  have HR := box hr
  rcases hn : nextL x.data.toList with e0 | ⟨t, r'⟩
  · have HV : Box (cloV (nextL x.data.toList) = .tuple #[.string ⟨#[]⟩, .int .i64 e0]) := box (by rw [hn]; rfl)
    have HE : Box (nsV room (nextL x.data.toList) = .tuple #[.int .i64 0, .int .i64 e0]) := box (by rw [hn]; rfl)
    have he := err_size hn
    rw [← hn]
    clear hn hr
    rcases he with rfl | rfl | rfl
    all_goals
      go_enter Try.func19, Try.ntmps19
      go_wp2_with fail
      refine (clo5_is hs h HV HR).mono ?_; rintro e w1 ⟨rfl, hs1, ho1⟩
      have S1 := box hs1
      have O1 := box ho1
      clear hs1 ho1
      go_wp2
      go_ret2
      exact ⟨by rw [HE.out]; rfl, by rw [HR.out]; exact S1.out, O1.out⟩
  · have htl : t.length ≤ 2000 := (next_line hn).2.2
    have HV : Box (cloV (nextL x.data.toList) = .tuple #[.string (bs t), .int .i64 0]) := box (by rw [hn]; rfl)
    rcases hz : sizeL t with _ | n
    · have HE : Box (nsV room (nextL x.data.toList) = .tuple #[.int .i64 0, .int .i64 1]) := box (by rw [hn]; simp only [nsV, hz])
      have HZ := box hz
      rw [← hn]
      clear hn hr hz
      go_enter Try.func19, Try.ntmps19
      go_wp2_with fail
      refine (clo5_is hs h HV HR).mono ?_; rintro e w1 ⟨rfl, hs1, ho1⟩
      have S1 := box hs1
      have O1 := box ho1
      clear hs1 ho1
      go_wp2_with fail
      refine (parse5_is htl HZ).mono ?_; rintro e w2 ⟨rfl, hb2⟩; unfold szV
      have S2 := box (S1.out.below hb2 S1.out.lt)
      have O2 := box (O1.out.trans (Only.of hb2))
      clear hb2
      go_wp2
      go_ret2
      exact ⟨by rw [HE.out]; rfl, by rw [HR.out]; exact S2.out, O2.out⟩
    · have hnb := size_bd hz
      have hnb2 : (n : Int) ≤ 4294967296 := by omega
      have HZ := box hz
      by_cases hlt : room < (n : Int)
      · have HE : Box (nsV room (nextL x.data.toList) = .tuple #[.int .i64 0, .int .i64 5]) := box (by rw [hn]; simp only [nsV, hz, if_pos hlt])
        rw [← hn]
        clear hn hr hz hnb
        go_enter Try.func19, Try.ntmps19
        go_wp2_with fail
        refine (clo5_is hs h HV HR).mono ?_; rintro e w1 ⟨rfl, hs1, ho1⟩
        have S1 := box hs1
        have O1 := box ho1
        clear hs1 ho1
        go_wp2_with fail
        refine (parse5_is htl HZ).mono ?_; rintro e w2 ⟨rfl, hb2⟩; unfold szV
        have S2 := box (S1.out.below hb2 S1.out.lt)
        have O2 := box (O1.out.trans (Only.of hb2))
        clear hb2
        go_wp2
        go_ret2
        exact ⟨by rw [HE.out]; rfl, by rw [HR.out]; exact S2.out, O2.out⟩
      · have HE : Box (nsV room (nextL x.data.toList) = .tuple #[.int .i64 n, .int .i64 0]) := box (by rw [hn]; simp only [nsV, hz, if_neg hlt])
        rw [← hn]
        clear hn hr hz hnb
        go_enter Try.func19, Try.ntmps19
        go_wp2_with fail
        refine (clo5_is hs h HV HR).mono ?_; rintro e w1 ⟨rfl, hs1, ho1⟩
        have S1 := box hs1
        have O1 := box ho1
        clear hs1 ho1
        go_wp2_with fail
        refine (parse5_is htl HZ).mono ?_; rintro e w2 ⟨rfl, hb2⟩; unfold szV
        have S2 := box (S1.out.below hb2 S1.out.lt)
        have O2 := box (O1.out.trans (Only.of hb2))
        clear hb2
        go_wp2
        go_ret2
        exact ⟨by rw [HE.out]; rfl, by rw [HR.out]; exact S2.out, O2.out⟩

/-- the bytes of a chunk and what follows their end -/
def dataL (n : Nat) (l : List UInt8) : Int ⊕ (List UInt8 × List UInt8) := if l.length < n then .inl 2 else match endL (l.drop n) with | .inl e => .inl e | .inr r => .inr (l.take n, r)
theorem cData_any (s : ByteArray) (n : Nat) (w : World) (hs : s.size ≤ 4000000) (hn : n ≤ 100000) :
    Calls Try.prog 20 #[.string s, .int .i64 n] w fun e w' => e = .returned (lineV (dataL n s.data.toList)) ∧ w = w' := by
  have hz : s.data.toList.length = s.size := by simp
  by_cases hl : s.size < n
  · have HE : Box (lineV (dataL n s.data.toList) = .tuple #[.string ⟨#[]⟩, .string ⟨#[]⟩, .int .i64 2]) := box (by unfold dataL; rw [if_pos (by omega)]; rfl)
    have hli : (s.size : Int) < (n : Int) := by omega
    go_enter Try.func20, Try.ntmps20
    go_wp2
    go_ret3
    exact ⟨by rw [HE.out]; rfl, rfl⟩
  · have hli : ¬ (s.size : Int) < (n : Int) := by omega
    have hni : (n : Int) ≤ (s.size : Int) := by omega
    have HSL : Box ((s.extract n s.size).size ≤ 4000000) := box (by rw [ByteArray.size_extract]; omega)
    have HD : Box ((s.extract n s.size).data.toList = s.data.toList.drop n) := box (by rw [ext_bs, List.take_of_length_le (by simp)]; rfl)
    have hN : dataL n s.data.toList = match endL (s.data.toList.drop n) with | .inl e => .inl e | .inr r => .inr (s.data.toList.take n, r) := by
      unfold dataL; rw [if_neg (by omega)]
    have hem : n = s.size → (s.extract s.size s.size) = ByteArray.empty := fun _ => by rw [ext_bs, List.drop_of_length_le (by simp)]; rfl
    rcases hq : endL (s.data.toList.drop n) with e0 | r
    · have HE : Box (lineV (dataL n s.data.toList) = .tuple #[.string ⟨#[]⟩, .string ⟨#[]⟩, .int .i64 e0]) := box (by rw [hN, hq]; rfl)
      have HQ : Box (endL (s.extract n s.size).data.toList = .inl e0) := box (by rw [HD.out, hq])
      have he0 : e0 = 1 ∨ e0 = 2 := by
        unfold endL at hq
        split at hq
        · cases hq; exact .inr rfl
        · split at hq <;> cases hq <;> simp
        · split at hq <;> cases hq; exact .inl rfl
      clear hN HD hq hl hz
      by_cases he : n = s.size
      · subst he
        rw [hem rfl] at HQ
        have HZ : ByteArray.empty.size ≤ 4000000 := by decide
        clear HSL hem
        rcases he0 with rfl | rfl
        all_goals
          go_enter Try.func20, Try.ntmps20
          go_wp2_with fail
          refine (cEnd_is HZ HQ).mono ?_; rintro e w2 ⟨rfl, rfl⟩; unfold endV
          go_wp2
          go_ret3
          exact ⟨by rw [HE.out]; rfl, rfl⟩
      · clear hem
        rcases he0 with rfl | rfl
        all_goals
          go_enter Try.func20, Try.ntmps20
          go_wp2_with fail
          refine (cEnd_is HSL.out HQ).mono ?_; rintro e w2 ⟨rfl, rfl⟩; unfold endV
          go_wp2
          go_ret3
          exact ⟨by rw [HE.out]; rfl, rfl⟩
    · have HE : Box (lineV (dataL n s.data.toList) = .tuple #[.string (s.extract 0 n), .string (bs r), .int .i64 0]) := box (by rw [hN, hq, ext_bs, List.drop_zero]; rfl)
      have HQ : Box (endL (s.extract n s.size).data.toList = .inr r) := box (by rw [HD.out, hq])
      have hne : n ≠ s.size := by
        intro e
        rw [List.drop_of_length_le (by omega)] at hq
        simp [endL] at hq
      clear hN HD hq hl hz hem
      go_enter Try.func20, Try.ntmps20
      go_wp2_with fail
      refine (cEnd_is HSL.out HQ).mono ?_; rintro e w2 ⟨rfl, rfl⟩; unfold endV
      go_wp2
      go_ret3
      exact ⟨by rw [HE.out]; rfl, rfl⟩

end Go.Proofs.Ythfhoacflkbhhaa.Asc
