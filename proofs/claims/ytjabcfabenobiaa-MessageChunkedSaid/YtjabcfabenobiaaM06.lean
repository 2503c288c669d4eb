/- Merged texts: ChkPar ChkSkip ChkMDec BytT ChkSpec2 LstSpec StaSpec2 StaSpec3. -/
import Derived.Test.YtjabcfabenobiaaM01
import Derived.Test.YtjabcfabenobiaaM03
import Derived.Test.YtjabcfabenobiaaM04
import Derived.Test.YtjabcfabenobiaaM05
import Derived.Laws.CopyRow
import Derived.Laws.IdiomStrings
import Derived.Laws.Tables
import Derived.Lib.QuoteBits
set_option linter.unusedVariables false
set_option linter.unusedSimpArgs false
set_option maxRecDepth 100000
namespace Go.Proofs.Ytjabcfabenobiaa.Asc
section
open Go.RowKit
/-- the size by the parts of the line at the first semicolon -/
def sizeC (d x : List UInt8) : Option Nat := if (decide (d.length ≤ 8) && textL x && d.all hexB && !d.isEmpty) = true then some (hexN d) else none
theorem text_cons59 (x : List UInt8) : textL (59 :: x) = textL x := by
  unfold textL allI
  rw [List.all_cons]; rfl
theorem size_parts {d x : List UInt8} {b : Bool} (hd : 59 ∉ d) (hx : b = false → x = []) : sizeL (if b then d ++ 59 :: x else d) = sizeC d x := by
  have hsplit := List.takeWhile_append_dropWhile (p := hexB) (l := d)
  by_cases ha : d.all hexB = true
  · have hall : ∀ c ∈ d, hexB c = true := fun c hc => List.all_eq_true.mp ha c hc
    rcases b with _ | _
    · have ht : d.takeWhile hexB = d ∧ d.dropWhile hexB = [] := by
        have := while_all (r := []) hall (.inl rfl)
        rwa [List.append_nil] at this
      simp only [Bool.false_eq_true, if_false, sizeL, sizeOk, ht.1, ht.2, sizeC, ha, hx rfl]
      rcases d with _ | ⟨c, d⟩
      · simp
      · simp [textL, allI]
    · have ht := while_all (r := 59 :: x) hall (.inr ⟨_, _, rfl, by decide⟩)
      simp only [if_true, sizeL, sizeOk, ht.1, ht.2, sizeC, ha, text_cons59]
      rcases d with _ | ⟨c, d⟩
      · simp
      · simp
  · have hn : sizeC d x = none := by
      unfold sizeC
      rw [if_neg]
      simp only [Bool.and_eq_true, not_and]
      intro h
      simp_all
    rw [hn]
    -- the first byte that is no digit is no semicolon
    have key : ∀ (l : List UInt8), (∃ c t, d.dropWhile hexB = c :: t) → (l = d ∨ ∃ t, l = d ++ t) → sizeL l = none := by
      intro l ⟨c, t, hc⟩ hl
      have hcx : c ∈ d := by rw [← hsplit, hc]; simp
      have hc59 : c ≠ 59 := fun e => hd (by rw [← e]; exact hcx)
      have hcn : hexB c = false := by
        have := List.head?_dropWhile_not (p := hexB) (l := d)
        rw [hc] at this; simpa using this
      have hdl : ∃ t', l.dropWhile hexB = c :: t' := by
        have e : l = d.takeWhile hexB ++ c :: (t ++ l.drop d.length) := by
          rcases hl with rfl | ⟨t2, rfl⟩
          · simp only [List.drop_length, List.append_nil]; rw [← hc]; exact hsplit.symm
          · rw [List.drop_left]
            conv => lhs; rw [← hsplit, hc]
            simp
        have hw := while_all (t := d.takeWhile hexB) (r := c :: (t ++ l.drop d.length)) (fun c hc => List.all_eq_true.mp (List.all_takeWhile (p := hexB) (l := d)) c hc) (.inr ⟨_, _, rfl, hcn⟩)
        rw [← e] at hw
        exact ⟨_, hw.2⟩
      obtain ⟨t', ht'⟩ := hdl
      unfold sizeL sizeOk
      rw [ht', if_neg]
      simp [hc59]
    refine key _ ?_ ?_
    · rcases hq : d.dropWhile hexB with _ | ⟨c, t⟩
      · exfalso
        rw [hq, List.append_nil] at hsplit
        apply ha
        rw [← hsplit]
        exact List.all_takeWhile
      · exact ⟨c, t, rfl⟩
    · rcases b with _ | _
      · exact .inl rfl
      · exact .inr ⟨_, rfl⟩
def lowHex : ByteArray := ⟨#[48, 49, 50, 51, 52, 53, 54, 55, 56, 57, 97, 98, 99, 100, 101, 102]⟩
theorem hex_index (c : UInt8) : Lib.indexByte lowHex.data.toList (lowB c) = if hexB c = true then hexI c.toNat else -1 := by
  have key : ∀ x : Fin 256, Lib.indexByte lowHex.data.toList (lowB (UInt8.ofNat x.1)) = if hexB (UInt8.ofNat x.1) = true then hexI (UInt8.ofNat x.1).toNat else -1 := by decide +kernel
  have := key ⟨c.toNat, c.toNat_lt⟩
  simp only [UInt8.ofNat_toNat] at this
  exact this
theorem or_nat (a d : Nat) (ha : a < 4294967296) (hd : d < 16) : bits .or .i64 ((a : Int) * 16) (d : Int) = (a : Int) * 16 + (d : Int) := by
  have e : (a : Int) * 16 = ((a * 16 : Nat) : Int) := by omega
  rw [e]
  show IntKind.i64.wrap ((BitVec.ofInt 64 ((a * 16 : Nat) : Int) ||| BitVec.ofInt 64 ((d : Nat) : Int)).toNat : Int) = _
  rw [BitVec.toNat_or, ofInt_u64 _ (by omega), ofInt_u64 _ (by omega)]
  have h := Nat.two_pow_add_eq_or_of_lt (i := 4) (b := d) (by omega) a
  have e2 : a * 16 = 2 ^ 4 * a := by omega
  rw [e2, ← h, Lib.wrap_i64_small _ (by omega)]
  omega
theorem sIndexByte_is {s : ByteArray} {c n : Int} {w : World} (h : Box (Lib.indexByte s.data.toList c.toNat.toUInt8 = n)) :
    Calls Try.prog 91 #[.string s, .int .u8 c] w fun e w' => e = .returned (.int .i64 n) ∧ w = w' :=
  (sIndexByte_any s c w).mono fun e w' ⟨h1, h2⟩ => ⟨by rw [h1, h.out], h2⟩
theorem Text_is {s : ByteArray} {b : Bool} {w : World} (hs : Box (s.size ≤ maxLen)) (h : Box (textL s.data.toList = b)) :
    Calls Try.prog 82 #[.string s] w fun e w' => e = .returned (.bool b) ∧ w = w' :=
  (Text_any s w hs.out).mono fun e w' ⟨h1, h2⟩ => ⟨by rw [h1, h.out], h2⟩
theorem sizeC_no {d x : List UInt8} (h : ¬ (d.length ≤ 8) ∨ textL x = false ∨ d.all hexB = false ∨ d = []) : sizeC d x = none := by
  unfold sizeC
  rw [if_neg]
  rcases h with h | h | h | h <;> simp [h]
theorem sizeC_yes {d x : List UInt8} (h1 : d.length ≤ 8) (h2 : textL x = true) (h3 : d.all hexB = true) (h4 : d ≠ []) : sizeC d x = some (hexN d) := by
  unfold sizeC
  rw [if_pos]
  simp [h1, h2, h3, h4]
set_option maxRecDepth 100000 in
set_option maxHeartbeats 1000000 in
theorem cParse_any (s : ByteArray) (w : World) (hs : s.size ≤ 2000) :
    Calls Try.prog 90 #[.string s] w fun e w' => e = .returned (szV (sizeL s.data.toList)) ∧ Below w.heap.size w w' := by
  have hz : s.data.toList.length = s.size := by simp
  obtain ⟨d, x, b, hcut, hd, hx, hb, hsz⟩ : ∃ d x b, cutV 59 s.data.toList = .tuple #[.string (bs d), .string (bs x), .bool b] ∧ d.length ≤ 2000 ∧ x.length ≤ 2000 ∧ (b = true ∨ b = false) ∧ sizeL s.data.toList = sizeC d x := by
    refine ⟨cut1 59 s.data.toList, cut2 59 s.data.toList, cutB 59 s.data.toList, rfl, ?_, ?_, by cases cutB 59 s.data.toList <;> simp, ?_⟩
    · unfold cut1; exact Nat.le_trans (List.takeWhile_sublist _).length_le (by omega)
    · unfold cut2; rw [List.length_drop]; have := (List.dropWhile_sublist (l := s.data.toList) (· != (59 : UInt8))).length_le; omega
    · have h1 := size_parts (d := cut1 59 s.data.toList) (x := cut2 59 s.data.toList) (b := cutB 59 s.data.toList) (cut1_not _ _) (fun h => by
        by_cases e : Lib.indexByte s.data.toList 59 = -1
        · exact (cut_no e).2.1
        · obtain ⟨k, hk⟩ : ∃ k : Nat, Lib.indexByte s.data.toList 59 = k := ⟨(Lib.indexByte s.data.toList 59).toNat, by have := Lib.indexByte_ge s.data.toList 59; omega⟩
          have := (cut_at hk).2.2.2
          rw [this] at h; cases h)
      rw [← h1]
      rcases hb : cutB 59 s.data.toList with _ | _
      · by_cases e : Lib.indexByte s.data.toList 59 = -1
        · simp only [Bool.false_eq_true, if_false]; rw [(cut_no e).1]
        · obtain ⟨k, hk⟩ : ∃ k : Nat, Lib.indexByte s.data.toList 59 = k := ⟨(Lib.indexByte s.data.toList 59).toNat, by have := Lib.indexByte_ge s.data.toList 59; omega⟩
          have := (cut_at hk).2.2.2
          rw [this] at hb; cases hb
      · simp only [if_true]; rw [← cut_join hb]
  have HC := box hcut
  have HSZ := box hsz
  have HM : Box (s.size ≤ maxLen) := box (by unfold maxLen; omega)
  have HXM : Box ((bs x).size ≤ maxLen) := box (by rw [bs_size]; unfold maxLen; omega)
  have HDL : Box ((bs d).size = d.length) := box (bs_size d)
  clear hcut hsz hz
  by_cases h8 : d.length ≤ 8
  · have h8i : ¬ (8 : Int) < ((bs d).size : Int) := by rw [HDL.out]; omega
    rcases htx : textL x with _ | _
    · have HT : Box (textL (bs x).data.toList = false) := box htx
      have HE : Box (sizeL s.data.toList = none) := box (by rw [HSZ.out, sizeC_no (.inr (.inl htx))])
      clear htx
      go_enter Try.func90, Try.ntmps90
      go_wp2_with fail
      refine (Cut_any s 59 _ HM.out).mono ?_; rintro e w1 ⟨rfl, hb1⟩; rw [HC.out]
      go_wp2_with fail
      refine (Text_is HXM HT).mono ?_; rintro e w2 ⟨rfl, rfl⟩
      go_wp2
      go_ret2
      exact ⟨by rw [HE.out]; rfl, hb1⟩
    · have HT : Box (textL (bs x).data.toList = true) := box htx
      have HTX := box htx
      have HLZ : Box ((bs d).size ≤ 4294967296) := box (by rw [bs_size]; omega)
      obtain ⟨ld, hld⟩ : ∃ ld : ByteArray, (⟨(lowL (bs d).data.toList).toArray⟩ : ByteArray) = ld := ⟨_, rfl⟩
      have hlz : ld.size = d.length := by rw [← hld]; show (lowL d).toArray.size = _; simp [lowL]
      have HLD := box hld
      have HAT : Box (∀ k (h : k < ld.size) (h2 : k < d.length), ld[k] = lowB d[k]) := box (by
        intro k h h2
        subst hld
        show (lowL d).toArray[k]'_ = _
        simp [lowL_map, bs_toList])
      clear htx hld
      go_enter Try.func90, Try.ntmps90
      go_wp2_with fail
      refine (Cut_any s 59 _ HM.out).mono ?_; rintro e w1 ⟨rfl, hb1⟩; rw [HC.out]
      go_wp2_with fail
      refine (Text_is HXM HT).mono ?_; rintro e w2 ⟨rfl, rfl⟩
      go_wp2_with fail
      refine (Lower_any (bs d) _ HLZ.out).mono ?_; rintro e w2 ⟨rfl, hb2⟩; rw [HLD.out]
      have BL := box (hb1.trans (hb2.mono hb1.size))
      clear hb1 hb2
      go_wp2
      go_loop [8, 9, 10, 29] (fun v _ _ i => ∃ k : Nat, k ≤ d.length ∧ i = .int .i64 k ∧ v = .int .i64 (hexN (d.take k)) ∧ (d.take k).all hexB = true) (fun _ _ _ i => d.length - (intOf i).toNat)
      case atStart => exact ⟨0, Nat.zero_le _, rfl, rfl, rfl⟩
      case round =>
        obtain ⟨k, hk, rfl, rfl, hall⟩ := hrel
        have HA := box hall
        clear hall
        by_cases hlt : k < d.length
        · have hkl : k < ld.size := by omega
          have hki : (k : Int) < (ld.size : Int) := by omega
          have hat := HAT.out k hkl hlt
          obtain ⟨c, hc⟩ : ∃ c, d[k] = c := ⟨_, rfl⟩
          rw [hc] at hat
          have hix := hex_index c
          have HTK : Box (d.take (k + 1) = d.take k ++ [c]) := box (by rw [List.take_succ_eq_append_getElem hlt, hc])
          obtain ⟨y, hy⟩ : ∃ y : UInt8, ld[k] = y := ⟨_, rfl⟩
          have HY := box hy
          rw [hy] at hat
          rcases hh : hexB c with _ | _
          · rw [hh, if_neg (by simp)] at hix
            have HI : Box (Lib.indexByte lowHex.data.toList ((y.toNat : Int)).toNat.toUInt8 = -1) := box (by
              rw [← hix, hat]; congr 1; simp)
            have HE : Box (sizeL s.data.toList = none) := box (by
              rw [HSZ.out, sizeC_no (.inr (.inr (.inl ?_)))]
              rw [← List.take_append_drop (k + 1) d, HTK.out]
              simp [hh])
            clear hh hix hat hy hc
            go_wp2_with fail
            rw [HY.out]
            refine (sIndexByte_is HI).mono ?_; rintro e w3 ⟨rfl, rfl⟩
            go_wp2
            go_ret2
            exact ⟨by rw [HE.out]; rfl, BL.out⟩
          · rw [hh, if_pos rfl] at hix
            obtain ⟨p1, p2⟩ := hex_bd hh
            obtain ⟨p, hp⟩ : ∃ p : Nat, hexI c.toNat = (p : Int) := ⟨(hexI c.toNat).toNat, by omega⟩
            have HI : Box (Lib.indexByte lowHex.data.toList ((y.toNat : Int)).toNat.toUInt8 = (p : Int)) := box (by
              rw [← hp, ← hix, hat]; congr 1; simp)
            obtain ⟨a, ha⟩ : ∃ a, hexN (d.take k) = a := ⟨_, rfl⟩
            have ha2 : a < 4294967296 := by
              have h1 := hexN_lt (d.take k) (fun c hc => List.all_eq_true.mp HA.out c hc)
              rw [ha] at h1
              refine Nat.lt_of_lt_of_le h1 (Nat.le_trans (Nat.pow_le_pow_right (by omega) (?_ : _ ≤ 8)) (by decide))
              rw [List.length_take]; omega
            have HN : Box ((hexN (d.take (k + 1)) : Int) = (a : Int) * 16 + (p : Int)) := box (by
              rw [HTK.out, hexN_snoc, ha, hp]; simp)
            have HA2 : Box ((d.take (k + 1)).all hexB = true) := box (by rw [HTK.out, List.all_append, HA.out]; simp [hh])
            have HAA := box ha
            have hor := box (or_nat a p ha2 (by omega))
            have hp0 : (0 : Int) ≤ (p : Int) := by omega
            have hp15 : (p : Int) ≤ 15 := by omega
            have ha0 : (0 : Int) ≤ (a : Int) := by omega
            have ha3 : (a : Int) ≤ 4294967296 := by omega
            rw [HAA.out]
            clear hh hix hat hy hc hp p1 p2 ha ha2
            go_wp2_with fail
            rw [HY.out]
            refine (sIndexByte_is HI).mono ?_; rintro e w3 ⟨rfl, rfl⟩
            go_wp2
            go_round
            case rel => exact ⟨k + 1, by omega, by go_num, by rw [HN.out, ← hor.out], HA2.out⟩
            case measure => simp [intOf]; omega
        · obtain rfl : k = d.length := by omega
          rw [List.take_length] at HA
          clear hlt
          by_cases hd0 : d = []
          · subst hd0
            have HE : Box (sizeL s.data.toList = none) := box (by rw [HSZ.out, sizeC_no (.inr (.inr (.inr rfl)))])
            have hem : (bs ([] : List UInt8)).toList.isEmpty = true := by rw [toList_bs]; rfl
            go_wp2
            go_ret2
            exact ⟨by rw [HE.out]; rfl, BL.out⟩
          · have HE : Box (sizeL s.data.toList = some (hexN d)) := box (by rw [HSZ.out, sizeC_yes h8 HTX.out HA.out hd0])
            have hem : (bs d).toList.isEmpty = false := by rw [toList_bs]; cases d <;> simp_all
            rw [List.take_length]
            go_wp2
            go_ret2
            exact ⟨by rw [HE.out]; rfl, BL.out⟩
  · have h8i : (8 : Int) < ((bs d).size : Int) := by rw [HDL.out]; omega
    have HE : Box (sizeL s.data.toList = none) := box (by rw [HSZ.out, sizeC_no (.inl h8)])
    go_enter Try.func90, Try.ntmps90
    go_wp2_with fail
    refine (Cut_any s 59 _ HM.out).mono ?_; rintro e w1 ⟨rfl, hb1⟩; rw [HC.out]
    go_wp2
    go_ret2
    exact ⟨by rw [HE.out]; rfl, hb1⟩
/-- what nextSize returns for a line with room bytes left -/
def nsV (room : Int) : Int ⊕ (List UInt8 × List UInt8) → Value
  | .inl e => .tuple #[.int .i64 0, .int .i64 e]
  | .inr (t, r) => match sizeL t with
    | none => .tuple #[.int .i64 0, .int .i64 1]
    | some n => if room < (n : Int) then .tuple #[.int .i64 0, .int .i64 5] else .tuple #[.int .i64 n, .int .i64 0]
theorem clo5_is {k : Nat} {x r : ByteArray} {v : Value} {w : World} (hs : x.size ≤ 4000000) (h : Box (StrAt k x w)) (hv : Box (cloV (nextL x.data.toList) = v)) (hr : Box (cloR (nextL x.data.toList) = r)) :
    Calls Try.prog 72 #[.pointer (some ⟨k, 0, none⟩)] w fun e w' => e = .returned v ∧ StrAt k r w' ∧ Only k w w' :=
  (clo5_any k x w hs h).mono fun e w' ⟨h1, h2, h3⟩ => ⟨by rw [h1, hv.out], by rw [← hr.out]; exact h2, h3⟩
theorem parse5_is {t : List UInt8} {o : Option Nat} {w : World} (hs : t.length ≤ 2000) (h : Box (sizeL t = o)) :
    Calls Try.prog 90 #[.string (bs t)] w fun e w' => e = .returned (szV o) ∧ Below w.heap.size w w' :=
  (cParse_any (bs t) w (by rw [bs_size]; omega)).mono fun e w' ⟨h1, h2⟩ => ⟨by rw [h1, bs_toList, h.out], h2⟩
theorem next5_any (k : Nat) (x : ByteArray) (room : Int) (w : World) (hs : x.size ≤ 4000000) (h : Box (StrAt k x w)) (h0 : 0 ≤ room) (h1 : room ≤ 100000) :
    Calls Try.prog 73 #[.func (.func 72) #[] #[.pointer (some ⟨k, 0, none⟩)], .int .i64 room] w fun e w' => e = .returned (nsV room (nextL x.data.toList)) ∧ StrAt k (cloR (nextL x.data.toList)) w' ∧ Only k w w' := by
  obtain ⟨r, hr⟩ : ∃ r, cloR (nextL x.data.toList) = r := ⟨_, rfl⟩
  have HR := box hr
  rcases hn : nextL x.data.toList with e0 | ⟨t, r'⟩
  · have HV : Box (cloV (nextL x.data.toList) = .tuple #[.string ⟨#[]⟩, .int .i64 e0]) := box (by rw [hn]; rfl)
    have HE : Box (nsV room (nextL x.data.toList) = .tuple #[.int .i64 0, .int .i64 e0]) := box (by rw [hn]; rfl)
    have he := err_size hn
    rw [← hn]
    clear hn hr
    rcases he with rfl | rfl | rfl
    all_goals
      go_enter Try.func73, Try.ntmps73
      go_wp2_with fail
      refine (clo5_is hs h HV HR).mono ?_; rintro e w1 ⟨rfl, hs1, ho1⟩
      have S1 := box hs1
      have O1 := box ho1
      clear hs1 ho1
      go_wp2
      go_ret2
      exact ⟨by rw [HE.out]; rfl, by rw [HR.out]; exact S1.out, O1.out⟩
  · have htl : t.length ≤ 2000 := (next_line hn).2.2
    have HV : Box (cloV (nextL x.data.toList) = .tuple #[.string (bs t), .int .i64 0]) := box (by rw [hn]; rfl)
    rcases hz : sizeL t with _ | n
    · have HE : Box (nsV room (nextL x.data.toList) = .tuple #[.int .i64 0, .int .i64 1]) := box (by rw [hn]; simp only [nsV, hz])
      have HZ := box hz
      rw [← hn]
      clear hn hr hz
      go_enter Try.func73, Try.ntmps73
      go_wp2_with fail
      refine (clo5_is hs h HV HR).mono ?_; rintro e w1 ⟨rfl, hs1, ho1⟩
      have S1 := box hs1
      have O1 := box ho1
      clear hs1 ho1
      go_wp2_with fail
      refine (parse5_is htl HZ).mono ?_; rintro e w2 ⟨rfl, hb2⟩; unfold szV
      have S2 := box (S1.out.below hb2 S1.out.lt)
      have O2 := box (O1.out.trans (Only.of hb2))
      clear hb2
      go_wp2
      go_ret2
      exact ⟨by rw [HE.out]; rfl, by rw [HR.out]; exact S2.out, O2.out⟩
    · have hnb := size_bd hz
      have hnb2 : (n : Int) ≤ 4294967296 := by omega
      have HZ := box hz
      by_cases hlt : room < (n : Int)
      · have HE : Box (nsV room (nextL x.data.toList) = .tuple #[.int .i64 0, .int .i64 5]) := box (by rw [hn]; simp only [nsV, hz, if_pos hlt])
        rw [← hn]
        clear hn hr hz hnb
        go_enter Try.func73, Try.ntmps73
        go_wp2_with fail
        refine (clo5_is hs h HV HR).mono ?_; rintro e w1 ⟨rfl, hs1, ho1⟩
        have S1 := box hs1
        have O1 := box ho1
        clear hs1 ho1
        go_wp2_with fail
        refine (parse5_is htl HZ).mono ?_; rintro e w2 ⟨rfl, hb2⟩; unfold szV
        have S2 := box (S1.out.below hb2 S1.out.lt)
        have O2 := box (O1.out.trans (Only.of hb2))
        clear hb2
        go_wp2
        go_ret2
        exact ⟨by rw [HE.out]; rfl, by rw [HR.out]; exact S2.out, O2.out⟩
      · have HE : Box (nsV room (nextL x.data.toList) = .tuple #[.int .i64 n, .int .i64 0]) := box (by rw [hn]; simp only [nsV, hz, if_neg hlt])
        rw [← hn]
        clear hn hr hz hnb
        go_enter Try.func73, Try.ntmps73
        go_wp2_with fail
        refine (clo5_is hs h HV HR).mono ?_; rintro e w1 ⟨rfl, hs1, ho1⟩
        have S1 := box hs1
        have O1 := box ho1
        clear hs1 ho1
        go_wp2_with fail
        refine (parse5_is htl HZ).mono ?_; rintro e w2 ⟨rfl, hb2⟩; unfold szV
        have S2 := box (S1.out.below hb2 S1.out.lt)
        have O2 := box (O1.out.trans (Only.of hb2))
        clear hb2
        go_wp2
        go_ret2
        exact ⟨by rw [HE.out]; rfl, by rw [HR.out]; exact S2.out, O2.out⟩
/-- the bytes of a chunk and what follows their end -/
def dataL (n : Nat) (l : List UInt8) : Int ⊕ (List UInt8 × List UInt8) := if l.length < n then .inl 2 else match endL (l.drop n) with | .inl e => .inl e | .inr r => .inr (l.take n, r)
theorem cData_any (s : ByteArray) (n : Nat) (w : World) (hs : s.size ≤ 4000000) (hn : n ≤ 100000) :
    Calls Try.prog 74 #[.string s, .int .i64 n] w fun e w' => e = .returned (lineV (dataL n s.data.toList)) ∧ w = w' := by
  have hz : s.data.toList.length = s.size := by simp
  by_cases hl : s.size < n
  · have HE : Box (lineV (dataL n s.data.toList) = .tuple #[.string ⟨#[]⟩, .string ⟨#[]⟩, .int .i64 2]) := box (by unfold dataL; rw [if_pos (by omega)]; rfl)
    have hli : (s.size : Int) < (n : Int) := by omega
    go_enter Try.func74, Try.ntmps74
    go_wp2
    go_ret3
    exact ⟨by rw [HE.out]; rfl, rfl⟩
  · have hli : ¬ (s.size : Int) < (n : Int) := by omega
    have hni : (n : Int) ≤ (s.size : Int) := by omega
    have HSL : Box ((s.extract n s.size).size ≤ 4000000) := box (by rw [ByteArray.size_extract]; omega)
    have HD : Box ((s.extract n s.size).data.toList = s.data.toList.drop n) := box (by rw [ext_bs, List.take_of_length_le (by simp)]; rfl)
    have hN : dataL n s.data.toList = match endL (s.data.toList.drop n) with | .inl e => .inl e | .inr r => .inr (s.data.toList.take n, r) := by
      unfold dataL; rw [if_neg (by omega)]
    have hem : n = s.size → (s.extract s.size s.size) = ByteArray.empty := fun _ => by rw [ext_bs, List.drop_of_length_le (by simp)]; rfl
    rcases hq : endL (s.data.toList.drop n) with e0 | r
    · have HE : Box (lineV (dataL n s.data.toList) = .tuple #[.string ⟨#[]⟩, .string ⟨#[]⟩, .int .i64 e0]) := box (by rw [hN, hq]; rfl)
      have HQ : Box (endL (s.extract n s.size).data.toList = .inl e0) := box (by rw [HD.out, hq])
      have he0 : e0 = 1 ∨ e0 = 2 := by
        unfold endL at hq
        split at hq
        · cases hq; exact .inr rfl
        · split at hq <;> cases hq <;> simp
        · split at hq <;> cases hq; exact .inl rfl
      clear hN HD hq hl hz
      by_cases he : n = s.size
      · subst he
        rw [hem rfl] at HQ
        have HZ : ByteArray.empty.size ≤ 4000000 := by decide
        clear HSL hem
        rcases he0 with rfl | rfl
        all_goals
          go_enter Try.func74, Try.ntmps74
          go_wp2_with fail
          refine (cEnd_is HZ HQ).mono ?_; rintro e w2 ⟨rfl, rfl⟩; unfold endV
          go_wp2
          go_ret3
          exact ⟨by rw [HE.out]; rfl, rfl⟩
      · clear hem
        rcases he0 with rfl | rfl
        all_goals
          go_enter Try.func74, Try.ntmps74
          go_wp2_with fail
          refine (cEnd_is HSL.out HQ).mono ?_; rintro e w2 ⟨rfl, rfl⟩; unfold endV
          go_wp2
          go_ret3
          exact ⟨by rw [HE.out]; rfl, rfl⟩
    · have HE : Box (lineV (dataL n s.data.toList) = .tuple #[.string (s.extract 0 n), .string (bs r), .int .i64 0]) := box (by rw [hN, hq, ext_bs, List.drop_zero]; rfl)
      have HQ : Box (endL (s.extract n s.size).data.toList = .inr r) := box (by rw [HD.out, hq])
      have hne : n ≠ s.size := by
        intro e
        rw [List.drop_of_length_le (by omega)] at hq
        simp [endL] at hq
      clear hN HD hq hl hz hem
      go_enter Try.func74, Try.ntmps74
      go_wp2_with fail
      refine (cEnd_is HSL.out HQ).mono ?_; rintro e w2 ⟨rfl, rfl⟩; unfold endV
      go_wp2
      go_ret3
      exact ⟨by rw [HE.out]; rfl, rfl⟩
end
section
open Go.RowKit
/-- what skipTrailer returns and leaves in the variable -/
def SkipPost (k : Nat) (o : Int ⊕ List UInt8) (e : Ending) (w' : World) : Prop := match o with
  | .inl c => e = .returned (.int .i64 c) ∧ (c = 0 → False)
  | .inr r => e = .returned (.int .i64 0) ∧ StrAt k (bs r) w'
theorem next_le {l t r : List UInt8} (h : nextL l = .inr (t, r)) : r.length ≤ l.length := by
  have := congrArg List.length (next_line h).1
  simp at this; omega
theorem Parse5_is {t : List UInt8} {a1 a2 : List UInt8} {e2 : Int} {w : World} (hs : t.length ≤ 2000) (h : Box (fieldL t = (a1, a2, e2))) :
    Calls Try.prog 49 #[.string (bs t)] w fun e w' => e = .returned (.tuple #[.agg #[.string (bs a1), .string (bs a2)], .int .i64 e2]) ∧ Below w.heap.size w w' :=
  (Parse_any (bs t) w (by rw [bs_size]; unfold maxLen; omega)).mono fun e w' ⟨h1, h2⟩ => ⟨by rw [h1, bs_toList, h.out, fieldV_mk], h2⟩
def SkipRel (k : Nat) (x : ByteArray) (w : World) (c : Value) (wr : World) : Prop := ∃ (j : Nat) (y : ByteArray), c = .int .i64 j ∧ j ≤ 64 ∧ y.size ≤ 4000000 ∧ trailF 66 0 x.data.toList = trailF (66 - j) j y.data.toList ∧ StrAt k y wr ∧ Only k w wr
set_option maxHeartbeats 1000000 in
theorem skip5_any (k : Nat) (x : ByteArray) (w : World) (hs : x.size ≤ 4000000) (h : Box (StrAt k x w)) :
    Calls Try.prog 75 #[.func (.func 72) #[] #[.pointer (some ⟨k, 0, none⟩)]] w fun e w' => SkipPost k (trailF 66 0 x.data.toList) e w' ∧ Only k w w' := by
  go_enter Try.func75, Try.ntmps75
  go_wp2
  go_loopw [3] (fun c wr => SkipRel k x w c wr) (fun c _ => 65 - (intOf c).toNat)
  case atStart => exact ⟨0, x, rfl, Nat.zero_le _, hs, rfl, h.out, Only.refl _ _⟩
  case round =>
    obtain ⟨j, y, rfl, hj, hy, hT, hS, hO⟩ := hrel
    obtain ⟨g, hg⟩ : ∃ g, 66 - j = g + 1 := ⟨65 - j, by omega⟩
    rw [hg] at hT
    have HT := box hT
    have S0 := box hS
    have O0 := box hO
    clear hT hS hO
    obtain ⟨r0, hr0⟩ : ∃ r0, cloR (nextL y.data.toList) = r0 := ⟨_, rfl⟩
    have HR := box hr0
    rcases hn : nextL y.data.toList with e0 | ⟨t, r⟩
    · have HV : Box (cloV (nextL y.data.toList) = .tuple #[.string ⟨#[]⟩, .int .i64 e0]) := box (by rw [hn]; rfl)
      have HE : Box (trailF 66 0 x.data.toList = .inl e0) := box (by rw [HT.out, trail_bad hn])
      have he := err_size hn
      clear hn hr0
      rcases he with rfl | rfl | rfl
      all_goals
        go_wp2_with fail
        refine (clo5_is hy S0 HV HR).mono ?_; rintro e w1 ⟨rfl, hs1, ho1⟩
        have O1 := box (O0.out.trans ho1)
        clear hs1 ho1
        go_wp2
        go_ret
        refine ⟨?_, O1.out⟩
        rw [HE.out]
        exact ⟨rfl, by decide⟩
    · have htl : t.length ≤ 2000 := (next_line hn).2.2
      have hrl := next_le hn
      have HV : Box (cloV (nextL y.data.toList) = .tuple #[.string (bs t), .int .i64 0]) := box (by rw [hn]; rfl)
      have hr1 : r0 = bs r := by rw [← hr0, hn]; rfl
      subst hr1
      have hyl : y.data.toList.length = y.size := by simp
      have hrz : (bs r).size ≤ 4000000 := by rw [bs_size]; omega
      clear hr0 hyl hrl
      by_cases ht : t = []
      · subst ht
        have HE : Box (trailF 66 0 x.data.toList = .inr r) := box (by rw [HT.out, trail_done hn])
        clear hn
        go_wp2_with fail
        refine (clo5_is hy S0 HV HR).mono ?_; rintro e w1 ⟨rfl, hs1, ho1⟩
        have S1 := box hs1
        have O1 := box (O0.out.trans ho1)
        clear hs1 ho1
        rw [show bs ([] : List UInt8) = (⟨#[]⟩ : ByteArray) from rfl]
        go_wp2
        go_ret
        refine ⟨?_, O1.out⟩
        rw [HE.out]
        exact ⟨rfl, S1.out⟩
      · have hte : (bs t).toList.isEmpty = false := by rw [toList_bs]; cases t <;> simp_all
        by_cases hj64 : j = 64
        · subst hj64
          have HE : Box (trailF 66 0 x.data.toList = .inl 4) := box (by rw [HT.out, trail_many hn ht])
          clear hn ht
          go_wp2_with fail
          refine (clo5_is hy S0 HV HR).mono ?_; rintro e w1 ⟨rfl, hs1, ho1⟩
          have O1 := box (O0.out.trans ho1)
          clear hs1 ho1
          go_wp2
          go_ret
          refine ⟨?_, O1.out⟩
          rw [HE.out]
          exact ⟨rfl, by decide⟩
        · have hji : ((j : Int) == 64) = false := by rw [beq_eq_false_iff_ne]; omega
          obtain ⟨a1, a2, e2, hfl⟩ : ∃ a1 a2 e2, fieldL t = (a1, a2, e2) := ⟨_, _, _, rfl⟩
          have HF := box hfl
          rcases he2 : ((e2 : Int) != 0) with _ | _
          · have he20 : e2 = 0 := by simpa using he2
            have HNX := box (HT.out.trans (trail_next hn ht hj64 (by rw [hfl]; exact he20)))
            clear hn ht hfl he20
            go_wp2_with fail
            refine (clo5_is hy S0 HV HR).mono ?_; rintro e w1 ⟨rfl, hs1, ho1⟩
            have S1 := box hs1
            have O1 := box (O0.out.trans ho1)
            clear hs1 ho1
            go_wp2_with fail
            refine (Parse5_is htl HF).mono ?_; rintro e w2 ⟨rfl, hb2⟩
            have S2 := box (S1.out.below hb2 S1.out.lt)
            have O2 := box (O1.out.trans (Only.of hb2))
            clear hb2
            go_wp2
            go_roundw
            case rel => exact ⟨j + 1, bs r, by go_num, by omega, hrz, by rw [show 66 - (j + 1) = g from by omega]; exact HNX.out, S2.out.below (below_new _ _) S2.out.lt, O2.out.trans (Only.of (below_new _ _))⟩
            case measure => simp [intOf]; omega
          · have he20 : e2 ≠ 0 := by simpa using he2
            have HE : Box (trailF 66 0 x.data.toList = .inl e2) := box (by rw [HT.out, trail_field hn ht hj64 (by rw [hfl]; exact he20), hfl])
            have HNE := box he20
            clear hn ht hfl he20
            go_wp2_with fail
            refine (clo5_is hy S0 HV HR).mono ?_; rintro e w1 ⟨rfl, hs1, ho1⟩
            have S1 := box hs1
            have O1 := box (O0.out.trans ho1)
            clear hs1 ho1
            go_wp2_with fail
            refine (Parse5_is htl HF).mono ?_; rintro e w2 ⟨rfl, hb2⟩
            have O2 := box (O1.out.trans (Only.of hb2))
            clear hb2
            go_wp2
            go_ret
            refine ⟨?_, O2.out.trans (Only.of (below_new _ _))⟩
            rw [HE.out]
            exact ⟨rfl, HNE.out⟩
end
section
open Go.RowKit
theorem ck_dataL {body l t r : List UInt8} {n : Nat} (h : nextL l = .inr (t, r)) (hs : sizeL t = some n) (hn : ¬ 100000 < n + body.length) (h0 : n ≠ 0) :
    chunkL body l = match dataL n r with | .inl e => .bad e | .inr (d, r2) => .data d r2 := by
  by_cases hr : r.length < n
  · rw [ck_short h hs hn h0 hr]; unfold dataL; rw [if_pos hr]
  · have e2 : r.drop (n + 2) = (r.drop n).drop 2 := by rw [List.drop_drop]
    unfold dataL
    rw [if_neg hr]
    rcases hq : r.drop n with _ | ⟨c, _ | ⟨d, r'⟩⟩
    · rw [ck_short2 h hs hn h0 hr (.inl hq)]; rfl
    · by_cases hc : c = 13
      · subst hc; rw [ck_short2 h hs hn h0 hr (.inr hq)]; rfl
      · rw [ck_syntax h hs hn h0 hr (by rw [hq]; simp [hc]) (by rw [hq]; simp)]
        simp [endL, hc]
    · by_cases hc : c = 13 ∧ d = 10
      · obtain ⟨rfl, rfl⟩ := hc
        rw [ck_data h hs hn h0 hr (by rw [hq]; simp) (by rw [hq]; rfl), e2, hq]
        simp [endL]
      · rw [ck_syntax h hs hn h0 hr (by rw [hq]; simp) (by rw [hq]; simpa using fun a b => hc ⟨a, b⟩)]
        simp only [endL, if_neg hc]
theorem data_err {n : Nat} {r : List UInt8} {e : Int} (h : dataL n r = .inl e) : e = 1 ∨ e = 2 := by
  unfold dataL at h
  split at h
  · cases h; exact .inr rfl
  · split at h
    · rename_i hq
      cases h
      unfold endL at hq
      split at hq
      · cases hq; exact .inr rfl
      · split at hq <;> cases hq <;> simp
      · split at hq <;> cases hq; exact .inl rfl
    · cases h
theorem end_ok {l r : List UInt8} (h : endL l = .inr r) : l = 13 :: 10 :: r := by
  rcases l with _ | ⟨c, _ | ⟨d, r'⟩⟩
  · cases h
  · by_cases hc : c = 13 <;> simp [endL, hc] at h
  · by_cases hc : c = 13 ∧ d = 10
    · simp only [endL, if_pos hc] at h
      cases h
      rw [hc.1, hc.2]
    · simp only [endL, if_neg hc] at h
      cases h
theorem data_ok {n : Nat} {r d r2 : List UInt8} (h : dataL n r = .inr (d, r2)) : d.length = n ∧ r2.length + n ≤ r.length ∧ d = r.take n := by
  unfold dataL at h
  split at h
  · cases h
  · split at h
    · cases h
    · rename_i hl _ _ hq
      cases h
      have := congrArg List.length (end_ok hq)
      rw [List.length_drop] at this
      simp at this
      exact ⟨by rw [List.length_take]; omega, by omega, rfl⟩
theorem trail_le : ∀ {f k : Nat} {l r : List UInt8}, trailF f k l = .inr r → r.length ≤ l.length
  | 0, k, l, r, h => by cases h
  | f + 1, k, l, r, h => by
    unfold trailF at h
    split at h
    · cases h
    · rename_i t r' hn
      have hl := next_le hn
      split at h
      · cases h; exact hl
      · split at h
        · cases h
        · split at h
          · cases h
          · exact Nat.le_trans (trail_le h) hl
theorem Own.slice {w : World} {B : Nat} {v : Value} {l : List UInt8} (h : Own w B v l) : ∃ a cap, v = .slice a l.length cap := by
  rcases h.2 with ⟨rfl, hn⟩ | ⟨g, cap, cur, rfl, _⟩
  · exact ⟨none, 0, by rw [hn]⟩
  · exact ⟨_, cap, rfl⟩
theorem next5_is {k : Nat} {x r : ByteArray} {room : Int} {v : Value} {w : World} (hs : x.size ≤ 4000000) (h : Box (StrAt k x w)) (h0 : 0 ≤ room) (h1 : room ≤ 100000) (hv : Box (nsV room (nextL x.data.toList) = v)) (hr : Box (cloR (nextL x.data.toList) = r)) :
    Calls Try.prog 73 #[.func (.func 72) #[] #[.pointer (some ⟨k, 0, none⟩)], .int .i64 room] w fun e w' => e = .returned v ∧ StrAt k r w' ∧ Only k w w' :=
  (next5_any k x room w hs h h0 h1).mono fun e w' ⟨h1, h2, h3⟩ => ⟨by rw [h1, hv.out], by rw [← hr.out]; exact h2, h3⟩
theorem data5_is {l : List UInt8} {n : Nat} {v : Value} {w : World} (hs : l.length ≤ 4000000) (hn : n ≤ 100000) (h : Box (lineV (dataL n l) = v)) :
    Calls Try.prog 74 #[.string (bs l), .int .i64 n] w fun e w' => e = .returned v ∧ w = w' :=
  (cData_any (bs l) n w (by rw [bs_size]; exact hs) hn).mono fun e w' ⟨h1, h2⟩ => ⟨by rw [h1, bs_toList, h.out], h2⟩
def DecR (s : ByteArray) (w : World) (g : Nat) (v : Value) (wr : World) : Prop := ∃ (b : List UInt8) (y : ByteArray), Own wr (w.heap.size + 1) v b ∧ b.length ≤ 100000 ∧ y.size ≤ 4000000 ∧ y.data.toList.length ≤ g ∧ chunksF (s.data.toList.length + 1) [] s.data.toList = chunksF (g + 1) b y.data.toList ∧ StrAt w.heap.size y wr ∧ Below w.heap.size w wr ∧ w.heap.size + 1 ≤ wr.heap.size
set_option maxRecDepth 100000 in
set_option maxHeartbeats 4000000 in
theorem cDecode_any (s : ByteArray) (w : World) (hs : s.size ≤ 2000000) :
    Calls Try.prog 59 #[.string s] w fun e w' => e = .returned (dcV (decodeL s.data.toList)) ∧ Below w.heap.size w w' := by
  have hmf : ∀ (fn : Fn) (first cap : Array Value) (w : World), (Instr.makeFunc fn first cap).run Try.prog w = .ok (.func fn first cap) w := fun _ _ _ _ => rfl
  have hz : s.data.toList.length = s.size := by simp
  go_enter Try.func59, Try.ntmps59
  go_wp2
  go_loopg [7] s.size (fun g v wr => DecR s w g v wr)
  case atStart => exact ⟨[], s, Own.nil _ _, by simp, by omega, by omega, by rw [hz], StrAt.new s w _, below_new _ _, by simp⟩
  case round =>
    obtain ⟨b, y, hO, hb, hy, hg, hC, hS, hbel, hsz⟩ := hrel
    obtain ⟨a, cap, rfl⟩ := hO.slice
    have O0 := box hO
    have HC := box hC
    have S0 := box hS
    have BL := box hbel
    have HSZ := box hsz
    have hbi : (b.length : Int) ≤ 100000 := by omega
    have hr0 : (0 : Int) ≤ 100000 - (b.length : Int) := by omega
    have hr1 : 100000 - (b.length : Int) ≤ 100000 := by omega
    clear hO hC hS hbel hsz
    obtain ⟨r0, hr0'⟩ : ∃ r0, cloR (nextL y.data.toList) = r0 := ⟨_, rfl⟩
    have HR := box hr0'
    rcases hn : nextL y.data.toList with e0 | ⟨t, r⟩
    · have HV : Box (nsV (100000 - (b.length : Int)) (nextL y.data.toList) = .tuple #[.int .i64 0, .int .i64 e0]) := box (by rw [hn]; rfl)
      have HE : Box (decodeL s.data.toList = ([], 0, e0)) := box (dec_bad HC.out (ck_next hn))
      have he := err_size hn
      clear hn hr0'
      rcases he with rfl | rfl | rfl
      all_goals
        go_wp2_with fail
        refine (next5_is hy S0 hr0 hr1 HV HR).mono ?_; rintro e w1 ⟨rfl, hs1, ho1⟩
        have B1 := box (BL.out.trans (ho1.below (Nat.le_refl _) BL.out.size))
        clear hs1 ho1
        go_wp2
        go_ret3
        exact ⟨by rw [HE.out]; rfl, B1.out⟩
    · have hyl : y.data.toList.length = y.size := by simp
      have hrl := next_le hn
      have hr1' : r0 = bs r := by rw [← hr0', hn]; rfl
      subst hr1'
      have hrz : r.length ≤ 4000000 := by omega
      rcases hsz' : sizeL t with _ | n
      · have HV : Box (nsV (100000 - (b.length : Int)) (nextL y.data.toList) = .tuple #[.int .i64 0, .int .i64 1]) := box (by rw [hn]; simp only [nsV, hsz'])
        have HE : Box (decodeL s.data.toList = ([], 0, 1)) := box (dec_bad HC.out (ck_size hn hsz'))
        clear hn hr0' hsz'
        go_wp2_with fail
        refine (next5_is hy S0 hr0 hr1 HV HR).mono ?_; rintro e w1 ⟨rfl, hs1, ho1⟩
        have B1 := box (BL.out.trans (ho1.below (Nat.le_refl _) BL.out.size))
        clear hs1 ho1
        go_wp2
        go_ret3
        exact ⟨by rw [HE.out]; rfl, B1.out⟩
      · by_cases h5 : 100000 < n + b.length
        · have HV : Box (nsV (100000 - (b.length : Int)) (nextL y.data.toList) = .tuple #[.int .i64 0, .int .i64 5]) := box (by rw [hn]; simp only [nsV, hsz']; rw [if_pos (by omega)])
          have HE : Box (decodeL s.data.toList = ([], 0, 5)) := box (dec_bad HC.out (ck_body hn hsz' h5))
          clear hn hr0' hsz' h5
          go_wp2_with fail
          refine (next5_is hy S0 hr0 hr1 HV HR).mono ?_; rintro e w1 ⟨rfl, hs1, ho1⟩
          have B1 := box (BL.out.trans (ho1.below (Nat.le_refl _) BL.out.size))
          clear hs1 ho1
          go_wp2
          go_ret3
          exact ⟨by rw [HE.out]; rfl, B1.out⟩
        · have HV : Box (nsV (100000 - (b.length : Int)) (nextL y.data.toList) = .tuple #[.int .i64 n, .int .i64 0]) := box (by rw [hn]; simp only [nsV, hsz']; rw [if_neg (by omega)])
          by_cases h0 : n = 0
          · subst h0
            have HL := box (dec_last HC.out (ck_last hn hsz' h5))
            clear hn hr0' hsz' h5
            go_wp2_with fail
            refine (next5_is hy S0 hr0 hr1 HV HR).mono ?_; rintro e w1 ⟨rfl, hs1, ho1⟩
            have B1 := box (BL.out.trans (ho1.below (Nat.le_refl _) BL.out.size))
            have S1 := box hs1
            have O1 := box (own_only O0.out ho1 (Nat.lt_succ_self _))
            clear hs1 ho1
            have hrz2 : (bs r).size ≤ 4000000 := by rw [bs_size]; exact hrz
            go_wp2_with fail
            refine (skip5_any _ (bs r) _ hrz2 S1).mono ?_; rintro e w2 ⟨hp, ho2⟩
            have B2 := box (B1.out.trans (ho2.below (Nat.le_refl _) B1.out.size))
            have O2 := box (own_only O1.out ho2 (Nat.lt_succ_self _))
            rw [bs_toList] at hp
            clear ho2
            rcases ht : trailF 66 0 r with c | r2
            · rw [ht] at hp
              obtain ⟨rfl, hc0⟩ := hp
              have HE : Box (decodeL s.data.toList = ([], 0, c)) := box (by rw [HL.out, ht])
              have hcn : (c != 0) = true := by rw [bne_iff_ne]; exact fun e => hc0 e
              clear ht hc0
              go_wp2
              go_ret3
              exact ⟨by rw [HE.out]; rfl, B2.out⟩
            · rw [ht] at hp
              obtain ⟨rfl, hs2⟩ := hp
              have hst := fun n => Own.str (Own.drewN (n := n) O2.out)
              have c2 := hs2.1
              have hr2l : (bs r2).size ≤ 4000000 := by rw [bs_size]; exact Nat.le_trans (trail_le ht) hrz
              have HE : Box (decodeL s.data.toList = (b, (s.size : Int) - ((bs r2).size : Int), 0)) := box (by rw [HL.out, ht, bs_size, hz])
              clear ht
              go_wp2
              go_quiet (fail)
              go_wp2
              go_ret3
              refine ⟨?_, B2.out.trans ((below_drewN _ _).mono B2.out.size)⟩
              rw [HE.out]; rfl
          · have h0i : ((n : Int) == 0) = false := by rw [beq_eq_false_iff_ne]; omega
            have hnz : n ≤ 100000 := by omega
            have hck := ck_dataL hn hsz' h5 h0
            rcases hd : dataL n r with e0 | ⟨d, r2⟩
            · have HE : Box (decodeL s.data.toList = ([], 0, e0)) := box (dec_bad HC.out (by rw [hck, hd]))
              have HD : Box (lineV (dataL n r) = .tuple #[.string ⟨#[]⟩, .string ⟨#[]⟩, .int .i64 e0]) := box (by rw [hd]; rfl)
              have he := data_err hd
              clear hn hr0' hsz' h5 hck hd
              rcases he with rfl | rfl
              all_goals
                go_wp2_with fail
                refine (next5_is hy S0 hr0 hr1 HV HR).mono ?_; rintro e w1 ⟨rfl, hs1, ho1⟩
                have B1 := box (BL.out.trans (ho1.below (Nat.le_refl _) BL.out.size))
                have c1 := hs1.1
                clear ho1
                go_wp2_with fail
                refine (data5_is hrz hnz HD).mono ?_; rintro e w2 ⟨rfl, rfl⟩
                go_wp2
                go_ret3
                exact ⟨by rw [HE.out]; rfl, B1.out⟩
            · obtain ⟨hd1, hd2, hd3⟩ := data_ok hd
              have HD : Box (lineV (dataL n r) = .tuple #[.string (bs d), .string (bs r2), .int .i64 0]) := box (by rw [hd]; rfl)
              obtain ⟨g', rfl⟩ : ∃ g', gk = g' + 1 := ⟨gk - 1, by omega⟩
              have HC2 := box (HC.out.trans (chunks_data (by rw [hck, hd])))
              have hr2z : (bs r2).size ≤ 4000000 := by rw [bs_size]; omega
              have hdz : (bs d).size = n := by rw [bs_size]; exact hd1
              have hbn : b.length + (bs d).size < 8589934592 := by omega
              have HLB : Box ((b ++ (bs d).data.toList).length ≤ 100000) := box (by rw [bs_toList, List.length_append]; omega)
              have HG : Box ((bs r2).data.toList.length ≤ g') := box (by rw [bs_toList]; omega)
              clear hn hr0' hsz' h5 hck hd hd1 hd2 hd3
              go_wp2_with fail
              refine (next5_is hy S0 hr0 hr1 HV HR).mono ?_; rintro e w1 ⟨rfl, hs1, ho1⟩
              have B1 := box (BL.out.trans (ho1.below (Nat.le_refl _) BL.out.size))
              have S1 := box hs1
              have O1 := box (own_only O0.out ho1 (Nat.lt_succ_self _))
              have hsz1 : w.heap.size + 1 ≤ w1.heap.size := Nat.le_trans HSZ.out ho1.size
              have c1 := hs1.1
              clear ho1 hs1
              go_wp2_with fail
              refine (data5_is hrz hnz HD).mono ?_; rintro e w2 ⟨rfl, rfl⟩
              clear c1
              go_wp2_with (at_builtin; refine wpList_append_sb _ rfl (.tmp 38) (.tmp 39) rfl (w.heap.size + 1) _ b rfl O1.out (bs d) rfl hbn hsz1 ?_; intro v' w3 hO3 hb3; have S3 := box (S1.out.below hb3 (Nat.lt_succ_self _)); have c3 := S3.out.1; have f3 := S3.out.2)
              go_roundg g'
              case measure => omega
              case rel =>
                exact ⟨b ++ (bs d).data.toList, bs r2, own_only hO3 ((Only.refl _ _).set _) (Nat.lt_succ_self _), HLB.out, hr2z, HG.out, HC2.out, S3.out.set _, (B1.out.trans (hb3.mono (Nat.le_succ _))).setCell (p := ⟨w.heap.size, 0, none⟩) (Nat.le_refl _) _, by simpa using Nat.le_trans hsz1 hb3.size⟩
end
section
open Go.RowKit
def OwnT (w : World) (B : Nat) (v : Value) (l : List UInt8) : Prop :=
  Own w B v l ∨ ∃ g cap cur fz, v = .slice (some ⟨g, 0, none⟩) l.length cap ∧ B ≤ g ∧ w.heap[g]? = some (.cells cur 5 fz) ∧ cur.size ≤ fz.1 ∧ l.length ≤ cap ∧ cap ≤ maxLen ∧ cur.size = cap ∧ cur.toList.take l.length = l.map bv
section
variable {w w' : World} {B : Nat} {v : Value} {l : List UInt8}
theorem OwnT.block (h : OwnT w B v l) : ∀ k, v.ownBlock = some k → B ≤ k := by
  rcases h with h | ⟨g, cap, cur, fz, rfl, hb, _⟩
  · exact h.block
  · intro k hk; simp [Value.ownBlock] at hk; omega
theorem OwnT.below (h : OwnT w B v l) (hb : Below w.heap.size w w') : OwnT w' B v l := by
  rcases h with h | ⟨g, cap, cur, fz, hv, hB, hg, r⟩
  · exact .inl (own_below h hb)
  · have hlt : g < w.heap.size := (Array.getElem?_eq_some_iff.1 hg).1
    exact .inr ⟨g, cap, cur, fz, hv, hB, by rw [hb.block g hlt]; exact hg, r⟩
theorem OwnT.slice (h : OwnT w B v l) : ∃ a cap, v = .slice a l.length cap := by
  rcases h with h | ⟨g, cap, cur, fz, rfl, _⟩
  · exact Own.slice h
  · exact ⟨_, cap, rfl⟩
/-- '[]byte(s)' -/
theorem OwnT.new (s : ByteArray) (w : World) (hs : s.size ≤ 9000000) : ∃ cap W, (convert 9 57 (.string s)).run Try.prog w = .ok (.slice (some ⟨w.heap.size, 0, none⟩) s.size cap) W ∧ OwnT W w.heap.size (.slice (some ⟨w.heap.size, 0, none⟩) s.size cap) s.data.toList ∧ Below w.heap.size w W := by
  have hz : s.data.toList.length = s.size := by simp
  refine ⟨_, _, run_bytes_of_string (P := Try.prog) w 9 57 5 s Try.underlying9 Try.underlying57 Try.underlying5, ?_, (Below.refl _ _).drew.alloc (Nat.le_refl _) _⟩
  have hge := grownCap_ge w s.size 0 5
  have hle := grownCap_le_maxLen w s.size 0 5 (by unfold maxLen; omega)
  have hsz : (bytesRow s (grownCap w s.size 0 5)).size = grownCap w s.size 0 5 := by
    unfold bytesRow
    have : s.data.size = s.size := rfl
    simp; omega
  obtain ⟨C, hC⟩ : ∃ C, bytesRow s (grownCap w s.size 0 5) = C := ⟨_, rfl⟩
  have hp : (w.drew.alloc (.cells C 5 (C.size, C.size + 1))).heap[w.heap.size]? = some (.cells C 5 (C.size, C.size + 1)) := by
    show (w.heap.push (.cells C 5 (C.size, C.size + 1)))[w.heap.size]? = _; simp
  rw [hC] at hsz
  rw [hC]
  refine .inr ⟨w.heap.size, _, C, (C.size, C.size + 1), by rw [hz], Nat.le_refl _, hp, Nat.le_refl _, by rw [hz]; exact hge, hle, hsz, ?_⟩
  rw [hz, ← hC]
  unfold bytesRow
  rw [Array.toList_append, List.take_append_of_le_length (by simp), Array.toList_map, List.take_of_length_le (by simp)]
  rfl
/-- 'string(v)' -/
theorem OwnT.str (h : OwnT w B v l) : (convert 57 9 v).run Try.prog w = .ok (.string ⟨l.toArray⟩) w := by
  rcases h with h | ⟨g, cap, cur, fz, rfl, hb, hg, hz, hlc, hcm, hcs, htk⟩
  · exact Own.str h
  · refine run_convert_bytes_back w 57 9 5 ⟨g, 0, none⟩ cap l Try.underlying57 Try.underlying5 Try.underlying9 fun j hj => ?_
    have ea : (⟨g, 0, none⟩ : Addr).add j = ⟨g, j, none⟩ := by unfold Addr.add; split <;> simp_all
    have e := congrArg (fun q => q[j]?) htk
    simp only [List.getElem?_take, if_pos hj, List.getElem?_map, List.getElem?_eq_getElem hj, Option.map_some] at e
    rw [ea]
    simp only [World.cell?, hg]
    simpa [bv] using e
end
end
section
theorem line_eol {n v : List UInt8} (h : validL n v = true) : (∀ c ∈ lineL n v, eolB c = true) ∧ lineL n v ≠ [] := by
  obtain ⟨h1, h2, h3, h4⟩ := valid_parts h
  have hn : ∀ c ∈ n, eolB c = true := by
    unfold tokL at h1
    simp only [Bool.and_eq_true] at h1
    intro c hc
    have q := List.all_eq_true.mp h1.2 c hc
    have key : ∀ x : Fin 256, tokI (x.1 : Nat) = true → eolB (UInt8.ofNat x.1) = true := by decide +kernel
    have := key ⟨c.toNat, c.toNat_lt⟩ q
    simpa using this
  have hv : ∀ c ∈ v, eolB c = true := by
    intro c hc
    exact text_eol (List.all_eq_true.mp h2 c hc)
  unfold lineL
  split
  · refine ⟨fun c hc => ?_, by simp⟩
    rcases List.mem_append.mp hc with e | e
    · exact hn c e
    · simp at e; rw [e]; decide
  · refine ⟨fun c hc => ?_, by simp⟩
    rcases List.mem_append.mp hc with e | e
    · rcases List.mem_append.mp e with e | e
      · exact hn c e
      · simp at e; rcases e with e | e <;> rw [e] <;> decide
    · exact hv c e
end
section
abbrev F := ByteArray × ByteArray
/-- has the name -/
def nmd (nm : ByteArray) (p : F) : Bool := foldL p.1.data.toList nm.data.toList
def getL (nm : ByteArray) (L : List F) : List ByteArray := (L.filter (nmd nm)).map (·.2)
def remL (nm : ByteArray) (L : List F) : List F := L.filter (fun p => !nmd nm p)
def okF (p : F) : Bool := decide (p.1.size ≤ 300) && decide (p.2.size ≤ 300)
def keepF (L : List F) : Bool := L.all okF && decide (L.length ≤ 70)
theorem take_next {α : Type} {L : List α} {k : Nat} (h : k < L.length) : L.take (k + 1) = L.take k ++ [L[k]] := List.take_succ_eq_append_getElem h
theorem keep_more {L : List F} {k : Nat} (h : k < L.length) (ha : (L.take k).all okF = true) (h1 : L[k].1.size ≤ 300) (h2 : L[k].2.size ≤ 300) : (L.take (k + 1)).all okF = true := by
  rw [take_next h, List.all_append, ha]
  simp [okF, h1, h2]
theorem keep_bad {L : List F} {k : Nat} (h : k < L.length) (h1 : ¬ (L[k].1.size ≤ 300 ∧ L[k].2.size ≤ 300)) : keepF L = false := by
  have : L.all okF = false := by
    rw [← Bool.not_eq_true]; intro ha
    have := List.all_eq_true.mp ha L[k] (List.getElem_mem h)
    simp only [okF, Bool.and_eq_true, decide_eq_true_eq] at this
    exact h1 this
  unfold keepF; rw [this]; rfl
theorem keep_long {L : List F} (h : ¬ L.length ≤ 70) : keepF L = false := by unfold keepF; simp [h]
theorem keep_end {L : List F} (ha : (L.take L.length).all okF = true) (h : L.length ≤ 70) : keepF L = true := by
  rw [List.take_length] at ha
  unfold keepF; rw [ha]; simp [h]
theorem keep_parts {L : List F} (h : keepF L = true) : L.length ≤ 70 ∧ ∀ i (hi : i < L.length), L[i].1.size ≤ 300 ∧ L[i].2.size ≤ 300 := by
  unfold keepF at h
  simp only [Bool.and_eq_true, decide_eq_true_eq] at h
  refine ⟨h.2, fun i hi => ?_⟩
  have := List.all_eq_true.mp h.1 L[i] (List.getElem_mem hi)
  simpa [okF] using this
theorem split_at {α : Type} {L : List α} {k : Nat} (h : k < L.length) : L = L.take k ++ L[k] :: L.drop (k + 1) := by
  rw [← List.drop_eq_getElem_cons h, List.take_append_drop]
end
section
theorem cut1_le (c : UInt8) (l : List UInt8) : (cut1 c l).length ≤ l.length := (List.takeWhile_sublist _).length_le
theorem cut2_le (c : UInt8) (l : List UInt8) : (cut2 c l).length ≤ l.length := by
  unfold cut2; rw [List.length_drop]; have := (List.dropWhile_sublist (· != c) (l := l)).length_le; omega
theorem cutB_of {c : UInt8} {l : List UInt8} (h : cut2 c l ≠ []) : cutB c l = true := by
  by_cases e : Lib.indexByte l c = -1
  · exact absurd (cut_no e).2.1 h
  · obtain ⟨k, hk⟩ : ∃ k : Nat, Lib.indexByte l c = k := ⟨(Lib.indexByte l c).toNat, by have := Lib.indexByte_ge l c; omega⟩
    exact (cut_at hk).2.2.2
theorem num3 {a b c : UInt8} (ha : digitI a.toNat = true) (hb : digitI b.toNat = true) (hc : digitI c.toNat = true) :
    numL [a, b, c] = some (((a.toNat : Int) - 48) * 100 + ((b.toNat : Int) - 48) * 10 + ((c.toNat : Int) - 48)) := by
  have h : allI digitI [a, b, c] = true := by simp [allI, ha, hb, hc]
  simp [digitI] at ha hb hc
  unfold numL
  rw [if_pos ⟨h, by simp⟩]
  simp only [numF, List.foldl, satI]
  congr 1
  repeat' split
  all_goals omega
theorem code3 {a b c : UInt8} (ha : digitI a.toNat = true) (hb : digitI b.toNat = true) (hc : digitI c.toNat = true) (h1 : 49 ≤ (a.toNat : Int)) (h2 : (a.toNat : Int) ≤ 53) :
    codeL [a, b, c] = numL [a, b, c] ∧ (codeL [a, b, c]).isSome = true := by
  have hn := num3 ha hb hc
  simp [digitI] at ha hb hc
  unfold codeL; rw [hn]; simp only []
  rw [if_pos ⟨rfl, by omega, by omega⟩]; exact ⟨rfl, rfl⟩
theorem code_ex {x : List UInt8} (h : (codeL x).isSome = true) : ∃ a b c : UInt8, x = [a, b, c] ∧ digitI a.toNat = true ∧ digitI b.toNat = true ∧ digitI c.toNat = true ∧ 49 ≤ (a.toNat : Int) ∧ (a.toNat : Int) ≤ 53 := by
  unfold codeL at h
  rcases hn : numL x with _ | n
  · rw [hn] at h; cases h
  · rw [hn] at h
    simp only [] at h
    split at h
    · rename_i hc
      have hd : allI digitI x = true := by
        unfold numL at hn; split at hn
        · rename_i q; exact q.1
        · cases hn
      obtain ⟨a, b, c, rfl⟩ : ∃ a b c, x = [a, b, c] := by
        match x, hc.1 with
        | [a, b, c], _ => exact ⟨a, b, c, rfl⟩
      simp [allI] at hd
      have h3 := num3 hd.1 hd.2.1 hd.2.2
      rw [hn] at h3
      have h4 := Option.some.inj h3
      have d1 := hd.1; have d2 := hd.2.1; have d3 := hd.2.2
      refine ⟨a, b, c, rfl, hd.1, hd.2.1, hd.2.2, ?_, ?_⟩ <;> (simp [digitI] at d1 d2 d3; omega)
    · cases h
def condS (l : List UInt8) : Bool := cutB 32 (cut2 32 l) && (codeL (cut1 32 (cut2 32 l))).isSome && textL (cut2 32 (cut2 32 l))
theorem cond_shape {l : List UInt8} (h : condS l = true) : ∃ (r : List UInt8) (a b c : UInt8), l = cut1 32 l ++ 32 :: ([a, b, c] ++ 32 :: r) ∧ digitI a.toNat = true ∧ digitI b.toNat = true ∧ digitI c.toNat = true ∧ 49 ≤ (a.toNat : Int) ∧ (a.toNat : Int) ≤ 53 ∧ textL r = true ∧ cut2 32 (cut2 32 l) = r ∧ cut1 32 (cut2 32 l) = [a, b, c] := by
  unfold condS at h
  simp only [Bool.and_eq_true] at h
  obtain ⟨⟨hB, hO⟩, hT⟩ := h
  obtain ⟨a, b, c, hx, ha, hb, hc, h1, h2⟩ := code_ex hO
  have j2 := cut_join hB
  have hB1 : cutB 32 l = true := cutB_of (by intro e; rw [e] at hB; cases hB)
  have j1 := cut_join hB1
  refine ⟨cut2 32 (cut2 32 l), a, b, c, ?_, ha, hb, hc, h1, h2, hT, rfl, hx⟩
  rw [← hx, ← j2]; exact j1
end
section
def http7 : List UInt8 := [72, 84, 84, 80, 47, 49, 46]
def reqLine (m t : List UInt8) (n : Int) : List UInt8 := m ++ 32 :: (t ++ 32 :: (http7 ++ decL n))
def staLine (n s : Int) (r : List UInt8) : List UInt8 := (http7 ++ decL n) ++ 32 :: (decL s ++ 32 :: r)
def fmtReqL (m t : List UInt8) (n : Int) : List UInt8 := if reqL (reqLine m t n) = (m, t, n, 0) then reqLine m t n else []
theorem dec_0 : decL 0 = [48] := by decide
theorem dec_1 : decL 1 = [49] := by decide
theorem dec_3 : ∀ (i : Fin 5) (j k : Fin 10), decL ((i.1 + 1) * 100 + j.1 * 10 + k.1 : Nat) = [UInt8.ofNat (49 + i.1), UInt8.ofNat (48 + j.1), UInt8.ofNat (48 + k.1)] := by decide +kernel
theorem dec_abc {a b c : UInt8} (hb : digitI b.toNat = true) (hc : digitI c.toNat = true) (h1 : 49 ≤ (a.toNat : Int)) (h2 : (a.toNat : Int) ≤ 53) :
    decL (((a.toNat : Int) - 48) * 100 + ((b.toNat : Int) - 48) * 10 + ((c.toNat : Int) - 48)) = [a, b, c] := by
  simp [digitI] at hb hc
  have h := dec_3 ⟨a.toNat - 49, by omega⟩ ⟨b.toNat - 48, by omega⟩ ⟨c.toNat - 48, by omega⟩
  simp only [] at h
  have e : (((a.toNat - 49 + 1) * 100 + (b.toNat - 48) * 10 + (c.toNat - 48) : Nat) : Int) = ((a.toNat : Int) - 48) * 100 + ((b.toNat : Int) - 48) * 10 + ((c.toNat : Int) - 48) := by omega
  rw [e] at h
  rw [h, show 49 + (a.toNat - 49) = a.toNat from by omega, show 48 + (b.toNat - 48) = b.toNat from by omega, show 48 + (c.toNat - 48) = c.toNat from by omega]
  simp
theorem dec_ex {s : Int} (h1 : 100 ≤ s) (h2 : s ≤ 599) : ∃ a b c : UInt8, decL s = [a, b, c] ∧ digitI a.toNat = true ∧ digitI b.toNat = true ∧ digitI c.toNat = true ∧ 49 ≤ (a.toNat : Int) ∧ (a.toNat : Int) ≤ 53 ∧ numL [a, b, c] = some s := by
  obtain ⟨n, rfl⟩ := Int.eq_ofNat_of_zero_le (by omega : 0 ≤ s)
  have h := dec_3 ⟨n / 100 - 1, by omega⟩ ⟨n / 10 % 10, by omega⟩ ⟨n % 10, by omega⟩
  simp only [] at h
  rw [show (n / 100 - 1 + 1) * 100 + n / 10 % 10 * 10 + n % 10 = n from by omega] at h
  have ea : (UInt8.ofNat (49 + (n / 100 - 1))).toNat = 49 + (n / 100 - 1) := by rw [UInt8.toNat_ofNat']; omega
  have eb : (UInt8.ofNat (48 + n / 10 % 10)).toNat = 48 + n / 10 % 10 := by rw [UInt8.toNat_ofNat']; omega
  have ec : (UInt8.ofNat (48 + n % 10)).toNat = 48 + n % 10 := by rw [UInt8.toNat_ofNat']; omega
  have da : digitI (UInt8.ofNat (49 + (n / 100 - 1))).toNat = true := by rw [ea]; simp [digitI]; omega
  have db : digitI (UInt8.ofNat (48 + n / 10 % 10)).toNat = true := by rw [eb]; simp [digitI]; omega
  have dc : digitI (UInt8.ofNat (48 + n % 10)).toNat = true := by rw [ec]; simp [digitI]; omega
  refine ⟨_, _, _, h, da, db, dc, by rw [ea]; omega, by rw [ea]; omega, ?_⟩
  rw [num3 da db dc, ea, eb, ec]; congr 1; omega
/-- request lines -/
theorem req_parts {l m t : List UInt8} {v : Int} (h : reqL l = (m, t, v, 0)) : l.length ≤ 2000 ∧ m = cut1 32 l ∧ t = cut1 32 (cut2 32 l) ∧ tokL m = true ∧ visL t = true ∧ verE (cut2 32 (cut2 32 l)) = 0 ∧ v = verM (cut2 32 (cut2 32 l)) := by
  unfold reqL at h
  split at h
  · simp at h
  · split at h
    · simp at h
    · rename_i h1 h2
      split at h
      · rename_i h3; simp at h; exact absurd h.2.2.2 h3
      · rename_i h3
        simp only [Prod.mk.injEq] at h
        simp only [Bool.and_eq_false_iff, not_or, Bool.not_eq_false] at h2
        obtain ⟨rfl, rfl, rfl, _⟩ := h
        exact ⟨by omega, rfl, rfl, h2.1, h2.2, by simpa using h3, rfl⟩
theorem ver_text {x : List UInt8} (h : verE x = 0) : x = http7 ++ decL (verM x) := by
  rcases verE_ok h with rfl | rfl <;> decide
theorem ver_min {x : List UInt8} : verM x = 0 ∨ verM x = 1 := by unfold verM; split <;> simp
theorem req_back {l m t : List UInt8} {v : Int} (h : reqL l = (m, t, v, 0)) : reqLine m t v = l := by
  obtain ⟨hl, rfl, rfl, h1, h2, h3, rfl⟩ := req_parts h
  have c2 : cutB 32 (cut2 32 l) = true := cutB_of (by intro e; rw [e] at h3; revert h3; decide)
  have c1 : cutB 32 l = true := cutB_of (by intro e; rw [e] at h2; revert h2; decide)
  unfold reqLine
  rw [← ver_text h3, ← cut_join c2, ← cut_join c1]
theorem fmtReq_min {m t : List UInt8} {n : Int} (h : n < 0 ∨ 1 < n) : fmtReqL m t n = [] := by
  unfold fmtReqL; rw [if_neg]
  intro e
  have := (req_parts e).2.2.2.2.2.2
  rcases ver_min (x := cut2 32 (cut2 32 (reqLine m t n))) with q | q <;> omega
theorem fmtReq_long {m t : List UInt8} {n : Int} (h : 2000 < m.length ∨ 2000 < t.length) : fmtReqL m t n = [] := by
  unfold fmtReqL; rw [if_neg]
  intro e
  have := (req_parts e).1
  simp [reqLine] at this
  omega
/-- status lines -/
theorem sta_parts {l r : List UInt8} {n s : Int} (h : staL l = (n, s, r, 0)) : l.length ≤ 2000 ∧ condS l = true ∧ verE (cut1 32 l) = 0 ∧ n = verM (cut1 32 l) ∧ s = (codeL (cut1 32 (cut2 32 l))).getD 0 ∧ r = cut2 32 (cut2 32 l) := by
  unfold staL at h
  split at h
  · simp at h
  · split at h
    · simp at h
    · rename_i h1 h2
      split at h
      · rename_i h3; simp at h; exact absurd h.2.2.2 h3
      · rename_i h3
        simp only [Prod.mk.injEq] at h
        obtain ⟨rfl, rfl, rfl, _⟩ := h
        exact ⟨by omega, by unfold condS; rw [← Bool.not_eq_false]; exact h2, by simpa using h3, rfl, rfl, rfl⟩
theorem code_num {x : List UInt8} {s : Int} (h : codeL x = some s) : numL x = some s ∧ 100 ≤ s ∧ s ≤ 599 := by
  unfold codeL at h
  rcases hn : numL x with _ | n
  · rw [hn] at h; cases h
  · rw [hn] at h; simp only [] at h
    split at h
    · rename_i q; cases h; exact ⟨rfl, q.2.1, q.2.2⟩
    · cases h
theorem sta_code {l : List UInt8} (h : condS l = true) : ∃ s, codeL (cut1 32 (cut2 32 l)) = some s := by
  unfold condS at h; simp only [Bool.and_eq_true] at h
  exact Option.isSome_iff_exists.mp h.1.2
theorem sta_range {l r : List UInt8} {n s : Int} (h : staL l = (n, s, r, 0)) : (n = 0 ∨ n = 1) ∧ 100 ≤ s ∧ s ≤ 599 ∧ r.length ≤ 2000 := by
  obtain ⟨hl, hc, _, rfl, rfl, rfl⟩ := sta_parts h
  obtain ⟨q, hq⟩ := sta_code hc
  have := code_num hq
  rw [hq]
  refine ⟨ver_min, this.2.1, this.2.2, ?_⟩
  have a := cut2_le 32 (cut2 32 l)
  have b := cut2_le 32 l
  omega
theorem sta_back {l r : List UInt8} {n s : Int} (h : staL l = (n, s, r, 0)) : staLine n s r = l := by
  obtain ⟨hl, hc, hv, rfl, rfl, rfl⟩ := sta_parts h
  obtain ⟨r, a, b, c, hj, ha, hb, hcc, h1, h2, ht, hr, hx⟩ := cond_shape hc
  have h3 := num3 ha hb hcc
  have h4 := code3 ha hb hcc h1 h2
  unfold staLine
  rw [← ver_text hv, hx, hr, h4.1, h3]
  show cut1 32 l ++ 32 :: (decL _ ++ 32 :: r) = l
  rw [Option.getD_some, dec_abc hb hcc h1 h2]; exact hj.symm
end
end Go.Proofs.Ytjabcfabenobiaa.Asc
