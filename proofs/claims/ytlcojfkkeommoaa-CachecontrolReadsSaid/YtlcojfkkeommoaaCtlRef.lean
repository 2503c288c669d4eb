/- The contracts of the reference's directive, argument, seconds. (Made by tools/genctl3.py.) -/
import Derived.Test.YtlcojfkkeommoaaCtlMem
import Derived.Test.YtlcojfkkeommoaaPreAny
import Derived.Test.YtlcojfkkeommoaaAscNum
import Derived.Test.YtlcojfkkeommoaaAscUnq
import Derived.Test.YtlcojfkkeommoaaAscFold
import Derived.Test.YtlcojfkkeommoaaCtlMine3
import Derived.LoopTactic
set_option linter.unusedVariables false
set_option linter.unusedSimpArgs false
set_option maxRecDepth 100000
namespace Go.Proofs.Ytlcojfkkeommoaa.Asc
open Go.RowKit

theorem rFold22_is {a b : ByteArray} {q : Bool} {w : World} (ha : a.size ≤ 65536) (hb : b.size ≤ 65536) (h : Box (foldL a.data.toList b.data.toList = q)) :
    Calls Try.prog 17 #[.string a, .string b] w fun e w' => e = .returned (.bool q) ∧ Below w.heap.size w w' :=
  (rFold_any a b w (by omega) (by omega)).mono fun e w' ⟨h1, h2⟩ => ⟨by rw [h1, h.out], h2⟩
theorem rToken22_is {s : ByteArray} {b : Bool} {w : World} (hs : s.size ≤ 65536) (h : Box (tokL s.data.toList = b)) :
    Calls Try.prog 14 #[.string s] w fun e w' => e = .returned (.bool b) ∧ w = w' :=
  (rToken_any s w (by unfold maxLen; omega)).mono fun e w' ⟨h1, h2⟩ => ⟨by rw [h1, h.out], h2⟩
theorem rUnq22_is {s : ByteArray} {o : Option (List UInt8)} {w : World} (hs : s.size ≤ 65536) (h : Box (unqL s.data.toList = o)) :
    Calls Try.prog 52 #[.string s] w fun e w' => e = .returned (optV o) ∧ Below w.heap.size w w' :=
  (rUnquote_any s w (by omega)).mono fun e w' ⟨h1, h2⟩ => ⟨by rw [h1, h.out], h2⟩
theorem rNum22_is {s : ByteArray} {o : Option Int} {w : World} (hs : s.size ≤ 65536) (h : Box (numL s.data.toList = o)) :
    Calls Try.prog 40 #[.string s] w fun e w' => e = .returned (numT o) ∧ w = w' :=
  (rNumber_any s w (by unfold maxLen; omega)).mono fun e w' ⟨h1, h2⟩ => ⟨by rw [h1, h.out], h2⟩
/-- the outer loop: no directive of the name so far -/
def DirRel (n : List UInt8) (K : List ByteArray) (w : World) (i : Value) (wr : World) : Prop :=
  ∃ j : Nat, i = .int .i64 j ∧ j ≤ K.length ∧ Box (dirD n ((toL K).take j) = none) ∧ Box (Below w.heap.size w wr)
theorem isD_at {m n : List UInt8} {k : Nat} {t : List UInt8} (h : namD m = t) : isD n m = (!t.isEmpty && foldL t n) := by unfold isD; rw [h]
set_option maxHeartbeats 4000000 in
theorem rDir_any (a : Option Addr) (cap : Nat) (K : List ByteArray) (n : ByteArray) (w : World) (hl : K.length ≤ 65536) (hn : n.size ≤ 65536) (HZ : Box (∀ m ∈ K, m.size ≤ 65000)) (hF : Box (Ss w a K)) :
    Calls Try.prog 25 #[.slice a K.length cap, .string n] w fun e w' => e = .returned (optV (dirD n.data.toList (toL K))) ∧ Below w.heap.size w w' := by
  go_enter Try.func25, Try.ntmps25
  go_wp2
  go_loopw [6] (fun i wr => DirRel n.data.toList K w i wr) (fun i _ => K.length - (intOf i).toNat)
  case atStart => exact ⟨0, rfl, Nat.zero_le _, box rfl, box (Below.refl _ _)⟩
  case round =>
    obtain ⟨j, rfl, hj, hD, hbl⟩ := hrel
    by_cases hlt : j < K.length
    · have hji : (j : Int) < (K.length : Int) := by omega
      obtain ⟨s, hs⟩ : ∃ s, K[j] = s := ⟨_, rfl⟩
      have hsz : s.size ≤ 65000 := by rw [← hs]; exact HZ.out _ (List.getElem_mem hlt)
      obtain ⟨g, off, hga, cA⟩ := (hF.out.below hbl.out) j hlt
      cases hga
      rw [hs] at cA
      have HTL : Box ((toL K)[j]'(by rw [toL_len]; exact hlt) = s.data.toList) := box (by rw [toL_at hlt, hs])
      have HLT : Box (j < (toL K).length) := box (by rw [toL_len]; exact hlt)
      have hz : s.data.toList.length = s.size := by simp
      clear hs
      go_wp2
      go_loop [7] (fun i => ∃ k : Nat, k ≤ s.size ∧ i = .int .i64 k ∧ Box (NamAt s.data.toList k)) (fun i => s.size - (intOf i).toNat)
      case atStart => exact ⟨0, Nat.zero_le _, rfl, box rfl⟩
      case round =>
        obtain ⟨k, hk, rfl, hall⟩ := hrel
        by_cases hkt : k < s.size
        · have hki : (k : Int) < (s.size : Int) := by omega
          have hb := byte_bd s k hkt
          rcases hp : tokI (s[k].toNat) with _ | _
          · have HC := nam_cut (l := s.data.toList) (k := k) (by omega) hall.out (fun h => by rw [Array.getElem_toList]; exact hp)
            have HTB : ∀ w : World, Calls Try.prog 16 #[.int .u8 (s[k].toNat : Int)] w fun e w' => e = .returned (.bool false) ∧ w = w' := fun w => by rw [← hp]; exact rTokenByte_any _ w hb.1 hb.2
            clear hp
            obtain ⟨y, hy⟩ : ∃ y, s.extract 0 k = y := ⟨_, rfl⟩
            obtain ⟨z, hzz⟩ : ∃ z, s.extract k s.size = z := ⟨_, rfl⟩
            have hyl : namD s.data.toList = y.data.toList := by rw [← hy, ext_bs, bs_toList, List.drop_zero]; exact HC.1
            have hzl : rstD s.data.toList = z.data.toList := by rw [← hzz, ext_drop21]; exact HC.2
            have hyk : y.data.toList.length = k := by rw [← hyl, HC.1, List.length_take, hz]; omega
            have hys : y.size ≤ 65536 := by
              have e1 : y.data.toList.length = y.size := by simp
              rw [← e1, hyk]; omega
            have HI := isD_at (n := n.data.toList) (k := k) hyl
            have b0 : (0 : Int) ≤ (k : Int) := by omega
            have b1 : (k : Int) ≤ (s.size : Int) := by omega
            by_cases hk0 : k = 0
            · have HM : Box (dirD n.data.toList ((toL K).take (j + 1)) = none) := box (dir_more HLT.out hD.out (by
                have e : y.data.toList = [] := List.eq_nil_of_length_eq_zero (by rw [hyk]; exact hk0)
                rw [HTL.out, HI, e]; rfl))
              have k0i : ¬ (0 : Int) < (k : Int) := by omega
              clear HI HC hyl hzl hyk hz hall hk0 HTL HLT
              go_wp2_with (go_at_call 16; refine (HTB _).mono ?_; rintro e w' ⟨rfl, rfl⟩)
              go_roundw
              case rel => exact ⟨j + 1, by go_num, hlt, HM, hbl⟩
              case measure => simp [intOf]; omega
            · have k0i : (0 : Int) < (k : Int) := by omega
              have hye : y.data.toList.isEmpty = false := by
                cases hq : y.data.toList with
                | nil => rw [hq] at hyk; exact absurd hyk.symm hk0
                | cons c r => rfl
              rw [hye, Bool.not_false, Bool.true_and] at HI
              rcases hf : foldL y.data.toList n.data.toList with _ | _
              · rw [hf] at HI
                have HM : Box (dirD n.data.toList ((toL K).take (j + 1)) = none) := box (dir_more HLT.out hD.out (by rw [HTL.out]; exact HI))
                have HFF := box hf
                clear HI HC hyl hzl hyk hz hall hk0 hye HTL HLT hf
                go_wp2_with (first | (go_at_call 16; refine (HTB _).mono ?_; rintro e w' ⟨rfl, rfl⟩) | (go_at_call 17; refine (rFold22_is hys hn HFF).mono ?_; rintro e w2 ⟨rfl, hb2⟩; have B2 := box (hbl.out.trans (hb2.mono hbl.out.size)); have c2 := (hb2.cell (cell_lt cA)).trans cA; clear hb2 cA))
                go_roundw
                case rel => exact ⟨j + 1, by go_num, hlt, HM, B2⟩
                case measure => simp [intOf]; omega
              · rw [hf] at HI
                have HM : Box (dirD n.data.toList (toL K) = some z.data.toList) := box (by
                  rw [dir_hit HLT.out hD.out (by rw [HTL.out]; exact HI), HTL.out, hzl])
                have HFF := box hf
                clear HI HC hyl hzl hyk hz hall hk0 hye HTL HLT hf
                go_wp2_with (first | (go_at_call 16; refine (HTB _).mono ?_; rintro e w' ⟨rfl, rfl⟩) | (go_at_call 17; refine (rFold22_is hys hn HFF).mono ?_; rintro e w2 ⟨rfl, hb2⟩; have B2 := box (hbl.out.trans (hb2.mono hbl.out.size)); have c2 := (hb2.cell (cell_lt cA)).trans cA; clear hb2 cA))
                go_ret2
                exact ⟨by rw [HM.out]; rfl, B2.out⟩
          · have HN : Box (NamAt s.data.toList (k + 1)) := box (all_more hall.out hkt hp)
            have HTB : ∀ w : World, Calls Try.prog 16 #[.int .u8 (s[k].toNat : Int)] w fun e w' => e = .returned (.bool true) ∧ w = w' := fun w => by rw [← hp]; exact rTokenByte_any _ w hb.1 hb.2
            clear hp hz hall
            go_wp2_with (go_at_call 16; refine (HTB _).mono ?_; rintro e w' ⟨rfl, rfl⟩)
            go_round
            case rel => exact ⟨k + 1, by omega, by go_num, HN⟩
            case measure => simp [intOf]; omega
        · have hki : ¬ (k : Int) < (s.size : Int) := by omega
          have HC := nam_cut (l := s.data.toList) (k := k) (by omega) hall.out (fun h => absurd h (by rw [hz]; exact hkt))
          obtain ⟨y, hy⟩ : ∃ y, s.extract 0 k = y := ⟨_, rfl⟩
          obtain ⟨z, hzz⟩ : ∃ z, s.extract k s.size = z := ⟨_, rfl⟩
          have hyl : namD s.data.toList = y.data.toList := by rw [← hy, ext_bs, bs_toList, List.drop_zero]; exact HC.1
          have hzl : rstD s.data.toList = z.data.toList := by rw [← hzz, ext_drop21]; exact HC.2
          have hyk : y.data.toList.length = k := by rw [← hyl, HC.1, List.length_take, hz]; omega
          have hys : y.size ≤ 65536 := by
            have e1 : y.data.toList.length = y.size := by simp
            rw [← e1, hyk]; omega
          have HI := isD_at (n := n.data.toList) (k := k) hyl
          have b0 : (0 : Int) ≤ (k : Int) := by omega
          have b1 : (k : Int) ≤ (s.size : Int) := by omega
          by_cases hk0 : k = 0
          · have HM : Box (dirD n.data.toList ((toL K).take (j + 1)) = none) := box (dir_more HLT.out hD.out (by
              have e : y.data.toList = [] := List.eq_nil_of_length_eq_zero (by rw [hyk]; exact hk0)
              rw [HTL.out, HI, e]; rfl))
            have k0i : ¬ (0 : Int) < (k : Int) := by omega
            clear HI HC hyl hzl hyk hz hall hk0 HTL HLT
            go_wp2
            go_roundw
            case rel => exact ⟨j + 1, by go_num, hlt, HM, hbl⟩
            case measure => simp [intOf]; omega
          · have k0i : (0 : Int) < (k : Int) := by omega
            have hye : y.data.toList.isEmpty = false := by
              cases hq : y.data.toList with
              | nil => rw [hq] at hyk; exact absurd hyk.symm hk0
              | cons c r => rfl
            rw [hye, Bool.not_false, Bool.true_and] at HI
            rcases hf : foldL y.data.toList n.data.toList with _ | _
            · rw [hf] at HI
              have HM : Box (dirD n.data.toList ((toL K).take (j + 1)) = none) := box (dir_more HLT.out hD.out (by rw [HTL.out]; exact HI))
              have HFF := box hf
              clear HI HC hyl hzl hyk hz hall hk0 hye HTL HLT hf
              go_wp2_with (go_at_call 17; refine (rFold22_is hys hn HFF).mono ?_; rintro e w2 ⟨rfl, hb2⟩; have B2 := box (hbl.out.trans (hb2.mono hbl.out.size)); have c2 := (hb2.cell (cell_lt cA)).trans cA; clear hb2 cA)
              go_roundw
              case rel => exact ⟨j + 1, by go_num, hlt, HM, B2⟩
              case measure => simp [intOf]; omega
            · rw [hf] at HI
              have HM : Box (dirD n.data.toList (toL K) = some z.data.toList) := box (by
                rw [dir_hit HLT.out hD.out (by rw [HTL.out]; exact HI), HTL.out, hzl])
              have HFF := box hf
              clear HI HC hyl hzl hyk hz hall hk0 hye HTL HLT hf
              go_wp2_with (go_at_call 17; refine (rFold22_is hys hn HFF).mono ?_; rintro e w2 ⟨rfl, hb2⟩; have B2 := box (hbl.out.trans (hb2.mono hbl.out.size)); have c2 := (hb2.cell (cell_lt cA)).trans cA; clear hb2 cA)
              go_ret2
              exact ⟨by rw [HM.out]; rfl, B2.out⟩
    · have hji : ¬ (j : Int) < (K.length : Int) := by omega
      have HR : Box (dirD n.data.toList (toL K) = none) := box (by
        have := hD.out
        rwa [List.take_of_length_le (by rw [toL_len]; omega)] at this)
      go_wp2
      go_ret2
      exact ⟨by rw [HR.out]; rfl, hbl.out⟩
theorem optV_some22 (s : ByteArray) : optV (some s.data.toList) = .tuple #[.string s, .bool true] := rfl
theorem rArg_any (s : ByteArray) (w : World) (hs : s.size ≤ 65000) :
    Calls Try.prog 39 #[.string s] w fun e w' => e = .returned (optV (argD s.data.toList)) ∧ Below w.heap.size w w' := by
  by_cases hn : s.data.toList = []
  · have h0 : (s.toList == []) = true := by rw [toList_data, hn]; rfl
    have HA : Box (argD s.data.toList = none) := box (by rw [hn]; rfl)
    clear hn
    go_enter Try.func39, Try.ntmps39
    go_wp2
    go_ret2
    exact ⟨by rw [HA.out]; rfl, Below.refl _ _⟩
  · have h0 : (s.toList == []) = false := by rw [toList_data, beq_eq_false_iff_ne]; exact hn
    have hz : s.data.toList.length = s.size := by simp
    have hp : 0 < s.size := by
      rw [← hz]; exact List.length_pos_iff.2 hn
    have hpi : (0 : Int) < (s.size : Int) := by omega
    have hcons : s.data.toList = s[0] :: s.data.toList.drop 1 := drop_cons s 0 hp
    have hA := argD_cons s[0] (s.data.toList.drop 1)
    rw [← hcons] at hA
    by_cases hc : s[0] = 61
    · have h1 : ((s[0].toNat : Int) != 61) = false := by rw [hc]; rfl
      rw [if_pos hc] at hA
      obtain ⟨x, hx⟩ : ∃ x, s.extract 1 s.size = x := ⟨_, rfl⟩
      have hxl : x.data.toList = s.data.toList.drop 1 := by rw [← hx]; exact ext_drop21 1
      have hxs : x.size ≤ 65536 := by
        have e1 : x.data.toList.length = x.size := by simp
        rw [← e1, hxl, List.length_drop]; omega
      rw [← hxl] at hA
      have h1i : (1 : Int) ≤ (s.size : Int) := by omega
      clear hn hc hcons hxl hz
      rcases ht : tokL x.data.toList with _ | _
      · rw [ht, if_neg (by decide)] at hA
        have HT := box ht
        obtain ⟨o, ho⟩ : ∃ o, unqL x.data.toList = o := ⟨_, rfl⟩
        have HO := box ho
        rw [ho] at hA
        have HA := box hA
        clear ht hA ho
        go_enter Try.func39, Try.ntmps39
        go_wp2_with fail
        refine (rToken22_is hxs HT).mono ?_; rintro e w1 ⟨rfl, rfl⟩
        go_wp2_with fail
        refine (rUnq22_is hxs HO).mono ?_; rintro e w2 ⟨rfl, hb⟩
        have B := box hb
        clear hb
        rcases o with _ | u
        · unfold optV
          go_wp2
          go_ret2
          exact ⟨by rw [HA.out]; rfl, B.out⟩
        · unfold optV
          go_wp2
          go_ret2
          exact ⟨by rw [HA.out]; rfl, B.out⟩
      · rw [ht, if_pos rfl] at hA
        have HT := box ht
        have HA := box hA
        clear ht hA
        go_enter Try.func39, Try.ntmps39
        go_wp2_with fail
        refine (rToken22_is hxs HT).mono ?_; rintro e w1 ⟨rfl, rfl⟩
        go_wp2
        go_ret2
        exact ⟨by rw [HA.out]; rfl, Below.refl _ _⟩
    · have h1 : ((s[0].toNat : Int) != 61) = true := by
        rw [bne_iff_ne]; intro e
        exact hc (byte_eq (n := 61) (by simpa using e) (by decide))
      rw [if_neg hc] at hA
      have HA := box hA
      clear hn hc hcons hA hz
      go_enter Try.func39, Try.ntmps39
      go_wp2
      go_ret2
      exact ⟨by rw [HA.out]; rfl, Below.refl _ _⟩
theorem rArg_is {s : ByteArray} {o : Option (List UInt8)} {w : World} (hs : s.size ≤ 65000) (h : Box (argD s.data.toList = o)) :
    Calls Try.prog 39 #[.string s] w fun e w' => e = .returned (optV o) ∧ Below w.heap.size w w' :=
  (rArg_any s w hs).mono fun e w' ⟨h1, h2⟩ => ⟨by rw [h1, h.out], h2⟩
theorem rDir_is {a : Option Addr} {cap m : Nat} {K : List ByteArray} {n : ByteArray} {o : Option (List UInt8)} {w : World} (hm : Box (K.length = m)) (hl : m ≤ 65536) (hn : n.size ≤ 65536) (HZ : Box (∀ m ∈ K, m.size ≤ 65000)) (hF : Box (Ss w a K)) (h : Box (dirD n.data.toList (toL K) = o)) :
    Calls Try.prog 25 #[.slice a m cap, .string n] w fun e w' => e = .returned (optV o) ∧ Below w.heap.size w w' := by
  have := rDir_any a cap K n w (by rw [hm.out]; exact hl) hn HZ hF
  rw [h.out, hm.out] at this
  exact this
theorem dir_len {n : List UInt8} {M : List (List UInt8)} {r : List UInt8} (h : dirD n M = some r) : ∃ m ∈ M, r.length ≤ m.length := by
  unfold dirD at h
  obtain ⟨m, hm, rfl⟩ := Option.map_eq_some_iff.1 h
  exact ⟨m, List.mem_of_find?_eq_some hm, rst_len m⟩
theorem rSec_any (a : Option Addr) (cap m : Nat) (K : List ByteArray) (n : ByteArray) (bare bad : Int) (w : World) (hm : Box (K.length = m)) (hl : m ≤ 65536) (hn : n.size ≤ 65536) (HZ : Box (∀ m ∈ K, m.size ≤ 65000)) (hF : Box (Ss w a K)) :
    Calls Try.prog 26 #[.slice a m cap, .string n, .int .i64 bare, .int .i64 bad] w fun e w' => e = .returned (.int .i64 (secD n.data.toList bare bad (toL K))) ∧ Below w.heap.size w w' := by
  obtain ⟨o, ho⟩ : ∃ o, dirD n.data.toList (toL K) = o := ⟨_, rfl⟩
  have HO := box ho
  have HSE : Box (secD n.data.toList bare bad (toL K) = secO bare bad o) := box (by unfold secD; rw [ho])
  rcases o with _ | r
  · clear ho
    go_enter Try.func26, Try.ntmps26
    go_wp2_with fail
    refine (rDir_is hm hl hn HZ hF HO).mono ?_; rintro e w1 ⟨rfl, hb⟩
    have B := box hb
    clear hb
    unfold optV
    go_wp2
    go_ret
    exact ⟨by rw [HSE.out]; rfl, B.out⟩
  · have hrz : (bs r).size ≤ 65000 := by
      obtain ⟨x, hx, hle⟩ := dir_len ho
      unfold toL at hx
      obtain ⟨y, hy, rfl⟩ := List.mem_map.1 hx
      have h1 := HZ.out y hy
      have e1 : y.data.toList.length = y.size := by simp
      have e2 : (bs r).size = r.length := rfl
      omega
    obtain ⟨s, hs⟩ : ∃ s, bs r = s := ⟨_, rfl⟩
    have hrs : r = s.data.toList := by rw [← hs, bs_toList]
    rw [hs] at hrz
    subst hrs
    clear ho hs
    have hse : bs s.data.toList = s := bs_all22 s
    by_cases he : s.data.toList = []
    · have h0 : (s.toList == []) = true := by rw [toList_data, he]; rfl
      have HN : Box (secO bare bad (some s.data.toList) = bare) := box (by show numD bare bad _ = _; unfold numD; rw [if_pos he])
      clear he
      go_enter Try.func26, Try.ntmps26
      go_wp2_with fail
      refine (rDir_is hm hl hn HZ hF HO).mono ?_; rintro e w1 ⟨rfl, hb⟩
      have B := box hb
      clear hb
      rw [optV_some22]
      clear hse
      go_wp2
      go_ret
      exact ⟨by rw [HSE.out, HN.out]; rfl, B.out⟩
    · have h0 : (s.toList == []) = false := by rw [toList_data, beq_eq_false_iff_ne]; exact he
      have hN : secO bare bad (some s.data.toList) = (numL ((argD s.data.toList).getD [])).getD bad := numD_alt he bare bad
      have hal := argD_len s.data.toList
      have hsz : s.data.toList.length = s.size := by simp
      clear he
      obtain ⟨o, ho⟩ : ∃ o, argD s.data.toList = o := ⟨_, rfl⟩
      have HA := box ho
      rw [ho] at hN hal
      clear ho
      rcases o with _ | u
      · have HN : Box (secO bare bad (some s.data.toList) = bad) := box (by rw [hN]; rfl)
        have HU : Box (numL (⟨#[]⟩ : ByteArray).data.toList = none) := box rfl
        have h00 : (⟨#[]⟩ : ByteArray).size ≤ 65536 := by decide
        clear hN hal hsz
        go_enter Try.func26, Try.ntmps26
        go_wp2_with fail
        refine (rDir_is hm hl hn HZ hF HO).mono ?_; rintro e w1 ⟨rfl, hb⟩
        have B := box hb
        clear hb
        rw [optV_some22]
        clear hse
        go_wp2_with fail
        refine (rArg_is hrz HA).mono ?_; rintro e w2 ⟨rfl, hb⟩
        have B2 := box (B.out.trans (hb.mono B.out.size))
        clear hb
        unfold optV
        go_wp2_with fail
        refine (rNum22_is h00 HU).mono ?_; rintro e w3 ⟨rfl, rfl⟩
        unfold numT numV
        go_wp2
        go_ret
        exact ⟨by rw [HSE.out, HN.out]; rfl, B2.out⟩
      · have hus : (bs u).size ≤ 65536 := by
          have e2 : (bs u).size = u.length := rfl
          simp only [Option.getD_some] at hal
          omega
        simp only [Option.getD_some] at hN
        obtain ⟨v, hv⟩ : ∃ v, numL u = v := ⟨_, rfl⟩
        have HU : Box (numL (bs u).data.toList = v) := box hv
        rw [hv] at hN
        have HN := box hN
        clear hN hal hsz hv
        rcases v with _ | v
        · go_enter Try.func26, Try.ntmps26
          go_wp2_with fail
          refine (rDir_is hm hl hn HZ hF HO).mono ?_; rintro e w1 ⟨rfl, hb⟩
          have B := box hb
          clear hb
          rw [optV_some22]
          clear hse
          go_wp2_with fail
          refine (rArg_is hrz HA).mono ?_; rintro e w2 ⟨rfl, hb⟩
          have B2 := box (B.out.trans (hb.mono B.out.size))
          clear hb
          unfold optV
          go_wp2_with fail
          refine (rNum22_is hus HU).mono ?_; rintro e w3 ⟨rfl, rfl⟩
          unfold numT numV
          go_wp2
          go_ret
          exact ⟨by rw [HSE.out, HN.out]; rfl, B2.out⟩
        · go_enter Try.func26, Try.ntmps26
          go_wp2_with fail
          refine (rDir_is hm hl hn HZ hF HO).mono ?_; rintro e w1 ⟨rfl, hb⟩
          have B := box hb
          clear hb
          rw [optV_some22]
          clear hse
          go_wp2_with fail
          refine (rArg_is hrz HA).mono ?_; rintro e w2 ⟨rfl, hb⟩
          have B2 := box (B.out.trans (hb.mono B.out.size))
          clear hb
          unfold optV
          go_wp2_with fail
          refine (rNum22_is hus HU).mono ?_; rintro e w3 ⟨rfl, rfl⟩
          unfold numT numV
          go_wp2
          go_ret
          exact ⟨by rw [HSE.out, HN.out]; rfl, B2.out⟩
theorem rSec_is {a : Option Addr} {cap m : Nat} {K : List ByteArray} {n : ByteArray} {bare bad v : Int} {w : World} (hm : Box (K.length = m)) (hl : m ≤ 65536) (hn : n.size ≤ 65536) (HZ : Box (∀ m ∈ K, m.size ≤ 65000)) (hF : Box (Ss w a K)) (h : Box (secD n.data.toList bare bad (toL K) = v)) :
    Calls Try.prog 26 #[.slice a m cap, .string n, .int .i64 bare, .int .i64 bad] w fun e w' => e = .returned (.int .i64 v) ∧ Below w.heap.size w w' :=
  (rSec_any a cap m K n bare bad w hm hl hn HZ hF).mono fun e w' ⟨h1, h2⟩ => ⟨by rw [h1, h.out], h2⟩

end Go.Proofs.Ytlcojfkkeommoaa.Asc
