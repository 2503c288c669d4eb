/- Merged texts: StaVer TarNorm StrMem TarRSeg TarHas ChkEnd ChkClo. -/
import Derived.Test.YtjabcfabenobiaaM02
import Derived.Test.YtjabcfabenobiaaM03
import Derived.Test.YtjabcfabenobiaaM04
import Derived.BigQuiet
import Derived.Deep.AppendLies
import Derived.Deep.QuietTactic
import Derived.Deep.RegionHeld3
import Derived.Laws.AppendOwnNone
import Derived.Lib.AppendStr
set_option linter.unusedVariables false
set_option linter.unusedSimpArgs false
set_option maxRecDepth 100000
namespace Go.Proofs.Ytjabcfabenobiaa.Asc
section
open Go.RowKit
theorem sDigit_any (b : Int) (w : World) (h0 : 0 ≤ b) (h1 : b ≤ 255) :
    Calls Try.prog 89 #[.int .u8 b] w fun e w' => e = .returned (.bool (digitI b)) ∧ w = w' := by
  go_enter Try.func89, Try.ntmps89
  go_wp2
  all_goals (go_ret; exact ⟨ret_bool (by rw [Bool.eq_iff_iff]; simp [digitI]; omega), rfl⟩)
theorem c_bd (c : UInt8) : (0 : Int) ≤ (c.toNat : Int) ∧ (c.toNat : Int) ≤ 255 := by have := c.toNat_lt; omega
theorem sDigit_c (c : UInt8) (w : World) :
    Calls Try.prog 89 #[.int .u8 (c.toNat : Int)] w fun e w' => e = .returned (.bool (digitI (c.toNat : Int))) ∧ w = w' := sDigit_any _ w (c_bd c).1 (c_bd c).2
theorem rDigit_c (c : UInt8) (w : World) :
    Calls Try.prog 47 #[.int .u8 (c.toNat : Int)] w fun e w' => e = .returned (.bool (digitI (c.toNat : Int))) ∧ w = w' := rDigit_any _ w (c_bd c).1 (c_bd c).2
theorem visL_not {s : ByteArray} {k : Nat} (hk : k < s.size) (hp : visI (s[k].toNat) = false) : visL s.data.toList = false := by
  simp [visL, all_not hk hp]
theorem visL_end {s : ByteArray} {k : Nat} (h : allI visI (s.data.toList.take k) = true) (hk : s.size ≤ k) : visL s.data.toList = !s.toList.isEmpty := by
  rw [ByteArray.toList_eq]; simp [visL, all_end h hk]
theorem isTarget_any (s : ByteArray) (w : World) (hs : s.size ≤ maxLen) :
    Calls Try.prog 55 #[.string s] w fun e w' => e = .returned (.bool (visL s.data.toList)) ∧ w = w' := by
  unfold maxLen at hs
  go_enter Try.func55, Try.ntmps55
  go_wp2
  go_loop [6] (fun i => ∃ k : Nat, k ≤ s.size ∧ i = .int .i64 k ∧ allI visI (s.data.toList.take k) = true) (fun i => s.size - (intOf i).toNat)
  case atStart => exact ⟨0, Nat.zero_le _, rfl, rfl⟩
  case round =>
    obtain ⟨k, hk, rfl, hall⟩ := hrel
    by_cases hlt : k < s.size
    · have hb := byte_bd s k hlt
      rcases hp : visI (s[k].toNat) with _ | _
      · have HP := Lib.hid hp
        have hq : ¬ (33 ≤ (s[k].toNat : Int) ∧ (s[k].toNat : Int) ≤ 126) := by simpa [visI] using hp
        have HA := Lib.hid hall
        clear hp hall
        by_cases h33 : (s[k].toNat : Int) < 33
        · clear hq
          go_wp2
          go_ret
          exact ⟨ret_bool (visL_not hlt HP.out).symm, rfl⟩
        · have h126 : 126 < (s[k].toNat : Int) := by omega
          clear hq
          go_wp2
          go_ret
          exact ⟨ret_bool (visL_not hlt HP.out).symm, rfl⟩
      · have hq : 33 ≤ (s[k].toNat : Int) ∧ (s[k].toNat : Int) ≤ 126 := by simpa [visI] using hp
        have HA := Lib.hid (all_more hall hlt hp)
        obtain ⟨q1, q2⟩ := hq
        clear hp hall
        go_wp2
        go_round
        case rel => exact ⟨k + 1, by omega, by go_num, HA.out⟩
        case measure => simp [intOf]; omega
    · go_wp2
      go_ret
      exact ⟨ret_bool (by rw [visL_end hall (by omega)]), rfl⟩
theorem rVisible_any (s : ByteArray) (w : World) (hs : s.size ≤ maxLen) :
    Calls Try.prog 38 #[.string s] w fun e w' => e = .returned (.bool (visL s.data.toList)) ∧ w = w' := by
  unfold maxLen at hs
  go_enter Try.func38, Try.ntmps38
  go_wp2
  go_loop [3] (fun i => ∃ k : Nat, k ≤ s.size ∧ i = .int .i64 k ∧ allI visI (s.data.toList.take k) = true) (fun i => s.size - (intOf i).toNat)
  case atStart => exact ⟨0, Nat.zero_le _, rfl, rfl⟩
  case round =>
    obtain ⟨k, hk, rfl, hall⟩ := hrel
    by_cases hlt : k < s.size
    · have hb := byte_bd s k hlt
      rcases hp : visI (s[k].toNat) with _ | _
      · have HP := Lib.hid hp
        have hq : ¬ (33 ≤ (s[k].toNat : Int) ∧ (s[k].toNat : Int) ≤ 126) := by simpa [visI] using hp
        have HA := Lib.hid hall
        clear hp hall
        by_cases h33 : (s[k].toNat : Int) < 33
        · clear hq
          go_wp2
          go_ret
          exact ⟨ret_bool (visL_not hlt HP.out).symm, rfl⟩
        · have h126 : 126 < (s[k].toNat : Int) := by omega
          clear hq
          go_wp2
          go_ret
          exact ⟨ret_bool (visL_not hlt HP.out).symm, rfl⟩
      · have hq : 33 ≤ (s[k].toNat : Int) ∧ (s[k].toNat : Int) ≤ 126 := by simpa [visI] using hp
        have HA := Lib.hid (all_more hall hlt hp)
        obtain ⟨q1, q2⟩ := hq
        clear hp hall
        go_wp2
        go_round
        case rel => exact ⟨k + 1, by omega, by go_num, HA.out⟩
        case measure => simp [intOf]; omega
    · go_wp2
      go_ret
      exact ⟨ret_bool (by rw [visL_end hall (by omega)]), rfl⟩
/-- isVerL by places -/
theorem isVer_at (s : ByteArray) (h : 7 < s.size) : isVerL s.data.toList = (decide (s.size = 8) && ((s.extract 0 5).toList == [72, 84, 84, 80, 47]) && digitI (s[5].toNat) && ((s[6].toNat : Int) == 46) && digitI (s[7].toNat)) := by
  have hz : s.data.toList.length = s.size := by simp
  unfold isVerL
  rw [getD_at s 5 (by omega), getD_at s 6 (by omega), getD_at s 7 (by omega), ext_bs, toList_bs, List.drop_zero, hz]
  rfl
theorem isVer_size {s : ByteArray} (h : ¬ s.size = 8) : isVerL s.data.toList = false := by
  have hz : s.data.toList.length = s.size := by simp
  unfold isVerL; rw [hz, decide_eq_false h]; rfl
theorem isVersion_any (s : ByteArray) (w : World) (hs : s.size ≤ maxLen) :
    Calls Try.prog 70 #[.string s] w fun e w' => e = .returned (.bool (isVerL s.data.toList)) ∧ w = w' := by
  unfold maxLen at hs
  by_cases hz : s.size = 8
  · have h5 : 5 < s.size := by omega
    have h6 : 6 < s.size := by omega
    have h7 : 7 < s.size := by omega
    have b5 := byte_bd s 5 h5
    have b7 := byte_bd s 7 h7
    have HV := Lib.hid (isVer_at s h7)
    have HZ := Lib.hid hz
    have hb : ((s.size : Int) == 8) = true := by simp [hz]
    clear hz
    go_enter Try.func70, Try.ntmps70
    go_wp2_with (go_at_call 89; refine (sDigit_c _ _).mono ?_; rintro e w' ⟨rfl, rfl⟩)
    all_goals (go_ret; exact ⟨ret_bool (by rw [HV.out]; simp [HZ.out, *]), rfl⟩)
  · have hb : ((s.size : Int) == 8) = false := by simpa using fun h => hz (by omega)
    have HV := Lib.hid (isVer_size hz)
    clear hz
    go_enter Try.func70, Try.ntmps70
    go_wp2
    go_ret
    exact ⟨ret_bool (by rw [HV.out]), rfl⟩
def verV (l : List UInt8) : Value := .tuple #[.int .i64 (verM l), .int .i64 (verE l)]
theorem verV_a {l : List UInt8} (h : isVerL l = false) : verV l = .tuple #[.int .i64 0, .int .i64 1] := by
  have h1 : l ≠ ver11 := by rintro rfl; cases h
  unfold verV; rw [verE_no h, verM_other h1]
theorem verV_b {l : List UInt8} (h : l = ver10) : verV l = .tuple #[.int .i64 0, .int .i64 0] := by
  subst h; unfold verV; rw [verE_10, verM_10]
theorem verV_c {l : List UInt8} (h : l = ver11) : verV l = .tuple #[.int .i64 1, .int .i64 0] := by
  subst h; unfold verV; rw [verE_11, verM_11]
theorem verV_d {l : List UInt8} (h : isVerL l = true) (h0 : l ≠ ver10) (h1 : l ≠ ver11) : verV l = .tuple #[.int .i64 0, .int .i64 3] := by
  unfold verV; rw [verE_other h h0 h1, verM_other h1]
theorem ne_of_beq {a b : List UInt8} (h : (a == b) = false) : a ≠ b := by rintro rfl; simp at h
theorem ret_ver {l : List UInt8} {v : Value} (h : verV l = v) : Ending.returned v = .returned (verV l) := by rw [h]
theorem parseVersion_any (s : ByteArray) (w : World) (hs : s.size ≤ maxLen) :
    Calls Try.prog 56 #[.string s] w fun e w' => e = .returned (verV s.data.toList) ∧ w = w' := by
  have HS := Lib.hid hs
  clear hs
  rcases hv : isVerL s.data.toList with _ | _
  · have HV := Lib.hid hv
    go_enter Try.func56, Try.ntmps56
    go_wp2_with fail
    refine (isVersion_any _ _ HS.out).mono ?_; rintro e w1 ⟨rfl, rfl⟩
    go_wp2
    go_ret2
    exact ⟨ret_ver (verV_a HV.out), rfl⟩
  · have HV := Lib.hid hv
    go_enter Try.func56, Try.ntmps56
    go_wp2_with fail
    refine (isVersion_any _ _ HS.out).mono ?_; rintro e w1 ⟨rfl, rfl⟩
    go_wp2
    · have h : (s.toList == [72, 84, 84, 80, 47, 49, 46, 48]) = true := by assumption
      go_ret2
      exact ⟨ret_ver (verV_b (by rw [← toList_data]; exact eq_of_beq h)), rfl⟩
    · have h : (s.toList == [72, 84, 84, 80, 47, 49, 46, 49]) = true := by assumption
      go_ret2
      exact ⟨ret_ver (verV_c (by rw [← toList_data]; exact eq_of_beq h)), rfl⟩
    · have h0 : (s.toList == [72, 84, 84, 80, 47, 49, 46, 48]) = false := by assumption
      have h1 : (s.toList == [72, 84, 84, 80, 47, 49, 46, 49]) = false := by assumption
      go_ret2
      exact ⟨ret_ver (verV_d HV.out (by rw [← toList_data]; exact ne_of_beq h0) (by rw [← toList_data]; exact ne_of_beq h1)), rfl⟩
theorem ver_ab {s : ByteArray} (h7 : 7 < s.size) (hv : isVerL s.data.toList = true) : s.data.toList = ([72, 84, 84, 80, 47, s[5]'(by omega), 46, s[7]] : List UInt8) := by
  obtain ⟨a, b, h, _, _⟩ := isVer_ex hv
  have h5 := getD_at s 5 (by omega)
  have h8 := getD_at s 7 (by omega)
  rw [h] at h5 h8
  rw [h, ← h5, ← h8]; rfl
theorem ver_5 {s : ByteArray} (h7 : 7 < s.size) (hv : isVerL s.data.toList = true) (h : ¬ (s[5].toNat : Int) = 49) : verV s.data.toList = .tuple #[.int .i64 0, .int .i64 3] := by
  have e := ver_ab h7 hv
  have hn : s[5] ≠ 49 := by intro hh; rw [hh] at h; exact h rfl
  refine verV_d hv ?_ ?_ <;> (rw [e]; simp [ver10, ver11, hn])
theorem ver_7 {s : ByteArray} (h7 : 7 < s.size) (hv : isVerL s.data.toList = true) (h : 49 < (s[7].toNat : Int)) : verV s.data.toList = .tuple #[.int .i64 0, .int .i64 3] := by
  have e := ver_ab h7 hv
  have hn : s[7] ≠ 48 := by intro hh; rw [hh] at h; revert h; decide
  have hn2 : s[7] ≠ 49 := by intro hh; rw [hh] at h; revert h; decide
  refine verV_d hv ?_ ?_ <;> (rw [e]; simp [ver10, ver11, hn, hn2])
theorem ver_57 {s : ByteArray} (h7 : 7 < s.size) (hv : isVerL s.data.toList = true) (h : (s[5].toNat : Int) = 49) (h2 : (s[7].toNat : Int) ≤ 49) :
    verV s.data.toList = .tuple #[.int .i64 ((s[7].toNat : Int) - 48), .int .i64 0] ∧ 48 ≤ (s[7].toNat : Int) := by
  have e := ver_ab h7 hv
  obtain ⟨a, b, hl, _, hb⟩ := isVer_ex hv
  have h8 := getD_at s 7 (by omega)
  rw [hl] at h8
  have h8' : b = s[7] := h8
  subst h8'
  simp [digitI] at hb
  have e5 : s[5] = 49 := UInt8.toNat_inj.mp (by show _ = 49; omega)
  have : s[7].toNat = 48 ∨ s[7].toNat = 49 := by omega
  rcases this with q | q
  · have e7 : s[7] = 48 := UInt8.toNat_inj.mp (by show _ = 48; omega)
    exact ⟨by rw [verV_b (by rw [e, e5, e7]; rfl), e7]; rfl, by omega⟩
  · have e7 : s[7] = 49 := UInt8.toNat_inj.mp (by show _ = 49; omega)
    exact ⟨by rw [verV_c (by rw [e, e5, e7]; rfl), e7]; rfl, by omega⟩
theorem rversion_any (s : ByteArray) (w : World) (hs : s.size ≤ maxLen) :
    Calls Try.prog 39 #[.string s] w fun e w' => e = .returned (verV s.data.toList) ∧ w = w' := by
  unfold maxLen at hs
  by_cases hz : s.size = 8
  · have h5 : 5 < s.size := by omega
    have h6 : 6 < s.size := by omega
    have h7 : 7 < s.size := by omega
    have b5 := byte_bd s 5 h5
    have b7 := byte_bd s 7 h7
    have HV := Lib.hid (isVer_at s h7)
    have HZ := Lib.hid hz
    have hb : ((s.size : Int) != 8) = false := by simp [hz]
    clear hz
    go_enter Try.func39, Try.ntmps39
    go_wp2_with (go_at_call 47; refine (rDigit_c _ _).mono ?_; rintro e w' ⟨rfl, rfl⟩)
    · have q : (!digitI (s[7].toNat : Int)) = true := by assumption
      go_ret2
      exact ⟨ret_ver (verV_a (by rw [HV.out, Bool.and_eq_false_iff]; right; simpa using q)), rfl⟩
    · have q : (!digitI (s[7].toNat : Int)) = false := by assumption
      have q7 : 49 < (s[7].toNat : Int) := by assumption
      go_ret2
      exact ⟨ret_ver (ver_7 h7 (by simp at q; rw [HV.out]; simp [HZ.out, *] <;> decide) q7), rfl⟩
    · have q : (!digitI (s[7].toNat : Int)) = false := by assumption
      have q5 : (s[5].toNat : Int) = 49 := by assumption
      have q7 : (s[7].toNat : Int) ≤ 49 := by assumption
      have hv : isVerL s.data.toList = true := by simp at q; rw [HV.out]; simp [HZ.out, *] <;> decide
      have h := ver_57 h7 hv q5 q7
      go_ret2
      refine ⟨ret_ver (v := .tuple #[.int .i64 (((s[7].toNat : Int) - 48) % 256), .int .i64 0]) ?_, rfl⟩
      rw [h.1, Int.emod_eq_of_lt (by have := h.2; omega) (by omega)]
    · have q : (!digitI (s[7].toNat : Int)) = false := by assumption
      have q5 : ¬ (s[5].toNat : Int) = 49 := by assumption
      go_ret2
      exact ⟨ret_ver (ver_5 h7 (by simp at q; rw [HV.out]; simp [HZ.out, *] <;> decide) q5), rfl⟩
    all_goals
      go_ret2
      exact ⟨ret_ver (verV_a (by rw [HV.out]; simp [HZ.out, *])), rfl⟩
  · have hb : ((s.size : Int) != 8) = true := by simpa using fun h => hz (by omega)
    have HV := Lib.hid (isVer_size hz)
    clear hz
    go_enter Try.func39, Try.ntmps39
    go_wp2
    go_ret2
    exact ⟨ret_ver (verV_a HV.out), rfl⟩
end
section
open Go.RowKit
/-- acc has been written for the first k bytes -/
def NmAt (l : List UInt8) (k : Nat) (acc : List UInt8) : Prop := acc.length ≤ k ∧ normL l = (normL (l.drop k)).map (acc ++ ·)
theorem NmAt.start (l : List UInt8) : NmAt l 0 [] := ⟨by simp, by simp⟩
theorem NmAt.fin {l : List UInt8} {k : Nat} {acc : List UInt8} (h : NmAt l k acc) (hk : l.length ≤ k) : normL l = some acc := by
  rw [h.2, List.drop_of_length_le hk]; simp [normL]
theorem NmAt.bad {s : ByteArray} {k : Nat} {acc : List UInt8} (h : NmAt s.data.toList k acc) (hk : k < s.size) (hc : okB s[k] = false) : normL s.data.toList = none := by
  rw [h.2, drop_cons s k hk, norm_bad hc]; rfl
theorem Own.drewN {w : World} {B n : Nat} {v : Value} {l : List UInt8} (h : Own w B v l) : Own (w.drewN n) B v l := h
theorem size_more (w : World) (o : Obj) : w.heap.size ≤ (w.alloc o).heap.size := ((Below.refl w.heap.size w).alloc (Nat.le_refl _) o).size
end
section
open Go.RowKit
def Ss (w : World) (a : Option Addr) (L : List ByteArray) : Prop :=
  ∀ i (h : i < L.length), ∃ g off, a = some ⟨g, off, none⟩ ∧ w.cell? ⟨g, off + i, none⟩ = some (.string L[i])
theorem cell_lt {w : World} {p : Addr} {v : Value} (h : w.cell? p = some v) : p.block < w.heap.size := by
  rcases Nat.lt_or_ge p.block w.heap.size with q | q
  · exact q
  · simp [World.cell?, Array.getElem?_eq_none q] at h
theorem Ss.below {w w' : World} {a : Option Addr} {L : List ByteArray} (h : Ss w a L) (hb : Below w.heap.size w w') : Ss w' a L := fun i hi => by
  obtain ⟨g, off, e, c0⟩ := h i hi
  exact ⟨g, off, e, (hb.cell (cell_lt c0)).trans c0⟩
theorem info_str : (Try.prog.info? 9).map (fun i => (i.zero, i.size, i.bytes)) = some (some (.string ⟨#[]⟩), 1, 16) := by kernel_rfl
def OwnS (w : World) (B : Nat) (v : Value) (L : List ByteArray) : Prop := w.ownsRow B 9 1 v L.length (L.map Value.string)
section
variable {w w' : World} {B : Nat} {v : Value}
theorem OwnS.nil (w : World) (B : Nat) : OwnS w B (.slice none 0 0) [] := World.ownsRow_nil _ _ _ _
theorem own_block {e : TypeId} {size n : Nat} {xs : List Value} (h : w.ownsRow B e size v n xs) : ∀ k, v.ownBlock = some k → B ≤ k := by
  intro k hk
  rcases h.2 with ⟨rfl, _⟩ | ⟨g, cap, cur, rfl, hb, _⟩
  · simp [Value.ownBlock] at hk
  · simp [Value.ownBlock] at hk; omega
theorem own_below {e : TypeId} {size n : Nat} {xs : List Value} (h : w.ownsRow B e size v n xs) (hb : Below w.heap.size w w') : w'.ownsRow B e size v n xs := by
  refine ⟨h.1, ?_⟩
  rcases h.2 with q | ⟨g, cap, cur, hv, hB, hg, r⟩
  · exact .inl q
  · refine .inr ⟨g, cap, cur, hv, hB, ?_, r⟩
    have : g < w.heap.size := by
      rcases Nat.lt_or_ge g w.heap.size with q | q
      · exact q
      · rw [Array.getElem?_eq_none q] at hg; cases hg
    rw [hb.block g this]; exact hg
theorem OwnS.ss {L : List ByteArray} (h : OwnS w B v L) : ∃ a cap, v = .slice a L.length cap ∧ Ss w a L ∧ L.length ≤ cap := by
  rcases h.2 with ⟨rfl, hn⟩ | ⟨g, cap, cur, rfl, hB, hg, hc, hm, hs, ht⟩
  · exact ⟨none, 0, by rw [hn], fun i hi => by omega, by omega⟩
  · refine ⟨_, cap, rfl, fun i hi => ⟨g, 0, rfl, ?_⟩, hc⟩
    have q0 : (L.map Value.string)[i]? = some (.string L[i]) := by simp [hi]
    rw [← ht, List.getElem?_take, if_pos (by omega)] at q0
    simp only [World.cell?, hg]
    simpa using q0
end
/-- append of one string that lies in a block of its own -/
theorem wpList_append_str (w : World) {ops : Array Oper} {rest : List Oper} {o : Oper} {a : Act} {Q : Exit → Act → World → Prop} (hgd : o.guard = none) (s x : Operand)
    (ho : o.op = .call { callee := .builtin .append, args := #[s, x], argTypes := #[71, 71] })
    (B : Nat) (v : Value) (L : List ByteArray) (hs : a.eval s = v) (hown : OwnS w B v L)
    (g : Nat) (c : Nat) (hx : a.eval x = .slice (some ⟨g, 0, none⟩) 1 c) (u : ByteArray) (h0 : w.cell? ⟨g, 0, none⟩ = some (.string u)) (hl : L.length ≤ 65536) (hB : B ≤ w.heap.size)
    (h : ∀ v' w', OwnS w' B v' (L ++ [u]) → Below B w w' → wpList Try.prog ops Q rest (a.put o.dst v') w') : wpList Try.prog ops Q (o :: rest) a w := by
  obtain ⟨i0, hi0, hz0, hz1, hz2⟩ := info_parts info_str
  refine wpList_append_own (P := Try.prog) w hgd s x 71 ho B 9 i0 _ 1 16 Try.underlying71 hi0 hz0 hz1 hz2 rfl (by decide) v L.length (L.map Value.string) hs hown ⟨g, 0, none⟩ 1 c [.string u] hx rfl ?_ ?_ (by unfold maxLen; omega) (by omega) hB ?_
  · intro j u hj
    match j, hj with
    | 0, hj => simp at hj; subst hj; simpa [Addr.add] using h0
  · intro u hu; simp at hu; subst hu; rfl
  · intro v' w' q1 q2 _
    refine h v' w' (by simpa [OwnS] using q1) ((Below.refl _ _).grown q2 hB (fun k hk => own_block hown k hk))
end
section
open Go.RowKit
def outL (ob : List ByteArray) : List (List UInt8) := ob.map (·.data.toList)
/-- out has been left of the pieces of r0; rest is to come -/
def SegAt (r0 : List UInt8) (ob : List ByteArray) (rest : List UInt8) : Bool → Prop
  | true => dotsL [] (piecesL r0) = dotsL (outL ob) (piecesL rest) ∧ (joinL (outL ob)).length + rest.length ≤ r0.length
  | false => dotsL [] (piecesL r0) = outL ob ∧ (joinL (outL ob)).length ≤ r0.length + 1
theorem SegAt.start (r0 : List UInt8) : SegAt r0 [] r0 true := ⟨rfl, by simp [outL, joinL]⟩
theorem len_join (a : List (List UInt8)) : a.length ≤ (joinL a).length := by
  induction a with
  | nil => simp [joinL]
  | cons x a ih => simp only [joinL, List.flatMap_cons, List.length_append, List.length_cons] at *; omega
theorem SegAt.len {r0 rest : List UInt8} {ob : List ByteArray} {m : Bool} (h : SegAt r0 ob rest m) : ob.length ≤ r0.length + 1 := by
  have h1 := len_join (outL ob)
  have h2 : (outL ob).length = ob.length := by simp [outL]
  cases m
  · have := h.2; omega
  · have := h.2; omega
end
section
open Go.RowKit
def preB (l p : List UInt8) : Bool := p.isPrefixOf l
theorem pre_take (l p : List UInt8) : preB l p = (l.take p.length == p) := by
  unfold preB
  rw [Bool.eq_iff_iff, List.isPrefixOf_iff_prefix, List.prefix_iff_eq_take, beq_iff_eq]
  exact eq_comm
theorem str_cells (s : ByteArray) : Lib.strCells s = s.data.toList.map bv := rfl
/-- append of a string's bytes -/
theorem wpList_append_sb (w : World) {ops : Array Oper} {rest : List Oper} {o : Oper} {a : Act} {Q : Exit → Act → World → Prop} (hgd : o.guard = none) (sl x : Operand)
    (ho : o.op = .call { callee := .builtin .append, args := #[sl, x], argTypes := #[57, 9] })
    (B : Nat) (v : Value) (l : List UInt8) (hs : a.eval sl = v) (hown : Own w B v l) (s : ByteArray) (hx : a.eval x = .string s) (hl : l.length + s.size < 8589934592) (hB : B ≤ w.heap.size)
    (h : ∀ v' w', Own w' B v' (l ++ s.data.toList) → Below B w w' → wpList Try.prog ops Q rest (a.put o.dst v') w') : wpList Try.prog ops Q (o :: rest) a w := by
  obtain ⟨i0, hi0, hz0, hz1, hz2⟩ := info_parts info_u8
  refine Lib.wpList_append_own_string (P := Try.prog) w hgd sl x 57 9 ho B 5 i0 Try.underlying57 Try.underlying9 hi0 hz0 hz1 hz2 v l.length (l.map bv) hs hown s hx (by unfold maxLen; omega) (by omega) hB ?_
  intro v' w' h1 h2 _
  refine h v' w' ?_ ((Below.refl _ _).grown h2 hB (fun k hk => Own.block hown k hk))
  rw [str_cells] at h1
  have e : (l ++ s.data.toList).length = l.length + s.size := by rw [List.length_append]; simp
  unfold Own
  rw [e, List.map_append]; exact h1
end
section
open Go.RowKit
theorem sHasPrefix_big (s p : ByteArray) (w : World) (hs : s.size ≤ 4000000) (hp : p.size ≤ 65536) :
    Calls Try.prog 100 #[.string s, .string p] w fun e w' => e = .returned (.bool (preB s.data.toList p.data.toList)) ∧ w = w' := by
  have hz : s.data.toList.length = s.size := by simp
  have hz2 : p.data.toList.length = p.size := by simp
  by_cases h : p.size ≤ s.size
  · have HE : Box (preB s.data.toList p.data.toList = ((s.extract 0 p.size).toList == p.toList)) := box (by
      rw [pre_take, toList_data, toList_data, ext_bs, List.drop_zero, hz2]; rfl)
    have hi : (p.size : Int) ≤ (s.size : Int) := by omega
    clear hz hz2
    obtain ⟨b, hb⟩ : ∃ b, ((s.extract 0 p.size).toList == p.toList) = b := ⟨_, rfl⟩
    rw [hb] at HE
    go_enter Try.func100, Try.ntmps100
    go_wp2
    go_ret
    exact ⟨ret_bool HE.out.symm, rfl⟩
  · have HE : Box (preB s.data.toList p.data.toList = false) := box (by
      rw [pre_take, beq_eq_false_iff_ne]
      intro e
      have := congrArg List.length e
      rw [List.length_take] at this
      omega)
    have hi : (s.size : Int) < (p.size : Int) := by omega
    clear hz hz2
    go_enter Try.func100, Try.ntmps100
    go_wp2
    go_ret
    exact ⟨ret_bool HE.out.symm, rfl⟩
theorem sHasPre_is {s p : ByteArray} {b : Bool} {w : World} (hs : s.size ≤ 4000000) (hp : p.size ≤ 65536) (h : Box (preB s.data.toList p.data.toList = b)) :
    Calls Try.prog 100 #[.string s, .string p] w fun e w' => e = .returned (.bool b) ∧ w = w' :=
  (sHasPrefix_big s p w hs hp).mono fun e w' ⟨h1, h2⟩ => ⟨by rw [h1, h.out], h2⟩
def cutPreV (s p : ByteArray) : Value := if preB s.data.toList p.data.toList = true then .tuple #[.string (bs (s.data.toList.drop p.size)), .bool true] else .tuple #[.string s, .bool false]
theorem sCutPrefix_any (s p : ByteArray) (w : World) (hs : s.size ≤ 4000000) (hp : p.size ≤ 65536) :
    Calls Try.prog 95 #[.string s, .string p] w fun e w' => e = .returned (cutPreV s p) ∧ w = w' := by
  rcases h : preB s.data.toList p.data.toList with _ | _
  · have HE : Box (cutPreV s p = .tuple #[.string s, .bool false]) := box (by unfold cutPreV; rw [h, if_neg (by simp)])
    have HB := box h
    clear h
    go_enter Try.func95, Try.ntmps95
    go_wp2_with fail
    refine (sHasPre_is hs hp HB).mono ?_; rintro e w1 ⟨rfl, rfl⟩
    go_wp2
    go_ret2
    exact ⟨by rw [HE.out]; rfl, rfl⟩
  · have HE : Box (cutPreV s p = .tuple #[.string (s.extract p.size s.size), .bool true]) := box (by
      unfold cutPreV; rw [h, if_pos rfl, ext_bs, List.take_of_length_le (by simp)])
    have hle : p.size ≤ s.size := by
      rw [pre_take, beq_iff_eq] at h
      have := congrArg List.length h
      rw [List.length_take] at this
      simp at this; omega
    have hli : (p.size : Int) ≤ (s.size : Int) := by omega
    have HB := box h
    clear h
    go_enter Try.func95, Try.ntmps95
    go_wp2_with fail
    refine (sHasPre_is hs hp HB).mono ?_; rintro e w1 ⟨rfl, rfl⟩
    go_wp2
    go_ret2
    exact ⟨by rw [HE.out]; rfl, rfl⟩
theorem CutPrefix_any (s p : ByteArray) (w : World) (hs : s.size ≤ 4000000) (hp : p.size ≤ 65536) :
    Calls Try.prog 80 #[.string s, .string p] w fun e w' => e = .returned (cutPreV s p) ∧ w = w' := by
  obtain ⟨x, b, hx⟩ : ∃ x b, cutPreV s p = .tuple #[.string x, .bool b] := by unfold cutPreV; split <;> exact ⟨_, _, rfl⟩
  have HX := box hx
  clear hx
  go_enter Try.func80, Try.ntmps80
  go_wp2_with fail
  refine (sCutPrefix_any s p _ hs hp).mono ?_; rintro e w1 ⟨rfl, rfl⟩; rw [HX.out]
  go_wp2
  go_ret2
  exact ⟨by rw [HX.out]; rfl, rfl⟩
theorem CutPre_is {s p : ByteArray} {v : Value} {w : World} (hs : s.size ≤ 4000000) (hp : p.size ≤ 65536) (h : Box (cutPreV s p = v)) :
    Calls Try.prog 80 #[.string s, .string p] w fun e w' => e = .returned v ∧ w = w' :=
  (CutPrefix_any s p w hs hp).mono fun e w' ⟨h1, h2⟩ => ⟨by rw [h1, h.out], h2⟩
/-- what follows the CRLF at the beginning, or an error -/
def endL : List UInt8 → Int ⊕ List UInt8
  | [] => .inl 2
  | [c] => if c = 13 then .inl 2 else .inl 1
  | c :: d :: r => if c = 13 ∧ d = 10 then .inr r else .inl 1
def endV : Int ⊕ List UInt8 → Value
  | .inl e => .tuple #[.string ⟨#[]⟩, .int .i64 e]
  | .inr r => .tuple #[.string (bs r), .int .i64 0]
theorem cEnd_any (s : ByteArray) (w : World) (hs : s.size ≤ 4000000) :
    Calls Try.prog 61 #[.string s] w fun e w' => e = .returned (endV (endL s.data.toList)) ∧ w = w' := by
  have hpz : (⟨#[13, 10]⟩ : ByteArray).size ≤ 65536 := by decide
  by_cases hf : ∃ r, s.data.toList = 13 :: 10 :: r
  · obtain ⟨r, hr⟩ := hf
    have HE : Box (endV (endL s.data.toList) = .tuple #[.string (bs r), .int .i64 0]) := box (by rw [hr]; simp [endL, endV])
    have HP : Box (cutPreV s ⟨#[13, 10]⟩ = .tuple #[.string (bs r), .bool true]) := box (by
      unfold cutPreV
      rw [hr, if_pos (by simp [preB])]; rfl)
    clear hr
    go_enter Try.func61, Try.ntmps61
    go_wp2_with fail
    refine (CutPre_is hs hpz HP).mono ?_; rintro e w1 ⟨rfl, rfl⟩
    go_wp2
    go_ret2
    exact ⟨by rw [HE.out]; rfl, rfl⟩
  · have HP : Box (cutPreV s ⟨#[13, 10]⟩ = .tuple #[.string s, .bool false]) := box (by
      unfold cutPreV
      rw [if_neg]
      intro h
      rw [pre_take, beq_iff_eq] at h
      refine hf ⟨s.data.toList.drop 2, ?_⟩
      have := List.take_append_drop 2 s.data.toList
      have h2 : s.data.toList.take 2 = [13, 10] := h
      rw [h2] at this
      exact this.symm)
    by_cases h0 : s.data.toList = []
    · have HE : Box (endV (endL s.data.toList) = .tuple #[.string ⟨#[]⟩, .int .i64 2]) := box (by rw [h0]; rfl)
      have hem : s.toList.isEmpty = true := by rw [toList_data, h0]; rfl
      clear h0 hf
      go_enter Try.func61, Try.ntmps61
      go_wp2_with fail
      refine (CutPre_is hs hpz HP).mono ?_; rintro e w1 ⟨rfl, rfl⟩
      go_wp2
      go_ret2
      exact ⟨by rw [HE.out]; rfl, rfl⟩
    · have hem : s.toList.isEmpty = false := by rw [toList_data]; cases h : s.data.toList <;> simp_all
      by_cases h1 : s.data.toList = [13]
      · have HE : Box (endV (endL s.data.toList) = .tuple #[.string ⟨#[]⟩, .int .i64 2]) := box (by rw [h1]; rfl)
        have h13 : (s.toList == [13]) = true := by rw [toList_data, h1]; rfl
        clear h0 h1 hf
        go_enter Try.func61, Try.ntmps61
        go_wp2_with fail
        refine (CutPre_is hs hpz HP).mono ?_; rintro e w1 ⟨rfl, rfl⟩
        go_wp2
        go_ret2
        exact ⟨by rw [HE.out]; rfl, rfl⟩
      · have HE : Box (endV (endL s.data.toList) = .tuple #[.string ⟨#[]⟩, .int .i64 1]) := box (by
          rcases hl : s.data.toList with _ | ⟨c, _ | ⟨d, r⟩⟩
          · exact absurd hl h0
          · have : c ≠ 13 := fun e => h1 (by rw [hl, e])
            simp [endL, this, endV]
          · have : ¬ (c = 13 ∧ d = 10) := fun e => hf ⟨r, by rw [hl, e.1, e.2]⟩
            simp only [endL, if_neg this, endV])
        have h13 : (s.toList == [13]) = false := by rw [toList_data, beq_eq_false_iff_ne]; exact h1
        clear h0 h1 hf
        go_enter Try.func61, Try.ntmps61
        go_wp2_with fail
        refine (CutPre_is hs hpz HP).mono ?_; rintro e w1 ⟨rfl, rfl⟩
        go_wp2
        go_ret2
        exact ⟨by rw [HE.out]; rfl, rfl⟩
theorem cEnd_is {s : ByteArray} {o : Int ⊕ List UInt8} {w : World} (hs : s.size ≤ 4000000) (h : Box (endL s.data.toList = o)) :
    Calls Try.prog 61 #[.string s] w fun e w' => e = .returned (endV o) ∧ w = w' :=
  (cEnd_any s w hs).mono fun e w' ⟨h1, h2⟩ => ⟨by rw [h1, h.out], h2⟩
/-- a line by where the first byte of an end stands -/
theorem next_end (l : List UInt8) : nextL l = if 2000 < (l.takeWhile eolB).length then .inl 4 else match endL (l.dropWhile eolB) with | .inl e => .inl e | .inr r => .inr (l.takeWhile eolB, r) := by
  unfold nextL
  split
  · rfl
  · have hd := List.head?_dropWhile_not (p := eolB) (l := l)
    rcases hq : l.dropWhile eolB with _ | ⟨c, _ | ⟨d, r⟩⟩
    · rfl
    · rw [hq] at hd
      have hc : c = 13 ∨ c = 10 := eol_not (by simpa using hd)
      rcases hc with rfl | rfl <;> rfl
    · rw [hq] at hd
      have hc : c = 13 ∨ c = 10 := eol_not (by simpa using hd)
      rcases hc with rfl | rfl
      · by_cases e : d = 10
        · simp [endL, e]
        · simp [endL, e]
      · simp [endL]
theorem eol_two (c : UInt8) : eolB c = !(crlf2.contains c) := by
  have key : ∀ x : Fin 256, eolB (UInt8.ofNat x.1) = !(crlf2.contains (UInt8.ofNat x.1)) := by decide +kernel
  have := key ⟨c.toNat, c.toNat_lt⟩
  simp only [UInt8.ofNat_toNat] at this
  exact this
/-- the place of the first end of a line, or -1 -/
theorem eol_at (l : List UInt8) : (Lib.indexAny l crlf2 = -1 ∧ l.takeWhile eolB = l) ∨ ∃ k : Nat, Lib.indexAny l crlf2 = k ∧ k < l.length ∧ (l.takeWhile eolB).length = k := by
  obtain ⟨h1, h2⟩ := any_while_crlf (l := l) eol_two
  have hge := Lib.indexAny_ge crlf2 l
  by_cases h : Lib.indexAny l crlf2 = -1
  · exact .inl ⟨h, h1 h⟩
  · obtain ⟨k, hk⟩ : ∃ k : Nat, Lib.indexAny l crlf2 = k := ⟨(Lib.indexAny l crlf2).toNat, by omega⟩
    obtain ⟨h3, h4⟩ := h2 k hk
    exact .inr ⟨k, hk, h4, h3⟩
def lineV : Int ⊕ (List UInt8 × List UInt8) → Value
  | .inl e => .tuple #[.string ⟨#[]⟩, .string ⟨#[]⟩, .int .i64 e]
  | .inr (t, r) => .tuple #[.string (bs t), .string (bs r), .int .i64 0]
set_option maxHeartbeats 2000000 in
theorem cLine_any (s : ByteArray) (w : World) (hs : s.size ≤ 4000000) :
    Calls Try.prog 48 #[.string s] w fun e w' => e = .returned (lineV (nextL s.data.toList)) ∧ Below w.heap.size w w' := by
  have hz : s.data.toList.length = s.size := by simp
  obtain ⟨k, x, hk, hx, hwl, hcl⟩ : ∃ (k : Nat) (x : Int), k ≤ s.size ∧ Lib.indexAny s.data.toList crlf2 = x ∧ (s.data.toList.takeWhile eolB).length = k ∧ ((x < 0 ∧ k = s.size) ∨ (0 ≤ x ∧ x = k)) := by
    rcases eol_at s.data.toList with ⟨h1, h2⟩ | ⟨k, h1, h2, h3⟩
    · exact ⟨s.size, -1, Nat.le_refl _, h1, by rw [h2, hz], .inl ⟨by omega, rfl⟩⟩
    · exact ⟨k, k, by omega, h1, h3, .inr ⟨by omega, rfl⟩⟩
  have HX := box hx
  obtain ⟨w1, w2⟩ := take_while2 (p := eolB) s.data.toList
  rw [hwl] at w1 w2
  have hki : (k : Int) ≤ (s.size : Int) := by omega
  have HSL : Box ((s.extract k s.size).size ≤ 4000000) := box (by rw [ByteArray.size_extract]; omega)
  have HD : Box ((s.extract k s.size).data.toList = s.data.toList.dropWhile eolB) := box (by rw [ext_bs, List.take_of_length_le (by simp), ← w2]; rfl)
  have HT : Box (s.extract 0 k = bs (s.data.toList.takeWhile eolB)) := box (by rw [ext_bs, List.drop_zero, w1])
  have hN := next_end s.data.toList
  rw [hwl] at hN
  clear hx hwl w1 w2 hz
  by_cases hl : 2000 < k
  · have HE : Box (lineV (nextL s.data.toList) = .tuple #[.string ⟨#[]⟩, .string ⟨#[]⟩, .int .i64 4]) := box (by rw [hN, if_pos hl]; rfl)
    have hli : (2000 : Int) < (k : Int) := by omega
    clear hN HT HD HSL
    rcases hcl with ⟨hx0, rfl⟩ | ⟨hx0, rfl⟩
    all_goals
      go_enter Try.func48, Try.ntmps48
      go_wp2_with fail
      refine (IndexAny_any_crlf s _ hs).mono ?_; rintro e w1 ⟨rfl, hb1⟩; rw [HX.out]
      go_wp2
      go_ret3
      exact ⟨by rw [HE.out]; rfl, hb1⟩
  · rw [if_neg hl] at hN
    have hli : ¬ (2000 : Int) < (k : Int) := by omega
    rcases hq : endL (s.data.toList.dropWhile eolB) with e0 | r
    · have HE : Box (lineV (nextL s.data.toList) = .tuple #[.string ⟨#[]⟩, .string ⟨#[]⟩, .int .i64 e0]) := box (by rw [hN, hq]; rfl)
      have HQ : Box (endL (s.extract k s.size).data.toList = .inl e0) := box (by rw [HD.out, hq])
      have he0 : e0 = 1 ∨ e0 = 2 := by
        unfold endL at hq
        split at hq
        · cases hq; exact .inr rfl
        · split at hq <;> cases hq <;> simp
        · split at hq <;> cases hq; exact .inl rfl
      clear hN HT HD hq hl
      rcases hcl with ⟨hx0, rfl⟩ | ⟨hx0, rfl⟩
      · have hee : s.extract s.size s.size = ByteArray.empty := by
          rw [ext_bs, List.drop_of_length_le (by simp)]; rfl
        rw [hee] at HQ
        have HZ : ByteArray.empty.size ≤ 4000000 := by decide
        clear HSL hee
        rcases he0 with rfl | rfl
        all_goals
          go_enter Try.func48, Try.ntmps48
          go_wp2_with fail
          refine (IndexAny_any_crlf s _ hs).mono ?_; rintro e w1 ⟨rfl, hb1⟩; rw [HX.out]
          go_wp2_with fail
          refine (cEnd_is HZ HQ).mono ?_; rintro e w2 ⟨rfl, rfl⟩; unfold endV
          go_wp2
          go_ret3
          exact ⟨by rw [HE.out]; rfl, hb1⟩
      · rcases he0 with rfl | rfl
        all_goals
          go_enter Try.func48, Try.ntmps48
          go_wp2_with fail
          refine (IndexAny_any_crlf s _ hs).mono ?_; rintro e w1 ⟨rfl, hb1⟩; rw [HX.out]
          go_wp2_with fail
          refine (cEnd_is HSL.out HQ).mono ?_; rintro e w2 ⟨rfl, rfl⟩; unfold endV
          go_wp2
          go_ret3
          exact ⟨by rw [HE.out]; rfl, hb1⟩
    · have HE : Box (lineV (nextL s.data.toList) = .tuple #[.string (s.extract 0 k), .string (bs r), .int .i64 0]) := box (by rw [hN, hq, HT.out]; rfl)
      have HQ : Box (endL (s.extract k s.size).data.toList = .inr r) := box (by rw [HD.out, hq])
      rcases hcl with ⟨hx0, rfl⟩ | ⟨hx0, rfl⟩
      · exfalso
        have : (s.extract s.size s.size).data.toList = [] := by
          rw [ext_bs, List.drop_of_length_le (by simp)]; rfl
        have := HQ.out
        simp_all [endL]
      · clear hN HT HD hq hl
        go_enter Try.func48, Try.ntmps48
        go_wp2_with fail
        refine (IndexAny_any_crlf s _ hs).mono ?_; rintro e w1 ⟨rfl, hb1⟩; rw [HX.out]
        go_wp2_with fail
        refine (cEnd_is HSL.out HQ).mono ?_; rintro e w2 ⟨rfl, rfl⟩; unfold endV
        go_wp2
        go_ret3
        exact ⟨by rw [HE.out]; rfl, hb1⟩
end
section
open Go.RowKit
/-- block k holds the string x, and may be written -/
def StrAt (k : Nat) (x : ByteArray) (w : World) : Prop := w.cell? ⟨k, 0, none⟩ = some (.string x) ∧ w.frozen? ⟨k, 0, none⟩ = false
theorem StrAt.new (x : ByteArray) (w : World) (t : TypeId) : StrAt w.heap.size x (w.alloc (.cells #[.string x] t)) :=
  ⟨by rw [World.cell?_alloc_mark]; rfl, by rw [World.frozen?_alloc_at _ _ _ _ rfl]⟩
theorem StrAt.lt {k : Nat} {x : ByteArray} {w : World} (h : StrAt k x w) : k < w.heap.size := cell_lt (p := ⟨k, 0, none⟩) h.1
theorem StrAt.below {k B : Nat} {x : ByteArray} {w w' : World} (h : StrAt k x w) (hb : Below B w w') (hk : k < B) : StrAt k x w' :=
  ⟨by rw [hb.cell hk]; exact h.1, by rw [hb.frozen hk]; exact h.2⟩
theorem StrAt.set {k : Nat} {x : ByteArray} {w : World} (h : StrAt k x w) (y : ByteArray) : StrAt k y (w.setCell ⟨k, 0, none⟩ (.string y)) :=
  ⟨by rw [World.cell?_setCell_same (h := h.1)], by rw [World.frozen?_setCell]; exact h.2⟩
/-- all that there was is as it was, but for block k -/
structure Only (k : Nat) (w w' : World) : Prop where
  os : w'.os = w.os
  tape : w'.tape = w.tape
  output : w'.output = w.output
  size : w.heap.size ≤ w'.heap.size
  block : ∀ j, j < w.heap.size → j ≠ k → w'.heap[j]? = w.heap[j]?
theorem Only.refl (k : Nat) (w : World) : Only k w w := ⟨rfl, rfl, rfl, Nat.le_refl _, fun _ _ _ => rfl⟩
theorem Only.trans {k : Nat} {a b c : World} (h : Only k a b) (g : Only k b c) : Only k a c :=
  ⟨g.os.trans h.os, g.tape.trans h.tape, g.output.trans h.output, Nat.le_trans h.size g.size, fun j hj hk => (g.block j (Nat.lt_of_lt_of_le hj h.size) hk).trans (h.block j hj hk)⟩
theorem Only.of {k : Nat} {w w' : World} (h : Below w.heap.size w w') : Only k w w' := ⟨h.os, h.tape, h.output, h.size, fun j hj _ => h.block j hj⟩
theorem Only.set {k : Nat} {w w' : World} (h : Only k w w') (v : Value) : Only k w (w'.setCell ⟨k, 0, none⟩ v) :=
  ⟨h.os, h.tape, h.output, by simpa using h.size, fun j hj hk => (Below.heap_setCell w' ⟨k, 0, none⟩ v j hk).trans (h.block j hj hk)⟩
theorem Only.below {k B : Nat} {w w' : World} (h : Only k w w') (hk : B ≤ k) (hB : B ≤ w.heap.size) : Below B w w' :=
  ⟨h.os, h.tape, h.output, h.size, fun j hj => h.block j (Nat.lt_of_lt_of_le hj hB) (by omega)⟩
theorem own_only {w w' : World} {k B : Nat} {e : TypeId} {size n : Nat} {v : Value} {xs : List Value} (h : w.ownsRow B e size v n xs) (hb : Only k w w') (hk : k < B) : w'.ownsRow B e size v n xs := by
  refine ⟨h.1, ?_⟩
  rcases h.2 with q | ⟨g, cap, cur, hv, hB, hg, r⟩
  · exact .inl q
  · refine .inr ⟨g, cap, cur, hv, hB, ?_, r⟩
    have : g < w.heap.size := by
      rcases Nat.lt_or_ge g w.heap.size with q | q
      · exact q
      · rw [Array.getElem?_eq_none q] at hg; cases hg
    rw [hb.block g this (by omega)]; exact hg
/-- a line, and what is left -/
def cloV : Int ⊕ (List UInt8 × List UInt8) → Value
  | .inl e => .tuple #[.string ⟨#[]⟩, .int .i64 e]
  | .inr (t, r) => .tuple #[.string (bs t), .int .i64 0]
def cloR : Int ⊕ (List UInt8 × List UInt8) → ByteArray
  | .inl _ => ⟨#[]⟩
  | .inr (t, r) => bs r
theorem lineV_is (o : Int ⊕ (List UInt8 × List UInt8)) : ∃ (x : ByteArray) (e : Int), lineV o = .tuple #[.string x, .string (cloR o), .int .i64 e] ∧ cloV o = .tuple #[.string x, .int .i64 e] := by
  rcases o with e | ⟨t, r⟩ <;> exact ⟨_, _, rfl, rfl⟩
theorem clo5_any (k : Nat) (x : ByteArray) (w : World) (hs : x.size ≤ 4000000) (h : Box (StrAt k x w)) :
    Calls Try.prog 72 #[.pointer (some ⟨k, 0, none⟩)] w fun e w' => e = .returned (cloV (nextL x.data.toList)) ∧ StrAt k (cloR (nextL x.data.toList)) w' ∧ Only k w w' := by
  obtain ⟨c0, f0⟩ := h.out
  have hlt := h.out.lt
  obtain ⟨y, e0, h1, h2⟩ := lineV_is (nextL x.data.toList)
  obtain ⟨r, hr⟩ : ∃ r, cloR (nextL x.data.toList) = r := ⟨_, rfl⟩
  rw [hr] at h1
  have H1 := box h1
  have H2 := box h2
  have HR := box hr
  clear h1 h2 hr f0
  go_enter Try.func72, Try.ntmps72
  go_wp2_with fail
  refine (cLine_any x _ hs).mono ?_; rintro e w1 ⟨rfl, hb1⟩; rw [H1.out]
  have S1 := box (h.out.below hb1 hlt)
  have O1 := box ((Only.of (k := k) hb1).set (.string r))
  have c1 := S1.out.1
  have f1 := S1.out.2
  clear hb1 c0 hlt
  go_wp2
  go_ret2
  exact ⟨by rw [H2.out]; rfl, by rw [HR.out]; exact S1.out.set r, O1.out⟩
end
end Go.Proofs.Ytjabcfabenobiaa.Asc
