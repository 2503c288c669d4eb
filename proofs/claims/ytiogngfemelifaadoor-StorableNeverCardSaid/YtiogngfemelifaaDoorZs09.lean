/- Merged texts: CtlSpec2 StoSpec PreAny EtaMine EtaMine2 CtlMem CtlMine. -/
import Derived.Test.YtiogngfemelifaaDoorZs01
import Derived.Test.YtiogngfemelifaaDoorZs02
import Derived.Test.YtiogngfemelifaaDoorZs03
import Derived.Test.YtiogngfemelifaaDoorZs04
import Derived.Test.YtiogngfemelifaaDoorZs05
import Derived.Test.YtiogngfemelifaaDoorZs06
import Derived.Test.YtiogngfemelifaaDoorZs07
import Derived.Test.YtiogngfemelifaaDoorZs08
import Derived.BigQuiet
import Derived.Deep.RegionHeld3
import Derived.Laws.ResultCell
import Derived.LoopTactic
set_option linter.unusedVariables false
set_option linter.unusedSimpArgs false
set_option maxRecDepth 100000
namespace Go.Proofs.YtiogngfemelifaaDoor.Asc
section
theorem resp_ns {M : List (List UInt8)} (h : 64 ≤ M.length) : (respC M).ns = true := by
  show ((dirD nsN M).isSome || decide (64 ≤ M.length)) = true
  rw [decide_eq_true h, Bool.or_true]
end
section
def lmN : ByteArray := ⟨#[76, 97, 115, 116, 45, 77, 111, 100, 105, 102, 105, 101, 100]⟩
def rgN : ByteArray := ⟨#[82, 97, 110, 103, 101]⟩
def auN : ByteArray := ⟨#[65, 117, 116, 104, 111, 114, 105, 122, 97, 116, 105, 111, 110]⟩
/-- 24.1 -/
noncomputable def valT (L : List F) : Bool := (ofM21 L).isSome || (fdtD lmN L).isSome
def unsB (m : List UInt8) : Bool := !(m == [71, 69, 84] || m == [72, 69, 65, 68] || m == [79, 80, 84, 73, 79, 78, 83] || m == [84, 82, 65, 67, 69])
def anyC (c : CT) : Bool := c.mr || c.pb || (c.sm != -1)
/-- 24.2 -/
def storB (g s a : Bool) (c : CT) (o rg au lf vl : Bool) : Bool := g && s && !a && !c.ns && !c.pv && o && !rg && (!au || anyC c) && (lf || vl)
noncomputable def lifS (L : List F) : Int := lifeV (respC (allL ccN L)) (fdtD exN L) (fdtD daN L)
def ctQ (Q : List F) : CT := reqC (Q.any (nmd ccN)) (allL ccN Q) (allL pgN Q)
noncomputable def storV (m : List UInt8) (s : Int) (Q L : List F) : Bool :=
  storB (m == [71, 69, 84]) (s == 200) (ctQ Q).ns (respC (allL ccN L)) (namesO L) (Q.any (nmd rgN)) (Q.any (nmd auN)) (decide (0 < lifS L)) (valT L)
theorem get_app24 (nm : ByteArray) (A B : List F) : getL nm (A ++ B) = getL nm A ++ getL nm B := by
  unfold getL; rw [List.filter_append, List.map_append]
/-- a member of a field that is put among others is there, if there is room -/
theorem all_put {nm n v : ByteArray} (A B : List F) (hn : nmd nm (n, v) = true) {x : List UInt8} (hx : x ∈ splitL v.data.toList) :
    64 ≤ (allL nm (A ++ (n, v) :: B)).length ∨ x ∈ allL nm (A ++ (n, v) :: B) := by
  have e : getL nm (A ++ (n, v) :: B) = getL nm A ++ v :: getL nm B := by
    rw [get_app24]
    unfold getL
    rw [List.filter_cons_of_pos hn, List.map_cons]
  have hm : x ∈ allF (getL nm (A ++ (n, v) :: B)) := by
    rw [e]
    unfold allF
    exact List.mem_flatMap.2 ⟨v, by simp, hx⟩
  unfold allL
  by_cases h : 64 ≤ (allF (getL nm (A ++ (n, v) :: B))).length
  · exact .inl (by rw [List.length_take]; omega)
  · exact .inr (by rw [List.take_of_length_le (by omega)]; exact hm)
theorem dir_some {n x : List UInt8} {M : List (List UInt8)} (h : isD n x = true) (hx : x ∈ M) : (dirD n M).isSome = true := by
  unfold dirD
  rw [Option.isSome_map, List.find?_isSome]
  exact ⟨x, hx, h⟩
theorem put_ns {n v : ByteArray} (A B : List F) (hn : nmd ccN (n, v) = true) {x : List UInt8} (hx : x ∈ splitL v.data.toList) (h : isD nsN x = true) : (respC (allL ccN (A ++ (n, v) :: B))).ns = true := by
  rcases all_put A B hn hx with h2 | h2
  · exact resp_ns h2
  · show ((dirD nsN _).isSome || _) = true
    rw [dir_some h h2, Bool.true_or]
theorem put_pv {n v : ByteArray} (A B : List F) (hn : nmd ccN (n, v) = true) {x : List UInt8} (hx : x ∈ splitL v.data.toList) (h : isD pvN x = true) : (respC (allL ccN (A ++ (n, v) :: B))).ns = true ∨ (respC (allL ccN (A ++ (n, v) :: B))).pv = true := by
  rcases all_put A B hn hx with h2 | h2
  · exact .inl (resp_ns h2)
  · exact .inr (dir_some h h2)
theorem put_vry {n v : ByteArray} (A B : List F) (hn : nmd nmVry (n, v) = true) (hx : [42] ∈ splitL v.data.toList) : namesO (A ++ (n, v) :: B) = false := by
  unfold namesO okU
  rcases all_put A B hn hx with h2 | h2
  · rw [decide_eq_false (by omega), Bool.false_and]
  · rw [Bool.and_eq_false_iff]
    refine .inr ?_
    rw [List.all_eq_false]
    exact ⟨[42], h2, by decide⟩
theorem stor_ns {g s a : Bool} {c : CT} {o rg au lf vl : Bool} (h : c.ns = true ∨ c.pv = true) : storB g s a c o rg au lf vl = false := by
  unfold storB
  rcases h with h | h <;> rw [h] <;> simp
theorem stor_a {g s : Bool} {c : CT} {o rg au lf vl : Bool} : storB g s true c o rg au lf vl = false := by unfold storB; simp
theorem stor_o {g s a : Bool} {c : CT} {rg au lf vl : Bool} : storB g s a c false rg au lf vl = false := by unfold storB; simp
def ccL : ByteArray := ⟨#[99, 97, 99, 104, 101, 45, 99, 111, 110, 116, 114, 111, 108]⟩
def nsV24 : ByteArray := ⟨#[78, 111, 45, 83, 116, 111, 114, 101]⟩
def pvV : ByteArray := ⟨#[120, 44, 32, 80, 114, 105, 118, 97, 116, 101, 61, 34, 97, 34]⟩
def vyU : ByteArray := ⟨#[86, 65, 82, 89]⟩
def asV : ByteArray := ⟨#[97, 44, 32, 42]⟩
theorem never_ns (m : List UInt8) (s : Int) (Q A B : List F) : storV m s Q (A ++ (ccL, nsV24) :: B) = false :=
  stor_ns (.inl (put_ns A B (by decide +kernel) (x := [78, 111, 45, 83, 116, 111, 114, 101]) (by rw [show splitL nsV24.data.toList = [[78, 111, 45, 83, 116, 111, 114, 101]] from by decide +kernel]; simp) (by decide +kernel)))
theorem never_pv (m : List UInt8) (s : Int) (Q A B : List F) : storV m s Q (A ++ (ccL, pvV) :: B) = false :=
  stor_ns (put_pv A B (by decide +kernel) (x := [80, 114, 105, 118, 97, 116, 101, 61, 34, 97, 34]) (by rw [show splitL pvV.data.toList = [[120], [80, 114, 105, 118, 97, 116, 101, 61, 34, 97, 34]] from by decide +kernel]; simp) (by decide +kernel))
theorem never_vary (m : List UInt8) (s : Int) (Q A B : List F) : storV m s Q (A ++ (vyU, asV) :: B) = false := by
  unfold storV
  rw [put_vry A B (by decide +kernel) (by rw [show splitL asV.data.toList = [[97], [42]] from by decide +kernel]; simp)]
  exact stor_o
theorem never_req (m : List UInt8) (s : Int) (Q L : List F) : storV m s (Q ++ [(ccL, nsV24)]) L = false := by
  unfold storV
  have h : (ctQ (Q ++ [(ccL, nsV24)])).ns = true := put_ns Q [] (by decide +kernel) (x := [78, 111, 45, 83, 116, 111, 114, 101]) (by rw [show splitL nsV24.data.toList = [[78, 111, 45, 83, 116, 111, 114, 101]] from by decide +kernel]; simp) (by decide +kernel)
  rw [h]
  exact stor_a
/-- a small field more -/
theorem sm_put {A B : List F} {n v : ByteArray} (hA : ∀ p ∈ A, p.1.size ≤ 300 ∧ p.2.size ≤ 300) (hB : ∀ p ∈ B, p.1.size ≤ 300 ∧ p.2.size ≤ 300) (hl : A.length + B.length ≤ 70) (hn : n.size ≤ 300) (hv : v.size ≤ 300) :
    Sm (A ++ (n, v) :: B) ∧ ∀ nm, ∀ x ∈ getL nm (A ++ (n, v) :: B), x.size ≤ 65000 := by
  have key : ∀ p ∈ A ++ (n, v) :: B, p.1.size ≤ 300 ∧ p.2.size ≤ 300 := by
    intro p hp
    rcases List.mem_append.1 hp with h | h
    · exact hA p h
    · rcases List.mem_cons.1 h with rfl | h
      · exact ⟨hn, hv⟩
      · exact hB p h
  refine ⟨⟨by simp; omega, fun i hi => ?_⟩, fun nm x hx => ?_⟩
  · have := key _ (List.getElem_mem hi); omega
  · unfold getL at hx
    obtain ⟨p, hp, rfl⟩ := List.mem_map.1 hx
    have := key p (List.mem_filter.1 hp).1; omega
theorem keep_mem {L : List F} (h : keepF L = true) : ∀ p ∈ L, p.1.size ≤ 300 ∧ p.2.size ≤ 300 := by
  intro p hp
  obtain ⟨i, hi, rfl⟩ := List.getElem_of_mem hp
  exact (keep_parts h).2 i hi
end
section
open Go.RowKit
/-- does the text begin so? -/
def pre21 (l p : List UInt8) : Bool := l.take p.length == p
theorem hasPre21_is {s p : ByteArray} {b : Bool} {w : World} (hs : s.size ≤ 4000000) (hp : p.size ≤ 65536) (hb : Box (pre21 s.data.toList p.data.toList = b)) :
    Calls Tryd.prog 96 #[.string s, .string p] w fun e w' => e = .returned (.bool b) ∧ w = w' := by
  have hz : s.data.toList.length = s.size := by simp
  have hz2 : p.data.toList.length = p.size := by simp
  by_cases h : p.size ≤ s.size
  · have HE : ((s.extract 0 p.size).toList == p.toList) = b := by
      rw [← hb.out]; unfold pre21
      rw [toList_data, toList_data, ext_bs, List.drop_zero, hz2]; rfl
    have hi : (p.size : Int) ≤ (s.size : Int) := by omega
    clear hz hz2
    go_enter Tryd.func96, Tryd.ntmps96
    go_wp2
    go_ret
    exact ⟨rfl, rfl⟩
  · have HE : Box (b = false) := box (by
      rw [← hb.out]; unfold pre21
      rw [beq_eq_false_iff_ne]
      intro e
      have := congrArg List.length e
      rw [List.length_take] at this
      omega)
    have hi : (s.size : Int) < (p.size : Int) := by omega
    clear hz hz2
    go_enter Tryd.func96, Tryd.ntmps96
    go_wp2
    go_ret
    exact ⟨ret_bool HE.out.symm, rfl⟩
theorem pre21_le {s p : ByteArray} (h : pre21 s.data.toList p.data.toList = true) : p.size ≤ s.size := by
  unfold pre21 at h
  rw [beq_iff_eq] at h
  have := congrArg List.length h
  rw [List.length_take] at this
  simp at this; omega
theorem scutPre21_no {s p : ByteArray} {w : World} (hs : s.size ≤ 4000000) (hp : p.size ≤ 65536) (h : Box (pre21 s.data.toList p.data.toList = false)) :
    Calls Tryd.prog 88 #[.string s, .string p] w fun e w' => e = .returned (.tuple #[.string s, .bool false]) ∧ w = w' := by
  go_enter Tryd.func88, Tryd.ntmps88
  go_wp2_with fail
  refine (hasPre21_is hs hp h).mono ?_; rintro e w1 ⟨rfl, rfl⟩
  go_wp2
  go_ret2
  exact ⟨rfl, rfl⟩
theorem scutPre21_yes {s p x : ByteArray} {w : World} (hs : s.size ≤ 4000000) (hp : p.size ≤ 65536) (h : Box (pre21 s.data.toList p.data.toList = true)) (hx : Box (s.extract p.size s.size = x)) :
    Calls Tryd.prog 88 #[.string s, .string p] w fun e w' => e = .returned (.tuple #[.string x, .bool true]) ∧ w = w' := by
  have hle := pre21_le h.out
  have hli : (p.size : Int) ≤ (s.size : Int) := by omega
  go_enter Tryd.func88, Tryd.ntmps88
  go_wp2_with fail
  refine (hasPre21_is hs hp h).mono ?_; rintro e w1 ⟨rfl, rfl⟩
  go_wp2
  go_ret2
  exact ⟨by rw [← hx.out]; rfl, rfl⟩
theorem cutPre21_no {s p : ByteArray} {w : World} (hs : s.size ≤ 4000000) (hp : p.size ≤ 65536) (h : Box (pre21 s.data.toList p.data.toList = false)) :
    Calls Tryd.prog 71 #[.string s, .string p] w fun e w' => e = .returned (.tuple #[.string s, .bool false]) ∧ w = w' := by
  go_enter Tryd.func71, Tryd.ntmps71
  go_wp2_with fail
  refine (scutPre21_no hs hp h).mono ?_; rintro e w1 ⟨rfl, rfl⟩
  go_wp2
  go_ret2
  exact ⟨rfl, rfl⟩
theorem cutPre21_yes {s p x : ByteArray} {w : World} (hs : s.size ≤ 4000000) (hp : p.size ≤ 65536) (h : Box (pre21 s.data.toList p.data.toList = true)) (hx : Box (s.extract p.size s.size = x)) :
    Calls Tryd.prog 71 #[.string s, .string p] w fun e w' => e = .returned (.tuple #[.string x, .bool true]) ∧ w = w' := by
  go_enter Tryd.func71, Tryd.ntmps71
  go_wp2_with fail
  refine (scutPre21_yes hs hp h hx).mono ?_; rintro e w1 ⟨rfl, rfl⟩
  go_wp2
  go_ret2
  exact ⟨rfl, rfl⟩
theorem ext_drop21 {s : ByteArray} (k : Nat) : (s.extract k s.size).data.toList = s.data.toList.drop k := by rw [ext_bs, bs_toList, List.take_of_length_le (by simp)]
end
section
open Go.RowKit
theorem isTagByte_any (b : Int) (w : World) (h0 : 0 ≤ b) (h1 : b ≤ 255) :
    Calls Tryd.prog 93 #[.int .u8 b] w fun e w' => e = .returned (.bool (tagI b)) ∧ w = w' := by
  go_enter Tryd.func93, Tryd.ntmps93
  go_wp2
  all_goals (go_ret; exact ⟨ret_bool (by rw [Bool.eq_iff_iff]; simp [tagI, *] <;> omega), rfl⟩)
theorem isTag_any (s : ByteArray) (w : World) (hs : s.size ≤ maxLen) :
    Calls Tryd.prog 80 #[.string s] w fun e w' => e = .returned (.bool (tagT s.data.toList)) ∧ w = w' := by
  unfold maxLen at hs
  go_enter Tryd.func80, Tryd.ntmps80
  go_wp2
  go_loop [6] (fun i => ∃ k : Nat, k ≤ s.size ∧ i = .int .i64 k ∧ allI tagI (s.data.toList.take k) = true) (fun i => s.size - (intOf i).toNat)
  case atStart => exact ⟨0, Nat.zero_le _, rfl, rfl⟩
  case round =>
    obtain ⟨k, hk, rfl, hall⟩ := hrel
    by_cases hlt : k < s.size
    · have hb := byte_bd s k hlt
      rcases hp : tagI (s[k].toNat) with _ | _
      · go_wp2_with (go_at_call 93; refine (isTagByte_any _ _ hb.1 hb.2).mono ?_; rintro e w' ⟨rfl, rfl⟩)
        go_ret
        exact ⟨ret_bool (tagT_not hlt hp).symm, rfl⟩
      · go_wp2_with (go_at_call 93; refine (isTagByte_any _ _ hb.1 hb.2).mono ?_; rintro e w' ⟨rfl, rfl⟩)
        go_round
        case rel => exact ⟨k + 1, by omega, by go_num, all_more hall hlt hp⟩
        case measure => simp [intOf]; omega
    · go_wp2
      go_ret
      exact ⟨ret_bool (tagT_end hall (by omega)).symm, rfl⟩
theorem isTag_is {s : ByteArray} {b : Bool} {w : World} (hs : s.size ≤ 65536) (h : Box (tagT s.data.toList = b)) :
    Calls Tryd.prog 80 #[.string s] w fun e w' => e = .returned (.bool b) ∧ w = w' :=
  (isTag_any s w (by unfold maxLen; omega)).mono fun e w' ⟨h1, h2⟩ => ⟨by rw [h1, h.out], h2⟩
theorem one_suf21 {s : ByteArray} {c : UInt8} (h : 1 ≤ s.size) : ((s.extract (s.size - 1) s.size).toList == [c]) = decide (s.data.toList.getLast? = some c) := by
  have hl : s.data.toList.length = s.size := by simp
  have h2 : (s.extract (s.size - 1) s.size).toList = s.data.toList.drop (s.size - 1) := by
    rw [toList_data, ByteArray.data_extract, Array.toList_extract, List.extract_eq_take_drop, List.take_of_length_le (by rw [List.length_drop, hl]; omega)]
  rw [h2, ← hl]
  have hne : s.data.toList ≠ [] := fun e => by rw [e] at hl; simp at hl; omega
  have e2 : s.data.toList.drop (s.data.toList.length - 1) = [s.data.toList.getLast hne] := by
    obtain ⟨a, d, ha⟩ : ∃ a d, s.data.toList = a ++ [d] := ⟨_, _, (List.dropLast_concat_getLast hne).symm⟩
    have hg : s.data.toList.getLast hne = d := by simp [ha]
    rw [hg, ha]; simp
  rw [e2, List.getLast?_eq_some_getLast hne]
  by_cases q : s.data.toList.getLast hne = c
  · rw [q]; simp
  · rw [decide_eq_false (by simpa using q)]; exact beq_eq_false_iff_ne.2 (by simpa using q)
theorem hasSuf34q_is {s : ByteArray} {b : Bool} {w : World} (hs : s.size ≤ 65000) (h : Box (decide (s.data.toList.getLast? = some 34) = b)) :
    Calls Tryd.prog 98 #[.string s, .string ⟨#[34]⟩] w fun e w' => e = .returned (.bool b) ∧ w = w' := by
  by_cases h1 : 1 ≤ s.size
  · have hi : (1 : Int) ≤ (s.size : Int) := by omega
    have ht := one_suf21 (c := 34) h1
    obtain ⟨p, hp⟩ : ∃ p, s.size - 1 = p := ⟨_, rfl⟩
    have hpi : (s.size : Int) - 1 = (p : Int) := by omega
    have hps : (p : Int) ≤ (s.size : Int) := by omega
    rw [h.out, hp] at ht
    clear hp h1
    go_enter Tryd.func98, Tryd.ntmps98
    go_wp2
    go_ret
    exact ⟨rfl, rfl⟩
  · have hi : ¬ (1 : Int) ≤ (s.size : Int) := by omega
    have hb : b = false := by
      rw [← h.out]
      have : s.data.toList = [] := List.eq_nil_of_length_eq_zero (by have : s.data.toList.length = s.size := by simp
                                                                     omega)
      rw [this]; rfl
    subst hb
    go_enter Tryd.func98, Tryd.ntmps98
    go_wp2
    go_ret
    exact ⟨rfl, rfl⟩
theorem scutSuf34q_yes {s : ByteArray} {w : World} (hs : s.size ≤ 65000) (h : Box (s.data.toList.getLast? = some 34)) :
    Calls Tryd.prog 92 #[.string s, .string ⟨#[34]⟩] w fun e w' => e = .returned (.tuple #[.string (s.extract 0 (s.size - 1)), .bool true]) ∧ w = w' := by
  have HB : Box (decide (s.data.toList.getLast? = some 34) = true) := box (decide_eq_true h.out)
  have h1 : (1 : Int) ≤ (s.size : Int) := by
    have hl : s.data.toList.length = s.size := by simp
    have hh := h.out
    have : s.data.toList ≠ [] := fun e => by rw [e] at hh; cases hh
    have := List.length_pos_iff.2 this
    omega
  obtain ⟨p, hp⟩ : ∃ p, s.size - 1 = p := ⟨_, rfl⟩
  have hpi : (s.size : Int) - 1 = (p : Int) := by omega
  have hps : (p : Int) ≤ (s.size : Int) := by omega
  have hpn : p ≤ s.size := by omega
  rw [hp]
  clear hp
  go_enter Tryd.func92, Tryd.ntmps92
  go_wp2_with fail
  refine (hasSuf34q_is hs HB).mono ?_; rintro e w1 ⟨rfl, rfl⟩
  go_wp2
  go_ret2
  exact ⟨rfl, rfl⟩
theorem cutSuf34q_yes {s : ByteArray} {w : World} (hs : s.size ≤ 65000) (h : Box (s.data.toList.getLast? = some 34)) :
    Calls Tryd.prog 79 #[.string s, .string ⟨#[34]⟩] w fun e w' => e = .returned (.tuple #[.string (s.extract 0 (s.size - 1)), .bool true]) ∧ w = w' := by
  go_enter Tryd.func79, Tryd.ntmps79
  go_wp2_with fail
  refine (scutSuf34q_yes hs h).mono ?_; rintro e w1 ⟨rfl, rfl⟩
  go_wp2
  go_ret2
  exact ⟨rfl, rfl⟩
theorem scutSuf34q_no {s : ByteArray} {w : World} (hs : s.size ≤ 65000) (h : Box (s.data.toList.getLast? ≠ some 34)) :
    Calls Tryd.prog 92 #[.string s, .string ⟨#[34]⟩] w fun e w' => e = .returned (.tuple #[.string s, .bool false]) ∧ w = w' := by
  have HB : Box (decide (s.data.toList.getLast? = some 34) = false) := box (decide_eq_false h.out)
  go_enter Tryd.func92, Tryd.ntmps92
  go_wp2_with fail
  refine (hasSuf34q_is hs HB).mono ?_; rintro e w1 ⟨rfl, rfl⟩
  go_wp2
  go_ret2
  exact ⟨rfl, rfl⟩
theorem cutSuf34q_no {s : ByteArray} {w : World} (hs : s.size ≤ 65000) (h : Box (s.data.toList.getLast? ≠ some 34)) :
    Calls Tryd.prog 79 #[.string s, .string ⟨#[34]⟩] w fun e w' => e = .returned (.tuple #[.string s, .bool false]) ∧ w = w' := by
  go_enter Tryd.func79, Tryd.ntmps79
  go_wp2_with fail
  refine (scutSuf34q_no hs h).mono ?_; rintro e w1 ⟨rfl, rfl⟩
  go_wp2
  go_ret2
  exact ⟨rfl, rfl⟩
theorem cutSuf34q_any {s : ByteArray} {w : World} (hs : s.size ≤ 65000) :
    Calls Tryd.prog 79 #[.string s, .string ⟨#[34]⟩] w fun e w' => (∃ y q, e = .returned (.tuple #[.string y, .bool q])) ∧ w = w' := by
  by_cases h : s.data.toList.getLast? = some 34
  · exact (cutSuf34q_yes hs (box h)).mono fun e w' ⟨h1, h2⟩ => ⟨⟨_, _, h1⟩, h2⟩
  · exact (cutSuf34q_no hs (box h)).mono fun e w' ⟨h1, h2⟩ => ⟨⟨_, _, h1⟩, h2⟩
theorem cutSuf34q_is {s x : ByteArray} {w : World} (hs : s.size ≤ 65000) (h : Box (s.data.toList.getLast? = some 34)) (hx : Box (s.extract 0 (s.size - 1) = x)) :
    Calls Tryd.prog 79 #[.string s, .string ⟨#[34]⟩] w fun e w' => e = .returned (.tuple #[.string x, .bool true]) ∧ w = w' :=
  (cutSuf34q_yes hs h).mono fun e w' ⟨h1, h2⟩ => ⟨by rw [h1, hx.out], h2⟩
theorem pre21_two {l : List UInt8} : pre21 l [87, 47] = true ↔ l.take 2 = [87, 47] := by unfold pre21; rw [beq_iff_eq]; rfl
theorem pre21_one {l : List UInt8} : pre21 l [34] = true ↔ ∃ r, l = 34 :: r := by
  unfold pre21; rw [beq_iff_eq]
  cases l with
  | nil => simp
  | cons c r => simp
theorem ext_last {s : ByteArray} : (s.extract 0 (s.size - 1)).data.toList = s.data.toList.dropLast := by
  rw [ext_bs, bs_toList, List.drop_zero, List.dropLast_eq_take]; simp
set_option maxHeartbeats 4000000 in
theorem mParE_w (s : ByteArray) (w : World) (hs : s.size ≤ 65000) (h0 : s.data.toList.take 2 = [87, 47]) (x : ByteArray) (hx : s.extract 2 s.size = x) :
    Calls Tryd.prog 63 #[.string s] w fun e w' => e = .returned (tgV (parE s.data.toList)) ∧ Below w.heap.size w w' := by
  have hpar : parE s.data.toList = (tagOf x.data.toList).map fun t => (true, bs t) := parE_w hx h0
  have hs4 : s.size ≤ 4000000 := by omega
  have HW : Box (pre21 s.data.toList (⟨#[87, 47]⟩ : ByteArray).data.toList = true) := box (pre21_two.mpr h0)
  have HX : Box (s.extract (⟨#[87, 47]⟩ : ByteArray).size s.size = x) := box hx
  have hxz : x.size ≤ 65000 := by rw [← hx]; simp; omega
  have hx4 : x.size ≤ 4000000 := by omega
  by_cases h1 : ∃ r, x.data.toList = 34 :: r
  · have HP : Box (pre21 x.data.toList (⟨#[34]⟩ : ByteArray).data.toList = true) := box (pre21_one.mpr h1)
    obtain ⟨z, hz⟩ : ∃ z, x.extract 1 x.size = z := ⟨_, rfl⟩
    have HZ : Box (x.extract (⟨#[34]⟩ : ByteArray).size x.size = z) := box hz
    have hzz : z.size ≤ 65000 := by rw [← hz]; simp; omega
    have hxl : x.data.toList = 34 :: z.data.toList := by
      obtain ⟨r, hr⟩ := h1
      rw [← hz, ext_drop21, hr]; rfl
    have hpar2 : parE s.data.toList = (tagOf (34 :: z.data.toList)).map fun t => (true, bs t) := by rw [hpar, hxl]
    clear h1 hz hxl
    by_cases h2 : z.data.toList.getLast? = some 34
    · have HL := box h2
      obtain ⟨y, hy⟩ : ∃ y, z.extract 0 (z.size - 1) = y := ⟨_, rfl⟩
      have HY := box hy
      have hyz : y.size ≤ 65536 := by rw [← hy]; simp; omega
      have hyl : z.data.toList.dropLast = y.data.toList := by rw [← hy, ext_last]
      rw [tagOf_cons, hyl] at hpar2
      clear hy hyl
      cases hg : tagT y.data.toList with
      | false =>
        have HB := box hg
        have HE : Box (parE s.data.toList = none) := box (by rw [hpar2, if_neg (fun q => by rw [hg] at q; cases q.2.2)]; rfl)
        clear hg h2
        obtain ⟨⟨r0, r1⟩, ⟨f0, f1⟩⟩ := T2.new (.bool false) (.string ⟨#[]⟩) w 73
        clear hpar hx h0 hpar2
        go_enter Tryd.func63, Tryd.ntmps63
        go_wp2_with fail
        refine (cutPre21_yes hs4 (by decide) HW HX).mono ?_; rintro e w1 ⟨rfl, rfl⟩
        go_wp2_with fail
        refine (cutPre21_yes hx4 (by decide) HP HZ).mono ?_; rintro e w1 ⟨rfl, rfl⟩
        go_wp2_with fail
        refine (cutSuf34q_is hzz HL HY).mono ?_; rintro e w1 ⟨rfl, rfl⟩
        go_wp2_with fail
        refine (isTag_is hyz HB).mono ?_; rintro e w1 ⟨rfl, rfl⟩
        go_wp2
        (try simp only [Exit.inBlock, Exit.then])
        refine bodyPost_ret (v := tgV none) (by rw [results_cell_tmp rfl]; go_simp; rfl) rfl ?_
        exact ⟨by rw [HE.out], by first | exact below_new _ _ | exact set2_below (below_new _ _) (Nat.le_refl _) _ _⟩
      | true =>
        have HB := box hg
        have HE : Box (parE s.data.toList = some (true, y)) := box (by rw [hpar2, if_pos ⟨rfl, h2, hg⟩]; rfl)
        clear hg h2
        obtain ⟨⟨r0, r1⟩, ⟨f0, f1⟩⟩ := T2.new (.bool false) (.string ⟨#[]⟩) w 73
        clear hpar hx h0 hpar2
        go_enter Tryd.func63, Tryd.ntmps63
        go_wp2_with fail
        refine (cutPre21_yes hs4 (by decide) HW HX).mono ?_; rintro e w1 ⟨rfl, rfl⟩
        go_wp2_with fail
        refine (cutPre21_yes hx4 (by decide) HP HZ).mono ?_; rintro e w1 ⟨rfl, rfl⟩
        go_wp2_with fail
        refine (cutSuf34q_is hzz HL HY).mono ?_; rintro e w1 ⟨rfl, rfl⟩
        go_wp2_with fail
        refine (isTag_is hyz HB).mono ?_; rintro e w1 ⟨rfl, rfl⟩
        go_wp2
        (try simp only [Exit.inBlock, Exit.then])
        refine bodyPost_ret (v := tgV (some (true, y))) (by rw [results_cell_tmp rfl]; go_simp; rfl) rfl ?_
        exact ⟨by rw [HE.out], by first | exact below_new _ _ | exact set2_below (below_new _ _) (Nat.le_refl _) _ _⟩
    · have HL := box h2
      have HE : Box (parE s.data.toList = none) := box (by rw [hpar2, tagOf_no2 h2]; rfl)
      clear h2
      obtain ⟨⟨r0, r1⟩, ⟨f0, f1⟩⟩ := T2.new (.bool false) (.string ⟨#[]⟩) w 73
      clear hpar hx h0 hpar2
      go_enter Tryd.func63, Tryd.ntmps63
      go_wp2_with fail
      refine (cutPre21_yes hs4 (by decide) HW HX).mono ?_; rintro e w1 ⟨rfl, rfl⟩
      go_wp2_with fail
      refine (cutPre21_yes hx4 (by decide) HP HZ).mono ?_; rintro e w1 ⟨rfl, rfl⟩
      go_wp2_with fail
      refine (cutSuf34q_no hzz HL).mono ?_; rintro e w1 ⟨rfl, rfl⟩
      go_wp2
      (try simp only [Exit.inBlock, Exit.then])
      refine bodyPost_ret (v := tgV none) (by rw [results_cell_tmp rfl]; go_simp; rfl) rfl ?_
      exact ⟨by rw [HE.out], by first | exact below_new _ _ | exact set2_below (below_new _ _) (Nat.le_refl _) _ _⟩
  · have HP : Box (pre21 x.data.toList (⟨#[34]⟩ : ByteArray).data.toList = false) := box (by rw [← Bool.not_eq_true]; exact fun e => h1 (pre21_one.mp e))
    have HE : Box (parE s.data.toList = none) := box (by
      rw [hpar, tagOf_no1 (fun e => h1 (by
        rcases hl : x.data.toList with _ | ⟨c, r⟩
        · rw [hl] at e; cases e
        · rw [hl] at e; exact ⟨r, by rw [Option.some.inj e]⟩))]; rfl)
    clear h1
    obtain ⟨⟨r0, r1⟩, ⟨f0, f1⟩⟩ := T2.new (.bool false) (.string ⟨#[]⟩) w 73
    clear hpar hx h0
    go_enter Tryd.func63, Tryd.ntmps63
    go_wp2_with fail
    refine (cutPre21_yes hs4 (by decide) HW HX).mono ?_; rintro e w1 ⟨rfl, rfl⟩
    go_wp2_with fail
    refine (cutPre21_no hx4 (by decide) HP).mono ?_; rintro e w1 ⟨rfl, rfl⟩
    go_wp2_with fail
    refine (cutSuf34q_any hxz).mono ?_; rintro e w1 ⟨⟨y3, q3, rfl⟩, rfl⟩
    go_wp2
    (try simp only [Exit.inBlock, Exit.then])
    refine bodyPost_ret (v := tgV none) (by rw [results_cell_tmp rfl]; go_simp; rfl) rfl ?_
    exact ⟨by rw [HE.out], by first | exact below_new _ _ | exact set2_below (below_new _ _) (Nat.le_refl _) _ _⟩
set_option maxHeartbeats 4000000 in
theorem mParE_s (s : ByteArray) (w : World) (hs : s.size ≤ 65000) (h0 : s.data.toList.take 2 ≠ [87, 47]) :
    Calls Tryd.prog 63 #[.string s] w fun e w' => e = .returned (tgV (parE s.data.toList)) ∧ Below w.heap.size w w' := by
  have hpar : parE s.data.toList = (tagOf s.data.toList).map fun t => (false, bs t) := by unfold parE; rw [if_neg h0]
  have hs4 : s.size ≤ 4000000 := by omega
  have HW : Box (pre21 s.data.toList (⟨#[87, 47]⟩ : ByteArray).data.toList = false) := box (by rw [← Bool.not_eq_true]; exact fun e => h0 (pre21_two.mp e))
  have hxz : s.size ≤ 65000 := hs
  have hx4 : s.size ≤ 4000000 := hs4
  by_cases h1 : ∃ r, s.data.toList = 34 :: r
  · have HP : Box (pre21 s.data.toList (⟨#[34]⟩ : ByteArray).data.toList = true) := box (pre21_one.mpr h1)
    obtain ⟨z, hz⟩ : ∃ z, s.extract 1 s.size = z := ⟨_, rfl⟩
    have HZ : Box (s.extract (⟨#[34]⟩ : ByteArray).size s.size = z) := box hz
    have hzz : z.size ≤ 65000 := by rw [← hz]; simp; omega
    have hxl : s.data.toList = 34 :: z.data.toList := by
      obtain ⟨r, hr⟩ := h1
      rw [← hz, ext_drop21, hr]; rfl
    have hpar2 : parE s.data.toList = (tagOf (34 :: z.data.toList)).map fun t => (false, bs t) := by rw [hpar, hxl]
    clear h1 hz hxl
    by_cases h2 : z.data.toList.getLast? = some 34
    · have HL := box h2
      obtain ⟨y, hy⟩ : ∃ y, z.extract 0 (z.size - 1) = y := ⟨_, rfl⟩
      have HY := box hy
      have hyz : y.size ≤ 65536 := by rw [← hy]; simp; omega
      have hyl : z.data.toList.dropLast = y.data.toList := by rw [← hy, ext_last]
      rw [tagOf_cons, hyl] at hpar2
      clear hy hyl
      cases hg : tagT y.data.toList with
      | false =>
        have HB := box hg
        have HE : Box (parE s.data.toList = none) := box (by rw [hpar2, if_neg (fun q => by rw [hg] at q; cases q.2.2)]; rfl)
        clear hg h2
        obtain ⟨⟨r0, r1⟩, ⟨f0, f1⟩⟩ := T2.new (.bool false) (.string ⟨#[]⟩) w 73
        clear hpar h0 hpar2
        go_enter Tryd.func63, Tryd.ntmps63
        go_wp2_with fail
        refine (cutPre21_no hs4 (by decide) HW).mono ?_; rintro e w1 ⟨rfl, rfl⟩
        go_wp2_with fail
        refine (cutPre21_yes hx4 (by decide) HP HZ).mono ?_; rintro e w1 ⟨rfl, rfl⟩
        go_wp2_with fail
        refine (cutSuf34q_is hzz HL HY).mono ?_; rintro e w1 ⟨rfl, rfl⟩
        go_wp2_with fail
        refine (isTag_is hyz HB).mono ?_; rintro e w1 ⟨rfl, rfl⟩
        go_wp2
        (try simp only [Exit.inBlock, Exit.then])
        refine bodyPost_ret (v := tgV none) (by rw [results_cell_tmp rfl]; go_simp; rfl) rfl ?_
        exact ⟨by rw [HE.out], by first | exact below_new _ _ | exact set2_below (below_new _ _) (Nat.le_refl _) _ _⟩
      | true =>
        have HB := box hg
        have HE : Box (parE s.data.toList = some (false, y)) := box (by rw [hpar2, if_pos ⟨rfl, h2, hg⟩]; rfl)
        clear hg h2
        obtain ⟨⟨r0, r1⟩, ⟨f0, f1⟩⟩ := T2.new (.bool false) (.string ⟨#[]⟩) w 73
        clear hpar h0 hpar2
        go_enter Tryd.func63, Tryd.ntmps63
        go_wp2_with fail
        refine (cutPre21_no hs4 (by decide) HW).mono ?_; rintro e w1 ⟨rfl, rfl⟩
        go_wp2_with fail
        refine (cutPre21_yes hx4 (by decide) HP HZ).mono ?_; rintro e w1 ⟨rfl, rfl⟩
        go_wp2_with fail
        refine (cutSuf34q_is hzz HL HY).mono ?_; rintro e w1 ⟨rfl, rfl⟩
        go_wp2_with fail
        refine (isTag_is hyz HB).mono ?_; rintro e w1 ⟨rfl, rfl⟩
        go_wp2
        (try simp only [Exit.inBlock, Exit.then])
        refine bodyPost_ret (v := tgV (some (false, y))) (by rw [results_cell_tmp rfl]; go_simp; rfl) rfl ?_
        exact ⟨by rw [HE.out], by first | exact below_new _ _ | exact set2_below (below_new _ _) (Nat.le_refl _) _ _⟩
    · have HL := box h2
      have HE : Box (parE s.data.toList = none) := box (by rw [hpar2, tagOf_no2 h2]; rfl)
      clear h2
      obtain ⟨⟨r0, r1⟩, ⟨f0, f1⟩⟩ := T2.new (.bool false) (.string ⟨#[]⟩) w 73
      clear hpar h0 hpar2
      go_enter Tryd.func63, Tryd.ntmps63
      go_wp2_with fail
      refine (cutPre21_no hs4 (by decide) HW).mono ?_; rintro e w1 ⟨rfl, rfl⟩
      go_wp2_with fail
      refine (cutPre21_yes hx4 (by decide) HP HZ).mono ?_; rintro e w1 ⟨rfl, rfl⟩
      go_wp2_with fail
      refine (cutSuf34q_no hzz HL).mono ?_; rintro e w1 ⟨rfl, rfl⟩
      go_wp2
      (try simp only [Exit.inBlock, Exit.then])
      refine bodyPost_ret (v := tgV none) (by rw [results_cell_tmp rfl]; go_simp; rfl) rfl ?_
      exact ⟨by rw [HE.out], by first | exact below_new _ _ | exact set2_below (below_new _ _) (Nat.le_refl _) _ _⟩
  · have HP : Box (pre21 s.data.toList (⟨#[34]⟩ : ByteArray).data.toList = false) := box (by rw [← Bool.not_eq_true]; exact fun e => h1 (pre21_one.mp e))
    have HE : Box (parE s.data.toList = none) := box (by
      rw [hpar, tagOf_no1 (fun e => h1 (by
        rcases hl : s.data.toList with _ | ⟨c, r⟩
        · rw [hl] at e; cases e
        · rw [hl] at e; exact ⟨r, by rw [Option.some.inj e]⟩))]; rfl)
    clear h1
    obtain ⟨⟨r0, r1⟩, ⟨f0, f1⟩⟩ := T2.new (.bool false) (.string ⟨#[]⟩) w 73
    clear hpar h0
    go_enter Tryd.func63, Tryd.ntmps63
    go_wp2_with fail
    refine (cutPre21_no hs4 (by decide) HW).mono ?_; rintro e w1 ⟨rfl, rfl⟩
    go_wp2_with fail
    refine (cutPre21_no hx4 (by decide) HP).mono ?_; rintro e w1 ⟨rfl, rfl⟩
    go_wp2_with fail
    refine (cutSuf34q_any hxz).mono ?_; rintro e w1 ⟨⟨y3, q3, rfl⟩, rfl⟩
    go_wp2
    (try simp only [Exit.inBlock, Exit.then])
    refine bodyPost_ret (v := tgV none) (by rw [results_cell_tmp rfl]; go_simp; rfl) rfl ?_
    exact ⟨by rw [HE.out], by first | exact below_new _ _ | exact set2_below (below_new _ _) (Nat.le_refl _) _ _⟩
theorem mParE_any (s : ByteArray) (w : World) (hs : s.size ≤ 65000) :
    Calls Tryd.prog 63 #[.string s] w fun e w' => e = .returned (tgV (parE s.data.toList)) ∧ Below w.heap.size w w' := by
  by_cases h : s.data.toList.take 2 = [87, 47]
  · exact mParE_w s w hs h _ rfl
  · exact mParE_s s w hs h
theorem mParE_is {s t : ByteArray} {b q : Bool} {w : World} (hs : s.size ≤ 65000) (h : Box (tgV (parE s.data.toList) = .tuple #[.agg #[.bool b, .string t], .bool q])) :
    Calls Tryd.prog 63 #[.string s] w fun e w' => e = .returned (.tuple #[.agg #[.bool b, .string t], .bool q]) ∧ Below w.heap.size w w' :=
  (mParE_any s w hs).mono fun e w' ⟨h1, h2⟩ => ⟨by rw [h1, h.out], h2⟩
end
section
open Go.RowKit
theorem mFirst21_is {a : Option Addr} {cap : Nat} {L : List F} {x : ByteArray} {q : Bool} {w : World} (hl : L.length ≤ 65536) (S : Box (Sm L)) (hF : Box (Fs w a L)) (h : Box (firstV etN L = .tuple #[.string x, .bool q])) :
    Calls Tryd.prog 43 #[.slice a L.length cap, .string etN] w fun e w' => e = .returned (.tuple #[.string x, .bool q]) ∧ Below w.heap.size w w' :=
  (First_any a cap L etN w hl S (box (by decide)) hF).mono fun e w' ⟨h1, h2⟩ => ⟨by rw [h1, h.out], h2⟩
theorem mOfE_in (a : Option Addr) (cap : Nat) (L : List F) (w : World) (v : ByteArray) (f : Bool) (S : Box (Sm L)) (hvz : v.size ≤ 65000) (hF : Box (Fs w a L)) (HF : Box (firstV etN L = .tuple #[.string v, .bool f])) :
    Calls Tryd.prog 42 #[.slice a L.length cap] w fun e w' => e = .returned (tgV (parE v.data.toList)) ∧ Below w.heap.size w w' := by
  have hl := S.out.1
  have B0 := box (below_new w (.cells #[.bool false, .string ⟨#[]⟩] 73))
  have hF1 := box (hF.out.below B0.out)
  obtain ⟨b, t, q, hq⟩ := tgV_cases (parE v.data.toList)
  have HQ := box hq
  clear hq
  go_enter Tryd.func42, Tryd.ntmps42
  go_wp2_with fail
  refine (mFirst21_is hl S hF1 HF).mono ?_; rintro e w1 ⟨rfl, hb1⟩
  have B1 := box (B0.out.trans (hb1.mono B0.out.size))
  have C1 := box ((T2.new (.bool false) (.string ⟨#[]⟩) w 73).next hb1)
  clear hb1
  go_wp2_with fail
  refine (mParE_is hvz HQ).mono ?_; rintro e w2 ⟨rfl, hb2⟩
  have B2 := box (B1.out.trans (hb2.mono B1.out.size))
  obtain ⟨⟨r0, r1⟩, ⟨f0, f1⟩⟩ := C1.out.next hb2
  clear hb2
  go_wp2
  (try simp only [Exit.inBlock, Exit.then])
  refine bodyPost_ret (v := .tuple #[.agg #[.bool b, .string t], .bool q]) (by rw [results_cell_tmp rfl]; go_simp) rfl ?_
  exact ⟨by rw [HQ.out], by first | exact set2_below B2.out (Nat.le_refl _) _ _ | exact B2.out⟩
theorem mOfE_any (a : Option Addr) (cap : Nat) (L : List F) (w : World) (S : Box (Sm L)) (hv : Box (∀ x ∈ getL etN L, x.size ≤ 65000)) (hF : Box (Fs w a L)) :
    Calls Tryd.prog 42 #[.slice a L.length cap] w fun e w' => e = .returned (tgV (ofM21 L)) ∧ Below w.heap.size w w' := by
  cases hg : getL etN L with
  | nil =>
    refine (mOfE_in a cap L w ⟨#[]⟩ false S (by decide) hF (box (by unfold firstV; rw [hg]))).mono fun e w' ⟨h1, h2⟩ => ⟨?_, h2⟩
    rw [h1, show ofM21 L = none from by unfold ofM21; rw [hg]]; rfl
  | cons v r =>
    refine (mOfE_in a cap L w v true S (hv.out v (by rw [hg]; simp)) hF (box (by unfold firstV; rw [hg]))).mono fun e w' ⟨h1, h2⟩ => ⟨?_, h2⟩
    rw [h1, show ofM21 L = parE v.data.toList from by unfold ofM21; rw [hg]]
end
section
open Go.RowKit
def ctA (c : CT) : Array Value := #[.bool c.ns, .bool c.nc, .bool c.mr, .bool c.pr, .bool c.pv, .bool c.pb, .bool c.oc, .int .i64 c.ma, .int .i64 c.sm, .int .i64 c.mf, .int .i64 c.ms]
def ctV (c : CT) : Value := .agg (ctA c)
/-- a control lies at the block's start, and may be written -/
def Ct (g : Nat) (c : CT) (w : World) : Prop :=
  (w.cell? ⟨g, 0, none⟩ = some (.bool c.ns) ∧ w.cell? ⟨g, 1, none⟩ = some (.bool c.nc) ∧ w.cell? ⟨g, 2, none⟩ = some (.bool c.mr) ∧ w.cell? ⟨g, 3, none⟩ = some (.bool c.pr) ∧ w.cell? ⟨g, 4, none⟩ = some (.bool c.pv) ∧ w.cell? ⟨g, 5, none⟩ = some (.bool c.pb) ∧ w.cell? ⟨g, 6, none⟩ = some (.bool c.oc) ∧ w.cell? ⟨g, 7, none⟩ = some (.int .i64 c.ma) ∧ w.cell? ⟨g, 8, none⟩ = some (.int .i64 c.sm) ∧ w.cell? ⟨g, 9, none⟩ = some (.int .i64 c.mf) ∧ w.cell? ⟨g, 10, none⟩ = some (.int .i64 c.ms)) ∧
  (w.frozen? ⟨g, 0, none⟩ = false ∧ w.frozen? ⟨g, 1, none⟩ = false ∧ w.frozen? ⟨g, 2, none⟩ = false ∧ w.frozen? ⟨g, 3, none⟩ = false ∧ w.frozen? ⟨g, 4, none⟩ = false ∧ w.frozen? ⟨g, 5, none⟩ = false ∧ w.frozen? ⟨g, 6, none⟩ = false ∧ w.frozen? ⟨g, 7, none⟩ = false ∧ w.frozen? ⟨g, 8, none⟩ = false ∧ w.frozen? ⟨g, 9, none⟩ = false ∧ w.frozen? ⟨g, 10, none⟩ = false)
section
variable {g B : Nat} {c : CT} {w w' : World}
theorem Ct.new (c : CT) (w : World) (t : TypeId) : Ct w.heap.size c (w.alloc (.cells (ctA c) t)) := by
  unfold ctA
  refine ⟨⟨?_, ?_, ?_, ?_, ?_, ?_, ?_, ?_, ?_, ?_, ?_⟩, ⟨?_, ?_, ?_, ?_, ?_, ?_, ?_, ?_, ?_, ?_, ?_⟩⟩
  all_goals first
    | (rw [World.cell?_alloc_mark]; rfl)
    | exact World.frozen?_alloc_at _ _ _ _ rfl
theorem Ct.below (f : Ct g c w) (hb : Below B w w') (hg : g < B) : Ct g c w' := by
  obtain ⟨⟨h0, h1, h2, h3, h4, h5, h6, h7, h8, h9, h10⟩, ⟨f0, f1, f2, f3, f4, f5, f6, f7, f8, f9, f10⟩⟩ := f
  exact ⟨⟨(hb.cell hg).trans h0, (hb.cell hg).trans h1, (hb.cell hg).trans h2, (hb.cell hg).trans h3, (hb.cell hg).trans h4, (hb.cell hg).trans h5, (hb.cell hg).trans h6, (hb.cell hg).trans h7, (hb.cell hg).trans h8, (hb.cell hg).trans h9, (hb.cell hg).trans h10⟩, ⟨(hb.frozen hg).trans f0, (hb.frozen hg).trans f1, (hb.frozen hg).trans f2, (hb.frozen hg).trans f3, (hb.frozen hg).trans f4, (hb.frozen hg).trans f5, (hb.frozen hg).trans f6, (hb.frozen hg).trans f7, (hb.frozen hg).trans f8, (hb.frozen hg).trans f9, (hb.frozen hg).trans f10⟩⟩
theorem Ct.lt (f : Ct g c w) : g < w.heap.size := cell_lt (p := ⟨g, 0, none⟩) f.1.1
theorem Ct.next (f : Ct g c w) (hb : Below w.heap.size w w') : Ct g c w' := f.below hb f.lt
theorem Ct.drewN (f : Ct g c w) (n : Nat) : Ct g c (w.drewN n) := f.next (below_drewN _ _)
theorem Ct.only {k : Nat} (f : Ct g c w) (hb : Only k w w') (hk : g ≠ k) : Ct g c w' := by
  have e : w'.heap[g]? = w.heap[g]? := hb.block g f.lt hk
  obtain ⟨⟨h0, h1, h2, h3, h4, h5, h6, h7, h8, h9, h10⟩, ⟨f0, f1, f2, f3, f4, f5, f6, f7, f8, f9, f10⟩⟩ := f
  have e1 : ∀ i, w'.cell? ⟨g, i, none⟩ = w.cell? ⟨g, i, none⟩ := fun i => by simp only [World.cell?, e]
  have e2 : ∀ i, w'.frozen? ⟨g, i, none⟩ = w.frozen? ⟨g, i, none⟩ := fun i => by simp only [World.frozen?, e]
  exact ⟨⟨(e1 _).trans h0, (e1 _).trans h1, (e1 _).trans h2, (e1 _).trans h3, (e1 _).trans h4, (e1 _).trans h5, (e1 _).trans h6, (e1 _).trans h7, (e1 _).trans h8, (e1 _).trans h9, (e1 _).trans h10⟩, ⟨(e2 _).trans f0, (e2 _).trans f1, (e2 _).trans f2, (e2 _).trans f3, (e2 _).trans f4, (e2 _).trans f5, (e2 _).trans f6, (e2 _).trans f7, (e2 _).trans f8, (e2 _).trans f9, (e2 _).trans f10⟩⟩
theorem Ct.set_ns (f : Ct g c w) (v : Bool) : Ct g { c with ns := v } (w.setCell ⟨g, 0, none⟩ (.bool v)) := by
  obtain ⟨⟨h0, h1, h2, h3, h4, h5, h6, h7, h8, h9, h10⟩, f0⟩ := f
  refine ⟨⟨?_, ?_, ?_, ?_, ?_, ?_, ?_, ?_, ?_, ?_, ?_⟩, by simpa only [World.frozen?_setCell] using f0⟩
  all_goals first
    | (rw [World.cell?_setCell_same (h := h0)])
    | exact (World.cell?_setCell_other _ _ _ _ (by simp)).trans (by assumption)
theorem Ct.set_nc (f : Ct g c w) (v : Bool) : Ct g { c with nc := v } (w.setCell ⟨g, 1, none⟩ (.bool v)) := by
  obtain ⟨⟨h0, h1, h2, h3, h4, h5, h6, h7, h8, h9, h10⟩, f0⟩ := f
  refine ⟨⟨?_, ?_, ?_, ?_, ?_, ?_, ?_, ?_, ?_, ?_, ?_⟩, by simpa only [World.frozen?_setCell] using f0⟩
  all_goals first
    | (rw [World.cell?_setCell_same (h := h1)])
    | exact (World.cell?_setCell_other _ _ _ _ (by simp)).trans (by assumption)
theorem Ct.set_mr (f : Ct g c w) (v : Bool) : Ct g { c with mr := v } (w.setCell ⟨g, 2, none⟩ (.bool v)) := by
  obtain ⟨⟨h0, h1, h2, h3, h4, h5, h6, h7, h8, h9, h10⟩, f0⟩ := f
  refine ⟨⟨?_, ?_, ?_, ?_, ?_, ?_, ?_, ?_, ?_, ?_, ?_⟩, by simpa only [World.frozen?_setCell] using f0⟩
  all_goals first
    | (rw [World.cell?_setCell_same (h := h2)])
    | exact (World.cell?_setCell_other _ _ _ _ (by simp)).trans (by assumption)
theorem Ct.set_pr (f : Ct g c w) (v : Bool) : Ct g { c with pr := v } (w.setCell ⟨g, 3, none⟩ (.bool v)) := by
  obtain ⟨⟨h0, h1, h2, h3, h4, h5, h6, h7, h8, h9, h10⟩, f0⟩ := f
  refine ⟨⟨?_, ?_, ?_, ?_, ?_, ?_, ?_, ?_, ?_, ?_, ?_⟩, by simpa only [World.frozen?_setCell] using f0⟩
  all_goals first
    | (rw [World.cell?_setCell_same (h := h3)])
    | exact (World.cell?_setCell_other _ _ _ _ (by simp)).trans (by assumption)
theorem Ct.set_pv (f : Ct g c w) (v : Bool) : Ct g { c with pv := v } (w.setCell ⟨g, 4, none⟩ (.bool v)) := by
  obtain ⟨⟨h0, h1, h2, h3, h4, h5, h6, h7, h8, h9, h10⟩, f0⟩ := f
  refine ⟨⟨?_, ?_, ?_, ?_, ?_, ?_, ?_, ?_, ?_, ?_, ?_⟩, by simpa only [World.frozen?_setCell] using f0⟩
  all_goals first
    | (rw [World.cell?_setCell_same (h := h4)])
    | exact (World.cell?_setCell_other _ _ _ _ (by simp)).trans (by assumption)
theorem Ct.set_pb (f : Ct g c w) (v : Bool) : Ct g { c with pb := v } (w.setCell ⟨g, 5, none⟩ (.bool v)) := by
  obtain ⟨⟨h0, h1, h2, h3, h4, h5, h6, h7, h8, h9, h10⟩, f0⟩ := f
  refine ⟨⟨?_, ?_, ?_, ?_, ?_, ?_, ?_, ?_, ?_, ?_, ?_⟩, by simpa only [World.frozen?_setCell] using f0⟩
  all_goals first
    | (rw [World.cell?_setCell_same (h := h5)])
    | exact (World.cell?_setCell_other _ _ _ _ (by simp)).trans (by assumption)
theorem Ct.set_oc (f : Ct g c w) (v : Bool) : Ct g { c with oc := v } (w.setCell ⟨g, 6, none⟩ (.bool v)) := by
  obtain ⟨⟨h0, h1, h2, h3, h4, h5, h6, h7, h8, h9, h10⟩, f0⟩ := f
  refine ⟨⟨?_, ?_, ?_, ?_, ?_, ?_, ?_, ?_, ?_, ?_, ?_⟩, by simpa only [World.frozen?_setCell] using f0⟩
  all_goals first
    | (rw [World.cell?_setCell_same (h := h6)])
    | exact (World.cell?_setCell_other _ _ _ _ (by simp)).trans (by assumption)
theorem Ct.set_ma (f : Ct g c w) (v : Int) : Ct g { c with ma := v } (w.setCell ⟨g, 7, none⟩ (.int .i64 v)) := by
  obtain ⟨⟨h0, h1, h2, h3, h4, h5, h6, h7, h8, h9, h10⟩, f0⟩ := f
  refine ⟨⟨?_, ?_, ?_, ?_, ?_, ?_, ?_, ?_, ?_, ?_, ?_⟩, by simpa only [World.frozen?_setCell] using f0⟩
  all_goals first
    | (rw [World.cell?_setCell_same (h := h7)])
    | exact (World.cell?_setCell_other _ _ _ _ (by simp)).trans (by assumption)
theorem Ct.set_sm (f : Ct g c w) (v : Int) : Ct g { c with sm := v } (w.setCell ⟨g, 8, none⟩ (.int .i64 v)) := by
  obtain ⟨⟨h0, h1, h2, h3, h4, h5, h6, h7, h8, h9, h10⟩, f0⟩ := f
  refine ⟨⟨?_, ?_, ?_, ?_, ?_, ?_, ?_, ?_, ?_, ?_, ?_⟩, by simpa only [World.frozen?_setCell] using f0⟩
  all_goals first
    | (rw [World.cell?_setCell_same (h := h8)])
    | exact (World.cell?_setCell_other _ _ _ _ (by simp)).trans (by assumption)
theorem Ct.set_mf (f : Ct g c w) (v : Int) : Ct g { c with mf := v } (w.setCell ⟨g, 9, none⟩ (.int .i64 v)) := by
  obtain ⟨⟨h0, h1, h2, h3, h4, h5, h6, h7, h8, h9, h10⟩, f0⟩ := f
  refine ⟨⟨?_, ?_, ?_, ?_, ?_, ?_, ?_, ?_, ?_, ?_, ?_⟩, by simpa only [World.frozen?_setCell] using f0⟩
  all_goals first
    | (rw [World.cell?_setCell_same (h := h9)])
    | exact (World.cell?_setCell_other _ _ _ _ (by simp)).trans (by assumption)
theorem Ct.set_ms (f : Ct g c w) (v : Int) : Ct g { c with ms := v } (w.setCell ⟨g, 10, none⟩ (.int .i64 v)) := by
  obtain ⟨⟨h0, h1, h2, h3, h4, h5, h6, h7, h8, h9, h10⟩, f0⟩ := f
  refine ⟨⟨?_, ?_, ?_, ?_, ?_, ?_, ?_, ?_, ?_, ?_, ?_⟩, by simpa only [World.frozen?_setCell] using f0⟩
  all_goals first
    | (rw [World.cell?_setCell_same (h := h10)])
    | exact (World.cell?_setCell_other _ _ _ _ (by simp)).trans (by assumption)
end
/-- all of it stored -/
def ctPut (g : Nat) (c : CT) (w : World) : World := ((((((((((w.setCell ⟨g, 0, none⟩ (.bool c.ns)).setCell ⟨g, 1, none⟩ (.bool c.nc)).setCell ⟨g, 2, none⟩ (.bool c.mr)).setCell ⟨g, 3, none⟩ (.bool c.pr)).setCell ⟨g, 4, none⟩ (.bool c.pv)).setCell ⟨g, 5, none⟩ (.bool c.pb)).setCell ⟨g, 6, none⟩ (.bool c.oc)).setCell ⟨g, 7, none⟩ (.int .i64 c.ma)).setCell ⟨g, 8, none⟩ (.int .i64 c.sm)).setCell ⟨g, 9, none⟩ (.int .i64 c.mf)).setCell ⟨g, 10, none⟩ (.int .i64 c.ms)
theorem ct_put_below {w w1 : World} {g B : Nat} (h : Below B w w1) (hg : B ≤ g) (c : CT) : Below B w (ctPut g c w1) :=
  ((((((((((h.setCell (p := ⟨g, 0, none⟩) hg (.bool c.ns)).setCell (p := ⟨g, 1, none⟩) hg (.bool c.nc)).setCell (p := ⟨g, 2, none⟩) hg (.bool c.mr)).setCell (p := ⟨g, 3, none⟩) hg (.bool c.pr)).setCell (p := ⟨g, 4, none⟩) hg (.bool c.pv)).setCell (p := ⟨g, 5, none⟩) hg (.bool c.pb)).setCell (p := ⟨g, 6, none⟩) hg (.bool c.oc)).setCell (p := ⟨g, 7, none⟩) hg (.int .i64 c.ma)).setCell (p := ⟨g, 8, none⟩) hg (.int .i64 c.sm)).setCell (p := ⟨g, 9, none⟩) hg (.int .i64 c.mf)).setCell (p := ⟨g, 10, none⟩) hg (.int .i64 c.ms)
theorem Ct.put {g : Nat} {c0 : CT} {w : World} (f : Ct g c0 w) (c : CT) : Ct g c (ctPut g c w) := by
  have h := ((((((((((f.set_ns c.ns).set_nc c.nc).set_mr c.mr).set_pr c.pr).set_pv c.pv).set_pb c.pb).set_oc c.oc).set_ma c.ma).set_sm c.sm).set_mf c.mf).set_ms c.ms
  exact h
def ct0 : CT := ⟨false, false, false, false, false, false, false, 0, 0, 0, 0⟩
theorem results_cell22 {fn : Func} {p : Tmp} {ty : TypeId} (h : fn.results = #[.cell p ty]) (tmps : Array Value) (P : Program) (w : World) :
    (results fn tmps).run P w = ((asAddr (tmps.getD p undef)).run P w).andThen fun a w₁ => (loadVar ty a).run P w₁ := by
  simp only [results, h]
  simp [Sem.run_bind, Result.andThen]
end
section
open Go.RowKit
theorem bs_all22 (s : ByteArray) : bs s.data.toList = s := by unfold bs; simp
theorem token22_is {s : ByteArray} {b : Bool} {w : World} (hs : s.size ≤ 65536) (h : Box (tokL s.data.toList = b)) :
    Calls Tryd.prog 20 #[.string s] w fun e w' => e = .returned (.bool b) ∧ w = w' :=
  (Token_any s w (by unfold maxLen; omega)).mono fun e w' ⟨h1, h2⟩ => ⟨by rw [h1, h.out], h2⟩
theorem unq22_is {s : ByteArray} {o : Option (List UInt8)} {w : World} (hs : s.size ≤ 65536) (h : Box (unqL s.data.toList = o)) :
    Calls Tryd.prog 72 #[.string s] w fun e w' => e = .returned (optV o) ∧ Below w.heap.size w w' :=
  (Unquote_any s w (by omega)).mono fun e w' ⟨h1, h2⟩ => ⟨by rw [h1, h.out], h2⟩
theorem low22_is {s x : ByteArray} {w : World} (hs : s.size ≤ 65536) (h : Box (bs (lowL s.data.toList) = x)) :
    Calls Tryd.prog 21 #[.string s] w fun e w' => e = .returned (.string x) ∧ Below w.heap.size w w' :=
  (Lower_any s w (by omega)).mono fun e w' ⟨h1, h2⟩ => ⟨by rw [h1, ← h.out]; rfl, h2⟩
theorem num22_is {s : ByteArray} {o : Option Int} {w : World} (hs : s.size ≤ 65536) (h : Box (numL s.data.toList = o)) :
    Calls Tryd.prog 48 #[.string s] w fun e w' => e = .returned (numT o) ∧ w = w' :=
  (Number_any s w (by unfold maxLen; omega)).mono fun e w' ⟨h1, h2⟩ => ⟨by rw [h1, h.out], h2⟩
theorem setFirst_yes (g i : Nat) (x : Int) (w : World) (c0 : w.cell? ⟨g, i, none⟩ = some (.int .i64 (-1))) (f0 : w.frozen? ⟨g, i, none⟩ = false) :
    Calls Tryd.prog 31 #[.pointer (some ⟨g, i, none⟩), .int .i64 x] w fun e w' => e = .returned (.tuple #[]) ∧ w' = w.setCell ⟨g, i, none⟩ (.int .i64 x) := by
  go_enter Tryd.func31, Tryd.ntmps31
  go_wp2
  go_end0
  exact ⟨rfl, rfl⟩
theorem setFirst_no (g i : Nat) (x v : Int) (w : World) (c0 : w.cell? ⟨g, i, none⟩ = some (.int .i64 v)) (hv : (v == -1) = false) :
    Calls Tryd.prog 31 #[.pointer (some ⟨g, i, none⟩), .int .i64 x] w fun e w' => e = .returned (.tuple #[]) ∧ w' = w := by
  go_enter Tryd.func31, Tryd.ntmps31
  go_wp2
  go_end0
  exact ⟨rfl, rfl⟩
theorem numD_alt {l : List UInt8} (h : l ≠ []) (bare bad : Int) : numD bare bad l = (numL ((argD l).getD [])).getD bad := by
  unfold numD
  rw [if_neg h]
  cases argD l with
  | none => rfl
  | some a => rfl
theorem argD_cons (c : UInt8) (a : List UInt8) : argD (c :: a) = if c = 61 then (if tokL a = true then some a else unqL a) else none := rfl
theorem argD_not {l : List UInt8} (h : pre21 l [61] = false) : argD l = none := by
  unfold pre21 at h
  cases l with
  | nil => rfl
  | cons c a =>
    rw [argD_cons, if_neg]
    intro e; subst e
    simp at h
theorem argD_yes {l : List UInt8} (h : pre21 l [61] = true) : argD l = if tokL (l.drop 1) = true then some (l.drop 1) else unqL (l.drop 1) := by
  unfold pre21 at h
  cases l with
  | nil => simp at h
  | cons c a =>
    have : c = 61 := by simpa using h
    subst this
    rfl
theorem argument_any (s : ByteArray) (w : World) (hs : s.size ≤ 65000) :
    Calls Tryd.prog 49 #[.string s] w fun e w' => e = .returned (.string (bs ((argD s.data.toList).getD []))) ∧ Below w.heap.size w w' := by
  have hs4 : s.size ≤ 4000000 := by omega
  have h1 : (⟨#[61]⟩ : ByteArray).size ≤ 65536 := by decide
  rcases hp : pre21 s.data.toList [61] with _ | _
  · have HP : Box (pre21 s.data.toList (⟨#[61]⟩ : ByteArray).data.toList = false) := box hp
    have HA := box (argD_not hp)
    clear hp
    go_enter Tryd.func49, Tryd.ntmps49
    go_wp2_with fail
    refine (cutPre21_no hs4 h1 HP).mono ?_; rintro e w1 ⟨rfl, rfl⟩
    go_wp2
    go_ret
    exact ⟨by rw [HA.out]; rfl, Below.refl _ _⟩
  · have HP : Box (pre21 s.data.toList (⟨#[61]⟩ : ByteArray).data.toList = true) := box hp
    have hA := argD_yes hp
    obtain ⟨x, hx⟩ : ∃ x, s.extract (⟨#[61]⟩ : ByteArray).size s.size = x := ⟨_, rfl⟩
    have HX := box hx
    have hxl : x.data.toList = s.data.toList.drop 1 := by rw [← hx]; exact ext_drop21 1
    have hxs : x.size ≤ 65536 := by
      have e1 : x.data.toList.length = x.size := by simp
      have e2 : s.data.toList.length = s.size := by simp
      rw [← e1, hxl, List.length_drop]; omega
    rw [← hxl] at hA
    clear hp hx hxl
    rcases ht : tokL x.data.toList with _ | _
    · rw [ht, if_neg (by decide)] at hA
      have HT := box ht
      obtain ⟨o, ho⟩ : ∃ o, unqL x.data.toList = o := ⟨_, rfl⟩
      have HO := box ho
      rw [ho] at hA
      have HA := box hA
      clear ht ho hA
      rcases o with _ | u
      · go_enter Tryd.func49, Tryd.ntmps49
        go_wp2_with fail
        refine (cutPre21_yes hs4 h1 HP HX).mono ?_; rintro e w1 ⟨rfl, rfl⟩
        go_wp2_with fail
        refine (token22_is hxs HT).mono ?_; rintro e w1 ⟨rfl, rfl⟩
        go_wp2_with fail
        refine (unq22_is hxs HO).mono ?_; rintro e w2 ⟨rfl, hb⟩
        have B := box hb
        clear hb
        unfold optV
        go_wp2
        go_ret
        exact ⟨by rw [HA.out]; rfl, B.out⟩
      · go_enter Tryd.func49, Tryd.ntmps49
        go_wp2_with fail
        refine (cutPre21_yes hs4 h1 HP HX).mono ?_; rintro e w1 ⟨rfl, rfl⟩
        go_wp2_with fail
        refine (token22_is hxs HT).mono ?_; rintro e w1 ⟨rfl, rfl⟩
        go_wp2_with fail
        refine (unq22_is hxs HO).mono ?_; rintro e w2 ⟨rfl, hb⟩
        have B := box hb
        clear hb
        unfold optV
        go_wp2
        go_ret
        exact ⟨by rw [HA.out]; rfl, B.out⟩
    · rw [ht, if_pos rfl] at hA
      have HT := box ht
      have HA := box hA
      clear ht hA
      go_enter Tryd.func49, Tryd.ntmps49
      go_wp2_with fail
      refine (cutPre21_yes hs4 h1 HP HX).mono ?_; rintro e w1 ⟨rfl, rfl⟩
      go_wp2_with fail
      refine (token22_is hxs HT).mono ?_; rintro e w1 ⟨rfl, rfl⟩
      go_wp2
      go_ret
      exact ⟨by rw [HA.out]; exact congrArg (fun z => Ending.returned (.string z)) (bs_all22 x).symm, Below.refl _ _⟩
theorem argD_len (l : List UInt8) : ((argD l).getD []).length ≤ l.length := by
  cases l with
  | nil => exact Nat.le_refl _
  | cons c a =>
    rw [argD_cons]
    by_cases h1 : c = 61
    · rw [if_pos h1]
      by_cases h2 : tokL a = true
      · rw [if_pos h2]; simp
      · rw [if_neg h2]
        cases hu : unqL a with
        | none => simp
        | some u => have := unqL_len22 hu; simp; omega
    · rw [if_neg h1]; simp
theorem number_any (s : ByteArray) (bare bad : Int) (w : World) (hs : s.size ≤ 65000) :
    Calls Tryd.prog 32 #[.string s, .int .i64 bare, .int .i64 bad] w fun e w' => e = .returned (.int .i64 (numD bare bad s.data.toList)) ∧ Below w.heap.size w w' := by
  by_cases hn : s.data.toList = []
  · have h0 : (s.toList == []) = true := by rw [toList_data, hn]; rfl
    have HN : Box (numD bare bad s.data.toList = bare) := box (by unfold numD; rw [if_pos hn])
    clear hn
    go_enter Tryd.func32, Tryd.ntmps32
    go_wp2
    go_ret
    exact ⟨by rw [HN.out]; rfl, Below.refl _ _⟩
  · have h0 : (s.toList == []) = false := by rw [toList_data, beq_eq_false_iff_ne]; exact hn
    have hD := numD_alt hn bare bad
    have hl := argD_len s.data.toList
    have hA := argument_any s w hs
    obtain ⟨a, ha⟩ : ∃ a, bs ((argD s.data.toList).getD []) = a := ⟨_, rfl⟩
    have has : a.size ≤ 65536 := by
      have e1 : a.data.toList.length = a.size := by simp
      have e2 : s.data.toList.length = s.size := by simp
      rw [← e1, ← ha, bs_toList]; omega
    have hal : (argD s.data.toList).getD [] = a.data.toList := by rw [← ha, bs_toList]
    rw [hal] at hD
    rw [ha] at hA
    have HA := box hA
    obtain ⟨o, ho⟩ : ∃ o, numL a.data.toList = o := ⟨_, rfl⟩
    have HO := box ho
    rw [ho] at hD
    have HD := box hD
    clear hn hD hl hA ha hal ho hs
    rcases o with _ | v
    · go_enter Tryd.func32, Tryd.ntmps32
      go_wp2_with fail
      refine (HA.out).mono ?_; rintro e w1 ⟨rfl, hb⟩
      have B := box hb
      clear hb
      go_wp2_with fail
      refine (num22_is has HO).mono ?_; rintro e w2 ⟨rfl, rfl⟩
      unfold numT numV
      go_wp2
      go_ret
      exact ⟨by rw [HD.out]; rfl, B.out⟩
    · go_enter Tryd.func32, Tryd.ntmps32
      go_wp2_with fail
      refine (HA.out).mono ?_; rintro e w1 ⟨rfl, hb⟩
      have B := box hb
      clear hb
      go_wp2_with fail
      refine (num22_is has HO).mono ?_; rintro e w2 ⟨rfl, rfl⟩
      unfold numT numV
      go_wp2
      go_ret
      exact ⟨by rw [HD.out]; rfl, B.out⟩
theorem number_is {s : ByteArray} {bare bad n : Int} {w : World} (hs : s.size ≤ 65000) (h : Box (numD bare bad s.data.toList = n)) :
    Calls Tryd.prog 32 #[.string s, .int .i64 bare, .int .i64 bad] w fun e w' => e = .returned (.int .i64 n) ∧ Below w.heap.size w w' :=
  (number_any s bare bad w hs).mono fun e w' ⟨h1, h2⟩ => ⟨by rw [h1, h.out], h2⟩
theorem one_ext {s : ByteArray} {k : Nat} (h : k < s.size) : (s.extract k (k + 1)).data.toList = [s[k]] := by
  rw [ext_bs, bs_toList, take_snoc s k h, List.drop_append_of_le_length (by simp; omega), List.drop_eq_nil_of_le (by simp; omega)]; rfl
theorem tok_one22 (c : UInt8) : tokL [c] = tokI c.toNat := by unfold tokL allI; simp
/-- the first k bytes are of tokens -/
def NamAt (l : List UInt8) (k : Nat) : Prop := allI tokI (l.take k) = true
theorem cutName_any (s : ByteArray) (w : World) (hs : s.size ≤ 65000) :
    Calls Tryd.prog 30 #[.string s] w fun e w' => e = .returned (.tuple #[.string (bs (lowL (namD s.data.toList))), .string (bs (rstD s.data.toList))]) ∧ Below w.heap.size w w' := by
  have hz : s.data.toList.length = s.size := by simp
  go_enter Tryd.func30, Tryd.ntmps30
  go_wp2
  go_loop [4] (fun i => ∃ k : Nat, k ≤ s.size ∧ i = .int .i64 k ∧ Box (NamAt s.data.toList k)) (fun i => s.size - (intOf i).toNat)
  case atStart => exact ⟨0, Nat.zero_le _, rfl, box rfl⟩
  case round =>
    obtain ⟨k, hk, rfl, hall⟩ := hrel
    by_cases hlt : k < s.size
    · have hki : (k : Int) < (s.size : Int) := by omega
      have hxl := one_ext hlt
      have hxs : (s.extract k (k + 1)).size ≤ 65536 := by
        have e1 : (s.extract k (k + 1)).data.toList.length = (s.extract k (k + 1)).size := Array.length_toList
        rw [← e1, hxl]; simp
      rcases hp : tokI (s[k].toNat) with _ | _
      · have HT : Box (tokL (s.extract k (k + 1)).data.toList = false) := box (by rw [hxl, tok_one22]; exact hp)
        have HC := nam_cut (l := s.data.toList) (k := k) (by omega) hall.out (fun h => by rw [Array.getElem_toList]; exact hp)
        obtain ⟨y, hy⟩ : ∃ y, s.extract 0 k = y := ⟨_, rfl⟩
        obtain ⟨z, hzz⟩ : ∃ z, s.extract k s.size = z := ⟨_, rfl⟩
        have hyl : namD s.data.toList = y.data.toList := by rw [← hy, ext_bs, bs_toList, List.drop_zero]; exact HC.1
        have hzl : rstD s.data.toList = z.data.toList := by rw [← hzz, ext_drop21]; exact HC.2
        have hys : y.size ≤ 65536 := by
          have e1 : y.data.toList.length = y.size := by simp
          have := nam_len s.data.toList
          rw [← e1, ← hyl]; omega
        obtain ⟨q, hq⟩ : ∃ q, bs (lowL y.data.toList) = q := ⟨_, rfl⟩
        have HQ := box hq
        have HL : Box (bs (lowL (namD s.data.toList)) = q ∧ bs (rstD s.data.toList) = z) := box ⟨by rw [hyl]; exact hq, by rw [hzl, bs_all22]⟩
        have b0 : (0 : Int) ≤ (k : Int) := by omega
        have b1 : (k : Int) ≤ (s.size : Int) := by omega
        clear hp hxl HC hyl hzl hq hz hall
        go_wp2_with (go_at_call 20; refine (token22_is hxs HT).mono ?_; rintro e w' ⟨rfl, rfl⟩)
        go_region_held3 (fun _ => True) (trivial) (first | (go_at_call 21; refine (low22_is hys HQ).mono ?_; rintro e w1 ⟨rfl, hb1⟩))
        go_wp2
        go_ret2
        exact ⟨by rw [HL.out.1, HL.out.2]; rfl, ((Below.refl w.heap.size w).drew).trans (hb1.mono ((Below.refl w.heap.size w).drew).size)⟩
      · have HT : Box (tokL (s.extract k (k + 1)).data.toList = true) := box (by rw [hxl, tok_one22]; exact hp)
        have HN : Box (NamAt s.data.toList (k + 1)) := box (all_more hall.out hlt hp)
        clear hp hxl hz hall
        go_wp2_with (go_at_call 20; refine (token22_is hxs HT).mono ?_; rintro e w' ⟨rfl, rfl⟩)
        go_round
        case rel => exact ⟨k + 1, by omega, by go_num, HN⟩
        case measure => simp [intOf]; omega
    · have hki : ¬ (k : Int) < (s.size : Int) := by omega
      have HC := nam_cut (l := s.data.toList) (k := k) (by omega) hall.out (fun h => absurd h (by rw [hz]; exact hlt))
      have hxl := hz
      have hp := hz
      obtain ⟨y, hy⟩ : ∃ y, s.extract 0 k = y := ⟨_, rfl⟩
      obtain ⟨z, hzz⟩ : ∃ z, s.extract k s.size = z := ⟨_, rfl⟩
      have hyl : namD s.data.toList = y.data.toList := by rw [← hy, ext_bs, bs_toList, List.drop_zero]; exact HC.1
      have hzl : rstD s.data.toList = z.data.toList := by rw [← hzz, ext_drop21]; exact HC.2
      have hys : y.size ≤ 65536 := by
        have e1 : y.data.toList.length = y.size := by simp
        have := nam_len s.data.toList
        rw [← e1, ← hyl]; omega
      obtain ⟨q, hq⟩ : ∃ q, bs (lowL y.data.toList) = q := ⟨_, rfl⟩
      have HQ := box hq
      have HL : Box (bs (lowL (namD s.data.toList)) = q ∧ bs (rstD s.data.toList) = z) := box ⟨by rw [hyl]; exact hq, by rw [hzl, bs_all22]⟩
      have b0 : (0 : Int) ≤ (k : Int) := by omega
      have b1 : (k : Int) ≤ (s.size : Int) := by omega
      clear hp hxl HC hyl hzl hq hz hall
      go_wp2
      go_region_held3 (fun _ => True) (trivial) (first | (go_at_call 21; refine (low22_is hys HQ).mono ?_; rintro e w1 ⟨rfl, hb1⟩))
      go_wp2
      go_ret2
      exact ⟨by rw [HL.out.1, HL.out.2]; rfl, ((Below.refl w.heap.size w).drew).trans (hb1.mono ((Below.refl w.heap.size w).drew).size)⟩
theorem cutName_is {s x r : ByteArray} {w : World} (hs : s.size ≤ 65000) (hx : Box (bs (lowL (namD s.data.toList)) = x)) (hr : Box (bs (rstD s.data.toList) = r)) :
    Calls Tryd.prog 30 #[.string s] w fun e w' => e = .returned (.tuple #[.string x, .string r]) ∧ Below w.heap.size w w' :=
  (cutName_any s w hs).mono fun e w' ⟨h1, h2⟩ => ⟨by rw [h1, hx.out, hr.out], h2⟩
end
end Go.Proofs.YtiogngfemelifaaDoor.Asc
