/- Merged texts: VarRef5 VarEqu VarSet AccRef3 LanSpec3 VarSpec6 AccKN. -/
import Derived.Test.YtodbmdekgfcjpaaM01
import Derived.Test.YtodbmdekgfcjpaaM02
import Derived.Test.YtodbmdekgfcjpaaM03
import Derived.Test.YtodbmdekgfcjpaaM04
import Derived.Test.YtodbmdekgfcjpaaM05
import Derived.Test.YtodbmdekgfcjpaaM07
import Derived.Test.YtodbmdekgfcjpaaM08
import Derived.Test.YtodbmdekgfcjpaaM09
import Derived.Lib.Hide
import Derived.LoopTactic
import Derived.Maps.OwnSet
set_option linter.unusedVariables false
set_option linter.unusedSimpArgs false
set_option maxRecDepth 100000
namespace Go.Proofs.Ytodbmdekgfcjpaa.Asc
section
open Go.RowKit
def EqRel (K L : List AX) (w : World) (i : Value) (wr : World) : Prop := ∃ j : Nat, i = .int .i64 j ∧ j ≤ K.length ∧ K.take j = L.take j ∧ Box (Below w.heap.size w wr)
end
section
open Go.RowKit
set_option maxHeartbeats 800000 in
theorem slEqual_any (a b : Option Addr) (ca cb : Nat) (K L : List ByteArray) (w : World) (hk : K.length ≤ 65536) (hl : L.length ≤ 65536) (hK : Box (Ss w a K)) (hL : Box (Ss w b L)) :
    Calls Try.prog 23 #[.slice a K.length ca, .slice b L.length cb] w fun e w' => e = .returned (.bool (decide (K = L))) ∧ Below w.heap.size w w' := by
  by_cases hn : K.length = L.length
  · have HN := box hn
    have hne : ((K.length : Int) != (L.length : Int)) = false := by simp [hn]
    clear hn
    go_enter Try.func23, Try.ntmps23
    go_wp2
    go_loopw [13] (fun i wr => ∃ k : Nat, k ≤ K.length ∧ i = .int .i64 k ∧ K.take k = L.take k ∧ Below w.heap.size w wr) (fun i _ => K.length - (intOf i).toNat)
    case atStart => exact ⟨0, Nat.zero_le _, rfl, rfl, Below.refl _ _⟩
    case round =>
      obtain ⟨k, hk2, rfl, hall, hbel⟩ := hrel
      have HA := box hall
      clear hall
      by_cases hlt : k < K.length
      · have hlt2 : k < L.length := by rw [← HN.out]; exact hlt
        obtain ⟨q, off, rfl, c0⟩ := (hK.out.below hbel) k hlt
        obtain ⟨r, off2, rfl, d0⟩ := (hL.out.below hbel) k hlt2
        go_wp2
        go_quiet (fail)
        go_wp2
        · have h : (!K[k].toList == L[k].toList) = true := by assumption
          go_ret
          have hne2 : K[k] ≠ L[k] := fun e => by rw [e] at h; simp at h
          exact ⟨ret_bool (decide_eq_false (not_same hlt hlt2 hne2)).symm, hbel.trans ((below_drewN _ _).mono hbel.size)⟩
        · have h : (!K[k].toList == L[k].toList) = false := by assumption
          have e : K[k] = L[k] := str_eq (by simpa using h)
          have E := box e
          clear e h
          go_roundw
          case rel => exact ⟨k + 1, by omega, by go_num, take_same hlt hlt2 HA.out E.out, hbel.trans ((below_drewN _ _).mono hbel.size)⟩
          case measure => simp [intOf]; omega
      · have e : k = K.length := by omega
        have E : Box (K = L) := box (by
          have h := HA.out
          subst e
          rw [List.take_length, HN.out, List.take_length] at h
          exact h)
        clear e
        go_wp2
        go_ret
        exact ⟨ret_bool (decide_eq_true E.out).symm, hbel⟩
  · have hne : ((K.length : Int) != (L.length : Int)) = true := by simp; omega
    have HN := box hn
    clear hn
    go_enter Try.func23, Try.ntmps23
    go_wp2
    go_ret
    exact ⟨ret_bool (decide_eq_false (fun e => HN.out (by rw [e]))).symm, Below.refl _ _⟩
theorem slEqual_is {a b : Option Addr} {ca cb : Nat} {K L : List ByteArray} {q : Bool} {w : World} (hk : K.length ≤ 65536) (hl : L.length ≤ 65536) (hK : Ss w a K) (hL : Ss w b L) (h : Box (decide (K = L) = q)) :
    Calls Try.prog 23 #[.slice a K.length ca, .slice b L.length cb] w fun e w' => e = .returned (.bool q) ∧ Below w.heap.size w w' :=
  (slEqual_any a b ca cb K L w hk hl (box hK) (box hL)).mono fun e w' ⟨h1, h2⟩ => ⟨by rw [h1, h.out], h2⟩
set_option maxHeartbeats 800000 in
theorem axEqual_any (na nb : ByteArray) (a b : Option Addr) (ca cb : Nat) (K L : List ByteArray) (q : Bool) (w : World) (hk : K.length ≤ 65536) (hl : L.length ≤ 65536) (hK : Box (Ss w a K)) (hL : Box (Ss w b L)) (hq : Box (decide (((na, K) : AX) = (nb, L)) = q)) :
    Calls Try.prog 22 #[.agg #[.string na, .slice a K.length ca], .agg #[.string nb, .slice b L.length cb]] w fun e w' => e = .returned (.bool q) ∧ Below w.heap.size w w' := by
  have B0 := box ((below_new w (.cells #[.string na, .slice a K.length ca] 55)).alloc (below_new w _).size (.cells #[.string nb, .slice b L.length cb] 55))
  rcases hnq : (na.toList == nb.toList) with _ | _
  · have hz : q = false := by
      rw [← hq.out]
      exact decide_eq_false (fun e => by rw [(Prod.mk.inj e).1] at hnq; simp at hnq)
    subst hz
    go_enter Try.func22, Try.ntmps22
    go_wp2
    go_ret
    exact ⟨rfl, B0.out⟩
  · have HQ : Box (decide (K = L) = q) := box (by
      rw [← hq.out]
      have e : na = nb := str_eq (by simpa using hnq)
      rw [e]
      exact decide_eq_decide.2 ⟨fun h => by rw [h], fun h => (Prod.mk.inj h).2⟩)
    have S1 := hK.out.below B0.out
    have S2 := hL.out.below B0.out
    have SA := box S1
    have SB := box S2
    clear S1 S2
    go_enter Try.func22, Try.ntmps22
    go_wp2_with fail
    refine (slEqual_is hk hl SA.out SB.out HQ).mono ?_; rintro e w1 ⟨rfl, hb1⟩
    have B1 := box (B0.out.trans (hb1.mono B0.out.size))
    clear hb1
    go_wp2
    go_ret
    exact ⟨rfl, B1.out⟩
set_option maxHeartbeats 2000000 in
theorem eqFunc15_any (a b : Option Addr) (ca cb : Nat) (K L : List AX) (w : World) (hk : K.length ≤ 65536) (hl : L.length ≤ 65536) (zk : Box (smallA K)) (zl : Box (smallA L)) (hK : Box (Axs w a K)) (hL : Box (Axs w b L)) :
    Calls Try.prog 21 #[.slice a K.length ca, .slice b L.length cb, .func (.func 22) #[] #[]] w fun e w' => e = .returned (.bool (decide (K = L))) ∧ Below w.heap.size w w' := by
  by_cases hn : K.length = L.length
  · have HN := box hn
    have hne : ((K.length : Int) != (L.length : Int)) = false := by simp [hn]
    clear hn
    go_enter Try.func21, Try.ntmps21
    go_wp2
    go_loopw [17] (fun i wr => EqRel K L w i wr) (fun i _ => K.length - (intOf i).toNat)
    case atStart => exact ⟨0, rfl, Nat.zero_le _, rfl, box (Below.refl _ _)⟩
    case round =>
      obtain ⟨j, rfl, hj, htk, B0⟩ := hrel
      have HTK := box htk
      have hs0 := B0.out.size
      clear htk
      by_cases hlt : j < K.length
      · have hlt2 : j < L.length := by rw [← HN.out]; exact hlt
        obtain ⟨g, off, v, rfl, c0, c1, ba, ca2, rfl, hss, _⟩ := (hK.out.below B0.out) j hlt
        obtain ⟨h, of2, v, rfl, d0, d1, bb, cb2, rfl, hst, _⟩ := (hL.out.below B0.out) j hlt2
        obtain ⟨z1, z2, _⟩ := zk.out j hlt
        obtain ⟨y1, y2, _⟩ := zl.out j hlt2
        obtain ⟨⟨na, A⟩, hA⟩ : ∃ n, K[j] = n := ⟨_, rfl⟩
        obtain ⟨⟨nb, B⟩, hB⟩ : ∃ n, L[j] = n := ⟨_, rfl⟩
        rw [hA] at c0 c1 hss z2
        rw [hB] at d0 d1 hst y2
        simp only at c0 c1 hss z2 d0 d1 hst y2
        have BN := box ((below_new wr (.cells #[.string na, .slice ba A.length ca2] 55)).alloc (below_new wr _).size (.cells #[.string nb, .slice bb B.length cb2] 55))
        have SA := box (hss.below BN.out)
        have SB := box (hst.below BN.out)
        clear hss hst z1 y1
        obtain ⟨q, hq⟩ : ∃ q, decide (((na, A) : AX) = (nb, B)) = q := ⟨_, rfl⟩
        have HQ := box hq
        have d2 := ((below_new wr (.cells #[.string na, .slice ba A.length ca2] 55)).cell (cell_lt d0)).trans d0
        have d3 := ((below_new wr (.cells #[.string na, .slice ba A.length ca2] 55)).cell (cell_lt d1)).trans d1
        go_wp2_with fail
        refine (axEqual_any na nb ba bb ca2 cb2 A B q _ z2 y2 SA SB HQ).mono ?_; rintro e w1 ⟨rfl, hb1⟩
        have B1 := box (B0.out.trans ((BN.out.trans (hb1.mono BN.out.size)).mono B0.out.size))
        clear hb1 c0 c1 d0 d1 d2 d3 SA SB
        cases q with
        | false =>
          have HX : Box (decide (K = L) = false) := box (decide_eq_false (not_same hlt hlt2 (fun e => by rw [hA, hB] at e; exact absurd e (of_decide_eq_false hq))))
          clear hq hA hB
          go_wp2
          go_ret
          exact ⟨by rw [HX.out]; rfl, B1.out⟩
        | true =>
          have HX := box (take_same hlt hlt2 HTK.out (by rw [hA, hB]; exact of_decide_eq_true hq))
          clear hq hA hB
          go_wp2
          go_roundw
          case rel => exact ⟨j + 1, by go_num, by omega, HX.out, B1⟩
          case measure => simp [intOf]; omega
      · have e : j = K.length := by omega
        have E : Box (decide (K = L) = true) := box (decide_eq_true (by
          have h := HTK.out
          subst e
          rw [List.take_length, HN.out, List.take_length] at h
          exact h))
        clear e
        go_wp2
        go_ret
        exact ⟨by rw [E.out]; rfl, B0.out⟩
  · have hne : ((K.length : Int) != (L.length : Int)) = true := by simp; omega
    have HN : Box (decide (K = L) = false) := box (decide_eq_false (fun e => hn (by rw [e])))
    clear hn
    go_enter Try.func21, Try.ntmps21
    go_wp2
    go_ret
    exact ⟨by rw [HN.out]; rfl, Below.refl _ _⟩
theorem mEqual_any (a b : Option Addr) (ca cb : Nat) (K L : List AX) (w : World) (hk : K.length ≤ 65536) (hl : L.length ≤ 65536) (zk : Box (smallA K)) (zl : Box (smallA L)) (hK : Box (Axs w a K)) (hL : Box (Axs w b L)) :
    Calls Try.prog 13 #[.slice a K.length ca, .slice b L.length cb] w fun e w' => e = .returned (.bool (decide (K = L))) ∧ Below w.heap.size w w' := by
  obtain ⟨q, hq⟩ : ∃ q, decide (K = L) = q := ⟨_, rfl⟩
  have HQ := box hq
  rw [hq]
  clear hq
  go_enter Try.func13, Try.ntmps13
  go_wp2_with fail
  refine (eqFunc15_any a b ca cb K L _ hk hl zk zl hK hL).mono ?_; rintro e w1 ⟨rfl, hb1⟩
  rw [HQ.out]
  have B1 := box hb1
  clear hb1
  go_wp2
  go_ret
  exact ⟨rfl, B1.out⟩
end
section
open Go.RowKit Go.Maps
theorem lawStr : Keyed Try.prog 9 := string_keyed Try.underlying9
theorem zeroB15 (w : World) : (zeroValue 4).run Try.prog w = .ok (.bool false) w := by kernel_rfl
def skey (s : ByteArray) : Lit := .string s.data.toList
theorem skey_of {s : ByteArray} (h : s.size ≤ maxLen) : keyOf Try.prog 9 (.string s) = some (skey s) := by
  simp [keyOf, mapKey, Try.underlying9, h, skey]
theorem skey_ne {s t : ByteArray} (h : s ≠ t) : skey s ≠ skey t := by
  unfold skey
  intro e
  refine h ?_
  have : s.data.toList = t.data.toList := by simpa using e
  rw [bs_of s, bs_of t, this]
/-- block b is a set of at most n strings: those of which S says so -/
def SSet (w : World) (b n : Nat) (S : ByteArray → Bool) : Prop :=
  ∃ D : DataW Unit, w.ownsMap Try.prog 9 (plainElem Try.prog 4) b n D ∧ ∀ s, s.size ≤ maxLen → D.atKey (skey s) (.lit (.bool false)) = .lit (.bool (S s))
def noS : ByteArray → Bool := fun _ => false
def andS (S : ByteArray → Bool) (s : ByteArray) : ByteArray → Bool := fun x => S x || decide (x = s)
theorem SSet.made (w : World) : SSet (w.alloc (.map #[] 0)) w.heap.size 0 noS :=
  ⟨_, World.ownsMap_made _ _ _ _, fun s _ => Maps.atKey_of_not_has (by simp [Maps.has]) _⟩
section
variable {w w' : World} {b n : Nat} {S : ByteArray → Bool}
theorem SSet.below {B : Nat} (h : SSet w b n S) (hb : Below B w w') (hB : b < B) : SSet w' b n S := by
  obtain ⟨D, ⟨es, clock, h1, r⟩, h2⟩ := h
  exact ⟨D, ⟨es, clock, (hb.block b hB).trans h1, r⟩, h2⟩
theorem SSet.lt (h : SSet w b n S) : b < w.heap.size := by obtain ⟨D, h1, h2⟩ := h; exact h1.lt
theorem SSet.mono {m : Nat} (h : SSet w b n S) (hm : n ≤ m) : SSet w b m S := by obtain ⟨D, h1, h2⟩ := h; exact ⟨D, h1.mono hm, h2⟩
theorem SSet.same {T : ByteArray → Bool} (h : SSet w b n S) (hT : ∀ s, S s = T s) : SSet w b n T := by
  obtain ⟨D, h1, h2⟩ := h
  exact ⟨D, h1, fun s hs => by rw [h2 s hs, hT]⟩
theorem SSet.put {s : ByteArray} (h : SSet w b n S) (hs : s.size ≤ maxLen) (hn : n < maxLen) :
    ∃ w', (Instr.mapUpdate 74 (.map (some b)) (.string s) (.bool true)).run Try.prog w = .ok () w' ∧ SSet w' b (n + 1) (andS S s) ∧ w.grownBy w' (some b) := by
  obtain ⟨D, h1, h2⟩ := h
  obtain ⟨w', r1, r2, r3⟩ := h1.update lawStr Try.underlying74 hn (skey_of hs) (plainElem_bool Try.underlying4 true)
  refine ⟨w', r1, ⟨_, r2, fun t ht => ?_⟩, r3⟩
  by_cases e : t = s
  · subst e
    rw [Maps.atKey_put_same h1.isMap (lawStr.key (skey_of hs))]
    simp [andS]
  · rw [Maps.atKey_put_other (skey_ne e), h2 t ht]
    simp [andS, e]
theorem SSet.look {s : ByteArray} (h : SSet w b n S) (hs : s.size ≤ maxLen) :
    (Instr.lookup 74 (.map (some b)) (.string s) false).run Try.prog w = .ok (.bool (S s)) w := by
  obtain ⟨D, h1, h2⟩ := h
  obtain ⟨v, ps, hrun, hv⟩ := h1.lookup lawStr Try.underlying74 (zeroB15 w) (plainElem_bool Try.underlying4 false) (skey_of hs)
  rw [h2 s hs] at hv
  rw [hrun]
  have : v = .bool (S s) := by
    unfold plainElem at hv
    rw [Try.underlying4] at hv
    cases v <;> simp at hv
    rw [hv.1]
  rw [this]
end
theorem makeMap15 (w : World) : (Instr.makeMap 74 none).run Try.prog w = .ok (.map (some w.heap.size)) (w.alloc (.map #[] 0)) := by
  simp [Instr.makeMap, run_underlying Try.underlying74, Result.andThen]
theorem andS_in {S : ByteArray → Bool} {s : ByteArray} (h : S s = true) : ∀ x, S x = andS S s x := by
  intro x
  unfold andS
  by_cases e : x = s
  · subst e; rw [h]; simp
  · simp [e]
/-- add: was the string not there? behind it, it is -/
theorem add_any (b n : Nat) (S : ByteArray → Bool) (s : ByteArray) (q : Bool) (w : World) (hs : s.size ≤ maxLen) (hn : n < maxLen) (h : Box (SSet w b n S)) (hq : Box (S s = q)) :
    Calls Try.prog 38 #[.map (some b), .string s] w fun e w' => e = .returned (.bool (!q)) ∧ SSet w' b (n + 1) (andS S s) ∧ Below b w w' := by
  have hL := h.out.look hs
  obtain ⟨w2, hP, hS2, hg⟩ := h.out.put hs hn
  rw [hq.out] at hL
  have H2 := box (And.intro hS2 hg)
  clear hS2 hg
  cases q with
  | true =>
    go_enter Try.func38, Try.ntmps38
    go_wp2
    go_ret
    exact ⟨rfl, (h.out.same (andS_in hq.out)).mono (Nat.le_succ _), Below.refl _ _⟩
  | false =>
    go_enter Try.func38, Try.ntmps38
    go_wp2
    go_ret
    exact ⟨rfl, H2.out.1, (Below.refl _ _).grown H2.out.2 (Nat.le_of_lt h.out.lt) (fun k hk => by cases hk; exact Nat.le_refl _)⟩
end
section
open Go.RowKit
theorem all_mem {nm : ByteArray} {L : List F} {m : List UInt8} (h : m ∈ allL nm L) : ∃ x ∈ getL nm L, m.length ≤ x.size := by
  unfold allL at h
  have h := List.mem_of_mem_take h
  unfold allF at h
  obtain ⟨x, hx, hm⟩ := List.mem_flatMap.1 h
  refine ⟨x, hx, ?_⟩
  unfold splitL memL at hm
  have hm := (List.mem_filter.1 (List.mem_of_mem_take hm)).1
  obtain ⟨p, hp, rfl⟩ := List.mem_map.1 hm
  have h1 := cut_small _ _ _ _ p hp
  have h2 := trim_le p
  have hz : x.data.toList.length = x.size := by simp
  simp only [List.length_nil, Nat.zero_add] at h1
  omega
end
section
def chkL (n : Nat) : Bool := ((lowB (UInt8.ofNat n) == 45) == (UInt8.ofNat n == 45)) && ((lowB (UInt8.ofNat n) == 42) == (UInt8.ofNat n == 42)) && (lettI (lowB (UInt8.ofNat n)).toNat == lettI (n : Int)) && (digitI (lowB (UInt8.ofNat n)).toNat == digitI (n : Int))
theorem chkL_all : ∀ x : Fin 256, chkL x.1 = true := by decide +kernel
theorem low_more (c : UInt8) : (lowB c = 45 ↔ c = 45) ∧ (lowB c = 42 ↔ c = 42) ∧ lettI (lowB c).toNat = lettI c.toNat ∧ digitI (lowB c).toNat = digitI c.toNat := by
  have k := chkL_all ⟨c.toNat, c.toNat_lt⟩
  unfold chkL at k
  simp only [UInt8.ofNat_toNat, Bool.and_eq_true, beq_iff_eq] at k
  obtain ⟨⟨⟨k1, k2⟩, k3⟩, k4⟩ := k
  exact ⟨by rw [← beq_iff_eq, k1, beq_iff_eq], by rw [← beq_iff_eq, k2, beq_iff_eq], k3, k4⟩
theorem lowL_cons (c : UInt8) (r : List UInt8) : lowL (c :: r) = lowB c :: lowL r := rfl
theorem sub_low : ∀ l : List UInt8, subL (lowL l) = (subL l).map lowL
  | [] => rfl
  | c :: r => by
    have ih := sub_low r
    obtain ⟨x, xs, e⟩ := subL_cons r
    rw [e, List.map_cons] at ih
    rw [lowL_cons]
    by_cases hc : c = 45
    · have h2 := (low_more c).1.2 hc
      rw [h2, hc, subL_hyp, subL_hyp, ih, e]; rfl
    · have h2 : ¬ lowB c = 45 := fun q => hc ((low_more c).1.1 q)
      rw [subL_chr h2 ih, subL_chr hc e]; rfl
theorem lowL_len2 (l : List UInt8) : (lowL l).length = l.length := by simp [lowL]
theorem subOk_low (f : Bool) (x : List UInt8) : subOk f (lowL x) = subOk f x := by
  unfold subOk
  rw [lowL_len2, lowL_map, List.all_map]
  congr 1
  apply List.all_congr rfl
  intro c
  have h := low_more c
  show (lettI (lowB c).toNat || (!f && digitI (lowB c).toNat)) = _
  rw [h.2.2.1, h.2.2.2]
theorem subsOk_low : ∀ L : List (List UInt8), subsOk (L.map lowL) = subsOk L
  | [] => rfl
  | x :: xs => by
    show (subOk true (lowL x) && (xs.map lowL).all (subOk false)) = (subOk true x && xs.all (subOk false))
    rw [subOk_low, List.all_map]
    congr 1
    apply List.all_congr rfl
    intro y
    exact subOk_low false y
theorem tag_low (l : List UInt8) : tagL (lowL l) = tagL l := by unfold tagL; rw [sub_low, subsOk_low]
theorem star_low (l : List UInt8) : lowL l = [42] ↔ l = [42] := by
  match l with
  | [] => simp [lowL]
  | [c] => rw [lowL_cons]; simp [lowL, (low_more c).2.1]
  | _ :: _ :: _ => simp [lowL]
end
section
theorem sameV_refl (n x : ByteArray) : sameV n x x = true := by
  unfold sameV
  split
  · exact fold_refl _
  · split
    · exact decide_eq_true rfl
    · exact decide_eq_true rfl
theorem sameV_symm (n x y : ByteArray) : sameV n y x = sameV n x y := by
  unfold sameV
  split
  · exact fold_symm _ _
  · split
    · exact decide_eq_decide.2 ⟨Eq.symm, Eq.symm⟩
    · exact decide_eq_decide.2 ⟨Eq.symm, Eq.symm⟩
theorem sameV_trans {n x y z : ByteArray} (h1 : sameV n x y = true) (h2 : sameV n y z = true) : sameV n x z = true := by
  unfold sameV at h1 h2 ⊢
  split at h1
  · rename_i hk
    rw [if_pos hk] at h2 ⊢
    exact fold_trans h1 h2
  · rename_i hk
    rw [if_neg hk] at h2 ⊢
    split at h1
    · rename_i hk2
      rw [if_pos hk2] at h2 ⊢
      exact decide_eq_true ((of_decide_eq_true h1).trans (of_decide_eq_true h2))
    · rename_i hk2
      rw [if_neg hk2] at h2 ⊢
      exact decide_eq_true ((of_decide_eq_true h1).trans (of_decide_eq_true h2))
theorem kind_some {n : ByteArray} (h : kindN n ≠ 0) : kindN n = 1 ∨ kindN n = 2 ∨ kindN n = 3 ∨ kindN n = 4 := by
  unfold kindN at h ⊢
  repeat' split
  all_goals simp_all
theorem sameV_low {n x : ByteArray} (h : kindN n ≠ 0) : sameV n x (bs (lowL x.data.toList)) = true := by
  unfold sameV
  rw [bs_toList]
  rcases kind_some h with hk | hk | hk | hk
  · rw [if_pos (.inl hk)]; exact fold_low _
  · rw [if_pos (.inr hk)]; exact fold_low _
  · rw [if_neg (by omega), if_pos (.inl hk), can_low]; exact decide_eq_true rfl
  · rw [if_neg (by omega), if_pos (.inr hk), can_low]; exact decide_eq_true rfl
def chkS (n : Nat) : Bool := ((lowB (UInt8.ofNat n) == 34) == (UInt8.ofNat n == 34)) && ((lowB (UInt8.ofNat n) == 92) == (UInt8.ofNat n == 92)) && ((lowB (UInt8.ofNat n) == 59) == (UInt8.ofNat n == 59)) && ((lowB (UInt8.ofNat n) == 61) == (UInt8.ofNat n == 61)) && ((lowB (UInt8.ofNat n) == 47) == (UInt8.ofNat n == 47)) && (blankB (lowB (UInt8.ofNat n)) == blankB (UInt8.ofNat n)) && (tokI (lowB (UInt8.ofNat n)).toNat == tokI (n : Int)) && (textI (lowB (UInt8.ofNat n)).toNat == textI (n : Int))
theorem chkS_all : ∀ x : Fin 256, chkS x.1 = true := by decide +kernel
theorem low_chr (c : UInt8) : (lowB c = 34 ↔ c = 34) ∧ (lowB c = 92 ↔ c = 92) ∧ (lowB c = 59 ↔ c = 59) ∧ (lowB c = 61 ↔ c = 61) ∧ (lowB c = 47 ↔ c = 47) ∧ blankB (lowB c) = blankB c ∧ tokI (lowB c).toNat = tokI c.toNat ∧ textI (lowB c).toNat = textI c.toNat := by
  have k := chkS_all ⟨c.toNat, c.toNat_lt⟩
  unfold chkS at k
  simp only [UInt8.ofNat_toNat, Bool.and_eq_true, beq_iff_eq] at k
  obtain ⟨⟨⟨⟨⟨⟨⟨k1, k2⟩, k3⟩, k4⟩, k5⟩, k6⟩, k7⟩, k8⟩ := k
  exact ⟨by rw [← beq_iff_eq, k1, beq_iff_eq], by rw [← beq_iff_eq, k2, beq_iff_eq], by rw [← beq_iff_eq, k3, beq_iff_eq], by rw [← beq_iff_eq, k4, beq_iff_eq], by rw [← beq_iff_eq, k5, beq_iff_eq], k6, k7, k8⟩
/-- a separator that no case touches -/
def CaSep (d : UInt8) : Prop := ∀ c, lowB c = d ↔ c = d
theorem casep59 : CaSep 59 := fun c => (low_chr c).2.2.1
theorem casep61 : CaSep 61 := fun c => (low_chr c).2.2.2.1
theorem casep47 : CaSep 47 := fun c => (low_chr c).2.2.2.2.1
theorem low_app (a b : List UInt8) : lowL (a ++ b) = lowL a ++ lowL b := by unfold lowL; rw [List.map_append]
theorem low_nil {l : List UInt8} : lowL l = [] ↔ l = [] := by unfold lowL; exact List.map_eq_nil_iff
theorem tokL_low (l : List UInt8) : tokL (lowL l) = tokL l := by
  unfold tokL allI
  rw [lowL_map, List.all_map]
  congr 1
  · cases l <;> rfl
  · congr 1; funext c; exact (low_chr c).2.2.2.2.2.2.1
theorem textL_low (l : List UInt8) : textL (lowL l) = textL l := by
  unfold textL allI
  rw [lowL_map, List.all_map]
  congr 1; funext c; exact (low_chr c).2.2.2.2.2.2.2
theorem dropW_low : ∀ l : List UInt8, (lowL l).dropWhile blankB = lowL (l.dropWhile blankB)
  | [] => rfl
  | c :: r => by
    rw [lowL_cons, List.dropWhile_cons, List.dropWhile_cons, (low_chr c).2.2.2.2.2.1]
    split
    · exact dropW_low r
    · rfl
theorem low_rev (l : List UInt8) : (lowL l).reverse = lowL l.reverse := by unfold lowL; rw [List.map_reverse]
theorem trim_low (l : List UInt8) : trimL (lowL l) = lowL (trimL l) := by
  unfold trimL; rw [dropW_low, low_rev, dropW_low, low_rev]
theorem cut1_low {d : UInt8} (hd : CaSep d) : ∀ l : List UInt8, cut1 d (lowL l) = lowL (cut1 d l)
  | [] => rfl
  | c :: r => by
    have ih := cut1_low hd r
    unfold cut1 at ih ⊢
    rw [lowL_cons, List.takeWhile_cons, List.takeWhile_cons]
    by_cases h : c = d
    · have : lowB c = d := (hd c).2 h
      rw [if_neg (by simp [this]), if_neg (by simp [h])]; rfl
    · have : lowB c ≠ d := fun e => h ((hd c).1 e)
      rw [if_pos (by simp [this]), if_pos (by simp [h]), ih]; rfl
theorem cut2_low {d : UInt8} (hd : CaSep d) : ∀ l : List UInt8, cut2 d (lowL l) = lowL (cut2 d l)
  | [] => rfl
  | c :: r => by
    have ih := cut2_low hd r
    unfold cut2 at ih ⊢
    rw [lowL_cons, List.dropWhile_cons, List.dropWhile_cons]
    by_cases h : c = d
    · have : lowB c = d := (hd c).2 h
      rw [if_neg (by simp [this]), if_neg (by simp [h])]; rfl
    · have : lowB c ≠ d := fun e => h ((hd c).1 e)
      rw [if_pos (by simp [this]), if_pos (by simp [h]), ih]
theorem cutB_low {d : UInt8} (hd : CaSep d) (l : List UInt8) : cutB d (lowL l) = cutB d l := by
  unfold cutB
  rw [Bool.eq_iff_iff, List.contains_iff_mem, List.contains_iff_mem, lowL_map, List.mem_map]
  constructor
  · rintro ⟨c, hc, h⟩; rw [← (hd c).1 h]; exact hc
  · intro h; exact ⟨d, h, (hd d).2 rfl⟩
theorem cutF_low {sep : UInt8} (hs : CaSep sep) : ∀ (f : Nat) (q : Bool) (l acc : List UInt8), cutF sep f q (lowL l) (lowL acc) = (cutF sep f q l acc).map lowL
  | f, q, [], acc => by rw [show lowL [] = [] from rfl, cutF_nil, cutF_nil]; rfl
  | 0, q, c :: r, acc => by unfold cutF; rfl
  | f + 1, q, c :: r, acc => by
    obtain ⟨l34, l92, _⟩ := low_chr c
    rw [lowL_cons, cutF_cons, cutF_cons]
    by_cases h1 : q = true ∧ c = 92
    · rw [if_pos ⟨h1.1, l92.2 h1.2⟩, if_pos h1]
      match r with
      | [] => show [lowL acc ++ [lowB c]] = [lowL (acc ++ [c])]; rw [low_app]; rfl
      | d :: r2 =>
        have := cutF_low hs f q r2 (acc ++ [c, d])
        rw [low_app] at this
        exact this
    · rw [if_neg (fun e => h1 ⟨e.1, l92.1 e.2⟩), if_neg h1]
      by_cases h2 : c = 34
      · rw [if_pos (l34.2 h2), if_pos h2]
        have := cutF_low hs f (!q) r (acc ++ [c])
        rw [low_app] at this
        exact this
      · rw [if_neg (fun e => h2 (l34.1 e)), if_neg h2]
        by_cases h3 : c = sep ∧ q = false
        · rw [if_pos ⟨(hs c).2 h3.1, h3.2⟩, if_pos h3]
          have := cutF_low hs f q r []
          rw [List.map_cons, ← this]; rfl
        · rw [if_neg (fun e => h3 ⟨(hs c).1 e.1, e.2⟩), if_neg h3]
          have := cutF_low hs f q r (acc ++ [c])
          rw [low_app] at this
          exact this
theorem cutL_low {sep : UInt8} (hs : CaSep sep) (l : List UInt8) : cutL sep (lowL l) = (cutL sep l).map lowL := by
  unfold cutL
  rw [lowL_len]
  exact cutF_low hs l.length false l []
theorem unesc_low : ∀ (k : Nat) (l : List UInt8), l.length ≤ k → unescL (lowL l) = (unescL l).map lowL
  | k, [], _ => rfl
  | 0, c :: r, h => by simp at h
  | k + 1, c :: r, h => by
    simp only [List.length_cons] at h
    obtain ⟨l34, l92, _⟩ := low_chr c
    rw [lowL_cons]
    by_cases h34 : c = 34
    · rw [l34.2 h34, h34, unescL_q, unescL_q]; rfl
    · by_cases h92 : c = 92
      · rw [l92.2 h92, h92]
        match r, h with
        | [], _ => show unescL [92] = _; rw [unescL_e]; rfl
        | d :: r2, h =>
          simp only [List.length_cons] at h
          rw [lowL_cons, unescL_b, unescL_b, unesc_low k r2 (by omega), Option.map_map, Option.map_map]
          rfl
      · rw [unescL_o _ _ (fun e => h34 (l34.1 e)) (fun e => h92 (l92.1 e)), unescL_o _ _ h34 h92, unesc_low k r (by omega), Option.map_map, Option.map_map]
        rfl
theorem unq_low (l : List UInt8) : unqL (lowL l) = (unqL l).map lowL := by
  have hg : ∀ i, ((lowL l).getD i 0 = 34 ↔ l.getD i 0 = 34) := fun i => by
    rw [lowL_map, List.getD_eq_getElem?_getD, List.getD_eq_getElem?_getD, List.getElem?_map]
    cases h : l[i]? with
    | none => simp
    | some c => simpa using (low_chr c).1
  unfold unqL
  rw [lowL_len]
  by_cases h : l.length < 2 ∨ l.getD 0 0 ≠ 34 ∨ l.getD (l.length - 1) 0 ≠ 34
  · rw [if_pos h, if_pos (by rw [ne_eq, ne_eq, hg, hg]; exact h)]; rfl
  · rw [if_neg h, if_neg (by rw [ne_eq, ne_eq, hg, hg]; exact h)]
    have e : ((lowL l).take (l.length - 1)).drop 1 = lowL ((l.take (l.length - 1)).drop 1) := by unfold lowL; rw [← List.map_take, ← List.map_drop]
    rw [e]
    unfold unqIn
    rw [textL_low]
    split
    · exact unesc_low _ _ (Nat.le_refl _)
    · rfl
def lowP (p : F) : F := (p.1, bs (lowL p.2.data.toList))
theorem param_low (x : List UInt8) : paramL (lowL x) = (paramL x).map lowP := by
  unfold paramL
  rw [cutB_low casep61, cut1_low casep61, cut2_low casep61, tokL_low, tokL_low, low_low, unq_low]
  split
  · rfl
  · split
    · unfold lowP; simp [bs_toList]
    · cases unqL (cut2 61 x) with
      | none => rfl
      | some u => unfold lowP; simp [bs_toList]
theorem parF_low : ∀ (ps : List (List UInt8)) (acc : List F), parF (ps.map lowL) (acc.map lowP) = (parF ps acc).map (List.map lowP)
  | [], acc => rfl
  | p :: ps, acc => by
    rw [List.map_cons]
    unfold parF
    rw [trim_low, param_low]
    by_cases h : trimL p = []
    · rw [if_pos h, if_pos (low_nil.2 h)]; exact parF_low ps acc
    · rw [if_neg h, if_neg (fun e => h (low_nil.1 e))]
      cases hp : paramL (trimL p) with
      | none => rfl
      | some f =>
        have := parF_low ps (acc ++ [f])
        rw [List.map_append] at this
        exact this
theorem parL_low (s : List UInt8) : parL (lowL s) = (parL s).map fun m => (lowL m.1, m.2.map lowP) := by
  unfold parL
  rw [cutL_low casep59]
  cases hc : cutL 59 s with
  | nil => rfl
  | cons v ps =>
    simp only [List.map_cons]
    rw [trim_low]
    by_cases h : trimL v = []
    · rw [if_pos h, if_pos (low_nil.2 h)]; rfl
    · rw [if_neg h, if_neg (fun e => h (low_nil.1 e))]
      have := parF_low ps []
      rw [List.map_nil] at this
      rw [this]
      cases parF ps [] with
      | none => rfl
      | some L => rfl
theorem type_low (v : List UInt8) : typeL (lowL v) = typeL v := by
  unfold typeL
  rw [cutB_low casep47, cut1_low casep47, cut2_low casep47, tokL_low, tokL_low, low_low, low_low]
  split
  · rfl
  · split
    · rfl
    · split
      · rfl
      · have h : (lowL (cut1 47 v) = [42] ∧ lowL (cut2 47 v) ≠ [42]) ↔ (cut1 47 v = [42] ∧ cut2 47 v ≠ [42]) := by rw [star_low, ne_eq, star_low]
        by_cases q : cut1 47 v = [42] ∧ cut2 47 v ≠ [42]
        · rw [if_pos q, if_pos (h.2 q)]
        · rw [if_neg q, if_neg (fun e => q (h.1 e))]
theorem media_low (s : List UInt8) : mediaL (lowL s) = (mediaL s).map fun m => (m.1, m.2.1, m.2.2.map lowP) := by
  unfold mediaL rangeL
  rw [parL_low]
  cases hp : parL s with
  | none => rfl
  | some m =>
    obtain ⟨v, L⟩ := m
    simp only [Option.map_some]
    rw [type_low]
    cases ht : typeL v with
    | none => rfl
    | some t =>
      obtain ⟨a, b⟩ := t
      simp only
      split
      · rfl
      · rfl
theorem atP_low (L : List F) (i : Nat) : atP (L.map lowP) i = atP L i := by
  unfold atP
  rw [List.getD_eq_getElem?_getD, List.getD_eq_getElem?_getD, List.getElem?_map]
  cases L[i]? with
  | none => rfl
  | some p => rfl
theorem ownP_low (L : List F) (n : Nat) : ownP (L.map lowP) n = ownP L n := by
  unfold ownP newP
  simp only [atP_low]
theorem valueV_low {n x : ByteArray} (h : kindN n ≠ 0) : valueV n (bs (lowL x.data.toList)) = valueV n x := by
  unfold valueV
  rw [bs_toList]
  rcases kind_some h with hk | hk | hk | hk
  · rw [if_pos hk, if_pos hk, media_low]
    cases hm : mediaL x.data.toList with
    | none => rfl
    | some m =>
      show (true && ownP (m.2.2.map lowP) (m.2.2.map lowP).length) = (true && ownP m.2.2 m.2.2.length)
      rw [ownP_low, List.length_map]
  · rw [if_neg (by omega), if_pos hk, if_neg (by omega), if_pos hk, tag_low]
  all_goals
    have hs : (bs (lowL x.data.toList) = star) ↔ x = star := by
      constructor
      · intro e
        have : lowL x.data.toList = [42] := by have := congrArg (fun b => b.data.toList) e; simpa [bs_toList, star] using this
        rw [bs_of x, (star_low _).1 this]; rfl
      · intro e; subst e; decide
    rw [if_neg (by omega), if_neg (by omega), if_pos (by omega), if_neg (by omega), if_neg (by omega), if_pos (by omega), tokL_low]
    congr 1
    exact decide_eq_decide.2 (not_congr hs)
end
section
open Go.RowKit
theorem mName0_any (k : Int) (w : World) (hk : InI64 k) :
    Calls Try.prog 27 #[.int .i64 k] w fun e w' => e = .returned (.string (nameK k)) ∧ w = w' := by
  by_cases h1 : k = 1
  · subst h1
    go_enter Try.func27, Try.ntmps27
    go_wp2
    go_ret
    exact ⟨rfl, rfl⟩
  · by_cases h2 : k = 2
    · subst h2
      go_enter Try.func27, Try.ntmps27
      go_wp2
      go_ret
      exact ⟨rfl, rfl⟩
    · by_cases h3 : k = 3
      · subst h3
        go_enter Try.func27, Try.ntmps27
        go_wp2
        go_ret
        exact ⟨rfl, rfl⟩
      · by_cases h4 : k = 4
        · subst h4
          go_enter Try.func27, Try.ntmps27
          go_wp2
          go_ret
          exact ⟨rfl, rfl⟩
        · have HV := box (name_no h1 h2 h3 h4)
          have e1 : (k == 1) = false := by rw [beq_eq_false_iff_ne]; exact h1
          have e2 : (k == 2) = false := by rw [beq_eq_false_iff_ne]; exact h2
          have e3 : (k == 3) = false := by rw [beq_eq_false_iff_ne]; exact h3
          have e4 : (k == 4) = false := by rw [beq_eq_false_iff_ne]; exact h4
          clear h1 h2 h3 h4
          go_enter Try.func27, Try.ntmps27
          go_wp2
          go_ret
          exact ⟨by rw [HV.out]; rfl, rfl⟩
theorem mName0_is {k : Int} {x : ByteArray} {w : World} (hk : InI64 k) (h : Box (nameK k = x)) :
    Calls Try.prog 27 #[.int .i64 k] w fun e w' => e = .returned (.string x) ∧ w = w' :=
  (mName0_any k w hk).mono fun e w' ⟨h1, h2⟩ => ⟨by rw [h1, h.out], h2⟩
theorem mFold13_is {a b : ByteArray} {q : Bool} {w : World} (ha : a.size ≤ 65536) (hb : b.size ≤ 65536) (h : Box (foldL a.data.toList b.data.toList = q)) :
    Calls Try.prog 26 #[.string a, .string b] w fun e w' => e = .returned (.bool q) ∧ Below w.heap.size w w' :=
  (Fold_any a b w (by unfold maxLen; omega) (by unfold maxLen; omega)).mono fun e w' ⟨h1, h2⟩ => ⟨by rw [h1, h.out], h2⟩
/-- the names up to j are others -/
def KdMRel (n : ByteArray) (W : World) (i : Value) (wr : World) : Prop := ∃ j : Int, i = .int .i64 j ∧ (j = 0 ∨ j = 1 ∨ j = 2 ∨ j = 3 ∨ j = 4) ∧ Box (∀ i : Int, 1 ≤ i → i ≤ j → foldL n.data.toList (nameK i).data.toList = false) ∧ Below W.heap.size W wr
theorem kind_atI {n : ByteArray} {j : Int} (h1 : 1 ≤ j) (h4 : j ≤ 4) (hn : ∀ i : Int, 1 ≤ i → i < j → foldL n.data.toList (nameK i).data.toList = false) (h : foldL n.data.toList (nameK j).data.toList = true) : kindN n = j := by
  have e : ((j.toNat : Nat) : Int) = j := by omega
  have := kind_at (n := n) (j := j.toNat) (by omega) (by omega) (fun i a b => hn i (by omega) (by omega)) (by rw [e]; exact h)
  rw [e] at this; exact this
theorem kind_moreI {n x : ByteArray} {j k : Int} (hk : k = j + 1) (hx : nameK k = x) (hn : ∀ i : Int, 1 ≤ i → i ≤ j → foldL n.data.toList (nameK i).data.toList = false) (h : foldL n.data.toList x.data.toList = false) : ∀ i : Int, 1 ≤ i → i ≤ k → foldL n.data.toList (nameK i).data.toList = false := by
  intro i h1 h2
  by_cases e : i = k
  · rw [e, hx]; exact h
  · exact hn i h1 (by omega)
set_option maxHeartbeats 1000000 in
theorem mKind_any (n : ByteArray) (w : World) (hn : n.size ≤ 65536) :
    Calls Try.prog 16 #[.string n] w fun e w' => e = .returned (.int .i64 (kindN n)) ∧ Below w.heap.size w w' := by
  have ix0 : ∀ w, (Instr.index 63 (.agg #[.int .i64 1, .int .i64 2, .int .i64 3, .int .i64 4]) (.int .i64 0)).run Try.prog w = .ok (.int .i64 1) w := fun w => by rfl
  have ix1 : ∀ w, (Instr.index 63 (.agg #[.int .i64 1, .int .i64 2, .int .i64 3, .int .i64 4]) (.int .i64 1)).run Try.prog w = .ok (.int .i64 2) w := fun w => by rfl
  have ix2 : ∀ w, (Instr.index 63 (.agg #[.int .i64 1, .int .i64 2, .int .i64 3, .int .i64 4]) (.int .i64 2)).run Try.prog w = .ok (.int .i64 3) w := fun w => by rfl
  have ix3 : ∀ w, (Instr.index 63 (.agg #[.int .i64 1, .int .i64 2, .int .i64 3, .int .i64 4]) (.int .i64 3)).run Try.prog w = .ok (.int .i64 4) w := fun w => by rfl
  go_enter Try.func16, Try.ntmps16
  go_wp2
  go_loopw [6] (fun i wr => KdMRel n w i wr) (fun i _ => 4 - (intOf i).toNat)
  case atStart => exact ⟨0, rfl, .inl rfl, box (fun i h1 h2 => by omega), Below.refl _ _⟩
  case round =>
    obtain ⟨j, rfl, hj, HNO, hbel⟩ := hrel
    have BL := box hbel
    clear hbel
    rcases hj with rfl | rfl | rfl | rfl | rfl
    · obtain ⟨x, hx⟩ : ∃ x, nameK 1 = x := ⟨_, rfl⟩
      have HX := box hx
      have hxz : x.size ≤ 65536 := by have := name_size 1; rw [hx] at this; omega
      cases hf : foldL n.data.toList x.data.toList with
      | true =>
        have HF := box hf
        have HV : Box (kindN n = 1) := box (kind_atI (by omega) (by omega) (fun i h1 h2 => HNO.out i h1 (by omega)) (by rw [hx]; exact hf))
        clear hf hx
        go_wp2_with fail
        refine (mName0_is ⟨by omega, by omega⟩ HX).mono ?_; rintro e w1 ⟨rfl, rfl⟩
        go_wp2_with fail
        refine (mFold13_is hn hxz HF).mono ?_; rintro e w2 ⟨rfl, hb2⟩
        have B2 := box (BL.out.trans (hb2.mono BL.out.size))
        clear hb2
        go_wp2
        go_ret
        exact ⟨by rw [HV.out]; rfl, B2.out⟩
      | false =>
        have HF := box hf
        have HN2 := box (kind_moreI (k := 1) (by omega) hx HNO.out hf)
        clear hf hx
        go_wp2_with fail
        refine (mName0_is ⟨by omega, by omega⟩ HX).mono ?_; rintro e w1 ⟨rfl, rfl⟩
        go_wp2_with fail
        refine (mFold13_is hn hxz HF).mono ?_; rintro e w2 ⟨rfl, hb2⟩
        have B2 := box (BL.out.trans (hb2.mono BL.out.size))
        clear hb2
        go_wp2
        go_roundw
        case rel => exact ⟨1, by go_num, by omega, HN2, B2.out⟩
        case measure => simp [intOf]
    · obtain ⟨x, hx⟩ : ∃ x, nameK 2 = x := ⟨_, rfl⟩
      have HX := box hx
      have hxz : x.size ≤ 65536 := by have := name_size 2; rw [hx] at this; omega
      cases hf : foldL n.data.toList x.data.toList with
      | true =>
        have HF := box hf
        have HV : Box (kindN n = 2) := box (kind_atI (by omega) (by omega) (fun i h1 h2 => HNO.out i h1 (by omega)) (by rw [hx]; exact hf))
        clear hf hx
        go_wp2_with fail
        refine (mName0_is ⟨by omega, by omega⟩ HX).mono ?_; rintro e w1 ⟨rfl, rfl⟩
        go_wp2_with fail
        refine (mFold13_is hn hxz HF).mono ?_; rintro e w2 ⟨rfl, hb2⟩
        have B2 := box (BL.out.trans (hb2.mono BL.out.size))
        clear hb2
        go_wp2
        go_ret
        exact ⟨by rw [HV.out]; rfl, B2.out⟩
      | false =>
        have HF := box hf
        have HN2 := box (kind_moreI (k := 2) (by omega) hx HNO.out hf)
        clear hf hx
        go_wp2_with fail
        refine (mName0_is ⟨by omega, by omega⟩ HX).mono ?_; rintro e w1 ⟨rfl, rfl⟩
        go_wp2_with fail
        refine (mFold13_is hn hxz HF).mono ?_; rintro e w2 ⟨rfl, hb2⟩
        have B2 := box (BL.out.trans (hb2.mono BL.out.size))
        clear hb2
        go_wp2
        go_roundw
        case rel => exact ⟨2, by go_num, by omega, HN2, B2.out⟩
        case measure => simp [intOf]
    · obtain ⟨x, hx⟩ : ∃ x, nameK 3 = x := ⟨_, rfl⟩
      have HX := box hx
      have hxz : x.size ≤ 65536 := by have := name_size 3; rw [hx] at this; omega
      cases hf : foldL n.data.toList x.data.toList with
      | true =>
        have HF := box hf
        have HV : Box (kindN n = 3) := box (kind_atI (by omega) (by omega) (fun i h1 h2 => HNO.out i h1 (by omega)) (by rw [hx]; exact hf))
        clear hf hx
        go_wp2_with fail
        refine (mName0_is ⟨by omega, by omega⟩ HX).mono ?_; rintro e w1 ⟨rfl, rfl⟩
        go_wp2_with fail
        refine (mFold13_is hn hxz HF).mono ?_; rintro e w2 ⟨rfl, hb2⟩
        have B2 := box (BL.out.trans (hb2.mono BL.out.size))
        clear hb2
        go_wp2
        go_ret
        exact ⟨by rw [HV.out]; rfl, B2.out⟩
      | false =>
        have HF := box hf
        have HN2 := box (kind_moreI (k := 3) (by omega) hx HNO.out hf)
        clear hf hx
        go_wp2_with fail
        refine (mName0_is ⟨by omega, by omega⟩ HX).mono ?_; rintro e w1 ⟨rfl, rfl⟩
        go_wp2_with fail
        refine (mFold13_is hn hxz HF).mono ?_; rintro e w2 ⟨rfl, hb2⟩
        have B2 := box (BL.out.trans (hb2.mono BL.out.size))
        clear hb2
        go_wp2
        go_roundw
        case rel => exact ⟨3, by go_num, by omega, HN2, B2.out⟩
        case measure => simp [intOf]
    · obtain ⟨x, hx⟩ : ∃ x, nameK 4 = x := ⟨_, rfl⟩
      have HX := box hx
      have hxz : x.size ≤ 65536 := by have := name_size 4; rw [hx] at this; omega
      cases hf : foldL n.data.toList x.data.toList with
      | true =>
        have HF := box hf
        have HV : Box (kindN n = 4) := box (kind_atI (by omega) (by omega) (fun i h1 h2 => HNO.out i h1 (by omega)) (by rw [hx]; exact hf))
        clear hf hx
        go_wp2_with fail
        refine (mName0_is ⟨by omega, by omega⟩ HX).mono ?_; rintro e w1 ⟨rfl, rfl⟩
        go_wp2_with fail
        refine (mFold13_is hn hxz HF).mono ?_; rintro e w2 ⟨rfl, hb2⟩
        have B2 := box (BL.out.trans (hb2.mono BL.out.size))
        clear hb2
        go_wp2
        go_ret
        exact ⟨by rw [HV.out]; rfl, B2.out⟩
      | false =>
        have HF := box hf
        have HN2 := box (kind_moreI (k := 4) (by omega) hx HNO.out hf)
        clear hf hx
        go_wp2_with fail
        refine (mName0_is ⟨by omega, by omega⟩ HX).mono ?_; rintro e w1 ⟨rfl, rfl⟩
        go_wp2_with fail
        refine (mFold13_is hn hxz HF).mono ?_; rintro e w2 ⟨rfl, hb2⟩
        have B2 := box (BL.out.trans (hb2.mono BL.out.size))
        clear hb2
        go_wp2
        go_roundw
        case rel => exact ⟨4, by go_num, by omega, HN2, B2.out⟩
        case measure => simp [intOf]
    · have HV : Box (kindN n = 0) := box (kind_no fun i hi1 hi2 => HNO.out i (by omega) (by omega))
      go_wp2
      go_ret
      exact ⟨by rw [HV.out]; rfl, BL.out⟩
end
end Go.Proofs.Ytodbmdekgfcjpaa.Asc
