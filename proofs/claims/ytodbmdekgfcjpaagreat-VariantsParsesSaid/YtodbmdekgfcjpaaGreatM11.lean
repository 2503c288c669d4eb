/- Merged texts: VarEqu VarSet AccRef3 AccSpec3 AccKN MedSet. -/
import Derived.Test.YtodbmdekgfcjpaaGreatM01
import Derived.Test.YtodbmdekgfcjpaaGreatM02
import Derived.Test.YtodbmdekgfcjpaaGreatM03
import Derived.Test.YtodbmdekgfcjpaaGreatM05
import Derived.Test.YtodbmdekgfcjpaaGreatM08
import Derived.Test.YtodbmdekgfcjpaaGreatM10
import Derived.DeepKeys4
import Derived.Maps.OwnSet
set_option linter.unusedVariables false
set_option linter.unusedSimpArgs false
set_option maxRecDepth 100000
namespace Go.Proofs.YtodbmdekgfcjpaaGreat.Asc
section
open Go.RowKit
set_option maxHeartbeats 800000 in
theorem slEqual_any (a b : Option Addr) (ca cb : Nat) (K L : List ByteArray) (w : World) (hk : K.length ≤ 65536) (hl : L.length ≤ 65536) (hK : Box (Ss w a K)) (hL : Box (Ss w b L)) :
    Calls Tryz.prog 40 #[.slice a K.length ca, .slice b L.length cb] w fun e w' => e = .returned (.bool (decide (K = L))) ∧ Below w.heap.size w w' := by
  by_cases hn : K.length = L.length
  · have HN := box hn
    have hne : ((K.length : Int) != (L.length : Int)) = false := by simp [hn]
    clear hn
    go_enter Tryz.func40, Tryz.ntmps40
    go_wp2
    go_loopw [13] (fun i wr => ∃ k : Nat, k ≤ K.length ∧ i = .int .i64 k ∧ K.take k = L.take k ∧ Below w.heap.size w wr) (fun i _ => K.length - (intOf i).toNat)
    case atStart => exact ⟨0, Nat.zero_le _, rfl, rfl, Below.refl _ _⟩
    case round =>
      obtain ⟨k, hk2, rfl, hall, hbel⟩ := hrel
      have HA := box hall
      clear hall
      by_cases hlt : k < K.length
      · have hlt2 : k < L.length := by rw [← HN.out]; exact hlt
        obtain ⟨q, off, rfl, c0⟩ := (hK.out.below hbel) k hlt
        obtain ⟨r, off2, rfl, d0⟩ := (hL.out.below hbel) k hlt2
        go_wp2
        go_quiet (fail)
        go_wp2
        · have h : (!K[k].toList == L[k].toList) = true := by assumption
          go_ret
          have hne2 : K[k] ≠ L[k] := fun e => by rw [e] at h; simp at h
          exact ⟨ret_bool (decide_eq_false (not_same hlt hlt2 hne2)).symm, hbel.trans ((below_drewN _ _).mono hbel.size)⟩
        · have h : (!K[k].toList == L[k].toList) = false := by assumption
          have e : K[k] = L[k] := str_eq (by simpa using h)
          have E := box e
          clear e h
          go_roundw
          case rel => exact ⟨k + 1, by omega, by go_num, take_same hlt hlt2 HA.out E.out, hbel.trans ((below_drewN _ _).mono hbel.size)⟩
          case measure => simp [intOf]; omega
      · have e : k = K.length := by omega
        have E : Box (K = L) := box (by
          have h := HA.out
          subst e
          rw [List.take_length, HN.out, List.take_length] at h
          exact h)
        clear e
        go_wp2
        go_ret
        exact ⟨ret_bool (decide_eq_true E.out).symm, hbel⟩
  · have hne : ((K.length : Int) != (L.length : Int)) = true := by simp; omega
    have HN := box hn
    clear hn
    go_enter Tryz.func40, Tryz.ntmps40
    go_wp2
    go_ret
    exact ⟨ret_bool (decide_eq_false (fun e => HN.out (by rw [e]))).symm, Below.refl _ _⟩
theorem slEqual_is {a b : Option Addr} {ca cb : Nat} {K L : List ByteArray} {q : Bool} {w : World} (hk : K.length ≤ 65536) (hl : L.length ≤ 65536) (hK : Ss w a K) (hL : Ss w b L) (h : Box (decide (K = L) = q)) :
    Calls Tryz.prog 40 #[.slice a K.length ca, .slice b L.length cb] w fun e w' => e = .returned (.bool q) ∧ Below w.heap.size w w' :=
  (slEqual_any a b ca cb K L w hk hl (box hK) (box hL)).mono fun e w' ⟨h1, h2⟩ => ⟨by rw [h1, h.out], h2⟩
set_option maxHeartbeats 800000 in
theorem axEqual_any (na nb : ByteArray) (a b : Option Addr) (ca cb : Nat) (K L : List ByteArray) (q : Bool) (w : World) (hk : K.length ≤ 65536) (hl : L.length ≤ 65536) (hK : Box (Ss w a K)) (hL : Box (Ss w b L)) (hq : Box (decide (((na, K) : AX) = (nb, L)) = q)) :
    Calls Tryz.prog 39 #[.agg #[.string na, .slice a K.length ca], .agg #[.string nb, .slice b L.length cb]] w fun e w' => e = .returned (.bool q) ∧ Below w.heap.size w w' := by
  have B0 := box ((below_new w (.cells #[.string na, .slice a K.length ca] 54)).alloc (below_new w _).size (.cells #[.string nb, .slice b L.length cb] 54))
  rcases hnq : (na.toList == nb.toList) with _ | _
  · have hz : q = false := by
      rw [← hq.out]
      exact decide_eq_false (fun e => by rw [(Prod.mk.inj e).1] at hnq; simp at hnq)
    subst hz
    go_enter Tryz.func39, Tryz.ntmps39
    go_wp2
    go_ret
    exact ⟨rfl, B0.out⟩
  · have HQ : Box (decide (K = L) = q) := box (by
      rw [← hq.out]
      have e : na = nb := str_eq (by simpa using hnq)
      rw [e]
      exact decide_eq_decide.2 ⟨fun h => by rw [h], fun h => (Prod.mk.inj h).2⟩)
    have S1 := hK.out.below B0.out
    have S2 := hL.out.below B0.out
    have SA := box S1
    have SB := box S2
    clear S1 S2
    go_enter Tryz.func39, Tryz.ntmps39
    go_wp2_with fail
    refine (slEqual_is hk hl SA.out SB.out HQ).mono ?_; rintro e w1 ⟨rfl, hb1⟩
    have B1 := box (B0.out.trans (hb1.mono B0.out.size))
    clear hb1
    go_wp2
    go_ret
    exact ⟨rfl, B1.out⟩
set_option maxHeartbeats 2000000 in
theorem eqFunc15_any (a b : Option Addr) (ca cb : Nat) (K L : List AX) (w : World) (hk : K.length ≤ 65536) (hl : L.length ≤ 65536) (zk : Box (smallA K)) (zl : Box (smallA L)) (hK : Box (Axs w a K)) (hL : Box (Axs w b L)) :
    Calls Tryz.prog 38 #[.slice a K.length ca, .slice b L.length cb, .func (.func 39) #[] #[]] w fun e w' => e = .returned (.bool (decide (K = L))) ∧ Below w.heap.size w w' := by
  by_cases hn : K.length = L.length
  · have HN := box hn
    have hne : ((K.length : Int) != (L.length : Int)) = false := by simp [hn]
    clear hn
    go_enter Tryz.func38, Tryz.ntmps38
    go_wp2
    go_loopw [17] (fun i wr => EqRel K L w i wr) (fun i _ => K.length - (intOf i).toNat)
    case atStart => exact ⟨0, rfl, Nat.zero_le _, rfl, box (Below.refl _ _)⟩
    case round =>
      obtain ⟨j, rfl, hj, htk, B0⟩ := hrel
      have HTK := box htk
      have hs0 := B0.out.size
      clear htk
      by_cases hlt : j < K.length
      · have hlt2 : j < L.length := by rw [← HN.out]; exact hlt
        obtain ⟨g, off, v, rfl, c0, c1, ba, ca2, rfl, hss, _⟩ := (hK.out.below B0.out) j hlt
        obtain ⟨h, of2, v, rfl, d0, d1, bb, cb2, rfl, hst, _⟩ := (hL.out.below B0.out) j hlt2
        obtain ⟨z1, z2, _⟩ := zk.out j hlt
        obtain ⟨y1, y2, _⟩ := zl.out j hlt2
        obtain ⟨⟨na, A⟩, hA⟩ : ∃ n, K[j] = n := ⟨_, rfl⟩
        obtain ⟨⟨nb, B⟩, hB⟩ : ∃ n, L[j] = n := ⟨_, rfl⟩
        rw [hA] at c0 c1 hss z2
        rw [hB] at d0 d1 hst y2
        simp only at c0 c1 hss z2 d0 d1 hst y2
        have BN := box ((below_new wr (.cells #[.string na, .slice ba A.length ca2] 54)).alloc (below_new wr _).size (.cells #[.string nb, .slice bb B.length cb2] 54))
        have SA := box (hss.below BN.out)
        have SB := box (hst.below BN.out)
        clear hss hst z1 y1
        obtain ⟨q, hq⟩ : ∃ q, decide (((na, A) : AX) = (nb, B)) = q := ⟨_, rfl⟩
        have HQ := box hq
        have d2 := ((below_new wr (.cells #[.string na, .slice ba A.length ca2] 54)).cell (cell_lt d0)).trans d0
        have d3 := ((below_new wr (.cells #[.string na, .slice ba A.length ca2] 54)).cell (cell_lt d1)).trans d1
        go_wp2_with fail
        refine (axEqual_any na nb ba bb ca2 cb2 A B q _ z2 y2 SA SB HQ).mono ?_; rintro e w1 ⟨rfl, hb1⟩
        have B1 := box (B0.out.trans ((BN.out.trans (hb1.mono BN.out.size)).mono B0.out.size))
        clear hb1 c0 c1 d0 d1 d2 d3 SA SB
        cases q with
        | false =>
          have HX : Box (decide (K = L) = false) := box (decide_eq_false (not_same hlt hlt2 (fun e => by rw [hA, hB] at e; exact absurd e (of_decide_eq_false hq))))
          clear hq hA hB
          go_wp2
          go_ret
          exact ⟨by rw [HX.out]; rfl, B1.out⟩
        | true =>
          have HX := box (take_same hlt hlt2 HTK.out (by rw [hA, hB]; exact of_decide_eq_true hq))
          clear hq hA hB
          go_wp2
          go_roundw
          case rel => exact ⟨j + 1, by go_num, by omega, HX.out, B1⟩
          case measure => simp [intOf]; omega
      · have e : j = K.length := by omega
        have E : Box (decide (K = L) = true) := box (decide_eq_true (by
          have h := HTK.out
          subst e
          rw [List.take_length, HN.out, List.take_length] at h
          exact h))
        clear e
        go_wp2
        go_ret
        exact ⟨by rw [E.out]; rfl, B0.out⟩
  · have hne : ((K.length : Int) != (L.length : Int)) = true := by simp; omega
    have HN : Box (decide (K = L) = false) := box (decide_eq_false (fun e => hn (by rw [e])))
    clear hn
    go_enter Tryz.func38, Tryz.ntmps38
    go_wp2
    go_ret
    exact ⟨by rw [HN.out]; rfl, Below.refl _ _⟩
theorem mEqual_any (a b : Option Addr) (ca cb : Nat) (K L : List AX) (w : World) (hk : K.length ≤ 65536) (hl : L.length ≤ 65536) (zk : Box (smallA K)) (zl : Box (smallA L)) (hK : Box (Axs w a K)) (hL : Box (Axs w b L)) :
    Calls Tryz.prog 16 #[.slice a K.length ca, .slice b L.length cb] w fun e w' => e = .returned (.bool (decide (K = L))) ∧ Below w.heap.size w w' := by
  obtain ⟨q, hq⟩ : ∃ q, decide (K = L) = q := ⟨_, rfl⟩
  have HQ := box hq
  rw [hq]
  clear hq
  go_enter Tryz.func16, Tryz.ntmps16
  go_wp2_with fail
  refine (eqFunc15_any a b ca cb K L _ hk hl zk zl hK hL).mono ?_; rintro e w1 ⟨rfl, hb1⟩
  rw [HQ.out]
  have B1 := box hb1
  clear hb1
  go_wp2
  go_ret
  exact ⟨rfl, B1.out⟩
end
section
open Go.RowKit Go.Maps
theorem lawStr : Keyed Tryz.prog 9 := string_keyed Tryz.underlying9
theorem zeroB15 (w : World) : (zeroValue 4).run Tryz.prog w = .ok (.bool false) w := by kernel_rfl
def skey (s : ByteArray) : Lit := .string s.data.toList
theorem skey_of {s : ByteArray} (h : s.size ≤ maxLen) : keyOf Tryz.prog 9 (.string s) = some (skey s) := by
  simp [keyOf, mapKey, Tryz.underlying9, h, skey]
theorem skey_ne {s t : ByteArray} (h : s ≠ t) : skey s ≠ skey t := by
  unfold skey
  intro e
  refine h ?_
  have : s.data.toList = t.data.toList := by simpa using e
  rw [bs_of s, bs_of t, this]
/-- block b is a set of at most n strings: those of which S says so -/
def SSet (w : World) (b n : Nat) (S : ByteArray → Bool) : Prop :=
  ∃ D : DataW Unit, w.ownsMap Tryz.prog 9 (plainElem Tryz.prog 4) b n D ∧ ∀ s, s.size ≤ maxLen → D.atKey (skey s) (.lit (.bool false)) = .lit (.bool (S s))
def noS : ByteArray → Bool := fun _ => false
def andS (S : ByteArray → Bool) (s : ByteArray) : ByteArray → Bool := fun x => S x || decide (x = s)
theorem SSet.made (w : World) : SSet (w.alloc (.map #[] 0)) w.heap.size 0 noS :=
  ⟨_, World.ownsMap_made _ _ _ _, fun s _ => Maps.atKey_of_not_has (by simp [Maps.has]) _⟩
section
variable {w w' : World} {b n : Nat} {S : ByteArray → Bool}
theorem SSet.below {B : Nat} (h : SSet w b n S) (hb : Below B w w') (hB : b < B) : SSet w' b n S := by
  obtain ⟨D, ⟨es, clock, h1, r⟩, h2⟩ := h
  exact ⟨D, ⟨es, clock, (hb.block b hB).trans h1, r⟩, h2⟩
theorem SSet.lt (h : SSet w b n S) : b < w.heap.size := by obtain ⟨D, h1, h2⟩ := h; exact h1.lt
theorem SSet.mono {m : Nat} (h : SSet w b n S) (hm : n ≤ m) : SSet w b m S := by obtain ⟨D, h1, h2⟩ := h; exact ⟨D, h1.mono hm, h2⟩
theorem SSet.same {T : ByteArray → Bool} (h : SSet w b n S) (hT : ∀ s, S s = T s) : SSet w b n T := by
  obtain ⟨D, h1, h2⟩ := h
  exact ⟨D, h1, fun s hs => by rw [h2 s hs, hT]⟩
theorem SSet.put {s : ByteArray} (h : SSet w b n S) (hs : s.size ≤ maxLen) (hn : n < maxLen) :
    ∃ w', (Instr.mapUpdate 57 (.map (some b)) (.string s) (.bool true)).run Tryz.prog w = .ok () w' ∧ SSet w' b (n + 1) (andS S s) ∧ w.grownBy w' (some b) := by
  obtain ⟨D, h1, h2⟩ := h
  obtain ⟨w', r1, r2, r3⟩ := h1.update lawStr Tryz.underlying57 hn (skey_of hs) (plainElem_bool Tryz.underlying4 true)
  refine ⟨w', r1, ⟨_, r2, fun t ht => ?_⟩, r3⟩
  by_cases e : t = s
  · subst e
    rw [Maps.atKey_put_same h1.isMap (lawStr.key (skey_of hs))]
    simp [andS]
  · rw [Maps.atKey_put_other (skey_ne e), h2 t ht]
    simp [andS, e]
theorem SSet.look {s : ByteArray} (h : SSet w b n S) (hs : s.size ≤ maxLen) :
    (Instr.lookup 57 (.map (some b)) (.string s) false).run Tryz.prog w = .ok (.bool (S s)) w := by
  obtain ⟨D, h1, h2⟩ := h
  obtain ⟨v, ps, hrun, hv⟩ := h1.lookup lawStr Tryz.underlying57 (zeroB15 w) (plainElem_bool Tryz.underlying4 false) (skey_of hs)
  rw [h2 s hs] at hv
  rw [hrun]
  have : v = .bool (S s) := by
    unfold plainElem at hv
    rw [Tryz.underlying4] at hv
    cases v <;> simp at hv
    rw [hv.1]
  rw [this]
end
theorem makeMap15 (w : World) : (Instr.makeMap 57 none).run Tryz.prog w = .ok (.map (some w.heap.size)) (w.alloc (.map #[] 0)) := by
  simp [Instr.makeMap, run_underlying Tryz.underlying57, Result.andThen]
theorem andS_in {S : ByteArray → Bool} {s : ByteArray} (h : S s = true) : ∀ x, S x = andS S s x := by
  intro x
  unfold andS
  by_cases e : x = s
  · subst e; rw [h]; simp
  · simp [e]
/-- add: was the string not there? behind it, it is -/
theorem add_any (b n : Nat) (S : ByteArray → Bool) (s : ByteArray) (q : Bool) (w : World) (hs : s.size ≤ maxLen) (hn : n < maxLen) (h : Box (SSet w b n S)) (hq : Box (S s = q)) :
    Calls Tryz.prog 36 #[.map (some b), .string s] w fun e w' => e = .returned (.bool (!q)) ∧ SSet w' b (n + 1) (andS S s) ∧ Below b w w' := by
  have hL := h.out.look hs
  obtain ⟨w2, hP, hS2, hg⟩ := h.out.put hs hn
  rw [hq.out] at hL
  have H2 := box (And.intro hS2 hg)
  clear hS2 hg
  cases q with
  | true =>
    go_enter Tryz.func36, Tryz.ntmps36
    go_wp2
    go_ret
    exact ⟨rfl, (h.out.same (andS_in hq.out)).mono (Nat.le_succ _), Below.refl _ _⟩
  | false =>
    go_enter Tryz.func36, Tryz.ntmps36
    go_wp2
    go_ret
    exact ⟨rfl, H2.out.1, (Below.refl _ _).grown H2.out.2 (Nat.le_of_lt h.out.lt) (fun k hk => by cases hk; exact Nat.le_refl _)⟩
end
section
open Go.RowKit
theorem all_mem {nm : ByteArray} {L : List F} {m : List UInt8} (h : m ∈ allL nm L) : ∃ x ∈ getL nm L, m.length ≤ x.size := by
  unfold allL at h
  have h := List.mem_of_mem_take h
  unfold allF at h
  obtain ⟨x, hx, hm⟩ := List.mem_flatMap.1 h
  refine ⟨x, hx, ?_⟩
  unfold splitL memL at hm
  have hm := (List.mem_filter.1 (List.mem_of_mem_take hm)).1
  obtain ⟨p, hp, rfl⟩ := List.mem_map.1 hm
  have h1 := cut_small _ _ _ _ p hp
  have h2 := trim_le p
  have hz : x.data.toList.length = x.size := by simp
  simp only [List.length_nil, Nat.zero_add] at h1
  omega
end
section
theorem pc_tok {v p : List UInt8} (hv : tokL v = true) (h : Piece 44 p) : Piece 44 (v ++ p) :=
  Piece.plain (fun c hc => ⟨(tok_not (tok_byte hv c hc)).1, (tok_not (tok_byte hv c hc)).2.2.2.1⟩) h
theorem first_ok {v r : List UInt8} (hv : tokL v = true) : ∀ c r', v ++ r = c :: r' → blankB c = false := by
  intro c r' h
  match v, hv, h with
  | d :: v', hv, h =>
    simp only [List.cons_append, List.cons.injEq] at h
    obtain ⟨rfl, _⟩ := h
    exact (tok_more (tok_byte hv _ (by simp))).2.2.2.2
  | [], hv, _ => exact absurd rfl (tok_ne hv)
/-- a text that is a member -/
def IsMem (m : List UInt8) : Prop := m ≠ [] ∧ trimL m = m ∧ cutL 44 m = [m] ∧ endF m.length false m = false
end
section
open Go.RowKit
theorem mName0_any (k : Int) (w : World) (hk : InI64 k) :
    Calls Tryz.prog 79 #[.int .i64 k] w fun e w' => e = .returned (.string (nameK k)) ∧ w = w' := by
  by_cases h1 : k = 1
  · subst h1
    go_enter Tryz.func79, Tryz.ntmps79
    go_wp2
    go_ret
    exact ⟨rfl, rfl⟩
  · by_cases h2 : k = 2
    · subst h2
      go_enter Tryz.func79, Tryz.ntmps79
      go_wp2
      go_ret
      exact ⟨rfl, rfl⟩
    · by_cases h3 : k = 3
      · subst h3
        go_enter Tryz.func79, Tryz.ntmps79
        go_wp2
        go_ret
        exact ⟨rfl, rfl⟩
      · by_cases h4 : k = 4
        · subst h4
          go_enter Tryz.func79, Tryz.ntmps79
          go_wp2
          go_ret
          exact ⟨rfl, rfl⟩
        · have HV := box (name_no h1 h2 h3 h4)
          have e1 : (k == 1) = false := by rw [beq_eq_false_iff_ne]; exact h1
          have e2 : (k == 2) = false := by rw [beq_eq_false_iff_ne]; exact h2
          have e3 : (k == 3) = false := by rw [beq_eq_false_iff_ne]; exact h3
          have e4 : (k == 4) = false := by rw [beq_eq_false_iff_ne]; exact h4
          clear h1 h2 h3 h4
          go_enter Tryz.func79, Tryz.ntmps79
          go_wp2
          go_ret
          exact ⟨by rw [HV.out]; rfl, rfl⟩
theorem mName0_is {k : Int} {x : ByteArray} {w : World} (hk : InI64 k) (h : Box (nameK k = x)) :
    Calls Tryz.prog 79 #[.int .i64 k] w fun e w' => e = .returned (.string x) ∧ w = w' :=
  (mName0_any k w hk).mono fun e w' ⟨h1, h2⟩ => ⟨by rw [h1, h.out], h2⟩
theorem mFold13_is {a b : ByteArray} {q : Bool} {w : World} (ha : a.size ≤ 65536) (hb : b.size ≤ 65536) (h : Box (foldL a.data.toList b.data.toList = q)) :
    Calls Tryz.prog 78 #[.string a, .string b] w fun e w' => e = .returned (.bool q) ∧ Below w.heap.size w w' :=
  (Fold_any a b w (by unfold maxLen; omega) (by unfold maxLen; omega)).mono fun e w' ⟨h1, h2⟩ => ⟨by rw [h1, h.out], h2⟩
/-- the names up to j are others -/
def KdMRel (n : ByteArray) (W : World) (i : Value) (wr : World) : Prop := ∃ j : Int, i = .int .i64 j ∧ (j = 0 ∨ j = 1 ∨ j = 2 ∨ j = 3 ∨ j = 4) ∧ Box (∀ i : Int, 1 ≤ i → i ≤ j → foldL n.data.toList (nameK i).data.toList = false) ∧ Below W.heap.size W wr
theorem kind_atI {n : ByteArray} {j : Int} (h1 : 1 ≤ j) (h4 : j ≤ 4) (hn : ∀ i : Int, 1 ≤ i → i < j → foldL n.data.toList (nameK i).data.toList = false) (h : foldL n.data.toList (nameK j).data.toList = true) : kindN n = j := by
  have e : ((j.toNat : Nat) : Int) = j := by omega
  have := kind_at (n := n) (j := j.toNat) (by omega) (by omega) (fun i a b => hn i (by omega) (by omega)) (by rw [e]; exact h)
  rw [e] at this; exact this
theorem kind_moreI {n x : ByteArray} {j k : Int} (hk : k = j + 1) (hx : nameK k = x) (hn : ∀ i : Int, 1 ≤ i → i ≤ j → foldL n.data.toList (nameK i).data.toList = false) (h : foldL n.data.toList x.data.toList = false) : ∀ i : Int, 1 ≤ i → i ≤ k → foldL n.data.toList (nameK i).data.toList = false := by
  intro i h1 h2
  by_cases e : i = k
  · rw [e, hx]; exact h
  · exact hn i h1 (by omega)
set_option maxHeartbeats 1000000 in
theorem mKind_any (n : ByteArray) (w : World) (hn : n.size ≤ 65536) :
    Calls Tryz.prog 53 #[.string n] w fun e w' => e = .returned (.int .i64 (kindN n)) ∧ Below w.heap.size w w' := by
  have ix0 : ∀ w, (Instr.index 88 (.agg #[.int .i64 1, .int .i64 2, .int .i64 3, .int .i64 4]) (.int .i64 0)).run Tryz.prog w = .ok (.int .i64 1) w := fun w => by rfl
  have ix1 : ∀ w, (Instr.index 88 (.agg #[.int .i64 1, .int .i64 2, .int .i64 3, .int .i64 4]) (.int .i64 1)).run Tryz.prog w = .ok (.int .i64 2) w := fun w => by rfl
  have ix2 : ∀ w, (Instr.index 88 (.agg #[.int .i64 1, .int .i64 2, .int .i64 3, .int .i64 4]) (.int .i64 2)).run Tryz.prog w = .ok (.int .i64 3) w := fun w => by rfl
  have ix3 : ∀ w, (Instr.index 88 (.agg #[.int .i64 1, .int .i64 2, .int .i64 3, .int .i64 4]) (.int .i64 3)).run Tryz.prog w = .ok (.int .i64 4) w := fun w => by rfl
  go_enter Tryz.func53, Tryz.ntmps53
  go_wp2
  go_loopw [6] (fun i wr => KdMRel n w i wr) (fun i _ => 4 - (intOf i).toNat)
  case atStart => exact ⟨0, rfl, .inl rfl, box (fun i h1 h2 => by omega), Below.refl _ _⟩
  case round =>
    obtain ⟨j, rfl, hj, HNO, hbel⟩ := hrel
    have BL := box hbel
    clear hbel
    rcases hj with rfl | rfl | rfl | rfl | rfl
    · obtain ⟨x, hx⟩ : ∃ x, nameK 1 = x := ⟨_, rfl⟩
      have HX := box hx
      have hxz : x.size ≤ 65536 := by have := name_size 1; rw [hx] at this; omega
      cases hf : foldL n.data.toList x.data.toList with
      | true =>
        have HF := box hf
        have HV : Box (kindN n = 1) := box (kind_atI (by omega) (by omega) (fun i h1 h2 => HNO.out i h1 (by omega)) (by rw [hx]; exact hf))
        clear hf hx
        go_wp2_with fail
        refine (mName0_is ⟨by omega, by omega⟩ HX).mono ?_; rintro e w1 ⟨rfl, rfl⟩
        go_wp2_with fail
        refine (mFold13_is hn hxz HF).mono ?_; rintro e w2 ⟨rfl, hb2⟩
        have B2 := box (BL.out.trans (hb2.mono BL.out.size))
        clear hb2
        go_wp2
        go_ret
        exact ⟨by rw [HV.out]; rfl, B2.out⟩
      | false =>
        have HF := box hf
        have HN2 := box (kind_moreI (k := 1) (by omega) hx HNO.out hf)
        clear hf hx
        go_wp2_with fail
        refine (mName0_is ⟨by omega, by omega⟩ HX).mono ?_; rintro e w1 ⟨rfl, rfl⟩
        go_wp2_with fail
        refine (mFold13_is hn hxz HF).mono ?_; rintro e w2 ⟨rfl, hb2⟩
        have B2 := box (BL.out.trans (hb2.mono BL.out.size))
        clear hb2
        go_wp2
        go_roundw
        case rel => exact ⟨1, by go_num, by omega, HN2, B2.out⟩
        case measure => simp [intOf]
    · obtain ⟨x, hx⟩ : ∃ x, nameK 2 = x := ⟨_, rfl⟩
      have HX := box hx
      have hxz : x.size ≤ 65536 := by have := name_size 2; rw [hx] at this; omega
      cases hf : foldL n.data.toList x.data.toList with
      | true =>
        have HF := box hf
        have HV : Box (kindN n = 2) := box (kind_atI (by omega) (by omega) (fun i h1 h2 => HNO.out i h1 (by omega)) (by rw [hx]; exact hf))
        clear hf hx
        go_wp2_with fail
        refine (mName0_is ⟨by omega, by omega⟩ HX).mono ?_; rintro e w1 ⟨rfl, rfl⟩
        go_wp2_with fail
        refine (mFold13_is hn hxz HF).mono ?_; rintro e w2 ⟨rfl, hb2⟩
        have B2 := box (BL.out.trans (hb2.mono BL.out.size))
        clear hb2
        go_wp2
        go_ret
        exact ⟨by rw [HV.out]; rfl, B2.out⟩
      | false =>
        have HF := box hf
        have HN2 := box (kind_moreI (k := 2) (by omega) hx HNO.out hf)
        clear hf hx
        go_wp2_with fail
        refine (mName0_is ⟨by omega, by omega⟩ HX).mono ?_; rintro e w1 ⟨rfl, rfl⟩
        go_wp2_with fail
        refine (mFold13_is hn hxz HF).mono ?_; rintro e w2 ⟨rfl, hb2⟩
        have B2 := box (BL.out.trans (hb2.mono BL.out.size))
        clear hb2
        go_wp2
        go_roundw
        case rel => exact ⟨2, by go_num, by omega, HN2, B2.out⟩
        case measure => simp [intOf]
    · obtain ⟨x, hx⟩ : ∃ x, nameK 3 = x := ⟨_, rfl⟩
      have HX := box hx
      have hxz : x.size ≤ 65536 := by have := name_size 3; rw [hx] at this; omega
      cases hf : foldL n.data.toList x.data.toList with
      | true =>
        have HF := box hf
        have HV : Box (kindN n = 3) := box (kind_atI (by omega) (by omega) (fun i h1 h2 => HNO.out i h1 (by omega)) (by rw [hx]; exact hf))
        clear hf hx
        go_wp2_with fail
        refine (mName0_is ⟨by omega, by omega⟩ HX).mono ?_; rintro e w1 ⟨rfl, rfl⟩
        go_wp2_with fail
        refine (mFold13_is hn hxz HF).mono ?_; rintro e w2 ⟨rfl, hb2⟩
        have B2 := box (BL.out.trans (hb2.mono BL.out.size))
        clear hb2
        go_wp2
        go_ret
        exact ⟨by rw [HV.out]; rfl, B2.out⟩
      | false =>
        have HF := box hf
        have HN2 := box (kind_moreI (k := 3) (by omega) hx HNO.out hf)
        clear hf hx
        go_wp2_with fail
        refine (mName0_is ⟨by omega, by omega⟩ HX).mono ?_; rintro e w1 ⟨rfl, rfl⟩
        go_wp2_with fail
        refine (mFold13_is hn hxz HF).mono ?_; rintro e w2 ⟨rfl, hb2⟩
        have B2 := box (BL.out.trans (hb2.mono BL.out.size))
        clear hb2
        go_wp2
        go_roundw
        case rel => exact ⟨3, by go_num, by omega, HN2, B2.out⟩
        case measure => simp [intOf]
    · obtain ⟨x, hx⟩ : ∃ x, nameK 4 = x := ⟨_, rfl⟩
      have HX := box hx
      have hxz : x.size ≤ 65536 := by have := name_size 4; rw [hx] at this; omega
      cases hf : foldL n.data.toList x.data.toList with
      | true =>
        have HF := box hf
        have HV : Box (kindN n = 4) := box (kind_atI (by omega) (by omega) (fun i h1 h2 => HNO.out i h1 (by omega)) (by rw [hx]; exact hf))
        clear hf hx
        go_wp2_with fail
        refine (mName0_is ⟨by omega, by omega⟩ HX).mono ?_; rintro e w1 ⟨rfl, rfl⟩
        go_wp2_with fail
        refine (mFold13_is hn hxz HF).mono ?_; rintro e w2 ⟨rfl, hb2⟩
        have B2 := box (BL.out.trans (hb2.mono BL.out.size))
        clear hb2
        go_wp2
        go_ret
        exact ⟨by rw [HV.out]; rfl, B2.out⟩
      | false =>
        have HF := box hf
        have HN2 := box (kind_moreI (k := 4) (by omega) hx HNO.out hf)
        clear hf hx
        go_wp2_with fail
        refine (mName0_is ⟨by omega, by omega⟩ HX).mono ?_; rintro e w1 ⟨rfl, rfl⟩
        go_wp2_with fail
        refine (mFold13_is hn hxz HF).mono ?_; rintro e w2 ⟨rfl, hb2⟩
        have B2 := box (BL.out.trans (hb2.mono BL.out.size))
        clear hb2
        go_wp2
        go_roundw
        case rel => exact ⟨4, by go_num, by omega, HN2, B2.out⟩
        case measure => simp [intOf]
    · have HV : Box (kindN n = 0) := box (kind_no fun i hi1 hi2 => HNO.out i (by omega) (by omega))
      go_wp2
      go_ret
      exact ⟨by rw [HV.out]; rfl, BL.out⟩
end
section
open Go.RowKit Go.Maps
/-- what a parameter reads as when it is a key -/
def pkey (p : F) : Lit := .string (keyBytes [.string p.1.data.toList, .string p.2.data.toList])
def Sml (p : F) : Prop := p.1.size ≤ maxLen ∧ p.2.size ≤ maxLen
/-- block b is a set of at most n parameters: those of which S says so -/
def PSet (w : World) (b n : Nat) (S : F → Prop) : Prop :=
  ∃ D : DataW Unit, w.ownsMap Tryz.prog 47 (plainElem Tryz.prog 4) b n D ∧ ∀ kl, Maps.has D kl = true ↔ ∃ p, S p ∧ Sml p ∧ pkey p = kl
section
variable {w w' : World} {b n : Nat} {S : F → Prop}
theorem PSet.made (w : World) : PSet (w.alloc (.map #[] 0)) w.heap.size 0 (fun _ => False) :=
  ⟨_, World.ownsMap_made _ _ _ _, fun kl => by simp [Maps.has]⟩
theorem PSet.below {B : Nat} (h : PSet w b n S) (hb : Below B w w') (hB : b < B) : PSet w' b n S := by
  obtain ⟨D, ⟨es, clock, h1, r⟩, h2⟩ := h
  exact ⟨D, ⟨es, clock, (hb.block b hB).trans h1, r⟩, h2⟩
theorem PSet.lt (h : PSet w b n S) : b < w.heap.size := by obtain ⟨D, h1, h2⟩ := h; exact h1.lt
theorem PSet.mono {m : Nat} (h : PSet w b n S) (hm : n ≤ m) : PSet w b m S := by obtain ⟨D, h1, h2⟩ := h; exact ⟨D, h1.mono hm, h2⟩
end
end
end Go.Proofs.YtodbmdekgfcjpaaGreat.Asc
