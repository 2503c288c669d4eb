/- Merged texts: VarEqu VarSet AccKN MedSet LisApp LisApp2 BldMore. -/
import Derived.Test.YtcnohcbhnldglaaM02
import Derived.Test.YtcnohcbhnldglaaM05
import Derived.Test.YtcnohcbhnldglaaM07
import Derived.Test.YtcnohcbhnldglaaM09
import Derived.Test.YtcnohcbhnldglaaM10
import Derived.Test.YtcnohcbhnldglaaM11
import Derived.DeepKeys4
import Derived.Maps.OwnSet
set_option linter.unusedVariables false
set_option linter.unusedSimpArgs false
set_option maxRecDepth 100000
namespace Go.Proofs.Ytcnohcbhnldglaa.Asc
section
open Go.RowKit
set_option maxHeartbeats 800000 in
theorem slEqual_any (a b : Option Addr) (ca cb : Nat) (K L : List ByteArray) (w : World) (hk : K.length ≤ 65536) (hl : L.length ≤ 65536) (hK : Box (Ss w a K)) (hL : Box (Ss w b L)) :
    Calls Try.prog 46 #[.slice a K.length ca, .slice b L.length cb] w fun e w' => e = .returned (.bool (decide (K = L))) ∧ Below w.heap.size w w' := by
  by_cases hn : K.length = L.length
  · have HN := box hn
    have hne : ((K.length : Int) != (L.length : Int)) = false := by simp [hn]
    clear hn
    go_enter Try.func46, Try.ntmps46
    go_wp2
    go_loopw [13] (fun i wr => ∃ k : Nat, k ≤ K.length ∧ i = .int .i64 k ∧ K.take k = L.take k ∧ Below w.heap.size w wr) (fun i _ => K.length - (intOf i).toNat)
    case atStart => exact ⟨0, Nat.zero_le _, rfl, rfl, Below.refl _ _⟩
    case round =>
      obtain ⟨k, hk2, rfl, hall, hbel⟩ := hrel
      have HA := box hall
      clear hall
      by_cases hlt : k < K.length
      · have hlt2 : k < L.length := by rw [← HN.out]; exact hlt
        obtain ⟨q, off, rfl, c0⟩ := (hK.out.below hbel) k hlt
        obtain ⟨r, off2, rfl, d0⟩ := (hL.out.below hbel) k hlt2
        go_wp2
        go_quiet (fail)
        go_wp2
        · have h : (!K[k].toList == L[k].toList) = true := by assumption
          go_ret
          have hne2 : K[k] ≠ L[k] := fun e => by rw [e] at h; simp at h
          exact ⟨ret_bool (decide_eq_false (not_same hlt hlt2 hne2)).symm, hbel.trans ((below_drewN _ _).mono hbel.size)⟩
        · have h : (!K[k].toList == L[k].toList) = false := by assumption
          have e : K[k] = L[k] := str_eq (by simpa using h)
          have E := box e
          clear e h
          go_roundw
          case rel => exact ⟨k + 1, by omega, by go_num, take_same hlt hlt2 HA.out E.out, hbel.trans ((below_drewN _ _).mono hbel.size)⟩
          case measure => simp [intOf]; omega
      · have e : k = K.length := by omega
        have E : Box (K = L) := box (by
          have h := HA.out
          subst e
          rw [List.take_length, HN.out, List.take_length] at h
          exact h)
        clear e
        go_wp2
        go_ret
        exact ⟨ret_bool (decide_eq_true E.out).symm, hbel⟩
  · have hne : ((K.length : Int) != (L.length : Int)) = true := by simp; omega
    have HN := box hn
    clear hn
    go_enter Try.func46, Try.ntmps46
    go_wp2
    go_ret
    exact ⟨ret_bool (decide_eq_false (fun e => HN.out (by rw [e]))).symm, Below.refl _ _⟩
theorem slEqual_is {a b : Option Addr} {ca cb : Nat} {K L : List ByteArray} {q : Bool} {w : World} (hk : K.length ≤ 65536) (hl : L.length ≤ 65536) (hK : Ss w a K) (hL : Ss w b L) (h : Box (decide (K = L) = q)) :
    Calls Try.prog 46 #[.slice a K.length ca, .slice b L.length cb] w fun e w' => e = .returned (.bool q) ∧ Below w.heap.size w w' :=
  (slEqual_any a b ca cb K L w hk hl (box hK) (box hL)).mono fun e w' ⟨h1, h2⟩ => ⟨by rw [h1, h.out], h2⟩
end
section
open Go.RowKit Go.Maps
theorem lawStr : Keyed Try.prog 9 := string_keyed Try.underlying9
theorem zeroB15 (w : World) : (zeroValue 4).run Try.prog w = .ok (.bool false) w := by kernel_rfl
def skey (s : ByteArray) : Lit := .string s.data.toList
theorem skey_of {s : ByteArray} (h : s.size ≤ maxLen) : keyOf Try.prog 9 (.string s) = some (skey s) := by
  simp [keyOf, mapKey, Try.underlying9, h, skey]
theorem skey_ne {s t : ByteArray} (h : s ≠ t) : skey s ≠ skey t := by
  unfold skey
  intro e
  refine h ?_
  have : s.data.toList = t.data.toList := by simpa using e
  rw [bs_of s, bs_of t, this]
/-- block b is a set of at most n strings: those of which S says so -/
def SSet (w : World) (b n : Nat) (S : ByteArray → Bool) : Prop :=
  ∃ D : DataW Unit, w.ownsMap Try.prog 9 (plainElem Try.prog 4) b n D ∧ ∀ s, s.size ≤ maxLen → D.atKey (skey s) (.lit (.bool false)) = .lit (.bool (S s))
def noS : ByteArray → Bool := fun _ => false
def andS (S : ByteArray → Bool) (s : ByteArray) : ByteArray → Bool := fun x => S x || decide (x = s)
theorem SSet.made (w : World) : SSet (w.alloc (.map #[] 0)) w.heap.size 0 noS :=
  ⟨_, World.ownsMap_made _ _ _ _, fun s _ => Maps.atKey_of_not_has (by simp [Maps.has]) _⟩
section
variable {w w' : World} {b n : Nat} {S : ByteArray → Bool}
theorem SSet.below {B : Nat} (h : SSet w b n S) (hb : Below B w w') (hB : b < B) : SSet w' b n S := by
  obtain ⟨D, ⟨es, clock, h1, r⟩, h2⟩ := h
  exact ⟨D, ⟨es, clock, (hb.block b hB).trans h1, r⟩, h2⟩
theorem SSet.lt (h : SSet w b n S) : b < w.heap.size := by obtain ⟨D, h1, h2⟩ := h; exact h1.lt
theorem SSet.mono {m : Nat} (h : SSet w b n S) (hm : n ≤ m) : SSet w b m S := by obtain ⟨D, h1, h2⟩ := h; exact ⟨D, h1.mono hm, h2⟩
theorem SSet.same {T : ByteArray → Bool} (h : SSet w b n S) (hT : ∀ s, S s = T s) : SSet w b n T := by
  obtain ⟨D, h1, h2⟩ := h
  exact ⟨D, h1, fun s hs => by rw [h2 s hs, hT]⟩
theorem SSet.put {s : ByteArray} (h : SSet w b n S) (hs : s.size ≤ maxLen) (hn : n < maxLen) :
    ∃ w', (Instr.mapUpdate 46 (.map (some b)) (.string s) (.bool true)).run Try.prog w = .ok () w' ∧ SSet w' b (n + 1) (andS S s) ∧ w.grownBy w' (some b) := by
  obtain ⟨D, h1, h2⟩ := h
  obtain ⟨w', r1, r2, r3⟩ := h1.update lawStr Try.underlying46 hn (skey_of hs) (plainElem_bool Try.underlying4 true)
  refine ⟨w', r1, ⟨_, r2, fun t ht => ?_⟩, r3⟩
  by_cases e : t = s
  · subst e
    rw [Maps.atKey_put_same h1.isMap (lawStr.key (skey_of hs))]
    simp [andS]
  · rw [Maps.atKey_put_other (skey_ne e), h2 t ht]
    simp [andS, e]
theorem SSet.look {s : ByteArray} (h : SSet w b n S) (hs : s.size ≤ maxLen) :
    (Instr.lookup 46 (.map (some b)) (.string s) false).run Try.prog w = .ok (.bool (S s)) w := by
  obtain ⟨D, h1, h2⟩ := h
  obtain ⟨v, ps, hrun, hv⟩ := h1.lookup lawStr Try.underlying46 (zeroB15 w) (plainElem_bool Try.underlying4 false) (skey_of hs)
  rw [h2 s hs] at hv
  rw [hrun]
  have : v = .bool (S s) := by
    unfold plainElem at hv
    rw [Try.underlying4] at hv
    cases v <;> simp at hv
    rw [hv.1]
  rw [this]
end
theorem makeMap15 (w : World) : (Instr.makeMap 46 none).run Try.prog w = .ok (.map (some w.heap.size)) (w.alloc (.map #[] 0)) := by
  simp [Instr.makeMap, run_underlying Try.underlying46, Result.andThen]
theorem andS_in {S : ByteArray → Bool} {s : ByteArray} (h : S s = true) : ∀ x, S x = andS S s x := by
  intro x
  unfold andS
  by_cases e : x = s
  · subst e; rw [h]; simp
  · simp [e]
/-- add: was the string not there? behind it, it is -/
theorem add_any (b n : Nat) (S : ByteArray → Bool) (s : ByteArray) (q : Bool) (w : World) (hs : s.size ≤ maxLen) (hn : n < maxLen) (h : Box (SSet w b n S)) (hq : Box (S s = q)) :
    Calls Try.prog 19 #[.map (some b), .string s] w fun e w' => e = .returned (.bool (!q)) ∧ SSet w' b (n + 1) (andS S s) ∧ Below b w w' := by
  have hL := h.out.look hs
  obtain ⟨w2, hP, hS2, hg⟩ := h.out.put hs hn
  rw [hq.out] at hL
  have H2 := box (And.intro hS2 hg)
  clear hS2 hg
  cases q with
  | true =>
    go_enter Try.func19, Try.ntmps19
    go_wp2
    go_ret
    exact ⟨rfl, (h.out.same (andS_in hq.out)).mono (Nat.le_succ _), Below.refl _ _⟩
  | false =>
    go_enter Try.func19, Try.ntmps19
    go_wp2
    go_ret
    exact ⟨rfl, H2.out.1, (Below.refl _ _).grown H2.out.2 (Nat.le_of_lt h.out.lt) (fun k hk => by cases hk; exact Nat.le_refl _)⟩
end
section
open Go.RowKit
theorem mName0_any (k : Int) (w : World) (hk : InI64 k) :
    Calls Try.prog 61 #[.int .i64 k] w fun e w' => e = .returned (.string (nameK k)) ∧ w = w' := by
  by_cases h1 : k = 1
  · subst h1
    go_enter Try.func61, Try.ntmps61
    go_wp2
    go_ret
    exact ⟨rfl, rfl⟩
  · by_cases h2 : k = 2
    · subst h2
      go_enter Try.func61, Try.ntmps61
      go_wp2
      go_ret
      exact ⟨rfl, rfl⟩
    · by_cases h3 : k = 3
      · subst h3
        go_enter Try.func61, Try.ntmps61
        go_wp2
        go_ret
        exact ⟨rfl, rfl⟩
      · by_cases h4 : k = 4
        · subst h4
          go_enter Try.func61, Try.ntmps61
          go_wp2
          go_ret
          exact ⟨rfl, rfl⟩
        · have HV := box (name_no h1 h2 h3 h4)
          have e1 : (k == 1) = false := by rw [beq_eq_false_iff_ne]; exact h1
          have e2 : (k == 2) = false := by rw [beq_eq_false_iff_ne]; exact h2
          have e3 : (k == 3) = false := by rw [beq_eq_false_iff_ne]; exact h3
          have e4 : (k == 4) = false := by rw [beq_eq_false_iff_ne]; exact h4
          clear h1 h2 h3 h4
          go_enter Try.func61, Try.ntmps61
          go_wp2
          go_ret
          exact ⟨by rw [HV.out]; rfl, rfl⟩
theorem mName0_is {k : Int} {x : ByteArray} {w : World} (hk : InI64 k) (h : Box (nameK k = x)) :
    Calls Try.prog 61 #[.int .i64 k] w fun e w' => e = .returned (.string x) ∧ w = w' :=
  (mName0_any k w hk).mono fun e w' ⟨h1, h2⟩ => ⟨by rw [h1, h.out], h2⟩
theorem mFold13_is {a b : ByteArray} {q : Bool} {w : World} (ha : a.size ≤ 65536) (hb : b.size ≤ 65536) (h : Box (foldL a.data.toList b.data.toList = q)) :
    Calls Try.prog 52 #[.string a, .string b] w fun e w' => e = .returned (.bool q) ∧ Below w.heap.size w w' :=
  (Fold_any a b w (by unfold maxLen; omega) (by unfold maxLen; omega)).mono fun e w' ⟨h1, h2⟩ => ⟨by rw [h1, h.out], h2⟩
/-- the names up to j are others -/
def KdMRel (n : ByteArray) (W : World) (i : Value) (wr : World) : Prop := ∃ j : Int, i = .int .i64 j ∧ (j = 0 ∨ j = 1 ∨ j = 2 ∨ j = 3 ∨ j = 4) ∧ Box (∀ i : Int, 1 ≤ i → i ≤ j → foldL n.data.toList (nameK i).data.toList = false) ∧ Below W.heap.size W wr
theorem kind_atI {n : ByteArray} {j : Int} (h1 : 1 ≤ j) (h4 : j ≤ 4) (hn : ∀ i : Int, 1 ≤ i → i < j → foldL n.data.toList (nameK i).data.toList = false) (h : foldL n.data.toList (nameK j).data.toList = true) : kindN n = j := by
  have e : ((j.toNat : Nat) : Int) = j := by omega
  have := kind_at (n := n) (j := j.toNat) (by omega) (by omega) (fun i a b => hn i (by omega) (by omega)) (by rw [e]; exact h)
  rw [e] at this; exact this
theorem kind_moreI {n x : ByteArray} {j k : Int} (hk : k = j + 1) (hx : nameK k = x) (hn : ∀ i : Int, 1 ≤ i → i ≤ j → foldL n.data.toList (nameK i).data.toList = false) (h : foldL n.data.toList x.data.toList = false) : ∀ i : Int, 1 ≤ i → i ≤ k → foldL n.data.toList (nameK i).data.toList = false := by
  intro i h1 h2
  by_cases e : i = k
  · rw [e, hx]; exact h
  · exact hn i h1 (by omega)
set_option maxHeartbeats 1000000 in
theorem mKind_any (n : ByteArray) (w : World) (hn : n.size ≤ 65536) :
    Calls Try.prog 50 #[.string n] w fun e w' => e = .returned (.int .i64 (kindN n)) ∧ Below w.heap.size w w' := by
  have ix0 : ∀ w, (Instr.index 84 (.agg #[.int .i64 1, .int .i64 2, .int .i64 3, .int .i64 4]) (.int .i64 0)).run Try.prog w = .ok (.int .i64 1) w := fun w => by rfl
  have ix1 : ∀ w, (Instr.index 84 (.agg #[.int .i64 1, .int .i64 2, .int .i64 3, .int .i64 4]) (.int .i64 1)).run Try.prog w = .ok (.int .i64 2) w := fun w => by rfl
  have ix2 : ∀ w, (Instr.index 84 (.agg #[.int .i64 1, .int .i64 2, .int .i64 3, .int .i64 4]) (.int .i64 2)).run Try.prog w = .ok (.int .i64 3) w := fun w => by rfl
  have ix3 : ∀ w, (Instr.index 84 (.agg #[.int .i64 1, .int .i64 2, .int .i64 3, .int .i64 4]) (.int .i64 3)).run Try.prog w = .ok (.int .i64 4) w := fun w => by rfl
  go_enter Try.func50, Try.ntmps50
  go_wp2
  go_loopw [6] (fun i wr => KdMRel n w i wr) (fun i _ => 4 - (intOf i).toNat)
  case atStart => exact ⟨0, rfl, .inl rfl, box (fun i h1 h2 => by omega), Below.refl _ _⟩
  case round =>
    obtain ⟨j, rfl, hj, HNO, hbel⟩ := hrel
    have BL := box hbel
    clear hbel
    rcases hj with rfl | rfl | rfl | rfl | rfl
    · obtain ⟨x, hx⟩ : ∃ x, nameK 1 = x := ⟨_, rfl⟩
      have HX := box hx
      have hxz : x.size ≤ 65536 := by have := name_size 1; rw [hx] at this; omega
      cases hf : foldL n.data.toList x.data.toList with
      | true =>
        have HF := box hf
        have HV : Box (kindN n = 1) := box (kind_atI (by omega) (by omega) (fun i h1 h2 => HNO.out i h1 (by omega)) (by rw [hx]; exact hf))
        clear hf hx
        go_wp2_with fail
        refine (mName0_is ⟨by omega, by omega⟩ HX).mono ?_; rintro e w1 ⟨rfl, rfl⟩
        go_wp2_with fail
        refine (mFold13_is hn hxz HF).mono ?_; rintro e w2 ⟨rfl, hb2⟩
        have B2 := box (BL.out.trans (hb2.mono BL.out.size))
        clear hb2
        go_wp2
        go_ret
        exact ⟨by rw [HV.out]; rfl, B2.out⟩
      | false =>
        have HF := box hf
        have HN2 := box (kind_moreI (k := 1) (by omega) hx HNO.out hf)
        clear hf hx
        go_wp2_with fail
        refine (mName0_is ⟨by omega, by omega⟩ HX).mono ?_; rintro e w1 ⟨rfl, rfl⟩
        go_wp2_with fail
        refine (mFold13_is hn hxz HF).mono ?_; rintro e w2 ⟨rfl, hb2⟩
        have B2 := box (BL.out.trans (hb2.mono BL.out.size))
        clear hb2
        go_wp2
        go_roundw
        case rel => exact ⟨1, by go_num, by omega, HN2, B2.out⟩
        case measure => simp [intOf]
    · obtain ⟨x, hx⟩ : ∃ x, nameK 2 = x := ⟨_, rfl⟩
      have HX := box hx
      have hxz : x.size ≤ 65536 := by have := name_size 2; rw [hx] at this; omega
      cases hf : foldL n.data.toList x.data.toList with
      | true =>
        have HF := box hf
        have HV : Box (kindN n = 2) := box (kind_atI (by omega) (by omega) (fun i h1 h2 => HNO.out i h1 (by omega)) (by rw [hx]; exact hf))
        clear hf hx
        go_wp2_with fail
        refine (mName0_is ⟨by omega, by omega⟩ HX).mono ?_; rintro e w1 ⟨rfl, rfl⟩
        go_wp2_with fail
        refine (mFold13_is hn hxz HF).mono ?_; rintro e w2 ⟨rfl, hb2⟩
        have B2 := box (BL.out.trans (hb2.mono BL.out.size))
        clear hb2
        go_wp2
        go_ret
        exact ⟨by rw [HV.out]; rfl, B2.out⟩
      | false =>
        have HF := box hf
        have HN2 := box (kind_moreI (k := 2) (by omega) hx HNO.out hf)
        clear hf hx
        go_wp2_with fail
        refine (mName0_is ⟨by omega, by omega⟩ HX).mono ?_; rintro e w1 ⟨rfl, rfl⟩
        go_wp2_with fail
        refine (mFold13_is hn hxz HF).mono ?_; rintro e w2 ⟨rfl, hb2⟩
        have B2 := box (BL.out.trans (hb2.mono BL.out.size))
        clear hb2
        go_wp2
        go_roundw
        case rel => exact ⟨2, by go_num, by omega, HN2, B2.out⟩
        case measure => simp [intOf]
    · obtain ⟨x, hx⟩ : ∃ x, nameK 3 = x := ⟨_, rfl⟩
      have HX := box hx
      have hxz : x.size ≤ 65536 := by have := name_size 3; rw [hx] at this; omega
      cases hf : foldL n.data.toList x.data.toList with
      | true =>
        have HF := box hf
        have HV : Box (kindN n = 3) := box (kind_atI (by omega) (by omega) (fun i h1 h2 => HNO.out i h1 (by omega)) (by rw [hx]; exact hf))
        clear hf hx
        go_wp2_with fail
        refine (mName0_is ⟨by omega, by omega⟩ HX).mono ?_; rintro e w1 ⟨rfl, rfl⟩
        go_wp2_with fail
        refine (mFold13_is hn hxz HF).mono ?_; rintro e w2 ⟨rfl, hb2⟩
        have B2 := box (BL.out.trans (hb2.mono BL.out.size))
        clear hb2
        go_wp2
        go_ret
        exact ⟨by rw [HV.out]; rfl, B2.out⟩
      | false =>
        have HF := box hf
        have HN2 := box (kind_moreI (k := 3) (by omega) hx HNO.out hf)
        clear hf hx
        go_wp2_with fail
        refine (mName0_is ⟨by omega, by omega⟩ HX).mono ?_; rintro e w1 ⟨rfl, rfl⟩
        go_wp2_with fail
        refine (mFold13_is hn hxz HF).mono ?_; rintro e w2 ⟨rfl, hb2⟩
        have B2 := box (BL.out.trans (hb2.mono BL.out.size))
        clear hb2
        go_wp2
        go_roundw
        case rel => exact ⟨3, by go_num, by omega, HN2, B2.out⟩
        case measure => simp [intOf]
    · obtain ⟨x, hx⟩ : ∃ x, nameK 4 = x := ⟨_, rfl⟩
      have HX := box hx
      have hxz : x.size ≤ 65536 := by have := name_size 4; rw [hx] at this; omega
      cases hf : foldL n.data.toList x.data.toList with
      | true =>
        have HF := box hf
        have HV : Box (kindN n = 4) := box (kind_atI (by omega) (by omega) (fun i h1 h2 => HNO.out i h1 (by omega)) (by rw [hx]; exact hf))
        clear hf hx
        go_wp2_with fail
        refine (mName0_is ⟨by omega, by omega⟩ HX).mono ?_; rintro e w1 ⟨rfl, rfl⟩
        go_wp2_with fail
        refine (mFold13_is hn hxz HF).mono ?_; rintro e w2 ⟨rfl, hb2⟩
        have B2 := box (BL.out.trans (hb2.mono BL.out.size))
        clear hb2
        go_wp2
        go_ret
        exact ⟨by rw [HV.out]; rfl, B2.out⟩
      | false =>
        have HF := box hf
        have HN2 := box (kind_moreI (k := 4) (by omega) hx HNO.out hf)
        clear hf hx
        go_wp2_with fail
        refine (mName0_is ⟨by omega, by omega⟩ HX).mono ?_; rintro e w1 ⟨rfl, rfl⟩
        go_wp2_with fail
        refine (mFold13_is hn hxz HF).mono ?_; rintro e w2 ⟨rfl, hb2⟩
        have B2 := box (BL.out.trans (hb2.mono BL.out.size))
        clear hb2
        go_wp2
        go_roundw
        case rel => exact ⟨4, by go_num, by omega, HN2, B2.out⟩
        case measure => simp [intOf]
    · have HV : Box (kindN n = 0) := box (kind_no fun i hi1 hi2 => HNO.out i (by omega) (by omega))
      go_wp2
      go_ret
      exact ⟨by rw [HV.out]; rfl, BL.out⟩
end
section
open Go.RowKit Go.Maps
/-- what a parameter reads as when it is a key -/
def pkey (p : F) : Lit := .string (keyBytes [.string p.1.data.toList, .string p.2.data.toList])
def Sml (p : F) : Prop := p.1.size ≤ maxLen ∧ p.2.size ≤ maxLen
/-- block b is a set of at most n parameters: those of which S says so -/
def PSet (w : World) (b n : Nat) (S : F → Prop) : Prop :=
  ∃ D : DataW Unit, w.ownsMap Try.prog 108 (plainElem Try.prog 4) b n D ∧ ∀ kl, Maps.has D kl = true ↔ ∃ p, S p ∧ Sml p ∧ pkey p = kl
section
variable {w w' : World} {b n : Nat} {S : F → Prop}
theorem PSet.made (w : World) : PSet (w.alloc (.map #[] 0)) w.heap.size 0 (fun _ => False) :=
  ⟨_, World.ownsMap_made _ _ _ _, fun kl => by simp [Maps.has]⟩
theorem PSet.below {B : Nat} (h : PSet w b n S) (hb : Below B w w') (hB : b < B) : PSet w' b n S := by
  obtain ⟨D, ⟨es, clock, h1, r⟩, h2⟩ := h
  exact ⟨D, ⟨es, clock, (hb.block b hB).trans h1, r⟩, h2⟩
theorem PSet.lt (h : PSet w b n S) : b < w.heap.size := by obtain ⟨D, h1, h2⟩ := h; exact h1.lt
theorem PSet.mono {m : Nat} (h : PSet w b n S) (hm : n ≤ m) : PSet w b m S := by obtain ⟨D, h1, h2⟩ := h; exact ⟨D, h1.mono hm, h2⟩
end
end
section
open Go.RowKit
theorem after_any (st : Nat) (c : UInt8) (w : World) (h : st ≤ 2) :
    Calls Try.prog 37 #[.int .i64 (st : Int), .int .u8 (c.toNat : Int)] w fun e w' => e = .returned (.int .i64 ((stepQ st c : Nat) : Int)) ∧ w = w' := by
  obtain ⟨v, hv⟩ : ∃ v, stepQ st c = v := ⟨_, rfl⟩
  rw [hv]
  rcases h34 : ((c.toNat : Int) == 34) with _ | _
  · have n34 : c ≠ 34 := byte_no (d := 34) h34
    rcases h92 : ((c.toNat : Int) == 92) with _ | _
    · have n92 : c ≠ 92 := byte_no (d := 92) h92
      have hs : st = 0 ∧ v = 0 ∨ st = 1 ∧ v = 1 ∨ st = 2 ∧ v = 1 := by
        unfold stepQ at hv
        rw [if_neg n34, if_neg n34, if_neg n92] at hv
        split at hv
        · omega
        · split at hv <;> omega
      clear n34 n92 hv h
      rcases hs with ⟨rfl, rfl⟩ | ⟨rfl, rfl⟩ | ⟨rfl, rfl⟩
      all_goals
        go_enter Try.func37, Try.ntmps37
        go_wp2
        go_ret
        exact ⟨rfl, rfl⟩
    · have e92 : c = 92 := byte_is (d := 92) h92
      have hs : st = 0 ∧ v = 0 ∨ st = 1 ∧ v = 2 ∨ st = 2 ∧ v = 1 := by
        unfold stepQ at hv
        rw [if_neg n34, if_neg n34, if_pos e92] at hv
        split at hv
        · omega
        · split at hv <;> omega
      clear n34 e92 hv h
      rcases hs with ⟨rfl, rfl⟩ | ⟨rfl, rfl⟩ | ⟨rfl, rfl⟩
      all_goals
        go_enter Try.func37, Try.ntmps37
        go_wp2
        go_ret
        exact ⟨rfl, rfl⟩
  · have e34 : c = 34 := byte_is (d := 34) h34
    have hs : st = 0 ∧ v = 1 ∨ st = 1 ∧ v = 0 ∨ st = 2 ∧ v = 1 := by
      unfold stepQ at hv
      rw [if_pos e34, if_pos e34] at hv
      split at hv
      · omega
      · split at hv <;> omega
    clear e34 hv h
    rcases hs with ⟨rfl, rfl⟩ | ⟨rfl, rfl⟩ | ⟨rfl, rfl⟩
    all_goals
      go_enter Try.func37, Try.ntmps37
      go_wp2
      go_ret
      exact ⟨rfl, rfl⟩
def pcV (sep : UInt8) (l : List UInt8) : Value := .tuple #[.string (bs (pcL sep l).1), .string (bs (pcL sep l).2.1), .bool (pcL sep l).2.2]
set_option maxHeartbeats 1000000 in
theorem pieceCut_any (s : ByteArray) (sep : UInt8) (w : World) (hs : s.size ≤ 65000) :
    Calls Try.prog 24 #[.string s, .int .u8 (sep.toNat : Int)] w fun e w' => e = .returned (pcV sep s.data.toList) ∧ Below w.heap.size w w' := by
  have hz : s.data.toList.length = s.size := by simp
  go_enter Try.func24, Try.ntmps24
  go_wp2
  go_loop [7, 11] (fun p i => ∃ k st : Nat, k ≤ s.size ∧ st ≤ 2 ∧ p = .int .i64 (st : Int) ∧ i = .int .i64 k ∧ Box (pcL sep s.data.toList = pcAt sep st s.data.toList k)) (fun _ i => s.size - (intOf i).toNat)
  case atStart => exact ⟨0, 0, Nat.zero_le _, by omega, rfl, rfl, box (pc_start _ _)⟩
  case round =>
    obtain ⟨k, st, hk, hst, rfl, rfl, HC⟩ := hrel
    by_cases hlt : k < s.size
    · have hlt' : k < s.data.toList.length := by rw [hz]; exact hlt
      have hbk : s.data.toList[k] = s[k] := rfl
      rcases h0 : ((st : Int) == 0) with _ | _
      · have n0 : st ≠ 0 := by intro h; subst h; simp at h0
        have HX := box (HC.out.trans (pc_step hlt' (fun h => n0 h.1)))
        have hle := stepQ_le st s[k]
        rw [hbk] at HX
        clear hbk n0
        go_wp2_with fail
        refine (after_any st s[k] _ hst).mono ?_; rintro e w1 ⟨rfl, rfl⟩
        go_wp2
        go_round
        case rel => exact ⟨k + 1, stepQ st s[k], by omega, hle, rfl, by go_num, HX⟩
        case measure => simp [intOf]; omega
      · have e0 : st = 0 := by simpa using h0
        subst e0
        rcases h44 : ((s[k].toNat : Int) == (sep.toNat : Int)) with _ | _
        · have n44 : s[k] ≠ sep := byte_no h44
          have HX := box (HC.out.trans (pc_step hlt' (fun h => n44 h.2)))
          have hle := stepQ_le 0 s[k]
          rw [hbk] at HX
          clear hbk n44
          go_wp2_with fail
          refine (after_any 0 s[k] _ hst).mono ?_; rintro e w1 ⟨rfl, rfl⟩
          go_wp2
          go_round
          case rel => exact ⟨k + 1, stepQ 0 s[k], by omega, hle, rfl, by go_num, HX⟩
          case measure => simp [intOf]; omega
        · have HX := box (HC.out.trans (pc_sep hlt' (byte_is h44)))
          clear hbk
          go_wp2
          go_quiet (fail)
          go_wp2
          go_ret3
          refine ⟨?_, below_drewN _ _⟩
          unfold pcV
          rw [HX.out]
          show Ending.returned (.tuple #[.string (s.extract 0 k), .string (s.extract (k + 1) s.size), .bool true]) = _
          rw [ext_bs, ext_bs, List.drop_zero, List.take_of_length_le (i := s.size) (by simp)]
    · have HX := box (HC.out.trans (pc_end (l := s.data.toList) (by rw [hz]; omega)))
      go_wp2
      go_ret3
      refine ⟨?_, Below.refl _ _⟩
      unfold pcV
      rw [HX.out]
      rfl
end
section
open Go.RowKit
theorem aTrim_is {s x : ByteArray} {w : World} (hs : s.size ≤ maxLen) (h : Box (bs (trimL s.data.toList) = x)) :
    Calls Try.prog 34 #[.string s] w fun e w' => e = .returned (.string x) ∧ w = w' :=
  (Trim_any s w hs).mono fun e w' ⟨h1, h2⟩ => ⟨by rw [h1, ← h.out]; rfl, by first | exact h2 | exact h2.symm⟩
def AppRel (T : List (List UInt8)) (B n : Nat) (w : World) (v r m : Value) (wr : World) : Prop :=
  ∃ (M : List (List UInt8)) (t : ByteArray) (b : Bool), r = .string t ∧ m = .bool b ∧ t.size ≤ n ∧ M.length ≤ 64 ∧ T = addL M (moreL 44 b t.data.toList) ∧ OwnS wr B v (M.map bs) ∧ Below B w wr
def msr (m r : Value) : Nat := match m, r with | .bool true, .string t => t.size + 1 | _, _ => 0
set_option maxHeartbeats 4000000 in
theorem appMem_any (B : Nat) (v : Value) (A : List (List UInt8)) (s : ByteArray) (w : World) (hs : s.size ≤ 65000) (hO : Box (OwnS w B v (A.map bs))) (hB : B ≤ w.heap.size) (hA : A.length ≤ 64) :
    Calls Try.prog 21 #[v, .string s] w fun e w' => ∃ v', e = .returned v' ∧ OwnS w' B v' ((addL A (cutL 44 s.data.toList)).map bs) ∧ Below B w w' := by
  obtain ⟨T, hT⟩ : ∃ T, addL A (cutL 44 s.data.toList) = T := ⟨_, rfl⟩
  have HT := box hT
  rw [hT]
  clear hT
  obtain ⟨av, cv, rfl, _, _⟩ := hO.out.ss
  rw [List.length_map] at hO ⊢
  go_enter Try.func21, Try.ntmps21
  go_wp2
  go_loopw [0, 5, 6] (fun v r m wr => AppRel T B s.size w v r m wr) (fun _ r m _ => msr m r)
  case atStart => exact ⟨A, s, true, rfl, rfl, Nat.le_refl _, hA, HT.out.symm, hO.out, Below.refl _ _⟩
  case round =>
    obtain ⟨M, t, b, rfl, rfl, hts, hM, hTM, hOM, hbel⟩ := hrel
    have O0 := box hOM
    have BL := box hbel
    have HM := box hTM
    have hBw := Nat.le_trans hB hbel.size
    obtain ⟨av, cv, rfl, _, _⟩ := hOM.ss
    rw [List.length_map] at O0 ⊢
    clear hOM hbel hTM
    rcases b with _ | _
    · have HF : Box (T = M) := box (by rw [HM.out]; exact addL_nil hM)
      go_wp2
      go_ret
      exact ⟨_, rfl, by rw [HF.out]; exact O0.out, BL.out⟩
    · by_cases hm : M.length = 64
      · have hmi : ¬ (M.length : Int) < 64 := by omega
        have HF : Box (T = M) := box (by rw [HM.out]; exact addL_full hm)
        clear hm
        go_wp2
        go_ret
        exact ⟨_, rfl, by rw [HF.out]; exact O0.out, BL.out⟩
      · have hmi : (M.length : Int) < 64 := by omega
        have ht6 : t.size ≤ 65000 := by omega
        obtain ⟨p, r, m, hp⟩ : ∃ p r m, pcL 44 t.data.toList = (p, r, m) := ⟨_, _, _, rfl⟩
        have HV : Box (pcV 44 t.data.toList = .tuple #[.string (bs p), .string (bs r), .bool m]) := box (by unfold pcV; rw [hp])
        have hcut : T = addL M (p :: moreL 44 m r) := by
          have := cutL_pc (sep := 44) (by decide) t.data.toList
          rw [hp] at this
          rw [HM.out]
          show addL M (cutL 44 t.data.toList) = _
          rw [this]
        have hsz := pcF_size 44 t.data.toList 0 []
        rw [show pcF 44 0 t.data.toList [] = (p, r, m) from hp] at hsz
        simp only [List.length_nil, Nat.zero_add] at hsz
        rw [show t.data.toList.length = t.size from by simp] at hsz
        have hrz : (bs r).size ≤ s.size := by rw [bs_size]; omega
        have hms : Box (msr (.bool m) (.string (bs r)) < t.size + 1) := box (by
          cases m
          · exact Nat.zero_lt_succ _
          · show (bs r).size + 1 < t.size + 1
            rw [bs_size]; have := hsz.2 rfl; omega)
        have hpz : (bs p).size ≤ maxLen := by rw [bs_size]; unfold maxLen; omega
        have HCut := box hcut
        clear hp hcut hsz HM
        by_cases htr : trimL p = []
        · have HTr : Box (bs (trimL (bs p).data.toList) = ⟨#[]⟩) := box (by rw [bs_toList, htr]; rfl)
          have HN : Box (T = addL M (moreL 44 m (bs r).data.toList)) := box (by rw [HCut.out, addL_blank htr, bs_toList])
          clear HCut
          go_wp2_with fail
          refine (pieceCut_any t 44 _ ht6).mono ?_; rintro e w1 ⟨rfl, hb1⟩
          rw [HV.out]
          have O1 := box (own_below O0.out hb1)
          have B1 := box (BL.out.trans (hb1.mono hBw))
          clear hb1
          go_wp2_with fail
          refine (aTrim_is hpz HTr).mono ?_; rintro e w2 ⟨rfl, rfl⟩
          go_wp2
          go_roundw
          case rel => exact ⟨M, bs r, m, rfl, rfl, hrz, hM, HN.out, O1.out, B1.out⟩
          case measure => exact hms.out
        · obtain ⟨x, hx⟩ : ∃ x, bs (trimL p) = x := ⟨_, rfl⟩
          have HTr : Box (bs (trimL (bs p).data.toList) = x) := box (by rw [bs_toList, hx])
          have hxe : x.toList.isEmpty = false := by
            rw [← hx, toList_bs]
            cases h : trimL p with
            | nil => exact absurd h htr
            | cons c r => rfl
          have HN : Box (T = addL (M ++ [trimL p]) (moreL 44 m (bs r).data.toList)) := box (by rw [HCut.out, addL_more htr, bs_toList])
          have HX : Box ((M ++ [trimL p]).map bs = M.map bs ++ [x]) := box (by rw [List.map_append, List.map_cons, List.map_nil, hx])
          have hm6 : Box ((M.map bs).length ≤ 65536) := box (by rw [List.length_map]; omega)
          have hml : Box ((M ++ [trimL p]).length ≤ 64) := box (by rw [List.length_append]; simp; omega)
          clear HCut hx
          go_wp2_with fail
          refine (pieceCut_any t 44 _ ht6).mono ?_; rintro e w1 ⟨rfl, hb1⟩
          rw [HV.out]
          have O1 := box (own_below O0.out hb1)
          have B1 := box (BL.out.trans (hb1.mono hBw))
          have hBw1 := Nat.le_trans hBw hb1.size
          clear hb1
          go_wp2_with fail
          refine (aTrim_is hpz HTr).mono ?_; rintro e w2 ⟨rfl, rfl⟩
          go_wp2_with (at_builtin; refine wpList_append_str _ rfl (.tmp 26) (.tmp 28) rfl B _ (M.map bs) rfl ?a1 _ _ rfl x ?b1 ?c1 ?d1 ?_)
          case a1 => exact own_below O1.out (below_new _ _)
          case b1 => go_simp
          case c1 => exact hm6.out
          case d1 => simp; omega
          intro v3 w3 hO3 hb3
          have O3 := box hO3
          have B3 := box ((B1.out.alloc hBw1 _).trans hb3)
          clear hO3 hb3
          go_wp2
          go_roundw
          case rel => exact ⟨M ++ [trimL p], bs r, m, rfl, rfl, hrz, hml.out, HN.out, by rw [HX.out]; exact O3.out, B3.out⟩
          case measure => exact hms.out
set_option maxHeartbeats 4000000 in
theorem mAll_any (a : Option Addr) (cap : Nat) (L : List F) (nm : ByteArray) (w : World) (S : Box (Sm L)) (hv : Box (∀ x ∈ getL nm L, x.size ≤ 65000)) (M : Box (nm.size ≤ 65536)) (hF : Box (Fs w a L)) :
    Calls Try.prog 11 #[.slice a L.length cap, .string nm] w fun e w' => ∃ v, e = .returned v ∧ OwnS w' w.heap.size v (allB nm L) ∧ Below w.heap.size w w' := by
  obtain ⟨vs, hvs⟩ : ∃ vs, getL nm L = vs := ⟨_, rfl⟩
  have HVS := box hvs
  have HAL : Box (allB nm L = ((allF vs).take 64).map bs) := box (by unfold allB allL; rw [hvs])
  have hvl : vs.length ≤ 65536 := by
    have := get_le (nm := nm) (L := L) (k := L.length)
    rw [List.take_length, hvs] at this
    have := S.out.1; omega
  rw [hvs] at hv
  clear hvs
  have hl := S.out.1
  go_enter Try.func11, Try.ntmps11
  go_wp2_with fail
  refine (Get_any a cap L nm _ hl S M hF).mono ?_; rintro e w1 ⟨v1, rfl, hO1, hb1⟩
  rw [HVS.out] at hO1
  obtain ⟨a1, cap1, rfl, hS1, hc1⟩ := hO1.ss
  have S1 := box hS1
  have B1 := box hb1
  have hB1 := hb1.size
  clear hO1 hS1 hb1
  go_wp2
  go_loopw [5, 12] (fun v i wr => AllRel vs w1.heap.size w1 v i wr) (fun _ i _ => vs.length - (intOf i).toNat)
  case atStart => exact ⟨0, rfl, Nat.zero_le _, OwnS.nil _ _, Below.refl _ _⟩
  case round =>
    obtain ⟨k, rfl, hk, hO, hbel⟩ := hrel
    have O0 := box hO
    have BL := box hbel
    have hBw := hbel.size
    clear hO hbel
    by_cases hlt : k < vs.length
    · obtain ⟨q, off, rfl, c0⟩ := (S1.out.below BL.out) k hlt
      have hxz := hv.out vs[k] (List.getElem_mem hlt)
      have HN := box (addL_all hlt)
      have hA64 : ((allF (vs.take k)).take 64).length ≤ 64 := by rw [List.length_take]; omega
      go_wp2_with fail
      refine (appMem_any w1.heap.size _ _ vs[k] _ hxz O0 hBw hA64).mono ?_; rintro e w2 ⟨v2, rfl, hO2, hb2⟩
      have O2 := box hO2
      have B2 := box (BL.out.trans hb2)
      clear hO2 hb2 c0
      go_wp2
      go_roundw
      case rel => exact ⟨k + 1, by go_num, by omega, by rw [HN.out]; exact O2.out, B2.out⟩
      case measure => simp [intOf]; omega
    · have HF : Box ((allF (vs.take k)).take 64 = (allF vs).take 64) := box (by rw [List.take_of_length_le (l := vs) (by omega)])
      rw [HF.out] at O0
      go_wp2
      go_ret
      exact ⟨_, rfl, by rw [HAL.out]; exact Go.Joins.ownsRow_le O0.out hB1, B1.out.trans (BL.out.mono hB1)⟩
end
section
open Go.RowKit
/-- all blocks but b that hold no bytes are as they were -/
def KeepU (b : Nat) (w w' : World) : Prop := ∀ k cs T fr, k ≠ b → T ≠ 5 → w.heap[k]? = some (.cells cs T fr) → w'.heap[k]? = some (.cells cs T fr)
theorem KeepU.refl (b : Nat) (w : World) : KeepU b w w := fun _ _ _ _ _ _ h => h
theorem KeepU.trans {b : Nat} {w w1 w2 : World} (h1 : KeepU b w w1) (h2 : KeepU b w1 w2) : KeepU b w w2 := fun k cs T fr hk hT h => h2 k cs T fr hk hT (h1 k cs T fr hk hT h)
theorem KeepU.below {b : Nat} {w w' : World} (h : Below w.heap.size w w') : KeepU b w w' := fun k cs T fr _ _ hk => (h.block k (blk_lt hk)).trans hk
end
end Go.Proofs.Ytcnohcbhnldglaa.Asc
