/- Merged texts: VarSet VarRule VarVal VarAxP SelMine SelCnt SelMine2 SelMine3 GrpCon GrpMine. -/
import Derived.Test.YtklfpkaemnhdhaaGreatDoorZb02
import Derived.Test.YtklfpkaemnhdhaaGreatDoorZb04
import Derived.Test.YtklfpkaemnhdhaaGreatDoorZb05
import Derived.Test.YtklfpkaemnhdhaaGreatDoorZb06
import Derived.Test.YtklfpkaemnhdhaaGreatDoorZb07
import Derived.Test.YtklfpkaemnhdhaaGreatDoorZb08
import Derived.Test.YtklfpkaemnhdhaaGreatDoorZb09
import Derived.Test.YtklfpkaemnhdhaaGreatDoorZb11
import Derived.Test.YtklfpkaemnhdhaaGreatDoorZb12
import Derived.Test.YtklfpkaemnhdhaaGreatDoorZb13
import Derived.Test.YtklfpkaemnhdhaaGreatDoorZb14
import Derived.Handy
import Derived.Maps.OwnSet
set_option linter.unusedVariables false
set_option linter.unusedSimpArgs false
set_option maxRecDepth 100000
namespace Go.Proofs.YtklfpkaemnhdhaaGreatDoor.Asc
section
open Go.RowKit Go.Maps
theorem lawStr : Keyed Tryz.prog 9 := string_keyed Tryz.underlying9
theorem zeroB15 (w : World) : (zeroValue 4).run Tryz.prog w = .ok (.bool false) w := by kernel_rfl
def skey (s : ByteArray) : Lit := .string s.data.toList
theorem skey_of {s : ByteArray} (h : s.size ≤ maxLen) : keyOf Tryz.prog 9 (.string s) = some (skey s) := by
  simp [keyOf, mapKey, Tryz.underlying9, h, skey]
theorem skey_ne {s t : ByteArray} (h : s ≠ t) : skey s ≠ skey t := by
  unfold skey
  intro e
  refine h ?_
  have : s.data.toList = t.data.toList := by simpa using e
  rw [bs_of s, bs_of t, this]
/-- block b is a set of at most n strings: those of which S says so -/
def SSet (w : World) (b n : Nat) (S : ByteArray → Bool) : Prop :=
  ∃ D : DataW Unit, w.ownsMap Tryz.prog 9 (plainElem Tryz.prog 4) b n D ∧ ∀ s, s.size ≤ maxLen → D.atKey (skey s) (.lit (.bool false)) = .lit (.bool (S s))
def noS : ByteArray → Bool := fun _ => false
def andS (S : ByteArray → Bool) (s : ByteArray) : ByteArray → Bool := fun x => S x || decide (x = s)
theorem SSet.made (w : World) : SSet (w.alloc (.map #[] 0)) w.heap.size 0 noS :=
  ⟨_, World.ownsMap_made _ _ _ _, fun s _ => Maps.atKey_of_not_has (by simp [Maps.has]) _⟩
section
variable {w w' : World} {b n : Nat} {S : ByteArray → Bool}
theorem SSet.below {B : Nat} (h : SSet w b n S) (hb : Below B w w') (hB : b < B) : SSet w' b n S := by
  obtain ⟨D, ⟨es, clock, h1, r⟩, h2⟩ := h
  exact ⟨D, ⟨es, clock, (hb.block b hB).trans h1, r⟩, h2⟩
theorem SSet.lt (h : SSet w b n S) : b < w.heap.size := by obtain ⟨D, h1, h2⟩ := h; exact h1.lt
theorem SSet.mono {m : Nat} (h : SSet w b n S) (hm : n ≤ m) : SSet w b m S := by obtain ⟨D, h1, h2⟩ := h; exact ⟨D, h1.mono hm, h2⟩
theorem SSet.same {T : ByteArray → Bool} (h : SSet w b n S) (hT : ∀ s, S s = T s) : SSet w b n T := by
  obtain ⟨D, h1, h2⟩ := h
  exact ⟨D, h1, fun s hs => by rw [h2 s hs, hT]⟩
theorem SSet.put {s : ByteArray} (h : SSet w b n S) (hs : s.size ≤ maxLen) (hn : n < maxLen) :
    ∃ w', (Instr.mapUpdate 91 (.map (some b)) (.string s) (.bool true)).run Tryz.prog w = .ok () w' ∧ SSet w' b (n + 1) (andS S s) ∧ w.grownBy w' (some b) := by
  obtain ⟨D, h1, h2⟩ := h
  obtain ⟨w', r1, r2, r3⟩ := h1.update lawStr Tryz.underlying91 hn (skey_of hs) (plainElem_bool Tryz.underlying4 true)
  refine ⟨w', r1, ⟨_, r2, fun t ht => ?_⟩, r3⟩
  by_cases e : t = s
  · subst e
    rw [Maps.atKey_put_same h1.isMap (lawStr.key (skey_of hs))]
    simp [andS]
  · rw [Maps.atKey_put_other (skey_ne e), h2 t ht]
    simp [andS, e]
theorem SSet.look {s : ByteArray} (h : SSet w b n S) (hs : s.size ≤ maxLen) :
    (Instr.lookup 91 (.map (some b)) (.string s) false).run Tryz.prog w = .ok (.bool (S s)) w := by
  obtain ⟨D, h1, h2⟩ := h
  obtain ⟨v, ps, hrun, hv⟩ := h1.lookup lawStr Tryz.underlying91 (zeroB15 w) (plainElem_bool Tryz.underlying4 false) (skey_of hs)
  rw [h2 s hs] at hv
  rw [hrun]
  have : v = .bool (S s) := by
    unfold plainElem at hv
    rw [Tryz.underlying4] at hv
    cases v <;> simp at hv
    rw [hv.1]
  rw [this]
end
theorem makeMap15 (w : World) : (Instr.makeMap 91 none).run Tryz.prog w = .ok (.map (some w.heap.size)) (w.alloc (.map #[] 0)) := by
  simp [Instr.makeMap, run_underlying Tryz.underlying91, Result.andThen]
theorem andS_in {S : ByteArray → Bool} {s : ByteArray} (h : S s = true) : ∀ x, S x = andS S s x := by
  intro x
  unfold andS
  by_cases e : x = s
  · subst e; rw [h]; simp
  · simp [e]
/-- add: was the string not there? behind it, it is -/
theorem add_any (b n : Nat) (S : ByteArray → Bool) (s : ByteArray) (q : Bool) (w : World) (hs : s.size ≤ maxLen) (hn : n < maxLen) (h : Box (SSet w b n S)) (hq : Box (S s = q)) :
    Calls Tryz.prog 68 #[.map (some b), .string s] w fun e w' => e = .returned (.bool (!q)) ∧ SSet w' b (n + 1) (andS S s) ∧ Below b w w' := by
  have hL := h.out.look hs
  obtain ⟨w2, hP, hS2, hg⟩ := h.out.put hs hn
  rw [hq.out] at hL
  have H2 := box (And.intro hS2 hg)
  clear hS2 hg
  cases q with
  | true =>
    go_enter Tryz.func68, Tryz.ntmps68
    go_wp2
    go_ret
    exact ⟨rfl, (h.out.same (andS_in hq.out)).mono (Nat.le_succ _), Below.refl _ _⟩
  | false =>
    go_enter Tryz.func68, Tryz.ntmps68
    go_wp2
    go_ret
    exact ⟨rfl, H2.out.1, (Below.refl _ _).grown H2.out.2 (Nat.le_of_lt h.out.lt) (fun k hk => by cases hk; exact Nat.le_refl _)⟩
end
section
open Go.RowKit
/-- what values that are the Same have in common -/
def formF (n x : ByteArray) : ByteArray :=
  if kindN n = 1 ∨ kindN n = 2 then bs (lowL x.data.toList) else if kindN n = 3 ∨ kindN n = 4 then bs (canL (kindN n) x.data.toList) else x
theorem form_same (n x y : ByteArray) : sameV n x y = decide (formF n x = formF n y) := by
  unfold sameV formF
  split
  · unfold foldL
    exact decide_eq_decide.2 ⟨fun h => by rw [h], fun h => bs_inj h⟩
  · split
    · exact decide_eq_decide.2 ⟨fun h => by rw [h], fun h => bs_inj h⟩
    · rfl
theorem form_size {n x : ByteArray} (h : x.size ≤ 65000) : (formF n x).size ≤ 65000 := by
  unfold formF
  have h1 : (lowL x.data.toList).length = x.size := by simp [lowL]
  split
  · rw [bs_size]; omega
  · split
    · rw [bs_size]; have := can_len (kindN n) x.data.toList; have : x.data.toList.length = x.size := by simp
      omega
    · exact h
/-- q and the first j names -/
def inN (L : List F) (j : Nat) : ByteArray → Bool := fun x => decide (x = qName) || (List.range j).any fun i => decide (atP L i = x)
theorem inN_zero (L : List F) (x : ByteArray) : andS noS qName x = inN L 0 x := by unfold andS noS inN; simp
theorem inN_more (L : List F) (j : Nat) (x : ByteArray) : andS (inN L j) (atP L j) x = inN L (j + 1) x := by
  unfold andS inN
  rw [List.range_succ, List.any_append]
  simp only [List.any_cons, List.any_nil, Bool.or_false, Bool.or_assoc]
  congr 2
  exact decide_eq_decide.2 ⟨Eq.symm, Eq.symm⟩
theorem inN_at (L : List F) (j : Nat) : (newP L j j && decide (atP L j ≠ qName)) = !inN L j (atP L j) := by
  unfold newP inN
  rw [Bool.not_or, Bool.and_comm]
  congr 1
  · simp
  · rw [Bool.eq_iff_iff, List.all_eq_true, Bool.not_eq_true', List.any_eq_false]
    constructor
    · intro h i hi; have := h i hi; simp at this; simpa using fun e => this e.symm
    · intro h i hi; have := h i hi; simp at this; simpa using fun e => this e.symm
def DiRel (L : List F) (W : World) (i : Value) (wr : World) : Prop :=
  ∃ j : Nat, i = .int .i64 j ∧ j ≤ L.length ∧ ownP L j = true ∧ Box (SSet wr W.heap.size (j + 1) (inN L j)) ∧ Box (Below W.heap.size W wr)
set_option maxHeartbeats 1000000 in
theorem distinct_any (a : Option Addr) (cap : Nat) (L : List F) (z : Bool) (w : World) (hl : L.length ≤ 65536) (hz : Box (∀ i (hi : i < L.length), L[i].1.size ≤ 65536)) (hF : Box (Fs w a L)) (hv : Box (ownP L L.length = z)) :
    Calls Tryz.prog 218 #[.slice a L.length cap] w fun e w' => e = .returned (.bool z) ∧ Below w.heap.size w w' := by
  obtain ⟨w2, hP, hS2, hg⟩ := (SSet.made w).put (s := ⟨#[113]⟩) (by decide) (by decide)
  have S2 : Box (SSet w2 w.heap.size 1 (inN L 0)) := box (hS2.same (inN_zero L))
  have B2 := box ((below_new w (.map #[] 0)).grown hg (below_new w _).size (fun k hk => by cases hk; exact Nat.le_refl _))
  clear hS2 hg
  have hmm := makeMap15 w
  go_enter Tryz.func218, Tryz.ntmps218
  go_wp2
  go_loopw [10] (fun i wr => DiRel L w i wr) (fun i _ => L.length - (intOf i).toNat)
  case atStart => exact ⟨0, rfl, Nat.zero_le _, rfl, S2, B2⟩
  case round =>
    obtain ⟨j, rfl, hj, ho, hS, hB⟩ := hrel
    have HO := box ho
    clear ho
    by_cases hlt : j < L.length
    · obtain ⟨g, off, rfl, c0, c1⟩ := (hF.out.below hB.out) j hlt
      have hs1 := hz.out j hlt
      have hat := atP_is hlt
      obtain ⟨⟨nm, v⟩, hnm⟩ : ∃ p, L[j] = p := ⟨_, rfl⟩
      rw [hnm] at c0 c1 hs1 hat
      simp only at c0 c1 hs1 hat
      have hno : (newP L j j && decide (atP L j ≠ qName)) = !inN L j nm := by rw [inN_at, hat]
      have hsm : nm.size ≤ maxLen := by unfold maxLen; omega
      have HSM := box hsm
      clear hsm
      have hjm : j + 1 < maxLen := by unfold maxLen; omega
      have HJM := box hjm
      clear hjm
      have hw1 := hS.out.lt
      have BN := box (below_new wr (.cells #[.string nm, .string v] 109))
      have S3 := box (hS.out.below BN.out hw1)
      have B3 := box (hB.out.trans (BN.out.mono (Nat.le_of_lt hw1)))
      obtain ⟨q, hq⟩ : ∃ q, inN L j nm = q := ⟨_, rfl⟩
      rw [hq] at hno
      have HQ := box hq
      have HN := box hno
      clear hq hno
      go_wp2_with fail
      refine (add_any w.heap.size (j + 1) (inN L j) nm q _ HSM.out HJM.out S3 HQ).mono ?_; rintro e w4 ⟨rfl, hS4, hb4⟩
      have S4 : Box (SSet w4 w.heap.size (j + 1 + 1) (inN L (j + 1))) := box (hS4.same (fun x => by rw [← hat]; exact inN_more L j x))
      have B4 := box (B3.out.trans hb4)
      clear hS4 hb4 c0 c1 hat hnm
      cases q with
      | true =>
        have HZ : Box (z = false) := box (by
          rw [← hv.out]
          exact range_no (f := fun i => newP L i i && decide (atP L i ≠ qName)) hlt HN.out)
        go_wp2
        go_ret
        exact ⟨by rw [HZ.out]; rfl, B4.out⟩
      | false =>
        have HO2 : Box (ownP L (j + 1) = true) := box (by rw [ownP_more, HO.out, HN.out]; rfl)
        go_wp2
        go_roundw
        case rel => exact ⟨j + 1, by go_num, by omega, HO2.out, S4, B4⟩
        case measure => simp [intOf]; omega
    · obtain rfl : j = L.length := by omega
      have HZ : Box (z = true) := box (by rw [← hv.out]; exact HO.out)
      go_wp2
      go_ret
      exact ⟨by rw [HZ.out]; rfl, hB.out⟩
theorem mMedia15_is {x a b : ByteArray} {L : List F} {q : Bool} {w : World} (hx : x.size ≤ 65000) (h : Box (ofM (mediaL x.data.toList) = (a, b, L) ∧ (mediaL x.data.toList).isSome = q)) :
    Calls Tryz.prog 120 #[.string x] w fun e w' => ∃ p c, e = .returned (.tuple #[.agg #[.string a, .string b, .slice p L.length c], .bool q]) ∧ Fs w' p L ∧ Below w.heap.size w w' := by
  refine (mMedia_any x w hx).mono ?_
  rintro e w' ⟨v, rfl, hO, hb⟩
  obtain ⟨h1, h2⟩ := h.out
  rw [h1] at hO ⊢
  obtain ⟨p, c, rfl, hF, _⟩ := hO.fs
  exact ⟨p, c, by rw [h2], hF, hb⟩
theorem mCan15_is {k : Int} {s x : ByteArray} {w : World} (hk : InI64 k) (hs : s.size ≤ 65000) (h : Box (bs (canL k s.data.toList) = x)) :
    Calls Tryz.prog 143 #[.int .i64 k, .string s] w fun e w' => e = .returned (.string x) ∧ Below w.heap.size w w' :=
  (mCan_any k s w hk (by omega)).mono fun e w' ⟨h1, h2⟩ => ⟨by rw [h1, h.out], h2⟩
theorem aText15_is {s : ByteArray} {b : Bool} {w : World} (hs : s.size ≤ maxLen) (h : Box (textL s.data.toList = b)) :
    Calls Tryz.prog 188 #[.string s] w fun e w' => e = .returned (.bool b) ∧ w = w' :=
  (Text_any s w hs).mono fun e w' ⟨h1, h2⟩ => ⟨by rw [h1, h.out], h2⟩
theorem mKind15_is {n : ByteArray} {k : Int} {w : World} (hn : n.size ≤ 65000) (h : Box (kindN n = k)) :
    Calls Tryz.prog 107 #[.string n] w fun e w' => e = .returned (.int .i64 k) ∧ Below w.heap.size w w' :=
  (mKind_any n w (by omega)).mono fun e w' ⟨h1, h2⟩ => ⟨by rw [h1, h.out], h2⟩
/-- a method form: what it returns for the axis n -/
def FormIs (n : ByteArray) (fn : Nat) (r : Value) : Prop := ∀ (x : ByteArray) (w : World), x.size ≤ 65000 →
  Calls Tryz.prog fn #[r, .string x] w fun e w' => e = .returned (.tuple #[.string (formF n x), .bool (valueV n x)]) ∧ Below w.heap.size w w'
set_option maxHeartbeats 1000000 in
theorem form1_any (n : ByteArray) (hk : kindN n = 1) : FormIs n 217 (.agg #[]) := by
  intro x w hx
  obtain ⟨⟨ta, tb, L⟩, hM⟩ : ∃ m, ofM (mediaL x.data.toList) = m := ⟨_, rfl⟩
  obtain ⟨q, hq⟩ : ∃ q, (mediaL x.data.toList).isSome = q := ⟨_, rfl⟩
  have HM := box (And.intro hM hq)
  obtain ⟨z, hz⟩ : ∃ z, ownP L L.length = z := ⟨_, rfl⟩
  have HV : Box (valueV n x = (q && z)) := box (by unfold valueV; rw [if_pos hk, hM, hq]; exact congrArg _ hz)
  have HF : Box (bs (lowL x.data.toList) = formF n x) := box (by unfold formF; rw [if_pos (.inl hk)])
  obtain ⟨hL6, hsz, _⟩ := media_len hM
  have HSZ : Box (∀ i (hi : i < L.length), L[i].1.size ≤ 65536) := box (fun i hi => by have := (hsz i hi).1; omega)
  have hL7 : L.length ≤ 65536 := by omega
  have HZ := box hz
  have hx4 : x.size ≤ 4294967296 := by omega
  clear hM hq hL6 hsz hz hk
  have B0 := box (below_new w (.cells #[] 133))
  rw [HV.out]
  generalize formF n x = f at HF
  clear HV
  go_enter Tryz.func217, Tryz.ntmps217
  go_wp2_with fail
  refine (mMedia15_is hx HM).mono ?_; rintro e w2 ⟨p, c, rfl, hF, hb2⟩
  have B2 := box (B0.out.trans (hb2.mono B0.out.size))
  have F2 := box hF
  have hs2 := B2.out.size
  clear hb2 hF
  have BN := box (below_new w2 (.cells #[.string ta, .string tb, .slice p L.length c] 77))
  have hC := C3.new (.string ta) (.string tb) (.slice p L.length c) w2 77
  have B3 := box (B2.out.trans (BN.out.mono hs2))
  go_wp2_with fail
  refine (aLower_is hx4 HF).mono ?_; rintro e w3 ⟨rfl, hb3⟩
  have B4 := box (B3.out.trans (hb3.mono B3.out.size))
  have F4 := box (F2.out.below (BN.out.trans (hb3.mono BN.out.size)))
  obtain ⟨⟨r0, r1, r2⟩, _⟩ := hC.next hb3
  clear hC hb3
  cases q with
  | false =>
    go_wp2
    go_ret2
    exact ⟨rfl, B4.out⟩
  | true =>
    go_wp2_with fail
    refine (distinct_any p c L z _ hL7 HSZ F4 HZ).mono ?_; rintro e w5 ⟨rfl, hb5⟩
    have B5 := box (B4.out.trans (hb5.mono B4.out.size))
    clear hb5
    go_wp2
    go_ret2
    exact ⟨rfl, B5.out⟩
theorem form2_any (n : ByteArray) (hk : kindN n = 2) : FormIs n 219 (.agg #[]) := by
  intro x w hx
  obtain ⟨q, hq⟩ : ∃ q, tagL x.data.toList = q := ⟨_, rfl⟩
  have HV : Box (valueV n x = q) := box (by unfold valueV; rw [if_neg (by omega), if_pos hk, hq])
  have HF : Box (bs (lowL x.data.toList) = formF n x) := box (by unfold formF; rw [if_pos (.inr hk)])
  have HQ := box hq
  have hx4 : x.size ≤ 4294967296 := by omega
  clear hq hk
  have B0 := box (below_new w (.cells #[] 134))
  rw [HV.out]
  generalize formF n x = f at HF
  clear HV
  go_enter Tryz.func219, Tryz.ntmps219
  go_wp2_with fail
  refine (aLower_is hx4 HF).mono ?_; rintro e w3 ⟨rfl, hb3⟩
  have B4 := box (B0.out.trans (hb3.mono B0.out.size))
  clear hb3
  go_wp2_with fail
  refine (mTagM_is hx HQ).mono ?_; rintro e w5 ⟨rfl, hb5⟩
  have B5 := box (B4.out.trans (hb5.mono B4.out.size))
  clear hb5
  go_wp2
  go_ret2
  exact ⟨rfl, B5.out⟩
theorem form3_any (n : ByteArray) (k : Int) (h34 : k = 3 ∨ k = 4) (hk : kindN n = k) : FormIs n 220 (.agg #[.int .i64 k]) := by
  intro x w hx
  obtain ⟨q, hq⟩ : ∃ q, tokL x.data.toList = q := ⟨_, rfl⟩
  obtain ⟨z, hz⟩ : ∃ z, (!(x.toList == [42])) = z := ⟨_, rfl⟩
  have HV : Box (valueV n x = (q && z)) := box (by
    unfold valueV; rw [if_neg (by omega), if_neg (by omega), if_pos (by omega), hq, ← hz, show ([42] : List UInt8) = star.toList from by rw [toList_data]; rfl, ne_toList])
  have HF : Box (bs (canL k x.data.toList) = formF n x) := box (by unfold formF; rw [if_neg (by omega), if_pos (by omega), hk])
  have HQ := box hq
  have hk64 : InI64 k := by constructor <;> omega
  have HX : Box (x.size ≤ maxLen) := box (by unfold maxLen; omega)
  clear hq hk
  have B0 := box (below_new w (.cells #[.int .i64 k] 136))
  rw [HV.out]
  generalize formF n x = f at HF
  clear HV h34
  go_enter Tryz.func220, Tryz.ntmps220
  go_wp2_with fail
  refine (mCan15_is hk64 hx HF).mono ?_; rintro e w3 ⟨rfl, hb3⟩
  have B4 := box (B0.out.trans (hb3.mono B0.out.size))
  clear hb3
  go_wp2_with fail
  refine (aToken_is HX.out HQ).mono ?_; rintro e w5 ⟨rfl, rfl⟩
  cases q with
  | false =>
    go_wp2
    go_ret2
    exact ⟨rfl, B4.out⟩
  | true =>
    go_wp2
    go_ret2
    exact ⟨rfl, B4.out⟩
theorem from1_any (m k : Int) (w : World) : Calls Tryz.prog 66 #[.int .i64 m, .int .i64 k] w fun e w' => e = .returned (.bool (decide (1 ≤ k) && decide (k ≤ m))) ∧ w = w' := by
  by_cases h : 1 ≤ k
  · rw [decide_eq_true h]
    go_enter Tryz.func66, Tryz.ntmps66
    go_wp2
    go_ret
    exact ⟨rfl, rfl⟩
  · rw [decide_eq_false h]
    go_enter Tryz.func66, Tryz.ntmps66
    go_wp2
    go_ret
    exact ⟨rfl, rfl⟩
theorem from1_is {m k : Int} {q : Bool} {w : World} (h : Box ((decide (1 ≤ k) && decide (k ≤ m)) = q)) : Calls Tryz.prog 66 #[.int .i64 m, .int .i64 k] w fun e w' => e = .returned (.bool q) ∧ w = w' :=
  (from1_any m k w).mono fun e w' ⟨h1, h2⟩ => ⟨by rw [h1, h.out], h2⟩
set_option maxHeartbeats 1000000 in
theorem form0_any (n : ByteArray) (hk : kindN n = 0) : FormIs n 221 (.agg #[]) := by
  intro x w hx
  obtain ⟨p, hp⟩ : ∃ p, (decide (1 ≤ (x.size : Int)) && decide ((x.size : Int) ≤ 100)) = p := ⟨_, rfl⟩
  obtain ⟨q, hq⟩ : ∃ q, textL x.data.toList = q := ⟨_, rfl⟩
  obtain ⟨t, ht⟩ : ∃ t, bs (trimL x.data.toList) = t := ⟨_, rfl⟩
  obtain ⟨z, hz⟩ : ∃ z, (t.toList == x.toList) = z := ⟨_, rfl⟩
  have HV : Box (valueV n x = (p && q && z)) := box (by
    unfold valueV
    rw [if_neg (by omega), if_neg (by omega), if_neg (by omega), hq, ← hp, ← hz, ← ht, toList_bs]
    congr 1
    · congr 1
      congr 1
      · exact decide_eq_decide.2 (by omega)
      · exact decide_eq_decide.2 (by omega)
    · rw [toList_data]
      by_cases e : trimL x.data.toList = x.data.toList
      · rw [decide_eq_true e, beq_iff_eq.2 e]
      · rw [decide_eq_false e, beq_eq_false_iff_ne.2 e])
  have HF : Box (formF n x = x) := box (by unfold formF; rw [if_neg (by omega), if_neg (by omega)])
  have HP := box hp
  have HQ := box hq
  have HT := box ht
  have HX : Box (x.size ≤ maxLen) := box (by unfold maxLen; omega)
  clear hp hq ht hk
  have B0 := box (below_new w (.cells #[] 137))
  rw [HV.out, HF.out]
  clear HV HF
  go_enter Tryz.func221, Tryz.ntmps221
  go_wp2_with fail
  refine (from1_is HP).mono ?_; rintro e w3 ⟨rfl, rfl⟩
  cases p with
  | false =>
    go_wp2
    go_ret2
    exact ⟨rfl, B0.out⟩
  | true =>
    go_wp2_with fail
    refine (aText15_is HX.out HQ).mono ?_; rintro e w5 ⟨rfl, rfl⟩
    cases q with
    | false =>
      go_wp2
      go_ret2
      exact ⟨rfl, B0.out⟩
    | true =>
      go_wp2_with fail
      refine (aTrim_is HX.out HT).mono ?_; rintro e w6 ⟨rfl, rfl⟩
      go_wp2
      go_ret2
      exact ⟨rfl, B0.out⟩
/-- an interface value whose method form is the axis n's -/
def RuleIs (n : ByteArray) (v : Value) : Prop := ∃ (T : TypeId) (r : Value) (fn : Nat), v = .iface T r ∧ FormIs n fn r ∧
  (∀ k w, (method (k + 2) T r "variantproxy/variants.form").run Tryz.prog w = .ok (fn, r) w) ∧ (∀ a w, (callFunc fn a).run Tryz.prog w = .ok (.enter fn a) w)
theorem ruleOf_any (n : ByteArray) (w : World) (hn : n.size ≤ 65000) :
    Calls Tryz.prog 101 #[.string n] w fun e w' => ∃ v, e = .returned v ∧ RuleIs n v ∧ Below w.heap.size w w' := by
  rcases kind_five n with hk | hk | hk | hk | hk
  · have R : Box (RuleIs n (.iface 133 (.agg #[]))) := box ⟨_, _, _, rfl, form1_any n hk, fun k w => by rfl, fun a w => by rfl⟩
    have HK := box hk
    clear hk
    go_enter Tryz.func101, Tryz.ntmps101
    go_wp2_with fail
    refine (mKind15_is hn HK).mono ?_; rintro e w1 ⟨rfl, hb1⟩
    have B1 := box hb1
    clear hb1
    go_wp2
    go_ret
    exact ⟨_, rfl, R.out, B1.out⟩
  · have R : Box (RuleIs n (.iface 134 (.agg #[]))) := box ⟨_, _, _, rfl, form2_any n hk, fun k w => by rfl, fun a w => by rfl⟩
    have HK := box hk
    clear hk
    go_enter Tryz.func101, Tryz.ntmps101
    go_wp2_with fail
    refine (mKind15_is hn HK).mono ?_; rintro e w1 ⟨rfl, hb1⟩
    have B1 := box hb1
    clear hb1
    go_wp2
    go_ret
    exact ⟨_, rfl, R.out, B1.out⟩
  · have R : Box (RuleIs n (.iface 136 (.agg #[.int .i64 3]))) := box ⟨_, _, _, rfl, form3_any n 3 (.inl rfl) hk, fun k w => by rfl, fun a w => by rfl⟩
    have HK := box hk
    clear hk
    go_enter Tryz.func101, Tryz.ntmps101
    go_wp2_with fail
    refine (mKind15_is hn HK).mono ?_; rintro e w1 ⟨rfl, hb1⟩
    have B1 := box hb1
    clear hb1
    go_wp2
    go_ret
    exact ⟨_, rfl, R.out, B1.out⟩
  · have R : Box (RuleIs n (.iface 136 (.agg #[.int .i64 4]))) := box ⟨_, _, _, rfl, form3_any n 4 (.inr rfl) hk, fun k w => by rfl, fun a w => by rfl⟩
    have HK := box hk
    clear hk
    go_enter Tryz.func101, Tryz.ntmps101
    go_wp2_with fail
    refine (mKind15_is hn HK).mono ?_; rintro e w1 ⟨rfl, hb1⟩
    have B1 := box hb1
    clear hb1
    go_wp2
    go_ret
    exact ⟨_, rfl, R.out, B1.out⟩
  · have R : Box (RuleIs n (.iface 137 (.agg #[]))) := box ⟨_, _, _, rfl, form0_any n hk, fun k w => by rfl, fun a w => by rfl⟩
    have HK := box hk
    clear hk
    go_enter Tryz.func101, Tryz.ntmps101
    go_wp2_with fail
    refine (mKind15_is hn HK).mono ?_; rintro e w1 ⟨rfl, hb1⟩
    have B1 := box hb1
    clear hb1
    go_wp2
    go_ret
    exact ⟨_, rfl, R.out, B1.out⟩
end
section
open Go.RowKit
/-- a rule's method, one string -/
theorem form_is {n x f : ByteArray} {q : Bool} {fn : Nat} {r : Value} {w : World} (h : FormIs n fn r) (hx : x.size ≤ 65000) (hq : Box (formF n x = f ∧ valueV n x = q)) :
    Calls Tryz.prog fn #[r, .string x] w fun e w' => e = .returned (.tuple #[.string f, .bool q]) ∧ Below w.heap.size w w' :=
  (h x w hx).mono fun e w' ⟨h1, h2⟩ => ⟨by rw [h1, hq.out.1, hq.out.2], h2⟩
end
section
open Go.RowKit
def lowT (n : ByteArray) : Bool := tokL n.data.toList && decide (lowL n.data.toList = n.data.toList)
theorem lowTok_any (n : ByteArray) (z : Bool) (w : World) (hn : n.size ≤ 65000) (hz : Box (lowT n = z)) :
    Calls Tryz.prog 100 #[.string n] w fun e w' => e = .returned (.bool z) ∧ Below w.heap.size w w' := by
  obtain ⟨q, hq⟩ : ∃ q, tokL n.data.toList = q := ⟨_, rfl⟩
  obtain ⟨x, hx⟩ : ∃ x, bs (lowL n.data.toList) = x := ⟨_, rfl⟩
  obtain ⟨p, hp⟩ : ∃ p, (x.toList == n.toList) = p := ⟨_, rfl⟩
  have HZ : Box (z = (q && p)) := box (by
    rw [← hz.out]
    unfold lowT
    rw [hq, ← hp, ← hx, toList_bs, toList_data]
    congr 1
    by_cases e : lowL n.data.toList = n.data.toList
    · rw [decide_eq_true e, beq_iff_eq.2 e]
    · rw [decide_eq_false e, beq_eq_false_iff_ne.2 e])
  have HQ := box hq
  have HX := box hx
  have HM : Box (n.size ≤ maxLen) := box (by unfold maxLen; omega)
  have hn4 : n.size ≤ 4294967296 := by omega
  clear hq hx hz
  rw [HZ.out]
  clear HZ
  go_enter Tryz.func100, Tryz.ntmps100
  go_wp2_with fail
  refine (aToken_is HM.out HQ).mono ?_; rintro e w1 ⟨rfl, rfl⟩
  cases q with
  | false =>
    go_wp2
    go_ret
    exact ⟨rfl, Below.refl _ _⟩
  | true =>
    go_wp2_with fail
    refine (aLower_is hn4 HX).mono ?_; rintro e w2 ⟨rfl, hb2⟩
    have B2 := box hb2
    clear hb2
    go_wp2
    go_ret
    exact ⟨rfl, B2.out⟩
/-- the forms of the first j values -/
def inV (n : ByteArray) (V : List ByteArray) (j : Nat) : ByteArray → Bool := fun f => (List.range j).any fun i => decide (formF n (atS V i) = f)
theorem inV_more (n : ByteArray) (V : List ByteArray) (j : Nat) (f : ByteArray) : andS (inV n V j) (formF n (atS V j)) f = inV n V (j + 1) f := by
  unfold andS inV
  rw [List.range_succ, List.any_append]
  simp only [List.any_cons, List.any_nil, Bool.or_false]
  congr 1
  exact decide_eq_decide.2 ⟨Eq.symm, Eq.symm⟩
theorem any_not_all {l : List Nat} {p q : Nat → Bool} (h : ∀ i, p i = !q i) : l.all p = !l.any q := by
  induction l with
  | nil => rfl
  | cons a l ih => rw [List.all_cons, List.any_cons, ih, h, Bool.not_or]
theorem inV_at (n : ByteArray) (V : List ByteArray) (j : Nat) : newV n V j j = !inV n V j (formF n (atS V j)) := by
  unfold newV inV
  refine any_not_all fun i => ?_
  rw [form_same]
  congr 1
  exact decide_eq_decide.2 ⟨Eq.symm, Eq.symm⟩
def VaAx (n : ByteArray) (V : List ByteArray) (W : World) (b : Nat) (i : Value) (wr : World) : Prop :=
  ∃ j : Nat, i = .int .i64 j ∧ j ≤ V.length ∧ Box (valsV n V j = true) ∧ Box (SSet wr b j (inV n V j)) ∧ Box (Below W.heap.size W wr)
set_option maxHeartbeats 2000000 in
theorem validAx_any (n : ByteArray) (a : Option Addr) (c : Nat) (V : List ByteArray) (z : Bool) (w : World) (hn : n.size ≤ 65000) (hl : V.length ≤ 65536) (hz : Box (∀ i (hi : i < V.length), V[i].size ≤ 65000)) (hF : Box (Ss w a V)) (hv : Box (validA (n, V) = z)) :
    Calls Tryz.prog 67 #[.agg #[.string n, .slice a V.length c]] w fun e w' => e = .returned (.bool z) ∧ Below w.heap.size w w' := by
  obtain ⟨q, hq⟩ : ∃ q, lowT n = q := ⟨_, rfl⟩
  obtain ⟨p, hp⟩ : ∃ p, (decide (1 ≤ (V.length : Int)) && decide ((V.length : Int) ≤ 16)) = p := ⟨_, rfl⟩
  have HH : Box (headV n V = (q && p)) := box (by
    unfold headV
    rw [← hq, ← hp]
    unfold lowT
    rw [Bool.and_assoc (tokL n.data.toList && decide (lowL n.data.toList = n.data.toList))]
    congr 1
    congr 1
    · exact decide_eq_decide.2 (by omega)
    · exact decide_eq_decide.2 (by omega))
  have HQ := box hq
  have HP := box hp
  have B0 := box (below_new w (.cells #[.string n, .slice a V.length c] 39))
  have hC := C2.new (.string n) (.slice a V.length c) w 39
  clear hq hp
  go_enter Tryz.func67, Tryz.ntmps67
  go_wp2_with fail
  refine (lowTok_any n q _ hn HQ).mono ?_; rintro e w1 ⟨rfl, hb1⟩
  have C1 := box (hC.next hb1)
  have B1 := box (B0.out.trans (hb1.mono B0.out.size))
  clear hC hb1
  obtain ⟨⟨r0, r1⟩, _⟩ := C1.out
  cases q with
  | false =>
    have HZ : Box (z = false) := box (by rw [← hv.out]; unfold validA; rw [show headV (n, V).1 (n, V).2 = false from HH.out]; rfl)
    go_wp2
    go_ret
    exact ⟨by rw [HZ.out]; rfl, B1.out⟩
  | true =>
    go_wp2_with fail
    refine (from1_is HP).mono ?_; rintro e w2 ⟨rfl, rfl⟩
    cases p with
    | false =>
      have HZ : Box (z = false) := box (by rw [← hv.out]; unfold validA; rw [show headV (n, V).1 (n, V).2 = false from HH.out]; rfl)
      go_wp2
      go_ret
      exact ⟨by rw [HZ.out]; rfl, B1.out⟩
    | true =>
      have HZ : Box (valsV n V V.length = z) := box (by rw [← hv.out]; unfold validA; rw [show headV (n, V).1 (n, V).2 = true from HH.out]; rfl)
      go_wp2_with fail
      refine (ruleOf_any n _ hn).mono ?_; rintro e w3 ⟨v, rfl, ⟨T, r, fn, rfl, hFm, hM, hCf⟩, hb3⟩
      have B3 := box (B1.out.trans (hb3.mono B1.out.size))
      have HF := box hFm
      obtain ⟨⟨s0, s1⟩, _⟩ := C1.out.next hb3
      clear hb3 hFm r0 r1
      have hmm := makeMap15 w3
      obtain ⟨b, hb⟩ : ∃ b, w3.heap.size = b := ⟨_, rfl⟩
      have hwb : w.heap.size ≤ b := by rw [← hb]; exact B3.out.size
      have hM3 := below_new w3 (.map #[] 0)
      have S4 : Box (SSet (w3.alloc (.map #[] 0)) b 0 (inV n V 0)) := box (by
        have h := SSet.made w3
        rw [hb] at h
        exact h.same (fun s => rfl))
      have B4 := box (B3.out.trans (hM3.mono B3.out.size))
      have t0 := (hM3.cell (cell_lt s0)).trans s0
      have t1 := (hM3.cell (cell_lt s1)).trans s1
      rw [hb] at hmm
      have HB := box hb
      clear hM3 s0 s1 hb
      go_wp2
      go_loopw [27] (fun i wr => VaAx n V w b i wr) (fun i _ => V.length - (intOf i).toNat)
      case atStart => exact ⟨0, rfl, Nat.zero_le _, box rfl, S4, B4⟩
      case round =>
        obtain ⟨j, rfl, hj, HO, hS, hB⟩ := hrel
        clear t0 t1
        by_cases hlt : j < V.length
        · obtain ⟨g, off, rfl, c0⟩ := (hF.out.below hB.out) j hlt
          have hs1 := hz.out j hlt
          have hat := atS_is hlt
          have hno := inV_at n V j
          have hmo := valsV_more n V j
          obtain ⟨x, hx⟩ : ∃ x, V[j] = x := ⟨_, rfl⟩
          rw [hx] at c0 hs1 hat
          rw [hat] at hno hmo
          obtain ⟨f, hf⟩ : ∃ f, formF n x = f := ⟨_, rfl⟩
          obtain ⟨p, hp⟩ : ∃ p, valueV n x = p := ⟨_, rfl⟩
          obtain ⟨d, hd⟩ : ∃ d, inV n V j f = d := ⟨_, rfl⟩
          rw [hf, hd] at hno
          rw [hp, hno] at hmo
          have HMO := box hmo
          have HFP := box (And.intro hf hp)
          have HD := box hd
          have HSM : Box (f.size ≤ maxLen) := box (by
            have := form_size (n := n) hs1
            rw [hf] at this
            unfold maxLen; omega)
          have HJM : Box (j < maxLen) := box (by unfold maxLen; omega)
          have HIN : Box (∀ g, andS (inV n V j) f g = inV n V (j + 1) g) := box (fun g => by rw [← hf, ← hat]; exact inV_more n V j g)
          have hw1 := hS.out.lt
          clear hno hmo hf hp hd hat hx
          go_wp2_with fail
          refine (form_is HF.out hs1 HFP).mono ?_; rintro e w5 ⟨rfl, hb5⟩
          have S5 := box (hS.out.below hb5 hw1)
          have B5 := box (hB.out.trans (hb5.mono (Nat.le_trans hwb (Nat.le_of_lt hw1))))
          clear hb5 c0
          cases p with
          | false =>
            have HZ2 : Box (z = false) := box (by
              rw [← HZ.out]
              exact vals_no hlt (by
                have := HMO.out
                rw [valsV_more, HO.out] at this
                simpa using this))
            go_wp2
            go_ret
            exact ⟨by rw [HZ2.out]; rfl, B5.out⟩
          | true =>
            go_wp2_with fail
            refine (add_any b j (inV n V j) f d _ HSM.out HJM.out S5 HD).mono ?_; rintro e w6 ⟨rfl, hS6, hb6⟩
            have S6 := box (hS6.same HIN.out)
            have B6 := box (B5.out.trans (hb6.mono hwb))
            clear hS6 hb6
            cases d with
            | true =>
              have HZ2 : Box (z = false) := box (by
                rw [← HZ.out]
                exact vals_no hlt (by
                  have := HMO.out
                  rw [valsV_more, HO.out] at this
                  simpa using this))
              go_wp2
              go_ret
              exact ⟨by rw [HZ2.out]; rfl, B6.out⟩
            | false =>
              have HO2 : Box (valsV n V (j + 1) = true) := box (by rw [HMO.out, HO.out]; rfl)
              go_wp2
              go_roundw
              case rel => exact ⟨j + 1, by go_num, by omega, HO2, S6, B6⟩
              case measure => simp [intOf]; omega
        · obtain rfl : j = V.length := by omega
          have HZ2 : Box (z = true) := box (by rw [← HZ.out]; exact HO.out)
          go_wp2
          go_ret
          exact ⟨by rw [HZ2.out]; rfl, hB.out⟩
/-- the names of the first j axes -/
def inA (L : List AX) (j : Nat) : ByteArray → Bool := fun x => (List.range j).any fun i => decide ((atA L i).1 = x)
theorem inA_more (L : List AX) (j : Nat) (x : ByteArray) : andS (inA L j) (atA L j).1 x = inA L (j + 1) x := by
  unfold andS inA
  rw [List.range_succ, List.any_append]
  simp only [List.any_cons, List.any_nil, Bool.or_false]
  congr 1
  exact decide_eq_decide.2 ⟨Eq.symm, Eq.symm⟩
theorem inA_at (L : List AX) (j : Nat) : newA L j j = !inA L j (atA L j).1 := by
  unfold newA inA
  refine any_not_all fun i => ?_
  by_cases e : (atA L j).1 = (atA L i).1
  · simp [e]
  · rw [decide_eq_true e, decide_eq_false (fun h => e h.symm)]; rfl
def VaLi (L : List AX) (W : World) (i : Value) (wr : World) : Prop :=
  ∃ j : Nat, i = .int .i64 j ∧ j ≤ L.length ∧ Box (axesV L j = true) ∧ Box (SSet wr W.heap.size j (inA L j)) ∧ Box (Below W.heap.size W wr)
set_option maxHeartbeats 2000000 in
theorem mValid_any (a : Option Addr) (cap : Nat) (L : List AX) (w : World) (hl : L.length ≤ 65536) (hz : Box (smallA L)) (hF : Box (Axs w a L)) :
    Calls Tryz.prog 34 #[.slice a L.length cap] w fun e w' => e = .returned (.bool (validX L)) ∧ Below w.heap.size w w' := by
  obtain ⟨z, hv⟩ : ∃ z, validX L = z := ⟨_, rfl⟩
  obtain ⟨p, hp⟩ : ∃ p, (decide (1 ≤ (L.length : Int)) && decide ((L.length : Int) ≤ 4)) = p := ⟨_, rfl⟩
  have HV : Box (z = (p && axesV L L.length)) := box (by
    rw [← hv, ← hp]
    unfold validX
    congr 1
    congr 1
    · exact decide_eq_decide.2 (by omega)
    · exact decide_eq_decide.2 (by omega))
  have HP := box hp
  rw [hv]
  clear hp hv
  have hmm := makeMap15 w
  have S1 : Box (SSet (w.alloc (.map #[] 0)) w.heap.size 0 (inA L 0)) := box ((SSet.made w).same (fun s => rfl))
  have B1 := box (below_new w (.map #[] 0))
  go_enter Tryz.func34, Tryz.ntmps34
  go_wp2_with fail
  refine (from1_is HP).mono ?_; rintro e w1 ⟨rfl, rfl⟩
  cases p with
  | false =>
    go_wp2
    go_ret
    exact ⟨by rw [HV.out]; rfl, Below.refl _ _⟩
  | true =>
    have HZ : Box (axesV L L.length = z) := box (by rw [HV.out]; rfl)
    clear HV
    go_wp2
    go_loopw [13] (fun i wr => VaLi L w i wr) (fun i _ => L.length - (intOf i).toNat)
    case atStart => exact ⟨0, rfl, Nat.zero_le _, box rfl, S1, B1⟩
    case round =>
      obtain ⟨j, rfl, hj, HO, hS, hB⟩ := hrel
      by_cases hlt : j < L.length
      · obtain ⟨g, off, u, rfl, c0, c1, b, cc, rfl, hss, _⟩ := (hF.out.below hB.out) j hlt
        obtain ⟨z1, z2, z3⟩ := hz.out j hlt
        have hat := atA_is hlt
        have hno := inA_at L j
        have hmo := axesV_more L j
        have hin := inA_more L j
        obtain ⟨⟨nm, V⟩, hx⟩ : ∃ x, L[j] = x := ⟨_, rfl⟩
        rw [hx] at hat
        have e1 : L[j].1 = nm := by rw [hx]
        have e2 : L[j].2 = V := by rw [hx]
        rw [e1] at c0 z1
        have z4 : ∀ i (hi : i < V.length), V[i].size ≤ 65000 := fun i hi => by subst e2; exact z3 i hi
        clear z3
        rw [e2] at c1 z2 hss
        rw [hat] at hno hmo hin
        simp only at hno hin
        obtain ⟨p, hp⟩ : ∃ p, validA (nm, V) = p := ⟨_, rfl⟩
        obtain ⟨d, hd⟩ : ∃ d, inA L j nm = d := ⟨_, rfl⟩
        rw [hd] at hno
        rw [hp, hno] at hmo
        have HMO := box hmo
        have HPV := box hp
        have HD := box hd
        have HIN := box hin
        have HSM : Box (nm.size ≤ maxLen) := box (by unfold maxLen; omega)
        have HJM : Box (j < maxLen) := box (by unfold maxLen; omega)
        have HZ4 := box z4
        have hw1 := hS.out.lt
        have BN := box (below_new wr (.cells #[.string nm, .slice b V.length cc] 39))
        have hC := C2.new (.string nm) (.slice b V.length cc) wr 39
        have HSS := box (hss.below BN.out)
        clear hno hmo hp hd hin hat hx e1 e2 z4 hss
        go_wp2_with fail
        refine (validAx_any nm b cc V p _ z1 z2 HZ4 HSS HPV).mono ?_; rintro e w5 ⟨rfl, hb5⟩
        have hb6 := BN.out.trans (hb5.mono BN.out.size)
        have S5 := box (hS.out.below hb6 hw1)
        have B5 := box (hB.out.trans (hb6.mono (Nat.le_of_lt hw1)))
        obtain ⟨⟨r0, r1⟩, _⟩ := hC.next hb5
        clear hb5 hb6 c0 c1 hC
        cases p with
        | false =>
          have HZ2 : Box (z = false) := box (by
            rw [← HZ.out]
            exact axes_no hlt (by
              have := HMO.out
              rw [axesV_more, HO.out] at this
              simpa using this))
          go_wp2
          go_ret
          exact ⟨by rw [HZ2.out]; rfl, B5.out⟩
        | true =>
          go_wp2_with fail
          refine (add_any w.heap.size j (inA L j) nm d _ HSM.out HJM.out S5 HD).mono ?_; rintro e w6 ⟨rfl, hS6, hb6⟩
          have S6 := box (hS6.same HIN.out)
          have B6 := box (B5.out.trans hb6)
          clear hS6 hb6 r0 r1
          cases d with
          | true =>
            have HZ2 : Box (z = false) := box (by
              rw [← HZ.out]
              exact axes_no hlt (by
                have := HMO.out
                rw [axesV_more, HO.out] at this
                simpa using this))
            go_wp2
            go_ret
            exact ⟨by rw [HZ2.out]; rfl, B6.out⟩
          | false =>
            have HO2 : Box (axesV L (j + 1) = true) := box (by rw [HMO.out, HO.out]; rfl)
            go_wp2
            go_roundw
            case rel => exact ⟨j + 1, by go_num, by omega, HO2, S6, B6⟩
            case measure => simp [intOf]; omega
      · obtain rfl : j = L.length := by omega
        have HZ2 : Box (z = true) := box (by rw [← HZ.out]; exact HO.out)
        go_wp2
        go_ret
        exact ⟨by rw [HZ2.out]; rfl, hB.out⟩
end
section
open Go.RowKit
theorem hasS_take {V : List ByteArray} {x : ByteArray} {k : Nat} (h : k < V.length) : hasS (V.take (k + 1)) x = (hasS (V.take k) x || decide (V[k] = x)) := by
  unfold hasS
  rw [List.take_succ_eq_append_getElem h, List.any_append]
  simp
theorem hasS_at {V : List ByteArray} {x : ByteArray} {k : Nat} (h : k < V.length) (hx : V[k] = x) : hasS V x = true := hasS_iff.2 (by rw [← hx]; exact List.getElem_mem h)
def IxPost (V : List ByteArray) (x : ByteArray) (e : Ending) : Prop := (hasS V x = false ∧ e = .returned (.int .i64 (-1))) ∨ (hasS V x = true ∧ ∃ j : Nat, e = .returned (.int .i64 j))
def IxRel (V : List ByteArray) (x : ByteArray) (W : World) (i : Value) (wr : World) : Prop := ∃ k : Nat, k ≤ V.length ∧ i = .int .i64 k ∧ hasS (V.take k) x = false ∧ wr = W
set_option maxHeartbeats 800000 in
theorem index17_any (a : Option Addr) (cap : Nat) (V : List ByteArray) (x : ByteArray) (w : World) (hl : V.length ≤ 65536) (hV : Box (Ss w a V)) :
    Calls Tryz.prog 134 #[.slice a V.length cap, .string x] w fun e w' => IxPost V x e ∧ w' = w := by
  go_enter Tryz.func134, Tryz.ntmps134
  go_wp2
  go_loopw [8] (fun i wr => IxRel V x w i wr) (fun i _ => V.length - (intOf i).toNat)
  case atStart => exact ⟨0, Nat.zero_le _, rfl, rfl, rfl⟩
  case round =>
    obtain ⟨k, hk, rfl, hno, rfl⟩ := hrel
    have HNO := box hno
    clear hno
    by_cases hlt : k < V.length
    · have hki : (k : Int) < (V.length : Int) := by omega
      have hk0 : (0 : Int) ≤ (k : Int) := by omega
      obtain ⟨y, hy⟩ : ∃ y, V[k] = y := ⟨_, rfl⟩
      obtain ⟨g, off, rfl, c0⟩ := hV.out k hlt
      rw [hy] at c0
      rcases hq : (x.toList == y.toList) with _ | _
      · have HN2 : Box (hasS (V.take (k + 1)) x = false) := box (by
          rw [hasS_take hlt, HNO.out, hy, Bool.false_or]
          exact decide_eq_false (fun e => by rw [e] at hq; simp at hq))
        clear hy
        go_wp2
        go_roundw
        case rel => exact ⟨k + 1, by omega, by go_num, HN2.out, rfl⟩
        case measure => simp [intOf]; omega
      · have HN2 : Box (hasS V x = true) := box (hasS_at hlt (by rw [hy]; exact (str_eq hq).symm))
        clear hy
        go_wp2
        go_ret
        exact ⟨.inr ⟨HN2.out, k, rfl⟩, rfl⟩
    · have hki : ¬ (k : Int) < (V.length : Int) := by omega
      have HN2 : Box (hasS V x = false) := box (by have := HNO.out; rw [show k = V.length from by omega, List.take_length] at this; exact this)
      go_wp2
      go_ret
      exact ⟨.inl ⟨HN2.out, rfl⟩, rfl⟩
theorem contains17_is {a : Option Addr} {cap n : Nat} {V : List ByteArray} {x : ByteArray} {q : Bool} {w : World} (hl : V.length ≤ 65536) (hV : Ss w a V) (h : Box (hasS V x = q)) (hn : Box (V.length = n)) :
    Calls Tryz.prog 109 #[.slice a n cap, .string x] w fun e w' => e = .returned (.bool q) ∧ w' = w := by
  have HI := index17_any a cap V x w hl (box hV)
  rw [hn.out] at HI
  have HB := box HI
  clear HI
  go_enter Tryz.func109, Tryz.ntmps109
  go_wp2_with fail
  refine HB.out.mono ?_; rintro e w1 ⟨hp, rfl⟩
  rcases hp with ⟨h1, rfl⟩ | ⟨h1, j, rfl⟩
  · have HQ : Box (q = false) := box (by rw [← h.out]; exact h1)
    go_wp2
    go_ret
    exact ⟨by rw [HQ.out]; rfl, rfl⟩
  · have HQ : Box (q = true) := box (by rw [← h.out]; exact h1)
    have hj : (0 : Int) ≤ (j : Int) := by omega
    go_wp2
    go_ret
    exact ⟨by rw [HQ.out]; simp, rfl⟩
theorem mKind17_is {n : ByteArray} {k : Int} {w : World} (hn : n.size ≤ 65536) (h : Box (kindN n = k)) :
    Calls Tryz.prog 107 #[.string n] w fun e w' => e = .returned (.int .i64 k) ∧ Below w.heap.size w w' :=
  mKind_is hn h
theorem mPrefs17_is {k : Int} {a : Option Addr} {cap n : Nat} {L : List F} {X : List QP} {o : Bool} {w : World} (hk : InI64 k) (FL : Box (FitL L)) (hF : Fs w a L) (hW : Wts w) (h : Box (prefsV k L = X ∧ prefsO k L = o)) (hn : Box (L.length = n)) :
    Calls Tryz.prog 42 #[.int .i64 k, .slice a n cap] w fun e w' => ∃ p c, e = .returned (.tuple #[.slice p X.length c, .bool o]) ∧ Qs w' p X ∧ Below w.heap.size w w' :=
  mPrefs_is hk (box FL.out.1) (box (FL.out.vals _)) hF hW h hn
theorem mAll17_is {a : Option Addr} {cap n : Nat} {L : List F} {nm : ByteArray} {M : List ByteArray} {w : World} (FL : Box (FitL L)) (hm : nm.size ≤ 65536) (hF : Fs w a L) (h : Box (allB nm L = M)) (hn : Box (L.length = n)) :
    Calls Tryz.prog 77 #[.slice a n cap, .string nm] w fun e w' => ∃ v, e = .returned v ∧ OwnS w' w.heap.size v M ∧ Below w.heap.size w w' := by
  have := mAll_any a cap L nm w (box FL.out.1) (vals_of (box (FL.out.vals nm))) (box hm) (box hF)
  rw [h.out, hn.out] at this; exact this
theorem mJoin17_is {a : Option Addr} {cap : Nat} {L : List ByteArray} {x : ByteArray} {w : World} (hl : L.length ≤ 65536) (hc : L.length ≤ cap) (hz : Box (∀ x ∈ L, x.size ≤ 65536)) (hF : Ss w a L) (h : Box (joinB L = x)) :
    Calls Tryz.prog 80 #[.slice a L.length cap] w fun e w' => e = .returned (.string x) ∧ Below w.heap.size w w' :=
  (mJoin_any a cap L w hl hc hz (box hF)).mono fun e w' ⟨h1, h2⟩ => ⟨by rw [h1, h.out], h2⟩
theorem mRank17_is {k : Int} {a b : Option Addr} {cap cb n : Nat} {L : List QP} {present : Bool} {V R : List ByteArray} {w : World} {qf : ByteArray → Int} (hk : InI64 k) (hl : L.length ≤ 65536) (hz : Box (∀ i (hi : i < L.length), L[i].1.size ≤ 20000)) (hvl : V.length ≤ 65536) (hvz : Box (∀ i (hi : i < V.length), V[i].size ≤ 20000)) (hF : Qs w a L) (hS : Ss w b V) (HQF : Box (∀ v : ByteArray, qualR k L present v.data.toList = qf v)) (hR : Box (rankQ qf V = R)) (hn : Box (V.length = n)) :
    Calls Tryz.prog 108 #[.int .i64 k, .slice a L.length cap, .bool present, .slice b n cb] w fun e w' => OwnPost w R e w' := by
  have := mRank0_any k a b cap cb L present V w hk hl hz hvl hvz (box hF) (box hS)
  rw [show (fun v : ByteArray => qualR k L present v.data.toList) = qf from funext HQF.out, hR.out, hn.out] at this
  exact this
set_option maxHeartbeats 4000000 in
theorem mAcc_any (n : ByteArray) (b : Option Addr) (c : Nat) (V : List ByteArray) (a : Option Addr) (cap : Nat) (L : List F) (w : World) (hva : Box (validA (n, V) = true)) (hn : n.size ≤ 20000) (hl : V.length ≤ 65536) (hz : Box (∀ i (hi : i < V.length), V[i].size ≤ 20000)) (FL : Box (FitL L)) (hV : Box (Ss w b V)) (hF : Box (Fs w a L)) (hW : Wts w) :
    Calls Tryz.prog 72 #[.agg #[.string n, .slice b V.length c], .slice a L.length cap] w fun e w' => OwnPost w (accS (n, V) L) e w' := by
  obtain ⟨A, hA⟩ : ∃ A, accS (n, V) L = A := ⟨_, rfl⟩
  rw [hA]
  obtain ⟨nv, hnv⟩ : ∃ nv, V.length = nv := ⟨_, rfl⟩
  have HNV := box hnv
  rw [hnv]
  obtain ⟨nl, hnl⟩ : ∃ nl, L.length = nl := ⟨_, rfl⟩
  have HNL := box hnl
  rw [hnl]
  have n65 : n.size ≤ 65536 := by omega
  have C0 := box (C2.new (.string n) (.slice b nv c) w 39)
  have B0 := box (below_new w (.cells #[.string n, .slice b nv c] 39))
  obtain ⟨w0, hw0⟩ : ∃ w0, w.alloc (.cells #[.string n, .slice b nv c] 39) = w0 := ⟨_, rfl⟩
  have HW0 := box hw0
  rw [hw0] at C0 B0
  have hs0 := B0.out.size
  have V0 := box (hV.out.below B0.out)
  have F0 := box (hF.out.below B0.out)
  have T0 := box (hW.below B0.out)
  obtain ⟨k, hk⟩ : ∃ k, kindN n = k := ⟨_, rfl⟩
  have HK := box hk
  have hki : InI64 k := by rw [← hk]; exact kindN_i64 n
  have c00 := C0.out.1.1
  have c01 := C0.out.1.2
  by_cases hk0 : k = 0
  · obtain ⟨M, hM⟩ : ∃ M, allB n L = M := ⟨_, rfl⟩
    have HM := box hM
    have hml : M.length ≤ 65536 := by rw [← hM]; have := allB_len n L; omega
    have HMz : Box (∀ x ∈ M, x.size ≤ 65536) := box (by rw [← hM]; exact allB_small (FL.out.vals n))
    obtain ⟨h, hh⟩ : ∃ h, joinB M = h := ⟨_, rfl⟩
    have HJ := box hh
    obtain ⟨q, hq⟩ : ∃ q, hasS V h = q := ⟨_, rfl⟩
    have HQ := box hq
    have HA : Box (A = if q = true then [h] else []) := box (by
      have h1 := acc_other (L := L) hva.out (by show kindN n = 0; rw [hk, hk0])
      rw [← hA, h1]
      show (if hasS V (joinB (allB n L)) = true then [joinB (allB n L)] else []) = _
      rw [hM, hh, hq])
    subst hk0
    clear hA hk hM hh hq hnv hnl hw0 hW
    go_enter Tryz.func72, Tryz.ntmps72
    go_wp2_with fail
    rw [HW0.out]
    refine (mKind17_is n65 HK).mono ?_; rintro e w1 ⟨rfl, hb1⟩
    have B1 := box hb1
    have C1 := box (C0.out.below B1.out C0.out.lt)
    have F1 := box (F0.out.below B1.out)
    have d00 := C1.out.1.1
    have d01 := C1.out.1.2
    clear hb1 c00 c01
    go_wp2_with fail
    refine (mAll17_is FL n65 F1.out HM HNL).mono ?_; rintro e w2 ⟨v2, rfl, hO2, hb2⟩
    obtain ⟨a2, c2, rfl, hS2, hc2⟩ := hO2.ss
    have S2 := box hS2
    have B2 := box (B1.out.trans (hb2.mono B1.out.size))
    clear hO2 hS2 hb2 d00 d01
    go_wp2_with fail
    refine (mJoin17_is hml hc2 HMz S2.out HJ).mono ?_; rintro e w3 ⟨rfl, hb3⟩
    have B3 := box (B2.out.trans (hb3.mono B2.out.size))
    have C3 := box (C0.out.below B3.out C0.out.lt)
    have V3 := box (V0.out.below B3.out)
    have e00 := C3.out.1.1
    have e01 := C3.out.1.2
    clear hb3
    go_wp2_with fail
    refine (contains17_is hl V3.out HQ HNV).mono ?_; rintro e w4 ⟨rfl, rfl⟩
    have BR := box (B0.out.trans (B3.out.mono hs0))
    cases q with
    | true =>
      have HA1 : Box (A = [h]) := box (by rw [HA.out]; rfl)
      go_wp2
      go_ret
      exact ⟨_, rfl, by rw [HA1.out]; exact Go.Joins.ownsRow_le (ss_one17 _ _) BR.out.size, BR.out.alloc BR.out.size _⟩
    | false =>
      have HA1 : Box (A = []) := box (by rw [HA.out]; rfl)
      go_wp2
      go_ret
      exact ⟨_, rfl, by rw [HA1.out]; exact OwnS.nil _ _, BR.out⟩
  · have hke : (k == 0) = false := by rw [beq_eq_false_iff_ne]; exact hk0
    have hke2 : (k != 0) = true := by simp [hk0]
    obtain ⟨X, hX⟩ : ∃ X, prefsV k L = X := ⟨_, rfl⟩
    obtain ⟨o, ho⟩ : ∃ o, prefsO k L = o := ⟨_, rfl⟩
    have HP : Box (prefsV k L = X ∧ prefsO k L = o) := box ⟨hX, ho⟩
    have hxl : X.length ≤ 65536 := by rw [← hX]; exact prefs17_len _ _
    have HXz : Box (∀ i (hi : i < X.length), X[i].1.size ≤ 20000) := box (by rw [← hX]; exact prefs17_small FL.out.2)
    have HQF : Box (∀ v : ByteArray, qualR k X o v.data.toList = qlS (n, V) L v) := box (fun v => by unfold qlS; rw [hk, hX, ho])
    have HRK : Box (rankQ (qlS (n, V) L) V = A) := box (by rw [← hA]; unfold accS; rw [if_neg (by show ¬ kindN n = 0; rw [hk]; exact hk0)])
    clear hA hk hX ho hnv hnl hw0 hW
    go_enter Tryz.func72, Tryz.ntmps72
    go_wp2_with fail
    rw [HW0.out]
    refine (mKind17_is n65 HK).mono ?_; rintro e w1 ⟨rfl, hb1⟩
    have B1 := box hb1
    have F1 := box (F0.out.below B1.out)
    have T1 := T0.out.below B1.out
    clear hb1 c00 c01
    go_wp2_with fail
    refine (mPrefs17_is hki FL F1.out T1 HP HNL).mono ?_; rintro e w2 ⟨p2, c2, rfl, hQ2, hb2⟩
    have Q2 := box hQ2
    have B2 := box (B1.out.trans (hb2.mono B1.out.size))
    have C2 := box (C0.out.below B2.out C0.out.lt)
    have V2 := box (V0.out.below B2.out)
    have d00 := C2.out.1.1
    have d01 := C2.out.1.2
    clear hQ2 hb2 T1
    go_wp2_with fail
    refine (mRank17_is hki hxl HXz hl hz Q2.out V2.out HQF HRK HNV).mono ?_; rintro e w3 ⟨v3, rfl, hO3, hb3⟩
    have B3 := box (B2.out.trans (hb3.mono B2.out.size))
    have BR := box (B0.out.trans (B3.out.mono hs0))
    have O3 := box (show OwnS w3 w.heap.size v3 A from Go.Joins.ownsRow_le hO3 (Nat.le_trans hs0 B2.out.size))
    clear hb3 hO3
    go_wp2
    go_ret
    exact ⟨_, rfl, O3.out, BR.out⟩
theorem validX_one (x : AX) : validX [x] = validA x := by
  unfold validX axesV
  show (decide (1 ≤ 1) && decide (1 ≤ 4) && ((List.range 1).all fun i => validA (atA [x] i) && newA [x] i i)) = validA x
  have h1 : newA [x] 0 0 = true := by unfold newA; simp
  rw [show List.range 1 = [0] from rfl, List.all_cons, List.all_nil, h1]
  show (true && true && (validA x && true && true)) = _
  cases validA x <;> rfl
theorem axs_one {n : ByteArray} {v : Value} {V : List ByteArray} (w : World) (h : SsV w v V) : Axs (w.alloc (.cells #[.string n, v] 39)) (some ⟨w.heap.size, 0, none⟩) [(n, V)] := by
  intro i hi
  have hc := C2.new (.string n) v w 39
  match i, hi with
  | 0, _ => exact ⟨w.heap.size, 0, v, rfl, hc.1.1, hc.1.2, h.below (below_new _ _)⟩
theorem mValidOne_is {n : ByteArray} {V : List ByteArray} {g : Nat} {q : Bool} {w : World} (hn : n.size ≤ 20000) (hl : V.length ≤ 65000) (hz : Box (∀ i (hi : i < V.length), V[i].size ≤ 20000)) (hF : Axs w (some ⟨g, 0, none⟩) [(n, V)]) (h : Box (validA (n, V) = q)) :
    Calls Tryz.prog 34 #[.slice (some ⟨g, 0, none⟩) 1 1] w fun e w' => e = .returned (.bool q) ∧ Below w.heap.size w w' := by
  have hsm : smallA [(n, V)] := by
    intro i hi
    match i, hi with
    | 0, _ => exact ⟨by show n.size ≤ _; omega, by show V.length ≤ _; omega, fun j hj => by have := hz.out j hj; show V[j].size ≤ _; omega⟩
  have := mValid_any (some ⟨g, 0, none⟩) 1 [(n, V)] w (by simp) (box hsm) (box hF)
  rw [validX_one, h.out] at this
  exact this
theorem mAcc_is {n : ByteArray} {b : Option Addr} {c nv : Nat} {V A : List ByteArray} {a : Option Addr} {cap nl : Nat} {L : List F} {w : World} (hva : Box (validA (n, V) = true)) (hn : n.size ≤ 20000) (hl : V.length ≤ 65536) (hz : Box (∀ i (hi : i < V.length), V[i].size ≤ 20000)) (FL : Box (FitL L)) (hV : Ss w b V) (hF : Fs w a L) (hW : Wts w) (h : Box (accS (n, V) L = A)) (hnv : Box (V.length = nv)) (hnl : Box (L.length = nl)) :
    Calls Tryz.prog 72 #[.agg #[.string n, .slice b nv c], .slice a nl cap] w fun e w' => OwnPost w A e w' := by
  have := mAcc_any n b c V a cap L w hva hn hl hz FL (box hV) (box hF) hW
  rw [h.out, hnv.out, hnl.out] at this; exact this
set_option maxHeartbeats 4000000 in
theorem mRanked_any (n : ByteArray) (b : Option Addr) (c : Nat) (V : List ByteArray) (a : Option Addr) (cap : Nat) (L : List F) (st : Bool) (w : World) (hn : n.size ≤ 20000) (hl : V.length ≤ 65000) (hc : V.length ≤ c) (hz : Box (∀ i (hi : i < V.length), V[i].size ≤ 20000)) (FL : Box (FitL L)) (hV : Box (Ss w b V)) (hF : Box (Fs w a L)) (hW : Wts w) :
    Calls Tryz.prog 37 #[.agg #[.string n, .slice b V.length c], .slice a L.length cap, .bool st] w fun e w' => OwnPost w (rankS (n, V) L st) e w' := by
  obtain ⟨R, hR⟩ : ∃ R, rankS (n, V) L st = R := ⟨_, rfl⟩
  rw [hR]
  have hV' := hV.out
  have hAX : Box (SsV w (.slice b V.length c) V) := box ⟨b, c, rfl, hV.out, hc⟩
  obtain ⟨nv, hnv⟩ : ∃ nv, V.length = nv := ⟨_, rfl⟩
  have HNV := box hnv
  rw [hnv] at hAX ⊢
  obtain ⟨nl, hnl⟩ : ∃ nl, L.length = nl := ⟨_, rfl⟩
  have HNL := box hnl
  rw [hnl]
  have hv6 : V.length ≤ 65536 := by omega
  have C0 := box (C2.new (.string n) (.slice b nv c) w 39)
  have B0 := box (below_new w (.cells #[.string n, .slice b nv c] 39))
  have A0 := box (hAX.out.below B0.out)
  obtain ⟨w0, hw0⟩ : ∃ w0, w.alloc (.cells #[.string n, .slice b nv c] 39) = w0 := ⟨_, rfl⟩
  have HW0 := box hw0
  rw [hw0] at C0 B0 A0
  have hs0 := B0.out.size
  have V0 := box (hV.out.below B0.out)
  have F0 := box (hF.out.below B0.out)
  have T0 := box (hW.below B0.out)
  have HS0 : Box (w0.heap.size = w.heap.size + 1) := box (by rw [← hw0]; simp)
  have AX0 : Box (Axs (w0.alloc (.cells #[.string n, .slice b nv c] 39)) (some ⟨w.heap.size + 1, 0, none⟩) [(n, V)]) := box (by rw [← HS0.out]; exact axs_one (n := n) w0 A0.out)
  have BN := box (below_new w0 (.cells #[.string n, .slice b nv c] 39))
  have c00 := C0.out.1.1
  have c01 := C0.out.1.2
  cases hva : validA (n, V) with
  | false =>
    have HVA := box hva
    have HR : Box (R = []) := box (by rw [← hR, rankS_bad hva])
    clear hva hR hnv hnl hw0 hW hV'
    go_enter Tryz.func37, Tryz.ntmps37
    go_wp2_with fail
    rw [HW0.out]
    refine (mValidOne_is hn hl hz AX0.out HVA).mono ?_; rintro e w1 ⟨rfl, hb1⟩
    have B1 := box (B0.out.trans ((BN.out.trans (hb1.mono BN.out.size)).mono hs0))
    clear hb1
    go_wp2
    go_ret
    exact ⟨_, rfl, by rw [HR.out]; exact OwnS.nil _ _, B1.out⟩
  | true =>
    have HVA := box hva
    obtain ⟨A, hA⟩ : ∃ A, accS (n, V) L = A := ⟨_, rfl⟩
    have HA := box hA
    have hv1 := (validA_len hva).1
    have HRD : Box (A = [] → st = false → R = [atS V 0]) := box (fun h1 h2 => by subst h2; rw [← hR]; exact rankS_dflt hva (hA.trans h1))
    have HRA : Box (A ≠ [] ∨ st = true → R = A) := box (fun h => by rw [← hR, ← hA]; exact rankS_acc hva (by rw [hA]; exact h))
    have hv0 : 0 < nv := by rw [← hnv]; exact hv1
    clear hva hR hA hnv hnl hw0 hW hV' hv1
    go_enter Tryz.func37, Tryz.ntmps37
    go_wp2_with fail
    rw [HW0.out]
    refine (mValidOne_is hn hl hz AX0.out HVA).mono ?_; rintro e w1 ⟨rfl, hb1⟩
    have B1 := box (BN.out.trans (hb1.mono BN.out.size))
    have C1 := box (C0.out.below B1.out C0.out.lt)
    have V1 := box (V0.out.below B1.out)
    have F1 := box (F0.out.below B1.out)
    have T1 := T0.out.below B1.out
    have d00 := C1.out.1.1
    have d01 := C1.out.1.2
    clear hb1 c00 c01
    go_wp2_with fail
    refine (mAcc_is HVA hn hv6 hz FL V1.out F1.out T1 HA HNV HNL).mono ?_; rintro e w2 ⟨v2, rfl, hO2, hb2⟩
    have BT := box (B1.out.trans (hb2.mono B1.out.size))
    have CT := box (C0.out.below BT.out C0.out.lt)
    have OT := box (show OwnS w2 w0.heap.size v2 A from Go.Joins.ownsRow_le hO2 B1.out.size)
    obtain ⟨oa, oc, rfl, _, hoc⟩ := hO2.ss
    clear hb2 hO2 d00 d01 T1
    have t00 := CT.out.1.1
    have t01 := CT.out.1.2
    have hbt := BT.out.size
    have BR := box (B0.out.trans (BT.out.mono hs0))
    clear CT
    by_cases hA0 : A.length = 0
    · have HA0 : Box (A = []) := box (List.length_eq_zero_iff.1 hA0)
      rw [hA0]
      cases st with
      | false =>
        have HRX : Box (R = [atS V 0]) := box (HRD.out HA0.out rfl)
        obtain ⟨g1, off1, rfl, c1⟩ := (V0.out.below BT.out) 0 (by have := HNV.out; omega)
        obtain ⟨x0, hx0⟩ : ∃ x0, V[0]'(by have := HNV.out; omega) = x0 := ⟨_, rfl⟩
        have HX0 : Box (atS V 0 = x0) := box (by rw [atS_is (by have := HNV.out; omega)]; exact hx0)
        rw [hx0, Nat.add_zero] at c1
        have hv0i : (0 : Int) < (nv : Int) := by omega
        clear hx0 hA0
        go_wp2
        go_ret
        exact ⟨_, rfl, by rw [HRX.out, HX0.out]; exact Go.Joins.ownsRow_le (ss_one17 _ _) (Nat.le_trans hs0 hbt), BR.out.alloc BR.out.size _⟩
      | true =>
        have HRX : Box (R = A) := box (HRA.out (.inr rfl))
        have hR0 : A.length = 0 := hA0
        go_wp2
        go_ret
        exact ⟨_, rfl, by rw [HRX.out, ← hA0]; exact Go.Joins.ownsRow_le OT.out hs0, BR.out⟩
    · have HRX : Box (R = A) := box (HRA.out (.inl (fun h => hA0 (by rw [h]; rfl))))
      have hai : ((A.length : Int) == 0) = false := by rw [beq_eq_false_iff_ne]; omega
      go_wp2
      go_ret
      exact ⟨_, rfl, by rw [HRX.out]; exact Go.Joins.ownsRow_le OT.out hs0, BR.out⟩
end
section
open Go.RowKit
theorem Io.len {w : World} {g : Nat} {D E : List Nat} (h : Io w g D) (e : D = E) : Io w g E := e ▸ h
end
section
open Go.RowKit
theorem OwnK.only {w w' : World} {k B : Nat} {v : Value} {L : List KY} (h : OwnK w B v L) (hb : Only k w w') (hk : k < B) : OwnK w' B v L := by
  obtain ⟨cs, h1, h2⟩ := h
  exact ⟨cs, own_only h1 hb hk, h2.1, h2.2.1, fun i hi => by obtain ⟨u, q1, q2⟩ := h2.2.2 i hi; exact ⟨u, q1, own_only q2 hb hk⟩⟩
end
section
open Go.RowKit
theorem mValid17_is {a : Option Addr} {cap n : Nat} {X : List AX} {q : Bool} {w : World} (hl : X.length ≤ 65536) (hz : Box (FitX X)) (hF : Axs w a X) (h : Box (validX X = q)) (hn : Box (X.length = n)) :
    Calls Tryz.prog 34 #[.slice a n cap] w fun e w' => e = .returned (.bool q) ∧ Below w.heap.size w w' := by
  have := mValid_any a cap X w hl (box hz.out.small) (box hF)
  rw [h.out, hn.out] at this; exact this
theorem mRanked17_is {n : ByteArray} {b : Option Addr} {c m : Nat} {V R : List ByteArray} {a : Option Addr} {cap nl : Nat} {L : List F} {st : Bool} {w : World} (hn : n.size ≤ 20000) (hl : V.length ≤ 65000) (hc : V.length ≤ c) (hz : Box (∀ i (hi : i < V.length), V[i].size ≤ 20000)) (FL : Box (FitL L)) (hV : Ss w b V) (hF : Fs w a L) (hW : Wts w) (h : Box (rankS (n, V) L st = R)) (hm : Box (V.length = m)) (hnl : Box (L.length = nl)) :
    Calls Tryz.prog 37 #[.agg #[.string n, .slice b m c], .slice a nl cap, .bool st] w fun e w' => OwnPost w R e w' := by
  have := mRanked_any n b c V a cap L st w hn hl hc hz FL (box hV) (box hF) hW
  rw [h.out, hm.out, hnl.out] at this; exact this
end
section
open Go.RowKit
theorem byte_eqs {c d : UInt8} : ((c.toNat : Int) == (d.toNat : Int)) = !(c != d) := by
  have := byte_neq (c := c) (d := d)
  rw [← this]
  show _ = !(!((c.toNat : Int) == (d.toNat : Int)))
  rw [Bool.not_not]
theorem mayStand_any (c : UInt8) (w : World) :
    Calls Tryz.prog 131 #[.int .u8 (c.toNat : Int)] w fun e w' => e = .returned (.bool (plainC c)) ∧ w = w' := by
  have e32 : (c != 32) = !((c.toNat : Int) == 32) := by rw [show ((32 : Int)) = ((32 : UInt8).toNat : Int) from rfl, byte_eqs, Bool.not_not]
  have e9 : (c != 9) = !((c.toNat : Int) == 9) := by rw [show ((9 : Int)) = ((9 : UInt8).toNat : Int) from rfl, byte_eqs, Bool.not_not]
  have e40 : (c != 40) = !((c.toNat : Int) == 40) := by rw [show ((40 : Int)) = ((40 : UInt8).toNat : Int) from rfl, byte_eqs, Bool.not_not]
  have e41 : (c != 41) = !((c.toNat : Int) == 41) := by rw [show ((41 : Int)) = ((41 : UInt8).toNat : Int) from rfl, byte_eqs, Bool.not_not]
  have e44 : (c != 44) = !((c.toNat : Int) == 44) := by rw [show ((44 : Int)) = ((44 : UInt8).toNat : Int) from rfl, byte_eqs, Bool.not_not]
  have e34 : (c != 34) = !((c.toNat : Int) == 34) := by rw [show ((34 : Int)) = ((34 : UInt8).toNat : Int) from rfl, byte_eqs, Bool.not_not]
  obtain ⟨q, hq⟩ : ∃ q, plainC c = q := ⟨_, rfl⟩
  have HQ := box hq
  unfold plainC at hq
  rw [e32, e9, e40, e41, e44, e34] at hq
  rw [HQ.out]
  clear e32 e9 e40 e41 e44 e34
  rcases t32 : ((c.toNat : Int) == 32) with _ | _
  rotate_left
  · obtain rfl : q = false := by rw [← hq, t32]; simp
    clear hq
    go_enter Tryz.func131, Tryz.ntmps131
    go_wp2
    go_ret
    exact ⟨rfl, rfl⟩
  rcases t9 : ((c.toNat : Int) == 9) with _ | _
  rotate_left
  · obtain rfl : q = false := by rw [← hq, t32, t9]; simp
    clear hq
    go_enter Tryz.func131, Tryz.ntmps131
    go_wp2
    go_ret
    exact ⟨rfl, rfl⟩
  rcases t40 : ((c.toNat : Int) == 40) with _ | _
  rotate_left
  · obtain rfl : q = false := by rw [← hq, t32, t9, t40]; simp
    clear hq
    go_enter Tryz.func131, Tryz.ntmps131
    go_wp2
    go_ret
    exact ⟨rfl, rfl⟩
  rcases t41 : ((c.toNat : Int) == 41) with _ | _
  rotate_left
  · obtain rfl : q = false := by rw [← hq, t32, t9, t40, t41]; simp
    clear hq
    go_enter Tryz.func131, Tryz.ntmps131
    go_wp2
    go_ret
    exact ⟨rfl, rfl⟩
  rcases t44 : ((c.toNat : Int) == 44) with _ | _
  rotate_left
  · obtain rfl : q = false := by rw [← hq, t32, t9, t40, t41, t44]; simp
    clear hq
    go_enter Tryz.func131, Tryz.ntmps131
    go_wp2
    go_ret
    exact ⟨rfl, rfl⟩
  rcases t34 : ((c.toNat : Int) == 34) with _ | _
  rotate_left
  · obtain rfl : q = false := by rw [← hq, t32, t9, t40, t41, t44, t34]; simp
    clear hq
    go_enter Tryz.func131, Tryz.ntmps131
    go_wp2
    go_ret
    exact ⟨rfl, rfl⟩
  obtain rfl : q = true := by rw [← hq, t32, t9, t40, t41, t44, t34]; rfl
  clear hq
  go_enter Tryz.func131, Tryz.ntmps131
  go_wp2
  go_ret
  exact ⟨rfl, rfl⟩
theorem mayStand_is {c : UInt8} {b : Bool} {w : World} (h : Box (plainC c = b)) :
    Calls Tryz.prog 131 #[.int .u8 (c.toNat : Int)] w fun e w' => e = .returned (.bool b) ∧ w = w' :=
  (mayStand_any c w).mono fun e w' ⟨h1, h2⟩ => ⟨by rw [h1, h.out], h2⟩
/-- a byte that is written outside quoted strings -/
def writC (c : UInt8) : Bool := visI c.toNat && plainC c
theorem isWrit_any (c : UInt8) (w : World) :
    Calls Tryz.prog 104 #[.int .u8 (c.toNat : Int)] w fun e w' => e = .returned (.bool (writC c)) ∧ w = w' := by
  obtain ⟨q, hq⟩ : ∃ q, plainC c = q := ⟨_, rfl⟩
  have HQ := box hq
  have hv : writC c = (visI c.toNat && q) := by unfold writC; rw [hq]
  rw [hv]
  clear hq hv
  by_cases h1 : (33 : Int) ≤ (c.toNat : Int)
  · by_cases h2 : (c.toNat : Int) ≤ 126
    · have hv : visI c.toNat = true := by unfold visI; exact decide_eq_true ⟨h1, h2⟩
      rw [hv]
      clear hv
      go_enter Tryz.func104, Tryz.ntmps104
      go_wp2_with fail
      refine (mayStand_is HQ).mono ?_; rintro e w1 ⟨rfl, rfl⟩
      go_wp2
      go_ret
      exact ⟨rfl, rfl⟩
    · have hv : visI c.toNat = false := by unfold visI; exact decide_eq_false (fun h => h2 h.2)
      rw [hv]
      clear hv
      go_enter Tryz.func104, Tryz.ntmps104
      go_wp2
      go_ret
      exact ⟨rfl, rfl⟩
  · have hv : visI c.toNat = false := by unfold visI; exact decide_eq_false (fun h => h1 h.1)
    rw [hv]
    clear hv
    go_enter Tryz.func104, Tryz.ntmps104
    go_wp2
    go_ret
    exact ⟨rfl, rfl⟩
theorem isWrit_is {c : UInt8} {b : Bool} {w : World} (h : Box (writC c = b)) :
    Calls Tryz.prog 104 #[.int .u8 (c.toNat : Int)] w fun e w' => e = .returned (.bool b) ∧ w = w' :=
  (isWrit_any c w).mono fun e w' ⟨h1, h2⟩ => ⟨by rw [h1, h.out], h2⟩
/-- one or more bytes, all permitted -/
def conL (P : UInt8 → Bool) (l : List UInt8) : Bool := l.all P && !l.isEmpty
theorem con_more {P : UInt8 → Bool} {s : ByteArray} {k : Nat} (h : (s.data.toList.take k).all P = true) (hk : k < s.size) (hp : P s[k] = true) : (s.data.toList.take (k + 1)).all P = true := by
  rw [take_snoc s k hk, List.all_append, h]; simpa using hp
theorem con_no {P : UInt8 → Bool} {s : ByteArray} {k : Nat} (hk : k < s.size) (hp : P s[k] = false) : conL P s.data.toList = false := by
  have hl : k < s.data.toList.length := by simpa using hk
  have : s.data.toList.all P = false := by rw [List.all_eq_false]; exact ⟨s.data.toList[k], List.getElem_mem hl, by rw [show s.data.toList[k] = s[k] from rfl, hp]; simp⟩
  unfold conL; rw [this]; rfl
theorem con_end {P : UInt8 → Bool} {s : ByteArray} (h : (s.data.toList.take s.size).all P = true) : conL P s.data.toList = !(s.toList.isEmpty) := by
  rw [List.take_of_length_le (by simp)] at h
  unfold conL; rw [h, toList_data]; rfl
theorem conWrit_any (s : ByteArray) (z : Bool) (w : World) (hs : s.size ≤ 65000) (hz : Box (conL writC s.data.toList = z)) :
    Calls Tryz.prog 103 #[.string s, .func (.func 104) #[] #[]] w fun e w' => e = .returned (.bool z) ∧ w = w' := by
  go_enter Tryz.func103, Tryz.ntmps103
  go_wp2
  go_loop [8] (fun i => ∃ k : Nat, i = .int .i64 k ∧ k ≤ s.size ∧ Box ((s.data.toList.take k).all writC = true)) (fun i => s.size - (intOf i).toNat)
  case atStart => exact ⟨0, rfl, Nat.zero_le _, box rfl⟩
  case round =>
    obtain ⟨k, rfl, hk, HA⟩ := hrel
    by_cases hlt : k < s.size
    · have hki : (k : Int) < (s.size : Int) := by omega
      obtain ⟨c, hc⟩ : ∃ c, s[k] = c := ⟨_, rfl⟩
      obtain ⟨q, hq⟩ : ∃ q, writC c = q := ⟨_, rfl⟩
      have HQ := box hq
      cases q with
      | true =>
        have HN := box (con_more HA.out hlt (by rw [hc, hq]))
        clear hq
        go_wp2_with fail
        refine (isWrit_is HQ).mono ?_; rintro e w1 ⟨rfl, rfl⟩
        go_wp2
        go_round
        case rel => exact ⟨k + 1, by go_num, hlt, HN⟩
        case measure => simp [intOf]; omega
      | false =>
        have HN : Box (z = false) := box (by rw [← hz.out]; exact con_no hlt (by rw [hc, hq]))
        clear hq
        go_wp2_with fail
        refine (isWrit_is HQ).mono ?_; rintro e w1 ⟨rfl, rfl⟩
        go_wp2
        go_ret
        exact ⟨by rw [HN.out]; rfl, rfl⟩
    · have hki : ¬ (k : Int) < (s.size : Int) := by omega
      obtain rfl : k = s.size := by omega
      have HN : Box (z = !(s.toList.isEmpty)) := box (by rw [← hz.out]; exact con_end HA.out)
      go_wp2
      go_ret
      exact ⟨by rw [HN.out]; rfl, rfl⟩
theorem word_con (l : List UInt8) : wordW l = if conL writC l = true then l else quoteL l := by
  have e : conL writC l = (visL l && l.all plainC) := by
    unfold conL visL writC allI
    rw [Bool.eq_iff_iff]
    simp only [Bool.and_eq_true, List.all_eq_true]
    constructor
    · rintro ⟨h1, h2⟩; exact ⟨⟨h2, fun c hc => (h1 c hc).1⟩, fun c hc => (h1 c hc).2⟩
    · rintro ⟨⟨h1, h2⟩, h3⟩; exact ⟨fun c hc => ⟨h2 c hc, h3 c hc⟩, h1⟩
  unfold wordW
  rw [e]
theorem formatVal_any (t x : ByteArray) (w : World) (ht : t.size ≤ 65000) (hv : Box (bs (wordW t.data.toList) = x)) :
    Calls Tryz.prog 70 #[.string t] w fun e w' => e = .returned (.string x) ∧ Below w.heap.size w w' := by
  obtain ⟨q, hq⟩ : ∃ q, conL writC t.data.toList = q := ⟨_, rfl⟩
  have HQ := box hq
  have ht4 : t.size ≤ 1073741824 := by omega
  cases q with
  | true =>
    have HV : Box (x = t) := box (by rw [← hv.out, word_con, hq, if_pos rfl, ← bs_of t])
    clear hq
    go_enter Tryz.func70, Tryz.ntmps70
    go_wp2_with fail
    refine (conWrit_any t true _ ht HQ).mono ?_; rintro e w1 ⟨rfl, rfl⟩
    go_wp2
    go_ret
    exact ⟨by rw [HV.out]; rfl, Below.refl _ _⟩
  | false =>
    have HV : Box (bs (quoteL t.data.toList) = x) := box (by rw [← hv.out, word_con, hq, if_neg (by simp)])
    clear hq
    go_enter Tryz.func70, Tryz.ntmps70
    go_wp2_with fail
    refine (conWrit_any t false _ ht HQ).mono ?_; rintro e w1 ⟨rfl, rfl⟩
    go_wp2_with fail
    refine (aQuote_is ht4 HV).mono ?_; rintro e w2 ⟨rfl, hb2⟩
    have B2 := box hb2
    clear hb2
    go_wp2
    go_ret
    exact ⟨rfl, B2.out⟩
end
section
open Go.RowKit
/-- the words of the first k values -/
def wtB (V : List ByteArray) (k : Nat) : List ByteArray := (V.take k).map fun x => bs (wordW x.data.toList)
theorem wtB_len {V : List ByteArray} {k : Nat} (h : k ≤ V.length) : (wtB V k).length = k := by unfold wtB; rw [List.length_map, List.length_take, Nat.min_eq_left h]
def GfRel (V : List ByteArray) (W : World) (v i : Value) (wr : World) : Prop :=
  ∃ k : Nat, i = .int .i64 k ∧ k ≤ V.length ∧ OwnS wr W.heap.size v (wtB V k) ∧ Below W.heap.size W wr
theorem join0_any (a : Option Addr) (cap : Nat) (L : List ByteArray) (x : ByteArray) (w : World) (hl : L.length ≤ 65536) (hc : L.length ≤ cap) (hz : Box (∀ x ∈ L, x.size ≤ 65536)) (hF : Box (Ss w a L)) (hx : Box (joinSB L = x)) :
    Calls Tryz.prog 71 #[.slice a L.length cap, .string ⟨#[32]⟩] w fun e w' => e = .returned (.string x) ∧ Below w.heap.size w w' := by
  by_cases h0 : L.length = 0
  · have hL : L = [] := List.eq_nil_of_length_eq_zero h0
    subst hL
    refine (Jsp0_any a cap w).mono ?_; rintro e w1 ⟨rfl, rfl⟩
    exact ⟨by rw [← hx.out]; rfl, Below.refl _ _⟩
  · obtain ⟨q, off, rfl, c0⟩ := hF.out 0 (by omega)
    by_cases h1 : L.length = 1
    · obtain ⟨y, rfl⟩ := List.length_eq_one_iff.1 h1
      refine (Jsp1_any q off cap y w (by simpa using c0)).mono ?_; rintro e w1 ⟨rfl, rfl⟩
      refine ⟨?_, Below.refl _ _⟩
      have : joinSB [y] = y := by unfold joinSB; simp [joinSp, ← bs_of]
      rw [← hx.out, this]
    · refine (JspN_any q off cap L w (by omega) hl hc hz hF).mono ?_; rintro e w1 ⟨rfl, hb⟩
      exact ⟨by rw [hx.out], hb⟩
theorem join_any (a : Option Addr) (cap n : Nat) (L : List ByteArray) (x : ByteArray) (w : World) (hn : Box (L.length = n)) (hl : n ≤ 65536) (hc : n ≤ cap) (hz : Box (∀ x ∈ L, x.size ≤ 65536)) (hF : Box (Ss w a L)) (hx : Box (joinSB L = x)) :
    Calls Tryz.prog 71 #[.slice a n cap, .string ⟨#[32]⟩] w fun e w' => e = .returned (.string x) ∧ Below w.heap.size w w' := by
  have h := hn.out
  subst h
  exact join0_any a cap L x w hl hc hz hF hx
set_option maxHeartbeats 4000000 in
theorem grpFormat_any (a : Option Addr) (cap : Nat) (V : List ByteArray) (x : ByteArray) (w : World) (hl : V.length ≤ 20) (hz : Box (∀ v ∈ V, v.size ≤ 1000)) (hF : Box (Ss w a V)) (hx : Box (bs (writL (V.map fun v => v.data.toList)) = x)) :
    Calls Tryz.prog 36 #[.slice a V.length cap] w fun e w' => e = .returned (.string x) ∧ Below w.heap.size w w' := by
  go_enter Tryz.func36, Tryz.ntmps36
  go_wp2
  go_loopw [3, 8] (fun v i wr => GfRel V w v i wr) (fun _ i _ => V.length - (intOf i).toNat)
  case atStart => exact ⟨0, rfl, Nat.zero_le _, OwnS.nil _ _, Below.refl _ _⟩
  case round =>
    obtain ⟨k, rfl, hk, hO, hbel⟩ := hrel
    have O0 := box hO
    have BL := box hbel
    have hBw := hbel.size
    obtain ⟨av, cv, rfl, hss, hcv⟩ := hO.ss
    rw [wtB_len hk] at O0 hcv ⊢
    have SS := box hss
    clear hO hbel hss
    by_cases hlt : k < V.length
    · obtain ⟨g, off, rfl, c0⟩ := (hF.out.below BL.out) k hlt
      have hvz := hz.out V[k] (List.getElem_mem hlt)
      obtain ⟨y, hy⟩ : ∃ y, V[k] = y := ⟨_, rfl⟩
      obtain ⟨z, hzq⟩ : ∃ z, bs (wordW y.data.toList) = z := ⟨_, rfl⟩
      rw [hy] at c0 hvz
      have HZ := box hzq
      have hv6 : y.size ≤ 65000 := by omega
      have HX : Box (wtB V (k + 1) = wtB V k ++ [z]) := box (by
        unfold wtB
        rw [take_next hlt, List.map_append, List.map_cons, List.map_nil, hy, hzq])
      have hk6 : Box ((wtB V k).length ≤ 65536) := box (by rw [wtB_len hk]; omega)
      clear hy hzq
      go_wp2_with fail
      refine (formatVal_any y z _ hv6 HZ).mono ?_; rintro e w1 ⟨rfl, hb1⟩
      have O1 := box (own_below O0.out hb1)
      have B1 := box (BL.out.trans (hb1.mono hBw))
      have hBw1 := B1.out.size
      clear hb1 c0
      go_wp2_with (at_builtin; refine wpList_append_str _ rfl (.tmp 12) (.tmp 15) rfl w.heap.size _ (wtB V k) rfl ?a1 _ _ rfl z ?b1 ?c1 ?d1 ?_)
      case a1 => exact own_below O1.out (below_new _ _)
      case b1 => go_simp
      case c1 => exact hk6.out
      case d1 => simp; omega
      intro v3 w3 hO3 hb3
      have O3 := box hO3
      have B3 := box ((B1.out.alloc hBw1 _).trans hb3)
      clear hO3 hb3
      go_wp2
      go_roundw
      case rel => exact ⟨k + 1, by go_num, by omega, by rw [HX.out]; exact O3.out, B3.out⟩
      case measure => simp [intOf]; omega
    · obtain rfl : k = V.length := by omega
      obtain ⟨L, hL⟩ : ∃ L, wtB V V.length = L := ⟨_, rfl⟩
      have hLl : L.length = V.length := by rw [← hL]; exact wtB_len (Nat.le_refl _)
      have hLz : Box (∀ x ∈ L, x.size ≤ 65536) := box (fun x hx => by
        rw [← hL] at hx
        unfold wtB at hx
        rw [List.take_length] at hx
        obtain ⟨v, hv, rfl⟩ := List.mem_map.1 hx
        have h1 := hz.out v hv
        have h2 := word_len v.data.toList
        rw [bs_size]
        have : v.data.toList.length = v.size := by simp
        omega)
      obtain ⟨y, hy⟩ : ∃ y, joinSB L = y := ⟨_, rfl⟩
      have HY := box hy
      have hyl : y.data.toList = joinW (V.map fun v => v.data.toList) := by
        rw [← hy, ← hL, joinW_sp]
        unfold joinSB wtB
        rw [bs_toList, List.take_length, List.map_map, List.map_map]
        rfl
      have HE : Box ((⟨#[40]⟩ : ByteArray) ++ y ++ (⟨#[41]⟩ : ByteArray) = x) := box (by
        rw [← hx.out]
        unfold writL
        rw [← hyl, bs_of ((⟨#[40]⟩ : ByteArray) ++ y ++ (⟨#[41]⟩ : ByteArray))]
        rfl)
      have hyz : y.size ≤ 41000 := by
        have h1 := writ_len hl hz.out
        unfold writL at h1
        rw [← hyl] at h1
        simp at h1
        omega
      rw [hL] at SS
      have HLL := box hLl
      have hl6 : V.length ≤ 65536 := by omega
      clear hL hy hyl hLl
      clear O0
      go_wp2_with fail
      refine (join_any av cv V.length L y _ HLL hl6 hcv hLz SS HY).mono ?_; rintro e w2 ⟨rfl, hb2⟩
      have B2 := box (BL.out.trans (hb2.mono hBw))
      clear hb2
      go_wp2
      go_ret
      exact ⟨by rw [← HE.out]; rfl, B2.out⟩
end
end Go.Proofs.YtklfpkaemnhdhaaGreatDoor.Asc
