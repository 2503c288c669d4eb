/- Merged texts: VryLaws VarSpec2 SelSpec3 ClsSpec3 VrySpec2 VryLaws2 VryLaws3. -/
import Derived.Test.YtlhcccakiidbdaaZa01
import Derived.Test.YtlhcccakiidbdaaZa02
import Derived.Test.YtlhcccakiidbdaaZa03
import Derived.Test.YtlhcccakiidbdaaZa04
import Derived.Test.YtlhcccakiidbdaaZa05
import Derived.Test.YtlhcccakiidbdaaZa06
import Derived.Test.YtlhcccakiidbdaaZa07
import Derived.Test.YtlhcccakiidbdaaZa08
import Derived.Test.YtlhcccakiidbdaaZa09
import Derived.Test.YtlhcccakiidbdaaZa10
import Derived.BigQuiet
import Derived.Deep.AppendLies
import Derived.Deep.QuietTactic
import Derived.Deep.RegionHeld3
import Derived.Laws.AppendOwnNone
import Derived.Laws.ResultCell
import Derived.Lib.Hide
import Derived.LoopTactic
import Derived.OwnWalk
set_option linter.unusedVariables false
set_option linter.unusedSimpArgs false
set_option maxRecDepth 100000
namespace Go.Proofs.Ytlhcccakiidbdaa.Asc
section
open Go.RowKit
theorem vals_small19 {L : List F} (h : ∀ p ∈ L, p.2.size ≤ 65000) : ∀ n : ByteArray, ∀ x ∈ getL n L, x.size ≤ 65000 := fun n x hx => by
  unfold getL at hx
  obtain ⟨p, hp, rfl⟩ := List.mem_map.1 hx
  exact h p (List.mem_filter.1 hp).1
theorem ss_one19 (a : ByteArray) (w : World) : Ss (w.alloc (.cells #[.string a] 9)) (some ⟨w.heap.size, 0, none⟩) [a] := by
  intro i hi
  match i, hi with
  | 0, _ => exact ⟨w.heap.size, 0, rfl, by rw [World.cell?_alloc_mark]; rfl⟩
def awN19 : ByteArray := ⟨#[97, 99, 99, 101, 112, 116, 45, 108, 97, 110, 103, 117, 97, 103, 101]⟩
def awX19 : ByteArray := ⟨#[120]⟩
def awP19 : List F := [(⟨#[65, 99, 99, 101, 112, 116, 45, 76, 97, 110, 103, 117, 97, 103, 101]⟩, ⟨#[101, 110, 44, 68, 69]⟩), (⟨#[120]⟩, ⟨#[97]⟩)]
def awQ19 : List F := [(awN19, ⟨#[69, 78, 32, 44, 32, 100, 101]⟩), (⟨#[120]⟩, ⟨#[65]⟩)]
theorem aw19_yes : matchY [awN19] (snapY [awN19] awP19) awQ19 = true := by decide +kernel
theorem aw19_no : matchY [awX19] (snapY [awX19] awP19) awQ19 = false := by decide +kernel
theorem aw19_smP : Sm awP19 ∧ ∀ n : ByteArray, ∀ x ∈ getL n awP19, x.size ≤ 65000 :=
  ⟨⟨by decide, by decide⟩, vals_small19 (by decide)⟩
theorem aw19_smQ : Sm awQ19 ∧ ∀ n : ByteArray, ∀ x ∈ getL n awQ19, x.size ≤ 65000 :=
  ⟨⟨by decide, by decide⟩, vals_small19 (by decide)⟩
theorem aw19_mem (w : World) : ∃ W3, W3 = ((w.alloc (.cells #[.string ⟨#[65, 99, 99, 101, 112, 116, 45, 76, 97, 110, 103, 117, 97, 103, 101]⟩, .string ⟨#[101, 110, 44, 68, 69]⟩, .string ⟨#[120]⟩, .string ⟨#[97]⟩] 40)).alloc (.cells #[.string ⟨#[97, 99, 99, 101, 112, 116, 45, 108, 97, 110, 103, 117, 97, 103, 101]⟩, .string ⟨#[69, 78, 32, 44, 32, 100, 101]⟩, .string ⟨#[120]⟩, .string ⟨#[65]⟩] 40)).alloc (.cells #[.string ⟨#[97, 99, 99, 101, 112, 116, 45, 108, 97, 110, 103, 117, 97, 103, 101]⟩] 9)
    ∧ Fs W3 (some ⟨w.heap.size, 0, none⟩) awP19 ∧ Fs W3 (some ⟨w.heap.size + 1, 0, none⟩) awQ19 ∧ Ss W3 (some ⟨w.heap.size + 1 + 1, 0, none⟩) [awN19] ∧ Below w.heap.size w W3 := by
  have h1 := fs_two13 ⟨#[65, 99, 99, 101, 112, 116, 45, 76, 97, 110, 103, 117, 97, 103, 101]⟩ ⟨#[101, 110, 44, 68, 69]⟩ ⟨#[120]⟩ ⟨#[97]⟩ w 40
  have b1 := below_new w (.cells #[.string ⟨#[65, 99, 99, 101, 112, 116, 45, 76, 97, 110, 103, 117, 97, 103, 101]⟩, .string ⟨#[101, 110, 44, 68, 69]⟩, .string ⟨#[120]⟩, .string ⟨#[97]⟩] 40)
  obtain ⟨W1, hW1⟩ : ∃ W1, w.alloc (.cells #[.string ⟨#[65, 99, 99, 101, 112, 116, 45, 76, 97, 110, 103, 117, 97, 103, 101]⟩, .string ⟨#[101, 110, 44, 68, 69]⟩, .string ⟨#[120]⟩, .string ⟨#[97]⟩] 40) = W1 := ⟨_, rfl⟩
  have z1 : W1.heap.size = w.heap.size + 1 := by rw [← hW1]; simp
  rw [hW1] at h1 b1 ⊢
  have h2 := fs_two13 ⟨#[97, 99, 99, 101, 112, 116, 45, 108, 97, 110, 103, 117, 97, 103, 101]⟩ ⟨#[69, 78, 32, 44, 32, 100, 101]⟩ ⟨#[120]⟩ ⟨#[65]⟩ W1 40
  have b2 := below_new W1 (.cells #[.string ⟨#[97, 99, 99, 101, 112, 116, 45, 108, 97, 110, 103, 117, 97, 103, 101]⟩, .string ⟨#[69, 78, 32, 44, 32, 100, 101]⟩, .string ⟨#[120]⟩, .string ⟨#[65]⟩] 40)
  have h1' := h1.below b2
  obtain ⟨W2, hW2⟩ : ∃ W2, W1.alloc (.cells #[.string ⟨#[97, 99, 99, 101, 112, 116, 45, 108, 97, 110, 103, 117, 97, 103, 101]⟩, .string ⟨#[69, 78, 32, 44, 32, 100, 101]⟩, .string ⟨#[120]⟩, .string ⟨#[65]⟩] 40) = W2 := ⟨_, rfl⟩
  have z2 : W2.heap.size = w.heap.size + 1 + 1 := by rw [← hW2, ← z1]; simp
  rw [hW2] at h1' h2 b2 ⊢
  rw [z1] at h2
  have h3 := ss_one19 ⟨#[97, 99, 99, 101, 112, 116, 45, 108, 97, 110, 103, 117, 97, 103, 101]⟩ W2
  have b3 := below_new W2 (.cells #[.string ⟨#[97, 99, 99, 101, 112, 116, 45, 108, 97, 110, 103, 117, 97, 103, 101]⟩] 9)
  have h1'' := h1'.below b3
  have h2'' := h2.below b3
  rw [z2] at h3
  have B := b1.trans (b2.mono b1.size)
  exact ⟨_, rfl, h1'', h2'', h3, B.trans (b3.mono B.size)⟩
theorem aw19_two (w : World) : Ss ((w.alloc (.cells #[.string ⟨#[120]⟩] 9)).alloc (.cells #[.string ⟨#[120]⟩] 9)) (some ⟨w.heap.size, 0, none⟩) [awX19]
    ∧ Ss ((w.alloc (.cells #[.string ⟨#[120]⟩] 9)).alloc (.cells #[.string ⟨#[120]⟩] 9)) (some ⟨w.heap.size + 1, 0, none⟩) [awX19]
    ∧ Below w.heap.size w ((w.alloc (.cells #[.string ⟨#[120]⟩] 9)).alloc (.cells #[.string ⟨#[120]⟩] 9)) := by
  have h1 := ss_one19 ⟨#[120]⟩ w
  have b1 := below_new w (.cells #[.string ⟨#[120]⟩] 9)
  obtain ⟨W1, hW1⟩ : ∃ W1, w.alloc (.cells #[.string ⟨#[120]⟩] 9) = W1 := ⟨_, rfl⟩
  have z1 : W1.heap.size = w.heap.size + 1 := by rw [← hW1]; simp
  rw [hW1] at h1 b1 ⊢
  have h2 := ss_one19 ⟨#[120]⟩ W1
  have b2 := below_new W1 (.cells #[.string ⟨#[120]⟩] 9)
  have h1' := h1.below b2
  rw [z1] at h2
  exact ⟨h1', h2, b1.trans (b2.mono b1.size)⟩
theorem sm_one19 {x : ByteArray} (h : x.size ≤ 65536) : ∀ i (hi : i < [x].length), [x][i].size ≤ 65536 := fun i hi => by
  match i, hi with
  | 0, _ => exact h
set_option maxHeartbeats 1600000 in
theorem awake19_any (w : World) : Calls Try.prog 11 #[] w fun e w' => e = .returned (.bool true) ∧ Below w.heap.size w w' := by
  obtain ⟨W3, hW3, hP, hQ, hN, hB⟩ := aw19_mem w
  have SP := box aw19_smP.1
  have VP := box aw19_smP.2
  have SQ := box aw19_smQ.1
  have VQ := box aw19_smQ.2
  have ZN := box (sm_one19 (x := awN19) (by decide))
  have ZX := box (sm_one19 (x := awX19) (by decide))
  have HL1 : Box ([awN19].length = 1) := box rfl
  have HL2 : Box ([awX19].length = 1) := box rfl
  have HT1 : Box ((snapY [awN19] awP19).length = 1) := box rfl
  have HT2 : Box ((snapY [awX19] awP19).length = 1) := box rfl
  have HY := box aw19_yes
  have HX := box aw19_no
  have HP := box hP
  have HQ := box hQ
  have HN := box hN
  have B3 := box hB
  have HW := box hW3
  clear hP hQ hN hB hW3
  go_enter Try.func11, Try.ntmps11
  go_wp2_with fail
  rw [← HW.out]
  refine (mSnap_is (N := [awN19]) (L := awP19) SP VP (by omega) ZN HN.out HP.out HL1).mono ?_; rintro e w4 ⟨p4, c4, rfl, hS4, hb4⟩
  have B4 := box (B3.out.trans (hb4.mono B3.out.size))
  have S4 := box hS4
  have HP4 := box (HP.out.below hb4)
  have HQ4 := box (HQ.out.below hb4)
  have HN4 := box (HN.out.below hb4)
  clear hS4 hb4 HP HQ HN HW
  go_wp2_with fail
  refine (mMatch19_any _ _ _ _ _ _ 1 1 [awN19] (snapY [awN19] awP19) awQ19 true _ SQ VQ (by omega) (by omega) ZN (box HN4.out) (box S4.out) (box HQ4.out) HL1 HT1 HY).mono ?_; rintro e w5 ⟨rfl, hb5⟩
  have B5 := box (B4.out.trans (hb5.mono B4.out.size))
  have HP5 := box (HP4.out.below hb5)
  have HQ5 := box (HQ4.out.below hb5)
  have T5 := box (aw19_two w5)
  have HP6 := box (HP5.out.below T5.out.2.2)
  have HQ6 := box (HQ5.out.below T5.out.2.2)
  have B6 := box (B5.out.trans (T5.out.2.2.mono B5.out.size))
  clear hb5 HP4 HQ4 HN4 S4
  go_wp2_with fail
  refine (mSnap_is (N := [awX19]) (L := awP19) SP VP (by omega) ZX T5.out.2.1 HP6.out HL2).mono ?_; rintro e w7 ⟨p7, c7, rfl, hS7, hb7⟩
  have B7 := box (B6.out.trans (hb7.mono B6.out.size))
  have S7 := box hS7
  have T7 := box (T5.out.1.below hb7)
  have HQ7 := box (HQ6.out.below hb7)
  clear hS7 hb7 HP5 HQ5 HP6 HQ6
  go_wp2_with fail
  refine (mMatch19_any _ _ _ _ _ _ 1 1 [awX19] (snapY [awX19] awP19) awQ19 false _ SQ VQ (by omega) (by omega) ZX (box T7.out) (box S7.out) (box HQ7.out) HL2 HT2 HX).mono ?_; rintro e w8 ⟨rfl, hb8⟩
  have B8 := box (B7.out.trans (hb8.mono B7.out.size))
  clear hb8
  go_wp2
  go_ret
  exact ⟨rfl, B8.out⟩
end
section
/-- how many bytes a quoted string takes behind its first quote, its last quote among them -/
def qE : List UInt8 → Option Nat
  | [] => none
  | [c] => if c = 34 then some 1 else none
  | c :: d :: r => if c = 34 then some 1 else if c = 92 then (qE r).map (· + 2) else (qE (d :: r)).map (· + 1)
theorem qE_any {c : UInt8} (r : List UInt8) (h1 : c ≠ 34) (h2 : c ≠ 92) : qE (c :: r) = (qE r).map (· + 1) := by
  cases r with
  | nil => show (if c = 34 then _ else _) = _; rw [if_neg h1]; rfl
  | cons d r => show (if c = 34 then _ else if c = 92 then _ else _) = _; rw [if_neg h1, if_neg h2]
/-- the steps, by places: within a quoted string -/
theorem q_any {l : List UInt8} {i : Nat} (hi : i < l.length) (h1 : l[i] ≠ 34) (h2 : l[i] ≠ 92) : qE (l.drop i) = (qE (l.drop (i + 1))).map (· + 1) := by
  rw [List.drop_eq_getElem_cons hi]; exact qE_any _ h1 h2
def QAt (l : List UInt8) (f i : Nat) : Prop := qE (l.drop f) = (qE (l.drop i)).map (· + (i - f))
theorem QAt.any {l : List UInt8} {f i : Nat} (h : QAt l f i) (hf : f ≤ i) (hi : i < l.length) (h1 : l[i] ≠ 34) (h2 : l[i] ≠ 92) : QAt l f (i + 1) := by
  unfold QAt at h ⊢
  rw [h, q_any hi h1 h2, Option.map_map]
  congr 1
  funext x
  show x + 1 + (i - f) = x + (i + 1 - f)
  omega
end
section
theorem fold_self (a : List UInt8) : foldL a a = true := by unfold foldL; exact decide_eq_true rfl
end
section
/-- names that fold alike -/
theorem nmd_fold {n m : ByteArray} (h : foldL n.data.toList m.data.toList = true) (f : F) : nmd n f = nmd m f := by
  unfold nmd
  cases e : foldL f.1.data.toList m.data.toList with
  | true => exact fold_trans e (by rw [fold_symm]; exact h)
  | false =>
    cases e2 : foldL f.1.data.toList n.data.toList with
    | false => rfl
    | true => rw [fold_trans e2 h] at e; cases e
theorem get_rem18 {n m : ByteArray} {L : List F} (h : foldL n.data.toList m.data.toList = true) : getL n (remL m L) = [] := by
  unfold getL remL
  rw [List.filter_filter]
  have : (L.filter fun p => nmd n p && !nmd m p) = [] := by
    rw [List.filter_eq_nil_iff]
    intro p _
    rw [nmd_fold h p]
    simp
  rw [this]; rfl
end
section
theorem snap_self (N : List ByteArray) (L : List F) : matchY N (snapY N L) L = true := by
  unfold matchY snapY
  rw [List.length_map]
  simp
theorem rem_all19 {n : ByteArray} {L : List F} : (remL n L).length = L.length ↔ getL n L = [] := by
  unfold remL getL
  rw [List.length_filter_eq_length_iff, List.map_eq_nil_iff, List.filter_eq_nil_iff]
  constructor
  · intro h p hp
    have := h p hp
    simpa using this
  · intro h p hp
    have := h p hp
    simpa using this
theorem rem_self19 {n : ByteArray} {L : List F} (h : getL n L = []) : remL n L = L := by
  unfold remL
  unfold getL at h
  rw [List.map_eq_nil_iff, List.filter_eq_nil_iff] at h
  rw [List.filter_eq_self]
  intro p hp
  have := h p hp
  simpa using this
theorem valueY_some {n : ByteArray} {L : List F} (h : getL n L ≠ []) : valueY n L ≠ [] := by
  unfold valueY
  rw [if_neg h]
  split <;> simp
theorem valueY_none {n : ByteArray} {L : List F} (h : getL n L = []) : valueY n L = [] := by unfold valueY; rw [if_pos h]
theorem snap_rem {N : List ByteArray} {L : List F} {n : ByteArray} (hn : n ∈ N) : matchY N (snapY N L) (remL n L) = decide ((remL n L).length = L.length) := by
  by_cases h : getL n L = []
  · rw [rem_self19 h, snap_self, decide_eq_true rfl]
  · rw [decide_eq_false (fun e => h (rem_all19.1 e))]
    unfold matchY
    have hne : snapY N (remL n L) ≠ snapY N L := by
      intro e
      unfold snapY at e
      have h1 := List.map_inj_left.1 e n hn
      have h2 : valueY n (remL n L) = valueY n L := by
        have := congrArg (fun b : ByteArray => b.data.toList) h1
        simpa [bs_toList] using this
      rw [valueY_none (get_rem18 (fold_self _))] at h2
      exact valueY_some h h2.symm
    rw [decide_eq_false hne, Bool.and_false]
/-- for VarySorted -/
theorem names_low {ms : List BL} : ∀ z ∈ namesU ms, lowL z = z := fun z hz => by
  obtain ⟨m, _, rfl⟩ := namesU_mem.1 hz
  exact low_low m
theorem names_tok {ms : List BL} (h : okU ms = true) : ∀ z ∈ namesU ms, tokL z = true := fun z hz => by
  obtain ⟨m, hm, rfl⟩ := namesU_mem.1 hz
  unfold okU at h
  rw [Bool.and_eq_true, List.all_eq_true] at h
  have := h.2 m hm
  rw [Bool.and_eq_true] at this
  exact tok_low this.1
theorem names_has {ms : List BL} {m : BL} (hm : m ∈ ms) : ∃ z ∈ namesU ms, foldL m z = true := by
  refine ⟨lowL m, namesU_mem.2 ⟨m, hm, rfl⟩, ?_⟩
  unfold foldL
  rw [low_low]
  exact decide_eq_true rfl
theorem names_up {ms : List BL} {i : Nat} (h : i + 1 < (namesU ms).length) : (namesU ms)[i] < (namesU ms)[i + 1] :=
  List.pairwise_iff_getElem.1 (namesU_asc ms) i (i + 1) (by omega) h (by omega)
end
section
open Go.RowKit
theorem keepF19_is {a : Option Addr} {cap n : Nat} {L : List F} {q : Bool} {w : World} (hl : L.length ≤ maxLen) (hF : Fs w a L) (h : Box (keepF L = q)) (hn : Box (L.length = n)) :
    Calls Try.prog 7 #[.slice a n cap] w fun e w' => e = .returned (.bool q) ∧ w = w' := by
  have := keepFields_any a cap L w hl (box hF)
  rw [h.out, hn.out] at this; exact this
theorem keepS19_is {a : Option Addr} {cap n : Nat} {L : List ByteArray} {q : Bool} {w : World} (hl : L.length ≤ maxLen) (hF : Ss w a L) (h : Box (keepS L = q)) (hn : Box (L.length = n)) :
    Calls Try.prog 12 #[.slice a n cap] w fun e w' => e = .returned (.bool q) ∧ w = w' := by
  have := keepStrings_any a cap L w hl (box hF)
  rw [h.out, hn.out] at this; exact this
theorem kSame19_is {a b : Option Addr} {ca cb n m : Nat} {K L : List ByteArray} {q : Bool} {w : World} (hk : n ≤ 65536) (hl : m ≤ 65536) (hK : Ss w a K) (hL : Ss w b L) (h1 : Box (K.length = n)) (h2 : Box (L.length = m)) (h : Box (decide (K = L) = q)) :
    Calls Try.prog 10 #[.slice a n ca, .slice b m cb] w fun e w' => e = .returned (.bool q) ∧ Below w.heap.size w w' := by
  have := kSameS_any a b ca cb K L w (by rw [h1.out]; exact hk) (by rw [h2.out]; exact hl) (box hK) (box hL)
  rw [h1.out, h2.out, h.out] at this; exact this
theorem keep_sm19 {L : List F} (h : keepF L = true) : Sm L ∧ ∀ n : ByteArray, ∀ x ∈ getL n L, x.size ≤ 65000 := by
  obtain ⟨h1, h2⟩ := keep_parts h
  refine ⟨⟨by omega, fun i hi => by have := h2 i hi; omega⟩, vals_small19 fun p hp => ?_⟩
  obtain ⟨i, hi, rfl⟩ := List.mem_iff_getElem.1 hp
  have := h2 i hi
  omega
theorem nmsB_len (L : List F) : (nmsB L).length ≤ 64 := by
  unfold nmsB namesV
  rw [List.length_map]
  split
  · have h1 := namesU_len (allL nmVry L)
    have h2 : (allL nmVry L).length ≤ 64 := by unfold allL; rw [List.length_take]; omega
    omega
  · exact Nat.zero_le _
theorem mNames19_is {a : Option Addr} {cap n m : Nat} {L : List F} {R : List ByteArray} {o : Bool} {w : World} (S : Box (Sm L)) (hv : Box (∀ n : ByteArray, ∀ x ∈ getL n L, x.size ≤ 65000)) (hF : Fs w a L) (hn : Box (L.length = n)) (hR : Box (nmsB L = R)) (hm : Box (R.length = m)) (ho : Box (namesO L = o)) :
    Calls Try.prog 8 #[.slice a n cap] w fun e w' => ∃ p c, e = .returned (.tuple #[.slice p m c, .bool o]) ∧ Ss w' p R ∧ Below w.heap.size w w' := by
  have := mNames_any a cap L w S (box (hv.out nmVry)) (box hF)
  rw [hn.out] at this
  refine this.mono fun e w' ⟨v, h1, h2, h3⟩ => ?_
  rw [hR.out] at h2
  rw [ho.out] at h1
  obtain ⟨p, c, rfl, h4, _⟩ := h2.ss
  rw [hm.out] at h1
  exact ⟨p, c, h1, h4, h3⟩
theorem rNames19_is {a : Option Addr} {cap n m : Nat} {L : List F} {R : List ByteArray} {o : Bool} {w : World} (S : Box (Sm L)) (hv : Box (∀ n : ByteArray, ∀ x ∈ getL n L, x.size ≤ 65000)) (hF : Fs w a L) (hn : Box (L.length = n)) (hR : Box (nmsB L = R)) (hm : Box (R.length = m)) (ho : Box (namesO L = o)) :
    Calls Try.prog 9 #[.slice a n cap] w fun e w' => ∃ p c, e = .returned (.tuple #[.slice p m c, .bool o]) ∧ Ss w' p R ∧ Below w.heap.size w w' := by
  have := rNames_any a cap L w S (box (hv.out nmVry)) (box hF)
  rw [hn.out] at this
  refine this.mono fun e w' ⟨v, h1, h2, h3⟩ => ?_
  rw [hR.out] at h2
  rw [ho.out] at h1
  obtain ⟨p, c, rfl, h4, _⟩ := h2.ss
  rw [hm.out] at h1
  exact ⟨p, c, h1, h4, h3⟩
set_option maxHeartbeats 1600000 in
theorem names19_walk (a : Option Addr) (cap : Nat) (L : List F) (w : World) (hl0 : L.length ≤ maxLen) (hF0 : Fs w a L) (hc : L.length ≤ cap) :
    Calls Try.prog 3 #[.slice a L.length cap] w fun e w' => e = .returned (.bool true) ∧ Below w.heap.size w w' := by
  obtain ⟨n, hn⟩ : ∃ n, L.length = n := ⟨_, rfl⟩
  have HN := box hn
  have HL := box hl0
  have HF := box hF0
  obtain ⟨q, hq⟩ : ∃ q, keepF L = q := ⟨_, rfl⟩
  have HQ := box hq
  rw [hn]
  clear hn hl0 hF0 hc
  cases q with
  | false =>
    clear hq
    go_enter Try.func3, Try.ntmps3
    go_wp2_with fail
    refine (keepF19_is HL.out HF.out HQ HN).mono ?_; rintro e w1 ⟨rfl, rfl⟩
    go_wp2
    go_ret
    exact ⟨rfl, Below.refl _ _⟩
  | true =>
    have S := box (keep_sm19 hq).1
    have V := box (keep_sm19 hq).2
    clear hq
    obtain ⟨o, ho⟩ : ∃ o, namesO L = o := ⟨_, rfl⟩
    have HO := box ho
    obtain ⟨R, hR⟩ : ∃ R, nmsB L = R := ⟨_, rfl⟩
    have HR := box hR
    obtain ⟨m, hm⟩ : ∃ m, R.length = m := ⟨_, rfl⟩
    have HM := box hm
    have hm6 : m ≤ 65536 := by
      have := nmsB_len L
      rw [hR, hm] at this; omega
    clear ho hR hm
    go_enter Try.func3, Try.ntmps3
    go_wp2_with fail
    refine (keepF19_is HL.out HF.out HQ HN).mono ?_; rintro e w1 ⟨rfl, rfl⟩
    go_wp2_with fail
    refine (mNames19_is S V HF.out HN HR HM HO).mono ?_; rintro e w2 ⟨p2, c2, rfl, hS2, hb2⟩
    have B2 := box hb2
    have S2 := box hS2
    clear hb2 hS2
    go_wp2_with fail
    refine (rNames19_is S V (HF.out.below B2.out) HN HR HM HO).mono ?_; rintro e w3 ⟨p3, c3, rfl, hS3, hb3⟩
    have B3 := box (B2.out.trans (hb3.mono B2.out.size))
    have S3 := box hS3
    have S2' := box (S2.out.below hb3)
    clear hb3 hS3
    go_wp2_with fail
    refine (kSame19_is hm6 hm6 S2'.out S3.out HM HM (box (decide_eq_true rfl))).mono ?_; rintro e w4 ⟨rfl, hb4⟩
    have B4 := box (B3.out.trans (hb4.mono B3.out.size))
    clear hb4
    go_wp2_with fail
    refine (awake19_any _).mono ?_; rintro e w5 ⟨rfl, hb5⟩
    have B5 := box (B4.out.trans (hb5.mono B4.out.size))
    clear hb5
    go_wp2
    go_ret
    exact ⟨rfl, B5.out⟩
end
section
open Go.RowKit
theorem mValue19_is {a : Option Addr} {cap n : Nat} {L : List F} {x v : ByteArray} {w : World} (S : Box (Sm L)) (hv : Box (∀ n : ByteArray, ∀ x ∈ getL n L, x.size ≤ 65000)) (hx : x.size ≤ 65536) (hF : Fs w a L) (hn : Box (L.length = n)) (h : Box (bs (valueY x L) = v)) :
    Calls Try.prog 13 #[.string x, .slice a n cap] w fun e w' => e = .returned (.string v) ∧ Below w.heap.size w w' := by
  have := mValY_any x a cap L w S (box (hv.out x)) hx (box hF)
  rw [hn.out, h.out] at this; exact this
theorem rValue19_is {a : Option Addr} {cap n : Nat} {L : List F} {x v : ByteArray} {w : World} (S : Box (Sm L)) (hv : Box (∀ n : ByteArray, ∀ x ∈ getL n L, x.size ≤ 65000)) (hx : x.size ≤ 65536) (hF : Fs w a L) (hn : Box (L.length = n)) (h : Box (bs (valueY x L) = v)) :
    Calls Try.prog 14 #[.string x, .slice a n cap] w fun e w' => e = .returned (.string v) ∧ Below w.heap.size w w' := by
  have := rValY_any x a cap L w S (box (hv.out x)) hx (box hF)
  rw [hn.out, h.out] at this; exact this
theorem mSnap19_is {a b : Option Addr} {ca cb n l : Nat} {N : List ByteArray} {L : List F} {w : World} (S : Box (Sm L)) (hv : Box (∀ n : ByteArray, ∀ x ∈ getL n L, x.size ≤ 65000)) (hnl : n ≤ 65536) (hN : Box (∀ i (hi : i < N.length), N[i].size ≤ 65536)) (hS : Ss w a N) (hF : Fs w b L) (h : Box (N.length = n)) (hl : Box (L.length = l)) :
    Calls Try.prog 15 #[.slice a n ca, .slice b l cb] w fun e w' => ∃ p c, e = .returned (.slice p n c) ∧ Ss w' p (snapY N L) ∧ Below w.heap.size w w' := by
  have := mSnap_is (ca := ca) (cb := cb) S hv hnl hN hS hF h
  rw [hl.out] at this; exact this
theorem rSnap19_is {a b : Option Addr} {ca cb n l : Nat} {N : List ByteArray} {L : List F} {w : World} (S : Box (Sm L)) (hv : Box (∀ n : ByteArray, ∀ x ∈ getL n L, x.size ≤ 65000)) (hnl : n ≤ 65536) (hN : Box (∀ i (hi : i < N.length), N[i].size ≤ 65536)) (hS : Ss w a N) (hF : Fs w b L) (h : Box (N.length = n)) (hl : Box (L.length = l)) :
    Calls Try.prog 16 #[.slice a n ca, .slice b l cb] w fun e w' => ∃ p c, e = .returned (.slice p n c) ∧ Ss w' p (snapY N L) ∧ Below w.heap.size w w' := by
  have := rSnap_is (ca := ca) (cb := cb) S hv hnl hN hS hF h
  rw [hl.out] at this; exact this
theorem mMatch19_is {a b d : Option Addr} {ca cb cd n m l : Nat} {N T : List ByteArray} {L : List F} {q : Bool} {w : World} (S : Box (Sm L)) (hv : Box (∀ n : ByteArray, ∀ x ∈ getL n L, x.size ≤ 65000)) (hnl : n ≤ 65536) (htl : m ≤ 65536) (hN : Box (∀ i (hi : i < N.length), N[i].size ≤ 65536)) (hS : Ss w a N) (hT : Ss w d T) (hF : Fs w b L) (h1 : Box (N.length = n)) (h2 : Box (T.length = m)) (hl : Box (L.length = l)) (hq : Box (matchY N T L = q)) :
    Calls Try.prog 17 #[.slice a n ca, .slice d m cd, .slice b l cb] w fun e w' => e = .returned (.bool q) ∧ Below w.heap.size w w' := by
  have := mMatch19_any a b d ca cb cd n m N T L q w S hv hnl htl hN (box hS) (box hT) (box hF) h1 h2 hq
  rw [hl.out] at this; exact this
theorem rMatch19_is {a b d : Option Addr} {ca cb cd n m l : Nat} {N T : List ByteArray} {L : List F} {q : Bool} {w : World} (S : Box (Sm L)) (hv : Box (∀ n : ByteArray, ∀ x ∈ getL n L, x.size ≤ 65000)) (hnl : n ≤ 65536) (htl : m ≤ 65536) (hN : Box (∀ i (hi : i < N.length), N[i].size ≤ 65536)) (hS : Ss w a N) (hT : Ss w d T) (hF : Fs w b L) (h1 : Box (N.length = n)) (h2 : Box (T.length = m)) (hl : Box (L.length = l)) (hq : Box (matchY N T L = q)) :
    Calls Try.prog 18 #[.slice a n ca, .slice d m cd, .slice b l cb] w fun e w' => e = .returned (.bool q) ∧ Below w.heap.size w w' := by
  have := rMatch19_any a b d ca cb cd N T L q w S hv (by rw [h1.out]; exact hnl) (by rw [h2.out]; exact htl) hN (box hS) (box hT) (box hF) hq
  rw [h1.out, h2.out, hl.out] at this; exact this
theorem rRem19_is {a : Option Addr} {cap l : Nat} {L M : List F} {x : ByteArray} {w : World} (S : Box (Sm L)) (hx : x.size ≤ 65536) (hF : Fs w a L) (hl : Box (L.length = l)) (hM : Box (remL x L = M)) :
    Calls Try.prog 19 #[.slice a l cap, .string x] w fun e w' => ∃ p c, e = .returned (.slice p M.length c) ∧ Fs w' p M ∧ Below w.heap.size w w' := by
  have := rRemove_any a cap L x w S.out.1 S (box hx) (box hF)
  rw [hl.out, hM.out] at this
  refine this.mono fun e w' ⟨v, h1, h2, h3⟩ => ?_
  obtain ⟨p, c, rfl, h4, _⟩ := h2.fs
  exact ⟨p, c, h1, h4, h3⟩
theorem sm_rem19 {L M : List F} {x : ByteArray} (h : Sm L) (hM : remL x L = M) : Sm M := by
  subst hM
  refine ⟨Nat.le_trans (List.length_filter_le _ _) h.1, fun i hi => ?_⟩
  obtain ⟨j, hj, e⟩ := List.mem_iff_getElem.1 (List.mem_filter.1 (List.getElem_mem hi)).1
  have := h.2 j hj
  rw [e] at this; exact this
theorem vals_rem19 {L M : List F} {x : ByteArray} (h : ∀ n : ByteArray, ∀ y ∈ getL n L, y.size ≤ 65000) (hM : remL x L = M) : ∀ n : ByteArray, ∀ y ∈ getL n M, y.size ≤ 65000 := fun n y hy => by
  subst hM
  unfold getL remL at hy
  obtain ⟨p, hp, rfl⟩ := List.mem_map.1 hy
  have hp' := List.mem_filter.1 hp
  exact h n p.2 (List.mem_map.2 ⟨p, List.mem_filter.2 ⟨(List.mem_filter.1 hp'.1).1, hp'.2⟩, rfl⟩)
set_option maxHeartbeats 4000000 in
theorem values19_in (a d b : Option Addr) (ca cd cb n t l : Nat) (N T : List ByteArray) (L : List F) (w : World) (HLN : Box (N.length ≤ maxLen)) (HSN : Box (Ss w a N)) (HLT : Box (T.length ≤ maxLen)) (HST : Box (Ss w d T)) (HLL : Box (L.length ≤ maxLen)) (HF : Box (Fs w b L)) (HN : Box (N.length = n)) (HT : Box (T.length = t)) (HL : Box (L.length = l)) :
    Calls Try.prog 4 #[.slice a n ca, .slice d t cd, .slice b l cb] w fun e w' => e = .returned (.bool true) ∧ Below w.heap.size w w' := by
  obtain ⟨q1, hq1⟩ : ∃ q, keepS N = q := ⟨_, rfl⟩
  obtain ⟨q2, hq2⟩ : ∃ q, keepS T = q := ⟨_, rfl⟩
  obtain ⟨q3, hq3⟩ : ∃ q, keepF L = q := ⟨_, rfl⟩
  have HQ1 := box hq1
  have HQ2 := box hq2
  have HQ3 := box hq3
  cases q1 with
  | false =>
    clear hq1 hq2 hq3
    go_enter Try.func4, Try.ntmps4
    go_wp2_with fail
    refine (keepS19_is HLN.out HSN.out HQ1 HN).mono ?_; rintro e w1 ⟨rfl, rfl⟩
    go_wp2
    go_ret
    exact ⟨rfl, Below.refl _ _⟩
  | true =>
    cases q2 with
    | false =>
      clear hq1 hq2 hq3
      go_enter Try.func4, Try.ntmps4
      go_wp2_with fail
      refine (keepS19_is HLN.out HSN.out HQ1 HN).mono ?_; rintro e w1 ⟨rfl, rfl⟩
      go_wp2_with fail
      refine (keepS19_is HLT.out HST.out HQ2 HT).mono ?_; rintro e w1 ⟨rfl, rfl⟩
      go_wp2
      go_ret
      exact ⟨rfl, Below.refl _ _⟩
    | true =>
      cases q3 with
      | false =>
        clear hq1 hq2 hq3
        go_enter Try.func4, Try.ntmps4
        go_wp2_with fail
        refine (keepS19_is HLN.out HSN.out HQ1 HN).mono ?_; rintro e w1 ⟨rfl, rfl⟩
        go_wp2_with fail
        refine (keepS19_is HLT.out HST.out HQ2 HT).mono ?_; rintro e w1 ⟨rfl, rfl⟩
        go_wp2_with fail
        refine (keepF19_is HLL.out HF.out HQ3 HL).mono ?_; rintro e w1 ⟨rfl, rfl⟩
        go_wp2
        go_ret
        exact ⟨rfl, Below.refl _ _⟩
      | true =>
        have S := box (keep_sm19 hq3).1
        have V := box (keep_sm19 hq3).2
        have hn6 : n ≤ 65536 := by have := (keepS_small hq1).1; rw [HN.out] at this; omega
        have ht6 : t ≤ 65536 := by have := (keepS_small hq2).1; rw [HT.out] at this; omega
        have ZN : Box (∀ i (hi : i < N.length), N[i].size ≤ 65536) := box (fun i hi => Nat.le_trans ((keepS_small hq1).2 _ (List.getElem_mem hi)) (by omega))
        have HSL : Box ((snapY N L).length = n) := box (by rw [snap_len]; exact HN.out)
        obtain ⟨q, hq⟩ : ∃ q, matchY N T L = q := ⟨_, rfl⟩
        have HQ := box hq
        clear hq hq1 hq2 hq3
        go_enter Try.func4, Try.ntmps4
        go_wp2_with fail
        refine (keepS19_is HLN.out HSN.out HQ1 HN).mono ?_; rintro e w1 ⟨rfl, rfl⟩
        go_wp2_with fail
        refine (keepS19_is HLT.out HST.out HQ2 HT).mono ?_; rintro e w1 ⟨rfl, rfl⟩
        go_wp2_with fail
        refine (keepF19_is HLL.out HF.out HQ3 HL).mono ?_; rintro e w1 ⟨rfl, rfl⟩
        go_wp2
        go_loopw [7] (fun i wr => ∃ k : Nat, i = .int .i64 k ∧ k ≤ n ∧ Box (Below w.heap.size w wr)) (fun i _ => n - (intOf i).toNat)
        case atStart => exact ⟨0, rfl, Nat.zero_le _, box (Below.refl _ _)⟩
        case round =>
          obtain ⟨k, rfl, hk, B1⟩ := hrel
          obtain ⟨ws, rfl⟩ : ∃ ws, ws = wr := ⟨_, rfl⟩
          by_cases hkn : k < n
          · have hki : (k : Int) < (n : Int) := by omega
            have hk0 : (0 : Int) ≤ (k : Int) := by omega
            have hkN : k < N.length := by rw [HN.out]; exact hkn
            obtain ⟨x, hx⟩ : ∃ x, N[k] = x := ⟨_, rfl⟩
            have hxz : x.size ≤ 65536 := by rw [← hx]; exact ZN.out k hkN
            obtain ⟨v, hv⟩ : ∃ v, bs (valueY x L) = v := ⟨_, rfl⟩
            have HV := box hv
            obtain ⟨g, off, rfl, c0⟩ := (HSN.out.below B1.out) k hkN
            rw [hx] at c0
            clear hx hkN hv
            go_wp2
            refine wp_region_held_drew (S := (fun w' : World => w'.cell? ⟨g, off + k, none⟩ = some (.string x) ∧ Box (Below w.heap.size w w'))) (by kernel_rfl) ⟨c0, box B1.out.drew⟩ (fun hHeld => ?_)
            refine wpAnyH_take (i := 0) (oi := { dst := some 27, op := Op.move (Operand.tmp 0), type := 24, pos := "law.go:35", after := #[], guard := none }) (v := ?v0z1) rfl (by kernel_rfl) (by kernel_rfl) (by kernel_rfl) (fun _ _ _ h => h) (Or.inl ⟨by rfl, ?y0z1⟩) (by assumption) ?r0z1
            case y0z1 => (intro w hSw; (try dsimp only at hSw); go_simp; first | done | with_reducible rfl)
            try simp only [Act.put, List.setIfInBounds_toArray, List.set_cons_zero, List.set_cons_succ]
            refine wpAnyH_take (i := 1) (oi := { dst := some 28, op := Op.move (Operand.tmp 7), type := 3, pos := "law.go:35", after := #[], guard := none }) (v := ?v1z1) rfl (by kernel_rfl) (by kernel_rfl) (by kernel_rfl) (fun _ _ _ h => h) (Or.inl ⟨by rfl, ?y1z1⟩) (by assumption) ?r1z1
            case y1z1 => (intro w hSw; (try dsimp only at hSw); go_simp; first | done | with_reducible rfl)
            try simp only [Act.put, List.setIfInBounds_toArray, List.set_cons_zero, List.set_cons_succ]
            refine wpAnyH_take (i := 2) (oi := { dst := some 29, op := Op.indexAddr 24 (Operand.tmp 27) (Operand.tmp 28), type := 0, pos := "law.go:35", after := #[{ on := 0, ground := Ground.data }, { on := 1, ground := Ground.data }], guard := none }) (v := ?v2z1) rfl (by kernel_rfl) (by kernel_rfl) (by kernel_rfl) (fun _ _ _ h => h) (Or.inl ⟨by rfl, ?y2z1⟩) (by assumption) ?r2z1
            case y2z1 => (intro w hSw; (try dsimp only at hSw); go_simp; first | done | with_reducible rfl)
            try simp only [Act.put, List.setIfInBounds_toArray, List.set_cons_zero, List.set_cons_succ]
            refine wpAnyH_take (i := 3) (oi := { dst := some 30, op := Op.load 9 (Operand.tmp 29), type := 9, pos := "law.go:35", after := #[{ on := 2, ground := Ground.data }], guard := none }) (v := ?v3z1) rfl (by kernel_rfl) (by kernel_rfl) (by kernel_rfl) (fun _ _ _ h => h) (Or.inl ⟨by rfl, ?y3z1⟩) (by assumption) ?r3z1
            case y3z1 => (intro w hSw; (try dsimp only at hSw); go_simp; first | done | with_reducible rfl)
            try simp only [Act.put, List.setIfInBounds_toArray, List.set_cons_zero, List.set_cons_succ]
            refine wpAnyH_take (i := 4) (oi := { dst := some 31, op := Op.move (Operand.tmp 2), type := 22, pos := "law.go:35", after := #[], guard := none }) (v := ?v4z1) rfl (by kernel_rfl) (by kernel_rfl) (by kernel_rfl) (fun _ _ _ h => h) (Or.inl ⟨by rfl, ?y4z1⟩) (by assumption) ?r4z1
            case y4z1 => (intro w hSw; (try dsimp only at hSw); go_simp; first | done | with_reducible rfl)
            try simp only [Act.put, List.setIfInBounds_toArray, List.set_cons_zero, List.set_cons_succ]
            refine wpAnyH_take (i := 6) (oi := { dst := some 33, op := Op.move (Operand.tmp 0), type := 24, pos := "law.go:35", after := #[], guard := none }) (v := ?v6z1) rfl (by kernel_rfl) (by kernel_rfl) (by kernel_rfl) (fun _ _ _ h => h) (Or.inl ⟨by rfl, ?y6z1⟩) (by assumption) ?r6z1
            case y6z1 => (intro w hSw; (try dsimp only at hSw); go_simp; first | done | with_reducible rfl)
            try simp only [Act.put, List.setIfInBounds_toArray, List.set_cons_zero, List.set_cons_succ]
            refine wpAnyH_take (i := 7) (oi := { dst := some 34, op := Op.move (Operand.tmp 7), type := 3, pos := "law.go:35", after := #[], guard := none }) (v := ?v7z1) rfl (by kernel_rfl) (by kernel_rfl) (by kernel_rfl) (fun _ _ _ h => h) (Or.inl ⟨by rfl, ?y7z1⟩) (by assumption) ?r7z1
            case y7z1 => (intro w hSw; (try dsimp only at hSw); go_simp; first | done | with_reducible rfl)
            try simp only [Act.put, List.setIfInBounds_toArray, List.set_cons_zero, List.set_cons_succ]
            refine wpAnyH_take (i := 8) (oi := { dst := some 35, op := Op.indexAddr 24 (Operand.tmp 33) (Operand.tmp 34), type := 0, pos := "law.go:35", after := #[{ on := 6, ground := Ground.data }, { on := 7, ground := Ground.data }], guard := none }) (v := ?v8z1) rfl (by kernel_rfl) (by kernel_rfl) (by kernel_rfl) (fun _ _ _ h => h) (Or.inl ⟨by rfl, ?y8z1⟩) (by assumption) ?r8z1
            case y8z1 => (intro w hSw; (try dsimp only at hSw); go_simp; first | done | with_reducible rfl)
            try simp only [Act.put, List.setIfInBounds_toArray, List.set_cons_zero, List.set_cons_succ]
            refine wpAnyH_take (i := 9) (oi := { dst := some 36, op := Op.load 9 (Operand.tmp 35), type := 9, pos := "law.go:35", after := #[{ on := 8, ground := Ground.data }], guard := none }) (v := ?v9z1) rfl (by kernel_rfl) (by kernel_rfl) (by kernel_rfl) (fun _ _ _ h => h) (Or.inl ⟨by rfl, ?y9z1⟩) (by assumption) ?r9z1
            case y9z1 => (intro w hSw; (try dsimp only at hSw); go_simp; first | done | with_reducible rfl)
            try simp only [Act.put, List.setIfInBounds_toArray, List.set_cons_zero, List.set_cons_succ]
            refine wpAnyH_take (i := 10) (oi := { dst := some 37, op := Op.move (Operand.tmp 2), type := 22, pos := "law.go:35", after := #[], guard := none }) (v := ?v10z1) rfl (by kernel_rfl) (by kernel_rfl) (by kernel_rfl) (fun _ _ _ h => h) (Or.inl ⟨by rfl, ?y10z1⟩) (by assumption) ?r10z1
            case y10z1 => (intro w hSw; (try dsimp only at hSw); go_simp; first | done | with_reducible rfl)
            try simp only [Act.put, List.setIfInBounds_toArray, List.set_cons_zero, List.set_cons_succ]
            refine wpAnyH_ready (rs := [5]) (by kernel_rfl) (by simp) ?_
            refine AllReadyH.cons (o := { dst := some 32, op := Op.call { callee := Callee.value (Operand.func 13), args := #[Operand.tmp 30, Operand.tmp 31], argTypes := #[9, 22] }, type := 9, pos := "law.go:35", after := #[{ on := 3, ground := Ground.data }, { on := 4, ground := Ground.data }], guard := none }) rfl (fun K hK => ?_) AllReadyH.nil
            go_simp
            refine (mValue19_is S V hxz (HF.out.below hHeld.2.out) HL HV).mono ?_; rintro e w5 ⟨rfl, hb5⟩
            have B5 := box (hHeld.2.out.trans (hb5.mono hHeld.2.out.size))
            go_wp2_with fail
            refine hK.out _ _ ⟨(hb5.cell (cell_lt hHeld.1)).trans hHeld.1, B5⟩ (fun hHeld => ?_)
            clear hK K
            try simp only [Act.put, List.setIfInBounds_toArray, List.set_cons_zero, List.set_cons_succ]
            refine wpAnyH_ready (rs := [11]) (by kernel_rfl) (by simp) ?_
            refine AllReadyH.cons (o := { dst := some 38, op := Op.call { callee := Callee.value (Operand.func 14), args := #[Operand.tmp 36, Operand.tmp 37], argTypes := #[9, 22] }, type := 9, pos := "law.go:35", after := #[{ on := 9, ground := Ground.data }, { on := 10, ground := Ground.data }, { on := 5, ground := Ground.chain }], guard := none }) rfl (fun K hK => ?_) AllReadyH.nil
            go_simp
            refine (rValue19_is S V hxz (HF.out.below hHeld.2.out) HL HV).mono ?_; rintro e w6 ⟨rfl, hb6⟩
            have B6 := box (hHeld.2.out.trans (hb6.mono hHeld.2.out.size))
            go_wp2_with fail
            refine hK.out _ _ ⟨(hb6.cell (cell_lt hHeld.1)).trans hHeld.1, B6⟩ (fun hHeld => ?_)
            clear hK K
            try simp only [Act.put, List.setIfInBounds_toArray, List.set_cons_zero, List.set_cons_succ]
            refine wpAnyH_take (i := 12) (oi := { dst := some 39, op := Op.binOp BinOp.neq 9 (Operand.tmp 32) (Operand.tmp 38) 9, type := 4, pos := "law.go:35", after := #[{ on := 5, ground := Ground.data }, { on := 11, ground := Ground.data }], guard := none }) (v := ?v12z1) rfl (by kernel_rfl) (by kernel_rfl) (by kernel_rfl) (fun _ _ _ h => h) (Or.inl ⟨by rfl, ?y12z1⟩) (by assumption) ?r12z1
            case y12z1 => (intro w hSw; (try dsimp only at hSw); go_simp; first | done | with_reducible rfl)
            try simp only [Act.put, List.setIfInBounds_toArray, List.set_cons_zero, List.set_cons_succ]
            refine wpAnyH_done (by kernel_rfl) ?_ _
            clear hHeld c0
            go_wp2
            go_roundw
            case rel => exact ⟨k + 1, by go_num, by omega, B6⟩
            case measure => simp [intOf]; omega
          · have hki : ¬ (k : Int) < (n : Int) := by omega
            have FS := box (HF.out.below B1.out)
            have NS := box (HSN.out.below B1.out)
            have TS := box (HST.out.below B1.out)
            go_wp2_with fail
            refine (mSnap19_is S V hn6 ZN NS.out FS.out HN HL).mono ?_; rintro e w2 ⟨p2, c2, rfl, hS2, hb2⟩
            have B2 := box (B1.out.trans (hb2.mono B1.out.size))
            have S2 := box hS2
            have F2 := box (FS.out.below hb2)
            have N2 := box (NS.out.below hb2)
            have T2 := box (TS.out.below hb2)
            clear hb2 hS2 FS NS TS
            go_wp2_with fail
            refine (rSnap19_is S V hn6 ZN N2.out F2.out HN HL).mono ?_; rintro e w3 ⟨p3, c3, rfl, hS3, hb3⟩
            have B3 := box (B2.out.trans (hb3.mono B2.out.size))
            have S3 := box hS3
            have S23 := box (S2.out.below hb3)
            have F3 := box (F2.out.below hb3)
            have N3 := box (N2.out.below hb3)
            have T3 := box (T2.out.below hb3)
            clear hb3 hS3 F2 N2 T2 S2
            go_wp2_with fail
            refine (kSame19_is hn6 hn6 S23.out S3.out HSL HSL (box (decide_eq_true rfl))).mono ?_; rintro e w4 ⟨rfl, hb4⟩
            have B4 := box (B3.out.trans (hb4.mono B3.out.size))
            have F4 := box (F3.out.below hb4)
            have N4 := box (N3.out.below hb4)
            have T4 := box (T3.out.below hb4)
            clear hb4 F3 N3 T3 S3 S23
            go_wp2_with fail
            refine (mMatch19_is S V hn6 ht6 ZN N4.out T4.out F4.out HN HT HL HQ).mono ?_; rintro e w5 ⟨rfl, hb5⟩
            have B5 := box (B4.out.trans (hb5.mono B4.out.size))
            have F5 := box (F4.out.below hb5)
            have N5 := box (N4.out.below hb5)
            have T5 := box (T4.out.below hb5)
            clear hb5 F4 N4 T4
            go_wp2_with fail
            refine (rMatch19_is S V hn6 ht6 ZN N5.out T5.out F5.out HN HT HL HQ).mono ?_; rintro e w6 ⟨rfl, hb6⟩
            have B6 := box (B5.out.trans (hb6.mono B5.out.size))
            clear hb6
            go_wp2_with fail
            refine (awake19_any _).mono ?_; rintro e w7 ⟨rfl, hb7⟩
            have B7 := box (B6.out.trans (hb7.mono B6.out.size))
            clear hb7
            go_wp2
            go_ret
            exact ⟨rfl, B7.out⟩
theorem values19_walk (a : Option Addr) (ca : Nat) (N : List ByteArray) (d : Option Addr) (cd : Nat) (T : List ByteArray) (b : Option Addr) (cb : Nat) (L : List F) (w : World) (hn0 : N.length ≤ maxLen) (hS : Ss w a N) (hcn : N.length ≤ ca) (ht0 : T.length ≤ maxLen) (hT : Ss w d T) (hct : T.length ≤ cd) (hl0 : L.length ≤ maxLen) (hF : Fs w b L) (hcl : L.length ≤ cb) :
    Calls Try.prog 4 #[.slice a N.length ca, .slice d T.length cd, .slice b L.length cb] w fun e w' => e = .returned (.bool true) ∧ Below w.heap.size w w' :=
  values19_in a d b ca cd cb _ _ _ N T L w (box hn0) (box hS) (box ht0) (box hT) (box hl0) (box hF) (box rfl) (box rfl) (box rfl)
set_option maxHeartbeats 4000000 in
theorem itself19_in (a b : Option Addr) (ca cb n l : Nat) (N : List ByteArray) (L : List F) (z : Int) (w : World) (HLN : Box (N.length ≤ maxLen)) (HSN : Box (Ss w a N)) (HLL : Box (L.length ≤ maxLen)) (HF : Box (Fs w b L)) (HN : Box (N.length = n)) (HL : Box (L.length = l)) :
    Calls Try.prog 5 #[.slice a n ca, .slice b l cb, .int .i64 z] w fun e w' => e = .returned (.bool true) ∧ Below w.heap.size w w' := by
  obtain ⟨q1, hq1⟩ : ∃ q, keepS N = q := ⟨_, rfl⟩
  obtain ⟨q3, hq3⟩ : ∃ q, keepF L = q := ⟨_, rfl⟩
  have HQ1 := box hq1
  have HQ3 := box hq3
  cases q1 with
  | false =>
    clear hq1 hq3
    go_enter Try.func5, Try.ntmps5
    go_wp2_with fail
    refine (keepS19_is HLN.out HSN.out HQ1 HN).mono ?_; rintro e w1 ⟨rfl, rfl⟩
    go_wp2
    go_ret
    exact ⟨rfl, Below.refl _ _⟩
  | true =>
    cases q3 with
    | false =>
      clear hq1 hq3
      go_enter Try.func5, Try.ntmps5
      go_wp2_with fail
      refine (keepS19_is HLN.out HSN.out HQ1 HN).mono ?_; rintro e w1 ⟨rfl, rfl⟩
      go_wp2_with fail
      refine (keepF19_is HLL.out HF.out HQ3 HL).mono ?_; rintro e w1 ⟨rfl, rfl⟩
      go_wp2
      go_ret
      exact ⟨rfl, Below.refl _ _⟩
    | true =>
      by_cases hz0 : z < 0
      · clear hq1 hq3
        go_enter Try.func5, Try.ntmps5
        go_wp2_with fail
        refine (keepS19_is HLN.out HSN.out HQ1 HN).mono ?_; rintro e w1 ⟨rfl, rfl⟩
        go_wp2_with fail
        refine (keepF19_is HLL.out HF.out HQ3 HL).mono ?_; rintro e w1 ⟨rfl, rfl⟩
        go_wp2
        go_ret
        exact ⟨rfl, Below.refl _ _⟩
      · by_cases hz1 : (n : Int) ≤ z
        · clear hq1 hq3
          go_enter Try.func5, Try.ntmps5
          go_wp2_with fail
          refine (keepS19_is HLN.out HSN.out HQ1 HN).mono ?_; rintro e w1 ⟨rfl, rfl⟩
          go_wp2_with fail
          refine (keepF19_is HLL.out HF.out HQ3 HL).mono ?_; rintro e w1 ⟨rfl, rfl⟩
          go_wp2
          go_ret
          exact ⟨rfl, Below.refl _ _⟩
        · have S := box (keep_sm19 hq3).1
          have V := box (keep_sm19 hq3).2
          have hn6 : n ≤ 65536 := by have := (keepS_small hq1).1; rw [HN.out] at this; omega
          have ZN : Box (∀ i (hi : i < N.length), N[i].size ≤ 65536) := box (fun i hi => Nat.le_trans ((keepS_small hq1).2 _ (List.getElem_mem hi)) (by omega))
          have HSL : Box ((snapY N L).length = n) := box (by rw [snap_len]; exact HN.out)
          have HY : Box (matchY N (snapY N L) L = true) := box (snap_self N L)
          obtain ⟨k, rfl⟩ : ∃ k : Nat, z = k := ⟨z.toNat, by omega⟩
          have hkn : k < n := by omega
          have hkN : k < N.length := by rw [HN.out]; exact hkn
          obtain ⟨x, hx⟩ : ∃ x, N[k] = x := ⟨_, rfl⟩
          have hxm : x ∈ N := by rw [← hx]; exact List.getElem_mem hkN
          have hxz : x.size ≤ 65536 := by rw [← hx]; exact ZN.out k hkN
          obtain ⟨M, hM⟩ : ∃ M, remL x L = M := ⟨_, rfl⟩
          have HM := box hM
          have SM := box (sm_rem19 S.out (show remL x L = M from hM))
          have VM := box (vals_rem19 V.out (show remL x L = M from hM))
          obtain ⟨r, hr⟩ : ∃ r, M.length = r := ⟨_, rfl⟩
          have HR := box hr
          obtain ⟨q, hq⟩ : ∃ q, decide (r = l) = q := ⟨_, rfl⟩
          have HQ : Box (matchY N (snapY N L) M = q) := box (by rw [← hM, snap_rem hxm, hM, hr, HL.out]; exact hq)
          have hrl : ((r : Int) == (l : Int)) = q := by rw [← hq, Bool.eq_iff_iff, beq_iff_eq, decide_eq_true_eq]; omega
          obtain ⟨g, off, hga, c0⟩ := HSN.out k hkN
          rw [hx] at c0
          subst hga
          clear hq hq1 hq3 hM hr hx hkN hxm
          go_enter Try.func5, Try.ntmps5
          go_wp2_with fail
          refine (keepS19_is HLN.out HSN.out HQ1 HN).mono ?_; rintro e w1 ⟨rfl, rfl⟩
          go_wp2_with fail
          refine (keepF19_is HLL.out HF.out HQ3 HL).mono ?_; rintro e w1 ⟨rfl, rfl⟩
          go_wp2_with fail
          refine (mSnap19_is S V hn6 ZN HSN.out HF.out HN HL).mono ?_; rintro e w2 ⟨p2, c2, rfl, hS2, hb2⟩
          have B2 := box hb2
          have S2 := box hS2
          have F2 := box (HF.out.below hb2)
          have N2 := box (HSN.out.below hb2)
          have d0 := (hb2.cell (cell_lt c0)).trans c0
          clear hb2 hS2 c0
          go_wp2_with fail
          refine (rRem19_is S hxz F2.out HL HM).mono ?_; rintro e w3 ⟨p3, c3, rfl, hM3, hb3⟩
          rw [HR.out]
          have B3 := box (B2.out.trans (hb3.mono B2.out.size))
          have M3 := box hM3
          have S3 := box (S2.out.below hb3)
          have F3 := box (F2.out.below hb3)
          have N3 := box (N2.out.below hb3)
          clear hb3 hM3 S2 F2 N2 d0
          go_wp2_with fail
          refine (mMatch19_is S V hn6 hn6 ZN N3.out S3.out F3.out HN HSL HL HY).mono ?_; rintro e w4 ⟨rfl, hb4⟩
          have B4 := box (B3.out.trans (hb4.mono B3.out.size))
          have M4 := box (M3.out.below hb4)
          have S4 := box (S3.out.below hb4)
          have N4 := box (N3.out.below hb4)
          clear hb4 M3 S3 F3 N3
          go_wp2_with fail
          refine (mMatch19_is SM VM hn6 hn6 ZN N4.out S4.out M4.out HN HSL HR HQ).mono ?_; rintro e w5 ⟨rfl, hb5⟩
          have B5 := box (B4.out.trans (hb5.mono B4.out.size))
          clear hb5
          go_wp2_with fail
          refine (awake19_any _).mono ?_; rintro e w7 ⟨rfl, hb7⟩
          have B7 := box (B5.out.trans (hb7.mono B5.out.size))
          clear hb7
          go_wp2
          go_ret
          exact ⟨rfl, B7.out⟩
theorem itself19_walk (a : Option Addr) (ca : Nat) (N : List ByteArray) (b : Option Addr) (cb : Nat) (L : List F) (z : Int) (w : World) (hn0 : N.length ≤ maxLen) (hS : Ss w a N) (hcn : N.length ≤ ca) (hl0 : L.length ≤ maxLen) (hF : Fs w b L) (hcl : L.length ≤ cb) (hz : (Lit.int .i64 z).wf = true) :
    Calls Try.prog 5 #[.slice a N.length ca, .slice b L.length cb, .int .i64 z] w fun e w' => e = .returned (.bool true) ∧ Below w.heap.size w w' :=
  itself19_in a b ca cb _ _ N L z w (box hn0) (box hS) (box hl0) (box hF) (box rfl) (box rfl)
end
end Go.Proofs.Ytlhcccakiidbdaa.Asc
