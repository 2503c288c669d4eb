/- Merged texts: LanRef AccRef3 VrySpec StoSpec PreAny EtaMine EtaMine2. -/
import Derived.Test.YtiogngfemelifaaGreatDoorZs01
import Derived.Test.YtiogngfemelifaaGreatDoorZs02
import Derived.Test.YtiogngfemelifaaGreatDoorZs03
import Derived.Test.YtiogngfemelifaaGreatDoorZs04
import Derived.Test.YtiogngfemelifaaGreatDoorZs05
import Derived.Test.YtiogngfemelifaaGreatDoorZs06
import Derived.Test.YtiogngfemelifaaGreatDoorZs07
import Derived.Test.YtiogngfemelifaaGreatDoorZs08
import Derived.Deep.RegionHeld3
import Derived.OwnWalk
set_option linter.unusedVariables false
set_option linter.unusedSimpArgs false
set_option maxRecDepth 100000
namespace Go.Proofs.YtiogngfemelifaaGreatDoor.Asc
section
open Go.RowKit
theorem OwnS.drewN {w : World} {B n : Nat} {v : Value} {L : List ByteArray} (h : OwnS w B v L) : OwnS (w.drewN n) B v L := own_below h (below_drewN _ _)
end
section
open Go.RowKit
theorem all_mem {nm : ByteArray} {L : List F} {m : List UInt8} (h : m ∈ allL nm L) : ∃ x ∈ getL nm L, m.length ≤ x.size := by
  unfold allL at h
  have h := List.mem_of_mem_take h
  unfold allF at h
  obtain ⟨x, hx, hm⟩ := List.mem_flatMap.1 h
  refine ⟨x, hx, ?_⟩
  unfold splitL memL at hm
  have hm := (List.mem_filter.1 (List.mem_of_mem_take hm)).1
  obtain ⟨p, hp, rfl⟩ := List.mem_map.1 hm
  have h1 := cut_small _ _ _ _ p hp
  have h2 := trim_le p
  have hz : x.data.toList.length = x.size := by simp
  simp only [List.length_nil, Nat.zero_add] at h1
  omega
end
section
def nmVry : ByteArray := ⟨#[86, 97, 114, 121]⟩
abbrev BL := List UInt8
theorem ltB_irrefl (a : BL) : ¬ a < a := List.lt_irrefl a
theorem ltB_trans {a b c : BL} (h1 : a < b) (h2 : b < c) : a < c := List.lt_trans h1 h2
theorem ltB_tri (a b : BL) : a < b ∨ a = b ∨ b < a := by
  rcases Classical.em (a < b) with h | h
  · exact .inl h
  · rcases Classical.em (b < a) with h2 | h2
    · exact .inr (.inr h2)
    · exact .inr (.inl (List.le_antisymm (List.not_lt.1 h2) (List.not_lt.1 h)))
/-- one more, in its place -/
def insU (x : BL) : List BL → List BL
  | [] => [x]
  | y :: ys => if y < x then y :: insU x ys else if y = x then y :: ys else x :: y :: ys
def AscU (L : List BL) : Prop := L.Pairwise (· < ·)
theorem insU_mem {x z : BL} : ∀ {L : List BL}, z ∈ insU x L ↔ z = x ∨ z ∈ L
  | [] => by simp [insU]
  | y :: ys => by
    have ih := insU_mem (x := x) (z := z) (L := ys)
    unfold insU
    split
    · rw [List.mem_cons, ih, List.mem_cons]
      constructor
      · rintro (h | h | h)
        · exact .inr (.inl h)
        · exact .inl h
        · exact .inr (.inr h)
      · rintro (h | h | h)
        · exact .inr (.inl h)
        · exact .inl h
        · exact .inr (.inr h)
    · split
      · rename_i h1 h2
        subst h2
        constructor
        · intro h; exact .inr h
        · rintro (h | h)
          · rw [h]; exact List.mem_cons_self
          · exact h
      · exact List.mem_cons
theorem insU_asc {x : BL} : ∀ {L : List BL}, AscU L → AscU (insU x L)
  | [], _ => by unfold insU AscU; exact List.pairwise_singleton _ _
  | y :: ys, h => by
    have h' := List.pairwise_cons.1 h
    unfold insU
    split
    · rename_i hy
      refine List.pairwise_cons.2 ⟨fun z hz => ?_, insU_asc h'.2⟩
      rcases insU_mem.1 hz with rfl | hz
      · exact hy
      · exact h'.1 z hz
    · rename_i hy
      split
      · exact h
      · rename_i hne
        have hxy : x < y := by
          rcases ltB_tri x y with h | h | h
          · exact h
          · exact absurd h.symm hne
          · exact absurd h hy
        refine List.pairwise_cons.2 ⟨fun z hz => ?_, h⟩
        rcases List.mem_cons.1 hz with rfl | hz
        · exact hxy
        · exact ltB_trans hxy (h'.1 z hz)
/-- two ascending lists with the same elements -/
theorem ascU_ext : ∀ {A B : List BL}, AscU A → AscU B → (∀ z, z ∈ A ↔ z ∈ B) → A = B
  | [], [], _, _, _ => rfl
  | [], b :: B, _, _, h => by have := (h b).2 List.mem_cons_self; cases this
  | a :: A, [], _, _, h => by have := (h a).1 List.mem_cons_self; cases this
  | a :: A, b :: B, hA, hB, h => by
    have hA' := List.pairwise_cons.1 hA
    have hB' := List.pairwise_cons.1 hB
    have hab : a = b := by
      rcases ltB_tri a b with q | q | q
      · rcases List.mem_cons.1 ((h a).1 List.mem_cons_self) with e | e
        · exact e
        · exact absurd (ltB_trans q (hB'.1 a e)) (ltB_irrefl a)
      · exact q
      · rcases List.mem_cons.1 ((h b).2 List.mem_cons_self) with e | e
        · exact e.symm
        · exact absurd (ltB_trans q (hA'.1 b e)) (ltB_irrefl b)
    subst hab
    have : A = B := ascU_ext hA'.2 hB'.2 (fun z => by
      constructor
      · intro hz
        rcases List.mem_cons.1 ((h z).1 (List.mem_cons_of_mem _ hz)) with e | e
        · subst e; exact absurd (hA'.1 z hz) (ltB_irrefl z)
        · exact e
      · intro hz
        rcases List.mem_cons.1 ((h z).2 (List.mem_cons_of_mem _ hz)) with e | e
        · subst e; exact absurd (hB'.1 z hz) (ltB_irrefl z)
        · exact e)
    rw [this]
/-- the members in lower case, ascending, each once -/
def namesU (ms : List BL) : List BL := ms.foldl (fun acc m => insU (lowL m) acc) []
theorem foldU_asc : ∀ (ms : List BL) {acc : List BL}, AscU acc → AscU (ms.foldl (fun acc m => insU (lowL m) acc) acc)
  | [], _, h => h
  | m :: ms, acc, h => foldU_asc ms (insU_asc h)
theorem foldU_mem {z : BL} : ∀ (ms : List BL) {acc : List BL}, z ∈ ms.foldl (fun acc m => insU (lowL m) acc) acc ↔ (∃ m ∈ ms, lowL m = z) ∨ z ∈ acc
  | [], acc => by simp
  | m :: ms, acc => by
    rw [List.foldl_cons, foldU_mem ms, insU_mem]
    constructor
    · rintro (⟨y, hy, e⟩ | h | h)
      · exact .inl ⟨y, List.mem_cons_of_mem _ hy, e⟩
      · exact .inl ⟨m, List.mem_cons_self, h.symm⟩
      · exact .inr h
    · rintro (⟨y, hy, e⟩ | h)
      · rcases List.mem_cons.1 hy with rfl | hy
        · exact .inr (.inl e.symm)
        · exact .inl ⟨y, hy, e⟩
      · exact .inr (.inr h)
theorem namesU_asc (ms : List BL) : AscU (namesU ms) := foldU_asc ms List.Pairwise.nil
theorem namesU_mem {z : BL} {ms : List BL} : z ∈ namesU ms ↔ ∃ m ∈ ms, lowL m = z := by
  unfold namesU
  rw [foldU_mem]
  constructor
  · rintro (h | h)
    · exact h
    · cases h
  · exact .inl
theorem namesU_next {ms : List BL} {j : Nat} (h : j < ms.length) : namesU (ms.take (j + 1)) = insU (lowL ms[j]) (namesU (ms.take j)) := by
  unfold namesU
  rw [List.take_succ_eq_append_getElem h, List.foldl_append]; rfl
theorem insU_len (x : BL) : ∀ L : List BL, (insU x L).length ≤ L.length + 1
  | [] => Nat.le_refl _
  | y :: ys => by
    have ih := insU_len x ys
    unfold insU
    split
    · simp only [List.length_cons]; omega
    · split
      · simp only [List.length_cons]; omega
      · simp only [List.length_cons]; omega
theorem namesU_len : ∀ (ms : List BL), (namesU ms).length ≤ ms.length := by
  intro ms
  have key : ∀ (ms acc : List BL), (ms.foldl (fun acc m => insU (lowL m) acc) acc).length ≤ acc.length + ms.length := by
    intro ms
    induction ms with
    | nil => intro acc; simp
    | cons m ms ih =>
      intro acc
      rw [List.foldl_cons]
      have h1 := ih (insU (lowL m) acc)
      have h2 := insU_len (lowL m) acc
      simp only [List.length_cons]
      omega
  have := key ms []
  simpa [namesU] using this
/-- is the list one of tokens without "*"? -/
def okU (ms : List BL) : Bool := decide (ms.length < 64) && ms.all fun m => tokL m && decide (m ≠ [42])
/-- 19.1 -/
def namesV (L : List F) : List BL := if okU (allL nmVry L) = true then namesU (allL nmVry L) else []
def namesO (L : List F) : Bool := okU (allL nmVry L)
end
section
def lmN : ByteArray := ⟨#[76, 97, 115, 116, 45, 77, 111, 100, 105, 102, 105, 101, 100]⟩
def rgN : ByteArray := ⟨#[82, 97, 110, 103, 101]⟩
def auN : ByteArray := ⟨#[65, 117, 116, 104, 111, 114, 105, 122, 97, 116, 105, 111, 110]⟩
/-- 24.1 -/
noncomputable def valT (L : List F) : Bool := (ofM21 L).isSome || (fdtD lmN L).isSome
def unsB (m : List UInt8) : Bool := !(m == [71, 69, 84] || m == [72, 69, 65, 68] || m == [79, 80, 84, 73, 79, 78, 83] || m == [84, 82, 65, 67, 69])
def anyC (c : CT) : Bool := c.mr || c.pb || (c.sm != -1)
/-- 24.2 -/
def storB (g s a : Bool) (c : CT) (o rg au lf vl : Bool) : Bool := g && s && !a && !c.ns && !c.pv && o && !rg && (!au || anyC c) && (lf || vl)
noncomputable def lifS (L : List F) : Int := lifeV (respC (allL ccN L)) (fdtD exN L) (fdtD daN L)
def ctQ (Q : List F) : CT := reqC (Q.any (nmd ccN)) (allL ccN Q) (allL pgN Q)
noncomputable def storV (m : List UInt8) (s : Int) (Q L : List F) : Bool :=
  storB (m == [71, 69, 84]) (s == 200) (ctQ Q).ns (respC (allL ccN L)) (namesO L) (Q.any (nmd rgN)) (Q.any (nmd auN)) (decide (0 < lifS L)) (valT L)
theorem stor_needs {m : List UInt8} {s : Int} {Q L : List F} (h : storV m s Q L = true) : (m == [71, 69, 84]) = true ∧ (s == 200) = true ∧ (0 < lifS L ∨ valT L = true) := by
  unfold storV storB at h
  simp only [Bool.and_eq_true, Bool.or_eq_true, decide_eq_true_eq] at h
  exact ⟨h.1.1.1.1.1.1.1.1, h.1.1.1.1.1.1.1.2, h.2⟩
end
section
open Go.RowKit
/-- does the text begin so? -/
def pre21 (l p : List UInt8) : Bool := l.take p.length == p
theorem hasPre21_is {s p : ByteArray} {b : Bool} {w : World} (hs : s.size ≤ 4000000) (hp : p.size ≤ 65536) (hb : Box (pre21 s.data.toList p.data.toList = b)) :
    Calls Tryz.prog 130 #[.string s, .string p] w fun e w' => e = .returned (.bool b) ∧ w = w' := by
  have hz : s.data.toList.length = s.size := by simp
  have hz2 : p.data.toList.length = p.size := by simp
  by_cases h : p.size ≤ s.size
  · have HE : ((s.extract 0 p.size).toList == p.toList) = b := by
      rw [← hb.out]; unfold pre21
      rw [toList_data, toList_data, ext_bs, List.drop_zero, hz2]; rfl
    have hi : (p.size : Int) ≤ (s.size : Int) := by omega
    clear hz hz2
    go_enter Tryz.func130, Tryz.ntmps130
    go_wp2
    go_ret
    exact ⟨rfl, rfl⟩
  · have HE : Box (b = false) := box (by
      rw [← hb.out]; unfold pre21
      rw [beq_eq_false_iff_ne]
      intro e
      have := congrArg List.length e
      rw [List.length_take] at this
      omega)
    have hi : (s.size : Int) < (p.size : Int) := by omega
    clear hz hz2
    go_enter Tryz.func130, Tryz.ntmps130
    go_wp2
    go_ret
    exact ⟨ret_bool HE.out.symm, rfl⟩
theorem pre21_le {s p : ByteArray} (h : pre21 s.data.toList p.data.toList = true) : p.size ≤ s.size := by
  unfold pre21 at h
  rw [beq_iff_eq] at h
  have := congrArg List.length h
  rw [List.length_take] at this
  simp at this; omega
theorem scutPre21_no {s p : ByteArray} {w : World} (hs : s.size ≤ 4000000) (hp : p.size ≤ 65536) (h : Box (pre21 s.data.toList p.data.toList = false)) :
    Calls Tryz.prog 111 #[.string s, .string p] w fun e w' => e = .returned (.tuple #[.string s, .bool false]) ∧ w = w' := by
  go_enter Tryz.func111, Tryz.ntmps111
  go_wp2_with fail
  refine (hasPre21_is hs hp h).mono ?_; rintro e w1 ⟨rfl, rfl⟩
  go_wp2
  go_ret2
  exact ⟨rfl, rfl⟩
theorem scutPre21_yes {s p x : ByteArray} {w : World} (hs : s.size ≤ 4000000) (hp : p.size ≤ 65536) (h : Box (pre21 s.data.toList p.data.toList = true)) (hx : Box (s.extract p.size s.size = x)) :
    Calls Tryz.prog 111 #[.string s, .string p] w fun e w' => e = .returned (.tuple #[.string x, .bool true]) ∧ w = w' := by
  have hle := pre21_le h.out
  have hli : (p.size : Int) ≤ (s.size : Int) := by omega
  go_enter Tryz.func111, Tryz.ntmps111
  go_wp2_with fail
  refine (hasPre21_is hs hp h).mono ?_; rintro e w1 ⟨rfl, rfl⟩
  go_wp2
  go_ret2
  exact ⟨by rw [← hx.out]; rfl, rfl⟩
theorem cutPre21_no {s p : ByteArray} {w : World} (hs : s.size ≤ 4000000) (hp : p.size ≤ 65536) (h : Box (pre21 s.data.toList p.data.toList = false)) :
    Calls Tryz.prog 76 #[.string s, .string p] w fun e w' => e = .returned (.tuple #[.string s, .bool false]) ∧ w = w' := by
  go_enter Tryz.func76, Tryz.ntmps76
  go_wp2_with fail
  refine (scutPre21_no hs hp h).mono ?_; rintro e w1 ⟨rfl, rfl⟩
  go_wp2
  go_ret2
  exact ⟨rfl, rfl⟩
theorem cutPre21_yes {s p x : ByteArray} {w : World} (hs : s.size ≤ 4000000) (hp : p.size ≤ 65536) (h : Box (pre21 s.data.toList p.data.toList = true)) (hx : Box (s.extract p.size s.size = x)) :
    Calls Tryz.prog 76 #[.string s, .string p] w fun e w' => e = .returned (.tuple #[.string x, .bool true]) ∧ w = w' := by
  go_enter Tryz.func76, Tryz.ntmps76
  go_wp2_with fail
  refine (scutPre21_yes hs hp h hx).mono ?_; rintro e w1 ⟨rfl, rfl⟩
  go_wp2
  go_ret2
  exact ⟨rfl, rfl⟩
theorem ext_drop21 {s : ByteArray} (k : Nat) : (s.extract k s.size).data.toList = s.data.toList.drop k := by rw [ext_bs, bs_toList, List.take_of_length_le (by simp)]
end
section
open Go.RowKit
theorem isTagByte_any (b : Int) (w : World) (h0 : 0 ≤ b) (h1 : b ≤ 255) :
    Calls Tryz.prog 113 #[.int .u8 b] w fun e w' => e = .returned (.bool (tagI b)) ∧ w = w' := by
  go_enter Tryz.func113, Tryz.ntmps113
  go_wp2
  all_goals (go_ret; exact ⟨ret_bool (by rw [Bool.eq_iff_iff]; simp [tagI, *] <;> omega), rfl⟩)
theorem isTag_any (s : ByteArray) (w : World) (hs : s.size ≤ maxLen) :
    Calls Tryz.prog 78 #[.string s] w fun e w' => e = .returned (.bool (tagT s.data.toList)) ∧ w = w' := by
  unfold maxLen at hs
  go_enter Tryz.func78, Tryz.ntmps78
  go_wp2
  go_loop [6] (fun i => ∃ k : Nat, k ≤ s.size ∧ i = .int .i64 k ∧ allI tagI (s.data.toList.take k) = true) (fun i => s.size - (intOf i).toNat)
  case atStart => exact ⟨0, Nat.zero_le _, rfl, rfl⟩
  case round =>
    obtain ⟨k, hk, rfl, hall⟩ := hrel
    by_cases hlt : k < s.size
    · have hb := byte_bd s k hlt
      rcases hp : tagI (s[k].toNat) with _ | _
      · go_wp2_with (go_at_call 113; refine (isTagByte_any _ _ hb.1 hb.2).mono ?_; rintro e w' ⟨rfl, rfl⟩)
        go_ret
        exact ⟨ret_bool (tagT_not hlt hp).symm, rfl⟩
      · go_wp2_with (go_at_call 113; refine (isTagByte_any _ _ hb.1 hb.2).mono ?_; rintro e w' ⟨rfl, rfl⟩)
        go_round
        case rel => exact ⟨k + 1, by omega, by go_num, all_more hall hlt hp⟩
        case measure => simp [intOf]; omega
    · go_wp2
      go_ret
      exact ⟨ret_bool (tagT_end hall (by omega)).symm, rfl⟩
theorem isTag_is {s : ByteArray} {b : Bool} {w : World} (hs : s.size ≤ 65536) (h : Box (tagT s.data.toList = b)) :
    Calls Tryz.prog 78 #[.string s] w fun e w' => e = .returned (.bool b) ∧ w = w' :=
  (isTag_any s w (by unfold maxLen; omega)).mono fun e w' ⟨h1, h2⟩ => ⟨by rw [h1, h.out], h2⟩
theorem one_suf21 {s : ByteArray} {c : UInt8} (h : 1 ≤ s.size) : ((s.extract (s.size - 1) s.size).toList == [c]) = decide (s.data.toList.getLast? = some c) := by
  have hl : s.data.toList.length = s.size := by simp
  have h2 : (s.extract (s.size - 1) s.size).toList = s.data.toList.drop (s.size - 1) := by
    rw [toList_data, ByteArray.data_extract, Array.toList_extract, List.extract_eq_take_drop, List.take_of_length_le (by rw [List.length_drop, hl]; omega)]
  rw [h2, ← hl]
  have hne : s.data.toList ≠ [] := fun e => by rw [e] at hl; simp at hl; omega
  have e2 : s.data.toList.drop (s.data.toList.length - 1) = [s.data.toList.getLast hne] := by
    obtain ⟨a, d, ha⟩ : ∃ a d, s.data.toList = a ++ [d] := ⟨_, _, (List.dropLast_concat_getLast hne).symm⟩
    have hg : s.data.toList.getLast hne = d := by simp [ha]
    rw [hg, ha]; simp
  rw [e2, List.getLast?_eq_some_getLast hne]
  by_cases q : s.data.toList.getLast hne = c
  · rw [q]; simp
  · rw [decide_eq_false (by simpa using q)]; exact beq_eq_false_iff_ne.2 (by simpa using q)
theorem hasSuf34q_is {s : ByteArray} {b : Bool} {w : World} (hs : s.size ≤ 65000) (h : Box (decide (s.data.toList.getLast? = some 34) = b)) :
    Calls Tryz.prog 131 #[.string s, .string ⟨#[34]⟩] w fun e w' => e = .returned (.bool b) ∧ w = w' := by
  by_cases h1 : 1 ≤ s.size
  · have hi : (1 : Int) ≤ (s.size : Int) := by omega
    have ht := one_suf21 (c := 34) h1
    obtain ⟨p, hp⟩ : ∃ p, s.size - 1 = p := ⟨_, rfl⟩
    have hpi : (s.size : Int) - 1 = (p : Int) := by omega
    have hps : (p : Int) ≤ (s.size : Int) := by omega
    rw [h.out, hp] at ht
    clear hp h1
    go_enter Tryz.func131, Tryz.ntmps131
    go_wp2
    go_ret
    exact ⟨rfl, rfl⟩
  · have hi : ¬ (1 : Int) ≤ (s.size : Int) := by omega
    have hb : b = false := by
      rw [← h.out]
      have : s.data.toList = [] := List.eq_nil_of_length_eq_zero (by have : s.data.toList.length = s.size := by simp
                                                                     omega)
      rw [this]; rfl
    subst hb
    go_enter Tryz.func131, Tryz.ntmps131
    go_wp2
    go_ret
    exact ⟨rfl, rfl⟩
theorem scutSuf34q_yes {s : ByteArray} {w : World} (hs : s.size ≤ 65000) (h : Box (s.data.toList.getLast? = some 34)) :
    Calls Tryz.prog 112 #[.string s, .string ⟨#[34]⟩] w fun e w' => e = .returned (.tuple #[.string (s.extract 0 (s.size - 1)), .bool true]) ∧ w = w' := by
  have HB : Box (decide (s.data.toList.getLast? = some 34) = true) := box (decide_eq_true h.out)
  have h1 : (1 : Int) ≤ (s.size : Int) := by
    have hl : s.data.toList.length = s.size := by simp
    have hh := h.out
    have : s.data.toList ≠ [] := fun e => by rw [e] at hh; cases hh
    have := List.length_pos_iff.2 this
    omega
  obtain ⟨p, hp⟩ : ∃ p, s.size - 1 = p := ⟨_, rfl⟩
  have hpi : (s.size : Int) - 1 = (p : Int) := by omega
  have hps : (p : Int) ≤ (s.size : Int) := by omega
  have hpn : p ≤ s.size := by omega
  rw [hp]
  clear hp
  go_enter Tryz.func112, Tryz.ntmps112
  go_wp2_with fail
  refine (hasSuf34q_is hs HB).mono ?_; rintro e w1 ⟨rfl, rfl⟩
  go_wp2
  go_ret2
  exact ⟨rfl, rfl⟩
theorem cutSuf34q_yes {s : ByteArray} {w : World} (hs : s.size ≤ 65000) (h : Box (s.data.toList.getLast? = some 34)) :
    Calls Tryz.prog 77 #[.string s, .string ⟨#[34]⟩] w fun e w' => e = .returned (.tuple #[.string (s.extract 0 (s.size - 1)), .bool true]) ∧ w = w' := by
  go_enter Tryz.func77, Tryz.ntmps77
  go_wp2_with fail
  refine (scutSuf34q_yes hs h).mono ?_; rintro e w1 ⟨rfl, rfl⟩
  go_wp2
  go_ret2
  exact ⟨rfl, rfl⟩
theorem scutSuf34q_no {s : ByteArray} {w : World} (hs : s.size ≤ 65000) (h : Box (s.data.toList.getLast? ≠ some 34)) :
    Calls Tryz.prog 112 #[.string s, .string ⟨#[34]⟩] w fun e w' => e = .returned (.tuple #[.string s, .bool false]) ∧ w = w' := by
  have HB : Box (decide (s.data.toList.getLast? = some 34) = false) := box (decide_eq_false h.out)
  go_enter Tryz.func112, Tryz.ntmps112
  go_wp2_with fail
  refine (hasSuf34q_is hs HB).mono ?_; rintro e w1 ⟨rfl, rfl⟩
  go_wp2
  go_ret2
  exact ⟨rfl, rfl⟩
theorem cutSuf34q_no {s : ByteArray} {w : World} (hs : s.size ≤ 65000) (h : Box (s.data.toList.getLast? ≠ some 34)) :
    Calls Tryz.prog 77 #[.string s, .string ⟨#[34]⟩] w fun e w' => e = .returned (.tuple #[.string s, .bool false]) ∧ w = w' := by
  go_enter Tryz.func77, Tryz.ntmps77
  go_wp2_with fail
  refine (scutSuf34q_no hs h).mono ?_; rintro e w1 ⟨rfl, rfl⟩
  go_wp2
  go_ret2
  exact ⟨rfl, rfl⟩
theorem cutSuf34q_any {s : ByteArray} {w : World} (hs : s.size ≤ 65000) :
    Calls Tryz.prog 77 #[.string s, .string ⟨#[34]⟩] w fun e w' => (∃ y q, e = .returned (.tuple #[.string y, .bool q])) ∧ w = w' := by
  by_cases h : s.data.toList.getLast? = some 34
  · exact (cutSuf34q_yes hs (box h)).mono fun e w' ⟨h1, h2⟩ => ⟨⟨_, _, h1⟩, h2⟩
  · exact (cutSuf34q_no hs (box h)).mono fun e w' ⟨h1, h2⟩ => ⟨⟨_, _, h1⟩, h2⟩
theorem cutSuf34q_is {s x : ByteArray} {w : World} (hs : s.size ≤ 65000) (h : Box (s.data.toList.getLast? = some 34)) (hx : Box (s.extract 0 (s.size - 1) = x)) :
    Calls Tryz.prog 77 #[.string s, .string ⟨#[34]⟩] w fun e w' => e = .returned (.tuple #[.string x, .bool true]) ∧ w = w' :=
  (cutSuf34q_yes hs h).mono fun e w' ⟨h1, h2⟩ => ⟨by rw [h1, hx.out], h2⟩
theorem pre21_two {l : List UInt8} : pre21 l [87, 47] = true ↔ l.take 2 = [87, 47] := by unfold pre21; rw [beq_iff_eq]; rfl
theorem pre21_one {l : List UInt8} : pre21 l [34] = true ↔ ∃ r, l = 34 :: r := by
  unfold pre21; rw [beq_iff_eq]
  cases l with
  | nil => simp
  | cons c r => simp
theorem ext_last {s : ByteArray} : (s.extract 0 (s.size - 1)).data.toList = s.data.toList.dropLast := by
  rw [ext_bs, bs_toList, List.drop_zero, List.dropLast_eq_take]; simp
set_option maxHeartbeats 4000000 in
theorem mParE_w (s : ByteArray) (w : World) (hs : s.size ≤ 65000) (h0 : s.data.toList.take 2 = [87, 47]) (x : ByteArray) (hx : s.extract 2 s.size = x) :
    Calls Tryz.prog 50 #[.string s] w fun e w' => e = .returned (tgV (parE s.data.toList)) ∧ Below w.heap.size w w' := by
  have hpar : parE s.data.toList = (tagOf x.data.toList).map fun t => (true, bs t) := parE_w hx h0
  have hs4 : s.size ≤ 4000000 := by omega
  have HW : Box (pre21 s.data.toList (⟨#[87, 47]⟩ : ByteArray).data.toList = true) := box (pre21_two.mpr h0)
  have HX : Box (s.extract (⟨#[87, 47]⟩ : ByteArray).size s.size = x) := box hx
  have hxz : x.size ≤ 65000 := by rw [← hx]; simp; omega
  have hx4 : x.size ≤ 4000000 := by omega
  by_cases h1 : ∃ r, x.data.toList = 34 :: r
  · have HP : Box (pre21 x.data.toList (⟨#[34]⟩ : ByteArray).data.toList = true) := box (pre21_one.mpr h1)
    obtain ⟨z, hz⟩ : ∃ z, x.extract 1 x.size = z := ⟨_, rfl⟩
    have HZ : Box (x.extract (⟨#[34]⟩ : ByteArray).size x.size = z) := box hz
    have hzz : z.size ≤ 65000 := by rw [← hz]; simp; omega
    have hxl : x.data.toList = 34 :: z.data.toList := by
      obtain ⟨r, hr⟩ := h1
      rw [← hz, ext_drop21, hr]; rfl
    have hpar2 : parE s.data.toList = (tagOf (34 :: z.data.toList)).map fun t => (true, bs t) := by rw [hpar, hxl]
    clear h1 hz hxl
    by_cases h2 : z.data.toList.getLast? = some 34
    · have HL := box h2
      obtain ⟨y, hy⟩ : ∃ y, z.extract 0 (z.size - 1) = y := ⟨_, rfl⟩
      have HY := box hy
      have hyz : y.size ≤ 65536 := by rw [← hy]; simp; omega
      have hyl : z.data.toList.dropLast = y.data.toList := by rw [← hy, ext_last]
      rw [tagOf_cons, hyl] at hpar2
      clear hy hyl
      cases hg : tagT y.data.toList with
      | false =>
        have HB := box hg
        have HE : Box (parE s.data.toList = none) := box (by rw [hpar2, if_neg (fun q => by rw [hg] at q; cases q.2.2)]; rfl)
        clear hg h2
        obtain ⟨⟨r0, r1⟩, ⟨f0, f1⟩⟩ := T2.new (.bool false) (.string ⟨#[]⟩) w 45
        clear hpar hx h0 hpar2
        go_enter Tryz.func50, Tryz.ntmps50
        go_wp2_with fail
        refine (cutPre21_yes hs4 (by decide) HW HX).mono ?_; rintro e w1 ⟨rfl, rfl⟩
        go_wp2_with fail
        refine (cutPre21_yes hx4 (by decide) HP HZ).mono ?_; rintro e w1 ⟨rfl, rfl⟩
        go_wp2_with fail
        refine (cutSuf34q_is hzz HL HY).mono ?_; rintro e w1 ⟨rfl, rfl⟩
        go_wp2_with fail
        refine (isTag_is hyz HB).mono ?_; rintro e w1 ⟨rfl, rfl⟩
        go_wp2
        (try simp only [Exit.inBlock, Exit.then])
        refine bodyPost_ret (v := tgV none) (by rw [results_cell_tmp rfl]; go_simp; rfl) rfl ?_
        exact ⟨by rw [HE.out], by first | exact below_new _ _ | exact set2_below (below_new _ _) (Nat.le_refl _) _ _⟩
      | true =>
        have HB := box hg
        have HE : Box (parE s.data.toList = some (true, y)) := box (by rw [hpar2, if_pos ⟨rfl, h2, hg⟩]; rfl)
        clear hg h2
        obtain ⟨⟨r0, r1⟩, ⟨f0, f1⟩⟩ := T2.new (.bool false) (.string ⟨#[]⟩) w 45
        clear hpar hx h0 hpar2
        go_enter Tryz.func50, Tryz.ntmps50
        go_wp2_with fail
        refine (cutPre21_yes hs4 (by decide) HW HX).mono ?_; rintro e w1 ⟨rfl, rfl⟩
        go_wp2_with fail
        refine (cutPre21_yes hx4 (by decide) HP HZ).mono ?_; rintro e w1 ⟨rfl, rfl⟩
        go_wp2_with fail
        refine (cutSuf34q_is hzz HL HY).mono ?_; rintro e w1 ⟨rfl, rfl⟩
        go_wp2_with fail
        refine (isTag_is hyz HB).mono ?_; rintro e w1 ⟨rfl, rfl⟩
        go_wp2
        (try simp only [Exit.inBlock, Exit.then])
        refine bodyPost_ret (v := tgV (some (true, y))) (by rw [results_cell_tmp rfl]; go_simp; rfl) rfl ?_
        exact ⟨by rw [HE.out], by first | exact below_new _ _ | exact set2_below (below_new _ _) (Nat.le_refl _) _ _⟩
    · have HL := box h2
      have HE : Box (parE s.data.toList = none) := box (by rw [hpar2, tagOf_no2 h2]; rfl)
      clear h2
      obtain ⟨⟨r0, r1⟩, ⟨f0, f1⟩⟩ := T2.new (.bool false) (.string ⟨#[]⟩) w 45
      clear hpar hx h0 hpar2
      go_enter Tryz.func50, Tryz.ntmps50
      go_wp2_with fail
      refine (cutPre21_yes hs4 (by decide) HW HX).mono ?_; rintro e w1 ⟨rfl, rfl⟩
      go_wp2_with fail
      refine (cutPre21_yes hx4 (by decide) HP HZ).mono ?_; rintro e w1 ⟨rfl, rfl⟩
      go_wp2_with fail
      refine (cutSuf34q_no hzz HL).mono ?_; rintro e w1 ⟨rfl, rfl⟩
      go_wp2
      (try simp only [Exit.inBlock, Exit.then])
      refine bodyPost_ret (v := tgV none) (by rw [results_cell_tmp rfl]; go_simp; rfl) rfl ?_
      exact ⟨by rw [HE.out], by first | exact below_new _ _ | exact set2_below (below_new _ _) (Nat.le_refl _) _ _⟩
  · have HP : Box (pre21 x.data.toList (⟨#[34]⟩ : ByteArray).data.toList = false) := box (by rw [← Bool.not_eq_true]; exact fun e => h1 (pre21_one.mp e))
    have HE : Box (parE s.data.toList = none) := box (by
      rw [hpar, tagOf_no1 (fun e => h1 (by
        rcases hl : x.data.toList with _ | ⟨c, r⟩
        · rw [hl] at e; cases e
        · rw [hl] at e; exact ⟨r, by rw [Option.some.inj e]⟩))]; rfl)
    clear h1
    obtain ⟨⟨r0, r1⟩, ⟨f0, f1⟩⟩ := T2.new (.bool false) (.string ⟨#[]⟩) w 45
    clear hpar hx h0
    go_enter Tryz.func50, Tryz.ntmps50
    go_wp2_with fail
    refine (cutPre21_yes hs4 (by decide) HW HX).mono ?_; rintro e w1 ⟨rfl, rfl⟩
    go_wp2_with fail
    refine (cutPre21_no hx4 (by decide) HP).mono ?_; rintro e w1 ⟨rfl, rfl⟩
    go_wp2_with fail
    refine (cutSuf34q_any hxz).mono ?_; rintro e w1 ⟨⟨y3, q3, rfl⟩, rfl⟩
    go_wp2
    (try simp only [Exit.inBlock, Exit.then])
    refine bodyPost_ret (v := tgV none) (by rw [results_cell_tmp rfl]; go_simp; rfl) rfl ?_
    exact ⟨by rw [HE.out], by first | exact below_new _ _ | exact set2_below (below_new _ _) (Nat.le_refl _) _ _⟩
set_option maxHeartbeats 4000000 in
theorem mParE_s (s : ByteArray) (w : World) (hs : s.size ≤ 65000) (h0 : s.data.toList.take 2 ≠ [87, 47]) :
    Calls Tryz.prog 50 #[.string s] w fun e w' => e = .returned (tgV (parE s.data.toList)) ∧ Below w.heap.size w w' := by
  have hpar : parE s.data.toList = (tagOf s.data.toList).map fun t => (false, bs t) := by unfold parE; rw [if_neg h0]
  have hs4 : s.size ≤ 4000000 := by omega
  have HW : Box (pre21 s.data.toList (⟨#[87, 47]⟩ : ByteArray).data.toList = false) := box (by rw [← Bool.not_eq_true]; exact fun e => h0 (pre21_two.mp e))
  have hxz : s.size ≤ 65000 := hs
  have hx4 : s.size ≤ 4000000 := hs4
  by_cases h1 : ∃ r, s.data.toList = 34 :: r
  · have HP : Box (pre21 s.data.toList (⟨#[34]⟩ : ByteArray).data.toList = true) := box (pre21_one.mpr h1)
    obtain ⟨z, hz⟩ : ∃ z, s.extract 1 s.size = z := ⟨_, rfl⟩
    have HZ : Box (s.extract (⟨#[34]⟩ : ByteArray).size s.size = z) := box hz
    have hzz : z.size ≤ 65000 := by rw [← hz]; simp; omega
    have hxl : s.data.toList = 34 :: z.data.toList := by
      obtain ⟨r, hr⟩ := h1
      rw [← hz, ext_drop21, hr]; rfl
    have hpar2 : parE s.data.toList = (tagOf (34 :: z.data.toList)).map fun t => (false, bs t) := by rw [hpar, hxl]
    clear h1 hz hxl
    by_cases h2 : z.data.toList.getLast? = some 34
    · have HL := box h2
      obtain ⟨y, hy⟩ : ∃ y, z.extract 0 (z.size - 1) = y := ⟨_, rfl⟩
      have HY := box hy
      have hyz : y.size ≤ 65536 := by rw [← hy]; simp; omega
      have hyl : z.data.toList.dropLast = y.data.toList := by rw [← hy, ext_last]
      rw [tagOf_cons, hyl] at hpar2
      clear hy hyl
      cases hg : tagT y.data.toList with
      | false =>
        have HB := box hg
        have HE : Box (parE s.data.toList = none) := box (by rw [hpar2, if_neg (fun q => by rw [hg] at q; cases q.2.2)]; rfl)
        clear hg h2
        obtain ⟨⟨r0, r1⟩, ⟨f0, f1⟩⟩ := T2.new (.bool false) (.string ⟨#[]⟩) w 45
        clear hpar h0 hpar2
        go_enter Tryz.func50, Tryz.ntmps50
        go_wp2_with fail
        refine (cutPre21_no hs4 (by decide) HW).mono ?_; rintro e w1 ⟨rfl, rfl⟩
        go_wp2_with fail
        refine (cutPre21_yes hx4 (by decide) HP HZ).mono ?_; rintro e w1 ⟨rfl, rfl⟩
        go_wp2_with fail
        refine (cutSuf34q_is hzz HL HY).mono ?_; rintro e w1 ⟨rfl, rfl⟩
        go_wp2_with fail
        refine (isTag_is hyz HB).mono ?_; rintro e w1 ⟨rfl, rfl⟩
        go_wp2
        (try simp only [Exit.inBlock, Exit.then])
        refine bodyPost_ret (v := tgV none) (by rw [results_cell_tmp rfl]; go_simp; rfl) rfl ?_
        exact ⟨by rw [HE.out], by first | exact below_new _ _ | exact set2_below (below_new _ _) (Nat.le_refl _) _ _⟩
      | true =>
        have HB := box hg
        have HE : Box (parE s.data.toList = some (false, y)) := box (by rw [hpar2, if_pos ⟨rfl, h2, hg⟩]; rfl)
        clear hg h2
        obtain ⟨⟨r0, r1⟩, ⟨f0, f1⟩⟩ := T2.new (.bool false) (.string ⟨#[]⟩) w 45
        clear hpar h0 hpar2
        go_enter Tryz.func50, Tryz.ntmps50
        go_wp2_with fail
        refine (cutPre21_no hs4 (by decide) HW).mono ?_; rintro e w1 ⟨rfl, rfl⟩
        go_wp2_with fail
        refine (cutPre21_yes hx4 (by decide) HP HZ).mono ?_; rintro e w1 ⟨rfl, rfl⟩
        go_wp2_with fail
        refine (cutSuf34q_is hzz HL HY).mono ?_; rintro e w1 ⟨rfl, rfl⟩
        go_wp2_with fail
        refine (isTag_is hyz HB).mono ?_; rintro e w1 ⟨rfl, rfl⟩
        go_wp2
        (try simp only [Exit.inBlock, Exit.then])
        refine bodyPost_ret (v := tgV (some (false, y))) (by rw [results_cell_tmp rfl]; go_simp; rfl) rfl ?_
        exact ⟨by rw [HE.out], by first | exact below_new _ _ | exact set2_below (below_new _ _) (Nat.le_refl _) _ _⟩
    · have HL := box h2
      have HE : Box (parE s.data.toList = none) := box (by rw [hpar2, tagOf_no2 h2]; rfl)
      clear h2
      obtain ⟨⟨r0, r1⟩, ⟨f0, f1⟩⟩ := T2.new (.bool false) (.string ⟨#[]⟩) w 45
      clear hpar h0 hpar2
      go_enter Tryz.func50, Tryz.ntmps50
      go_wp2_with fail
      refine (cutPre21_no hs4 (by decide) HW).mono ?_; rintro e w1 ⟨rfl, rfl⟩
      go_wp2_with fail
      refine (cutPre21_yes hx4 (by decide) HP HZ).mono ?_; rintro e w1 ⟨rfl, rfl⟩
      go_wp2_with fail
      refine (cutSuf34q_no hzz HL).mono ?_; rintro e w1 ⟨rfl, rfl⟩
      go_wp2
      (try simp only [Exit.inBlock, Exit.then])
      refine bodyPost_ret (v := tgV none) (by rw [results_cell_tmp rfl]; go_simp; rfl) rfl ?_
      exact ⟨by rw [HE.out], by first | exact below_new _ _ | exact set2_below (below_new _ _) (Nat.le_refl _) _ _⟩
  · have HP : Box (pre21 s.data.toList (⟨#[34]⟩ : ByteArray).data.toList = false) := box (by rw [← Bool.not_eq_true]; exact fun e => h1 (pre21_one.mp e))
    have HE : Box (parE s.data.toList = none) := box (by
      rw [hpar, tagOf_no1 (fun e => h1 (by
        rcases hl : s.data.toList with _ | ⟨c, r⟩
        · rw [hl] at e; cases e
        · rw [hl] at e; exact ⟨r, by rw [Option.some.inj e]⟩))]; rfl)
    clear h1
    obtain ⟨⟨r0, r1⟩, ⟨f0, f1⟩⟩ := T2.new (.bool false) (.string ⟨#[]⟩) w 45
    clear hpar h0
    go_enter Tryz.func50, Tryz.ntmps50
    go_wp2_with fail
    refine (cutPre21_no hs4 (by decide) HW).mono ?_; rintro e w1 ⟨rfl, rfl⟩
    go_wp2_with fail
    refine (cutPre21_no hx4 (by decide) HP).mono ?_; rintro e w1 ⟨rfl, rfl⟩
    go_wp2_with fail
    refine (cutSuf34q_any hxz).mono ?_; rintro e w1 ⟨⟨y3, q3, rfl⟩, rfl⟩
    go_wp2
    (try simp only [Exit.inBlock, Exit.then])
    refine bodyPost_ret (v := tgV none) (by rw [results_cell_tmp rfl]; go_simp; rfl) rfl ?_
    exact ⟨by rw [HE.out], by first | exact below_new _ _ | exact set2_below (below_new _ _) (Nat.le_refl _) _ _⟩
theorem mParE_any (s : ByteArray) (w : World) (hs : s.size ≤ 65000) :
    Calls Tryz.prog 50 #[.string s] w fun e w' => e = .returned (tgV (parE s.data.toList)) ∧ Below w.heap.size w w' := by
  by_cases h : s.data.toList.take 2 = [87, 47]
  · exact mParE_w s w hs h _ rfl
  · exact mParE_s s w hs h
theorem mParE_is {s t : ByteArray} {b q : Bool} {w : World} (hs : s.size ≤ 65000) (h : Box (tgV (parE s.data.toList) = .tuple #[.agg #[.bool b, .string t], .bool q])) :
    Calls Tryz.prog 50 #[.string s] w fun e w' => e = .returned (.tuple #[.agg #[.bool b, .string t], .bool q]) ∧ Below w.heap.size w w' :=
  (mParE_any s w hs).mono fun e w' ⟨h1, h2⟩ => ⟨by rw [h1, h.out], h2⟩
end
section
open Go.RowKit
theorem mFirst21_is {a : Option Addr} {cap : Nat} {L : List F} {x : ByteArray} {q : Bool} {w : World} (hl : L.length ≤ 65536) (S : Box (Sm L)) (hF : Box (Fs w a L)) (h : Box (firstV etN L = .tuple #[.string x, .bool q])) :
    Calls Tryz.prog 28 #[.slice a L.length cap, .string etN] w fun e w' => e = .returned (.tuple #[.string x, .bool q]) ∧ Below w.heap.size w w' :=
  (First_any a cap L etN w hl S (box (by decide)) hF).mono fun e w' ⟨h1, h2⟩ => ⟨by rw [h1, h.out], h2⟩
theorem mOfE_in (a : Option Addr) (cap : Nat) (L : List F) (w : World) (v : ByteArray) (f : Bool) (S : Box (Sm L)) (hvz : v.size ≤ 65000) (hF : Box (Fs w a L)) (HF : Box (firstV etN L = .tuple #[.string v, .bool f])) :
    Calls Tryz.prog 27 #[.slice a L.length cap] w fun e w' => e = .returned (tgV (parE v.data.toList)) ∧ Below w.heap.size w w' := by
  have hl := S.out.1
  have B0 := box (below_new w (.cells #[.bool false, .string ⟨#[]⟩] 45))
  have hF1 := box (hF.out.below B0.out)
  obtain ⟨b, t, q, hq⟩ := tgV_cases (parE v.data.toList)
  have HQ := box hq
  clear hq
  go_enter Tryz.func27, Tryz.ntmps27
  go_wp2_with fail
  refine (mFirst21_is hl S hF1 HF).mono ?_; rintro e w1 ⟨rfl, hb1⟩
  have B1 := box (B0.out.trans (hb1.mono B0.out.size))
  have C1 := box ((T2.new (.bool false) (.string ⟨#[]⟩) w 45).next hb1)
  clear hb1
  go_wp2_with fail
  refine (mParE_is hvz HQ).mono ?_; rintro e w2 ⟨rfl, hb2⟩
  have B2 := box (B1.out.trans (hb2.mono B1.out.size))
  obtain ⟨⟨r0, r1⟩, ⟨f0, f1⟩⟩ := C1.out.next hb2
  clear hb2
  go_wp2
  (try simp only [Exit.inBlock, Exit.then])
  refine bodyPost_ret (v := .tuple #[.agg #[.bool b, .string t], .bool q]) (by rw [results_cell_tmp rfl]; go_simp) rfl ?_
  exact ⟨by rw [HQ.out], by first | exact set2_below B2.out (Nat.le_refl _) _ _ | exact B2.out⟩
theorem mOfE_any (a : Option Addr) (cap : Nat) (L : List F) (w : World) (S : Box (Sm L)) (hv : Box (∀ x ∈ getL etN L, x.size ≤ 65000)) (hF : Box (Fs w a L)) :
    Calls Tryz.prog 27 #[.slice a L.length cap] w fun e w' => e = .returned (tgV (ofM21 L)) ∧ Below w.heap.size w w' := by
  cases hg : getL etN L with
  | nil =>
    refine (mOfE_in a cap L w ⟨#[]⟩ false S (by decide) hF (box (by unfold firstV; rw [hg]))).mono fun e w' ⟨h1, h2⟩ => ⟨?_, h2⟩
    rw [h1, show ofM21 L = none from by unfold ofM21; rw [hg]]; rfl
  | cons v r =>
    refine (mOfE_in a cap L w v true S (hv.out v (by rw [hg]; simp)) hF (box (by unfold firstV; rw [hg]))).mono fun e w' ⟨h1, h2⟩ => ⟨?_, h2⟩
    rw [h1, show ofM21 L = parE v.data.toList from by unfold ofM21; rw [hg]]
end
end Go.Proofs.YtiogngfemelifaaGreatDoor.Asc
