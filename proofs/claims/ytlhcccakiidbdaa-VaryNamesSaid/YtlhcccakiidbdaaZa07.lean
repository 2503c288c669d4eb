/- Merged texts: AccRef3 LisRef4 VrySpec VrySpec4 VryRef VryRef2 LisPc. -/
import Derived.Test.YtlhcccakiidbdaaZa01
import Derived.Test.YtlhcccakiidbdaaZa02
import Derived.Test.YtlhcccakiidbdaaZa03
import Derived.Test.YtlhcccakiidbdaaZa04
import Derived.Test.YtlhcccakiidbdaaZa05
import Derived.Test.YtlhcccakiidbdaaZa06
import Derived.Deep.RegionHeld3
import Derived.Laws.AppendOwnNone
import Derived.Lib.Hide
import Derived.LoopTactic
import Derived.OwnWalk
set_option linter.unusedVariables false
set_option linter.unusedSimpArgs false
set_option maxRecDepth 100000
namespace Go.Proofs.Ytlhcccakiidbdaa.Asc
section
open Go.RowKit
theorem all_mem {nm : ByteArray} {L : List F} {m : List UInt8} (h : m ∈ allL nm L) : ∃ x ∈ getL nm L, m.length ≤ x.size := by
  unfold allL at h
  have h := List.mem_of_mem_take h
  unfold allF at h
  obtain ⟨x, hx, hm⟩ := List.mem_flatMap.1 h
  refine ⟨x, hx, ?_⟩
  unfold splitL memL at hm
  have hm := (List.mem_filter.1 (List.mem_of_mem_take hm)).1
  obtain ⟨p, hp, rfl⟩ := List.mem_map.1 hm
  have h1 := cut_small _ _ _ _ p hp
  have h2 := trim_le p
  have hz : x.data.toList.length = x.size := by simp
  simp only [List.length_nil, Nat.zero_add] at h1
  omega
end
section
open Go.RowKit
def joinB (L : List ByteArray) : ByteArray := bs (joinC (L.map fun x => x.data.toList))
def JoiRel (L : List ByteArray) (v i : Value) : Prop := ∃ (k : Nat) (x : ByteArray), i = .int .i64 k ∧ v = .string x ∧ k ≤ L.length ∧ x.data.toList = joinC ((L.map fun x => x.data.toList).take k) ∧ x.size ≤ 65540 * k
theorem bs_is {x : ByteArray} {l : List UInt8} (h : x.data.toList = l) : x = bs l := by subst h; rfl
set_option maxHeartbeats 1000000 in
theorem rJoin7_any (a : Option Addr) (cap : Nat) (L : List ByteArray) (w : World) (hl : L.length ≤ 65536) (hz : Box (∀ x ∈ L, x.size ≤ 65536)) (hF : Box (Ss w a L)) :
    Calls Try.prog 35 #[.slice a L.length cap] w fun e w' => e = .returned (.string (joinB L)) ∧ w = w' := by
  obtain ⟨ms, hms⟩ : ∃ ms, (L.map fun x => x.data.toList) = ms := ⟨_, rfl⟩
  have HMS := box hms
  have hml : ms.length = L.length := by rw [← hms, List.length_map]
  go_enter Try.func35, Try.ntmps35
  go_wp2
  go_loop [3, 4] (fun v i => JoiRel L v i) (fun _ i => L.length - (intOf i).toNat)
  case atStart => exact ⟨0, ⟨#[]⟩, rfl, rfl, Nat.zero_le _, rfl, Nat.zero_le _⟩
  case round =>
    obtain ⟨k, x, rfl, rfl, hk, hx, hxz⟩ := hrel
    rw [hms] at hx
    have HX := box hx
    clear hx
    by_cases hlt : k < L.length
    · obtain ⟨q, off, rfl, c0⟩ := hF.out k hlt
      have hLz := hz.out L[k] (List.getElem_mem hlt)
      have hmk : ms[k]'(by omega) = L[k].data.toList := by simp only [← hms, List.getElem_map]
      have hjm := joinC_more (ms := ms) (k := k) (by omega)
      rw [hmk] at hjm
      by_cases hk0 : k = 0
      · have hki : ¬ (0 : Int) < (k : Int) := by omega
        have hx0 : x.data.toList = [] := by rw [HX.out, hk0]; rfl
        have r1 : ∀ w, (Op.stringOp .add x L[k]).run Try.prog w = .ok (.string (x ++ L[k])) w := fun w => run_string_add_sum w _ _ (by show x.size + L[k].size ≤ 9223372036854775807; omega)
        have HN : Box ((x ++ L[k]).data.toList = joinC (ms.take (k + 1))) := box (by rw [hjm, if_pos hk0]; simp [ByteArray.data_append, hx0])
        have HS : Box ((x ++ L[k]).size ≤ 65540 * (k + 1)) := box (by rw [ByteArray.size_append]; omega)
        clear hx0 hk0 hjm hmk
        go_wp2
        go_round
        case rel => exact ⟨k + 1, _, by go_num, rfl, by omega, by rw [HMS.out]; exact HN.out, HS.out⟩
        case measure => simp [intOf]; omega
      · have hki : (0 : Int) < (k : Int) := by omega
        have e2 : (⟨#[44, 32]⟩ : ByteArray).size = 2 := rfl
        have hs1 : (x ++ (⟨#[44, 32]⟩ : ByteArray)).size = x.size + 2 := by rw [ByteArray.size_append, e2]
        have r0 : ∀ w, (Op.stringOp .add x ⟨#[44, 32]⟩).run Try.prog w = .ok (.string (x ++ ⟨#[44, 32]⟩)) w := fun w => run_string_add_sum w _ _ (by show x.size + 2 ≤ 9223372036854775807; omega)
        have r1 : ∀ w, (Op.stringOp .add (x ++ ⟨#[44, 32]⟩) L[k]).run Try.prog w = .ok (.string (x ++ ⟨#[44, 32]⟩ ++ L[k])) w := fun w => run_string_add_sum w _ _ (by rw [hs1]; show x.size + 2 + L[k].size ≤ 9223372036854775807; omega)
        have HN : Box ((x ++ ⟨#[44, 32]⟩ ++ L[k]).data.toList = joinC (ms.take (k + 1))) := box (by rw [hjm, if_neg hk0, ← HX.out]; simp [ByteArray.data_append])
        have HS : Box ((x ++ ⟨#[44, 32]⟩ ++ L[k]).size ≤ 65540 * (k + 1)) := box (by rw [ByteArray.size_append, hs1]; omega)
        clear e2 hs1 hk0 hjm hmk
        go_wp2
        go_round
        case rel => exact ⟨k + 1, _, by go_num, rfl, by omega, by rw [HMS.out]; exact HN.out, HS.out⟩
        case measure => simp [intOf]; omega
    · have HE : Box (joinB L = x) := box (by unfold joinB; rw [hms, ← List.take_of_length_le (l := ms) (i := k) (by omega)]; exact (bs_is HX.out).symm)
      go_wp2
      go_ret
      exact ⟨by rw [HE.out]; rfl, rfl⟩
end
section
def nmVry : ByteArray := ⟨#[86, 97, 114, 121]⟩
abbrev BL := List UInt8
theorem ltB_irrefl (a : BL) : ¬ a < a := List.lt_irrefl a
theorem ltB_trans {a b c : BL} (h1 : a < b) (h2 : b < c) : a < c := List.lt_trans h1 h2
theorem ltB_tri (a b : BL) : a < b ∨ a = b ∨ b < a := by
  rcases Classical.em (a < b) with h | h
  · exact .inl h
  · rcases Classical.em (b < a) with h2 | h2
    · exact .inr (.inr h2)
    · exact .inr (.inl (List.le_antisymm (List.not_lt.1 h2) (List.not_lt.1 h)))
/-- one more, in its place -/
def insU (x : BL) : List BL → List BL
  | [] => [x]
  | y :: ys => if y < x then y :: insU x ys else if y = x then y :: ys else x :: y :: ys
def AscU (L : List BL) : Prop := L.Pairwise (· < ·)
theorem insU_mem {x z : BL} : ∀ {L : List BL}, z ∈ insU x L ↔ z = x ∨ z ∈ L
  | [] => by simp [insU]
  | y :: ys => by
    have ih := insU_mem (x := x) (z := z) (L := ys)
    unfold insU
    split
    · rw [List.mem_cons, ih, List.mem_cons]
      constructor
      · rintro (h | h | h)
        · exact .inr (.inl h)
        · exact .inl h
        · exact .inr (.inr h)
      · rintro (h | h | h)
        · exact .inr (.inl h)
        · exact .inl h
        · exact .inr (.inr h)
    · split
      · rename_i h1 h2
        subst h2
        constructor
        · intro h; exact .inr h
        · rintro (h | h)
          · rw [h]; exact List.mem_cons_self
          · exact h
      · exact List.mem_cons
theorem insU_asc {x : BL} : ∀ {L : List BL}, AscU L → AscU (insU x L)
  | [], _ => by unfold insU AscU; exact List.pairwise_singleton _ _
  | y :: ys, h => by
    have h' := List.pairwise_cons.1 h
    unfold insU
    split
    · rename_i hy
      refine List.pairwise_cons.2 ⟨fun z hz => ?_, insU_asc h'.2⟩
      rcases insU_mem.1 hz with rfl | hz
      · exact hy
      · exact h'.1 z hz
    · rename_i hy
      split
      · exact h
      · rename_i hne
        have hxy : x < y := by
          rcases ltB_tri x y with h | h | h
          · exact h
          · exact absurd h.symm hne
          · exact absurd h hy
        refine List.pairwise_cons.2 ⟨fun z hz => ?_, h⟩
        rcases List.mem_cons.1 hz with rfl | hz
        · exact hxy
        · exact ltB_trans hxy (h'.1 z hz)
/-- two ascending lists with the same elements -/
theorem ascU_ext : ∀ {A B : List BL}, AscU A → AscU B → (∀ z, z ∈ A ↔ z ∈ B) → A = B
  | [], [], _, _, _ => rfl
  | [], b :: B, _, _, h => by have := (h b).2 List.mem_cons_self; cases this
  | a :: A, [], _, _, h => by have := (h a).1 List.mem_cons_self; cases this
  | a :: A, b :: B, hA, hB, h => by
    have hA' := List.pairwise_cons.1 hA
    have hB' := List.pairwise_cons.1 hB
    have hab : a = b := by
      rcases ltB_tri a b with q | q | q
      · rcases List.mem_cons.1 ((h a).1 List.mem_cons_self) with e | e
        · exact e
        · exact absurd (ltB_trans q (hB'.1 a e)) (ltB_irrefl a)
      · exact q
      · rcases List.mem_cons.1 ((h b).2 List.mem_cons_self) with e | e
        · exact e.symm
        · exact absurd (ltB_trans q (hA'.1 b e)) (ltB_irrefl b)
    subst hab
    have : A = B := ascU_ext hA'.2 hB'.2 (fun z => by
      constructor
      · intro hz
        rcases List.mem_cons.1 ((h z).1 (List.mem_cons_of_mem _ hz)) with e | e
        · subst e; exact absurd (hA'.1 z hz) (ltB_irrefl z)
        · exact e
      · intro hz
        rcases List.mem_cons.1 ((h z).2 (List.mem_cons_of_mem _ hz)) with e | e
        · subst e; exact absurd (hB'.1 z hz) (ltB_irrefl z)
        · exact e)
    rw [this]
/-- the members in lower case, ascending, each once -/
def namesU (ms : List BL) : List BL := ms.foldl (fun acc m => insU (lowL m) acc) []
theorem foldU_asc : ∀ (ms : List BL) {acc : List BL}, AscU acc → AscU (ms.foldl (fun acc m => insU (lowL m) acc) acc)
  | [], _, h => h
  | m :: ms, acc, h => foldU_asc ms (insU_asc h)
theorem foldU_mem {z : BL} : ∀ (ms : List BL) {acc : List BL}, z ∈ ms.foldl (fun acc m => insU (lowL m) acc) acc ↔ (∃ m ∈ ms, lowL m = z) ∨ z ∈ acc
  | [], acc => by simp
  | m :: ms, acc => by
    rw [List.foldl_cons, foldU_mem ms, insU_mem]
    constructor
    · rintro (⟨y, hy, e⟩ | h | h)
      · exact .inl ⟨y, List.mem_cons_of_mem _ hy, e⟩
      · exact .inl ⟨m, List.mem_cons_self, h.symm⟩
      · exact .inr h
    · rintro (⟨y, hy, e⟩ | h)
      · rcases List.mem_cons.1 hy with rfl | hy
        · exact .inr (.inl e.symm)
        · exact .inl ⟨y, hy, e⟩
      · exact .inr (.inr h)
theorem namesU_asc (ms : List BL) : AscU (namesU ms) := foldU_asc ms List.Pairwise.nil
theorem namesU_mem {z : BL} {ms : List BL} : z ∈ namesU ms ↔ ∃ m ∈ ms, lowL m = z := by
  unfold namesU
  rw [foldU_mem]
  constructor
  · rintro (h | h)
    · exact h
    · cases h
  · exact .inl
theorem namesU_next {ms : List BL} {j : Nat} (h : j < ms.length) : namesU (ms.take (j + 1)) = insU (lowL ms[j]) (namesU (ms.take j)) := by
  unfold namesU
  rw [List.take_succ_eq_append_getElem h, List.foldl_append]; rfl
theorem insU_len (x : BL) : ∀ L : List BL, (insU x L).length ≤ L.length + 1
  | [] => Nat.le_refl _
  | y :: ys => by
    have ih := insU_len x ys
    unfold insU
    split
    · simp only [List.length_cons]; omega
    · split
      · simp only [List.length_cons]; omega
      · simp only [List.length_cons]; omega
theorem namesU_len : ∀ (ms : List BL), (namesU ms).length ≤ ms.length := by
  intro ms
  have key : ∀ (ms acc : List BL), (ms.foldl (fun acc m => insU (lowL m) acc) acc).length ≤ acc.length + ms.length := by
    intro ms
    induction ms with
    | nil => intro acc; simp
    | cons m ms ih =>
      intro acc
      rw [List.foldl_cons]
      have h1 := ih (insU (lowL m) acc)
      have h2 := insU_len (lowL m) acc
      simp only [List.length_cons]
      omega
  have := key ms []
  simpa [namesU] using this
/-- is the list one of tokens without "*"? -/
def okU (ms : List BL) : Bool := decide (ms.length < 64) && ms.all fun m => tokL m && decide (m ≠ [42])
/-- 19.1 -/
def namesV (L : List F) : List BL := if okU (allL nmVry L) = true then namesU (allL nmVry L) else []
def namesO (L : List F) : Bool := okU (allL nmVry L)
/-- 19.2 -/
def valueY (n : ByteArray) (L : List F) : List UInt8 :=
  if getL n L = [] then []
  else if kindN n ≠ 0 ∧ (allL n L).length < 64 then 61 :: lowL (joinB ((allL n L).map bs)).data.toList
  else 61 :: (joinB (getL n L)).data.toList
/-- 19.3 -/
def snapY (N : List ByteArray) (L : List F) : List ByteArray := N.map fun n => bs (valueY n L)
def matchY (N S : List ByteArray) (L : List F) : Bool := decide (N.length = S.length) && decide (snapY N L = S)
end
section
theorem join_len19 {n : Nat} : ∀ ms : List BL, (∀ m ∈ ms, m.length ≤ n) → (joinC ms).length ≤ ms.length * (n + 2)
  | [], _ => by simp [joinC]
  | [m], h => by
    have := h m List.mem_cons_self
    simp only [joinC, List.length_cons, List.length_nil]; omega
  | m :: m2 :: ms, h => by
    have h1 := h m List.mem_cons_self
    have h2 := join_len19 (m2 :: ms) (fun x hx => h x (List.mem_cons_of_mem _ hx))
    show (m ++ [44, 32] ++ joinC (m2 :: ms)).length ≤ _
    simp only [List.length_append, List.length_cons, List.length_nil] at h2 ⊢
    rw [Nat.add_mul (ms.length + 1) 1 (n + 2)]
    omega
theorem joinB_len19 {n : Nat} {L : List ByteArray} (h : ∀ x ∈ L, x.size ≤ n) : (joinB L).size ≤ L.length * (n + 2) := by
  unfold joinB
  rw [bs_size]
  have := join_len19 (n := n) (L.map fun x => x.data.toList) (fun m hm => by
    obtain ⟨x, hx, rfl⟩ := List.mem_map.1 hm
    exact h x hx)
  simpa using this
theorem getL_any {nm : ByteArray} {L : List F} : L.any (nmd nm) = decide (getL nm L ≠ []) := by
  unfold getL
  rw [Bool.eq_iff_iff, decide_eq_true_eq, List.any_eq_true]
  constructor
  · rintro ⟨p, hp, h⟩ e
    rw [List.map_eq_nil_iff, List.filter_eq_nil_iff] at e
    exact e p hp h
  · intro e
    rw [ne_eq, List.map_eq_nil_iff, List.filter_eq_nil_iff] at e
    exact Classical.byContradiction fun q => e fun p hp h => q ⟨p, hp, h⟩
/-- the values of a field, joined -/
def valsB (n : ByteArray) (L : List F) : ByteArray := joinB (getL n L)
/-- its members, joined -/
def memsB (n : ByteArray) (L : List F) : ByteArray := joinB (allB n L)
theorem valueY_none19 {n : ByteArray} {L : List F} (h : getL n L = []) : bs (valueY n L) = ⟨#[]⟩ := by unfold valueY; rw [if_pos h]; rfl
theorem valueY_mem19 {n : ByteArray} {L : List F} (h : getL n L ≠ []) (hk : kindN n ≠ 0) (hm : (allB n L).length < 64) : valueY n L = 61 :: lowL (memsB n L).data.toList := by
  unfold valueY
  rw [if_neg h, if_pos ⟨hk, by unfold allB at hm; rwa [List.length_map] at hm⟩]; rfl
theorem valueY_long19 {n : ByteArray} {L : List F} (h : getL n L ≠ []) (hm : ¬ (allB n L).length < 64) : valueY n L = 61 :: (valsB n L).data.toList := by
  unfold valueY
  rw [if_neg h, if_neg (fun q => hm (by unfold allB; rw [List.length_map]; exact q.2))]; rfl
theorem valueY_kind19 {n : ByteArray} {L : List F} (h : getL n L ≠ []) (hk : kindN n = 0) : valueY n L = 61 :: (valsB n L).data.toList := by
  unfold valueY
  rw [if_neg h, if_neg (fun q => q.1 hk)]; rfl
theorem allB_mem19 {n : ByteArray} {L : List F} {k : Nat} (hv : ∀ x ∈ getL n L, x.size ≤ k) : ∀ x ∈ allB n L, x.size ≤ k := fun x hx => by
  unfold allB at hx
  obtain ⟨m, hm, rfl⟩ := List.mem_map.1 hx
  obtain ⟨y, hy, hle⟩ := all_mem hm
  have := hv y hy
  rw [bs_size]; omega
theorem allB_len19 {n : ByteArray} {L : List F} : (allB n L).length ≤ 64 := by
  unfold allB allL
  rw [List.length_map, List.length_take]; omega
theorem memsB_size {n : ByteArray} {L : List F} (hv : ∀ x ∈ getL n L, x.size ≤ 65000) : (memsB n L).size ≤ 4260000000 := by
  have h1 := joinB_len19 (allB_mem19 hv)
  have h2 := allB_len19 (n := n) (L := L)
  have h3 : (allB n L).length * (65000 + 2) ≤ 64 * (65000 + 2) := Nat.mul_le_mul_right _ h2
  unfold memsB; omega
theorem valsB_size {n : ByteArray} {L : List F} (hl : (getL n L).length ≤ 65536) (hv : ∀ x ∈ getL n L, x.size ≤ 65000) : (valsB n L).size ≤ 4260000000 := by
  have h1 := joinB_len19 hv
  have h3 : (getL n L).length * (65000 + 2) ≤ 65536 * (65000 + 2) := Nat.mul_le_mul_right _ hl
  unfold valsB; omega
theorem eq61 (x : ByteArray) : bs (61 :: x.data.toList) = ⟨#[61]⟩ ++ x := by
  apply ByteArray.ext
  rw [ByteArray.data_append]
  apply Array.ext'
  simp [bs]
theorem valueY_mem {n x : ByteArray} {L : List F} (h : getL n L ≠ []) (hk : kindN n ≠ 0) (hm : (allB n L).length < 64) (hx : bs (lowL (memsB n L).data.toList) = x) : bs (valueY n L) = ⟨#[61]⟩ ++ x := by
  rw [valueY_mem19 h hk hm, ← hx, ← eq61]; rfl
theorem valueY_long {n x : ByteArray} {L : List F} (h : getL n L ≠ []) (hm : ¬ (allB n L).length < 64) (hx : valsB n L = x) : bs (valueY n L) = ⟨#[61]⟩ ++ x := by
  rw [valueY_long19 h hm, ← hx, ← eq61]
theorem valueY_kind {n x : ByteArray} {L : List F} (h : getL n L ≠ []) (hk : kindN n = 0) (hx : valsB n L = x) : bs (valueY n L) = ⟨#[61]⟩ ++ x := by
  rw [valueY_kind19 h hk, ← hx, ← eq61]
end
section
open Go.RowKit
theorem add61 (x : ByteArray) (h : x.size ≤ 4260000000) : ∀ w, (Op.stringOp .add ⟨#[61]⟩ x).run Try.prog w = .ok (.string (⟨#[61]⟩ ++ x)) w := fun w => run_string_add_sum w _ _ (by show 1 + x.size ≤ 9223372036854775807; omega)
theorem rGet19_is {a : Option Addr} {cap n : Nat} {L : List F} {nm : ByteArray} {w : World} (S : Box (Sm L)) (M : nm.size ≤ 65536) (hF : Fs w a L) (h : Box ((getL nm L).length = n)) :
    Calls Try.prog 33 #[.slice a L.length cap, .string nm] w fun e w' => ∃ p c, e = .returned (.slice p n c) ∧ Ss w' p (getL nm L) ∧ Below w.heap.size w w' :=
  (rGet_any a cap L nm w S.out.1 S (box M) (box hF)).mono fun e w' ⟨v, h1, h2, h3⟩ => by
    obtain ⟨p, c, rfl, h4, _⟩ := h2.ss
    rw [h.out] at h1
    exact ⟨p, c, h1, h4, h3⟩
theorem rAll19_is {a : Option Addr} {cap n : Nat} {L : List F} {nm : ByteArray} {w : World} (S : Box (Sm L)) (hv : Box (∀ x ∈ getL nm L, x.size ≤ 65000)) (M : nm.size ≤ 65536) (hF : Fs w a L) (h : Box ((allB nm L).length = n)) :
    Calls Try.prog 22 #[.slice a L.length cap, .string nm] w fun e w' => ∃ p c, e = .returned (.slice p n c) ∧ Ss w' p (allB nm L) ∧ Below w.heap.size w w' :=
  (rAll_any a cap L nm w S hv (box M) (box hF)).mono fun e w' ⟨v, h1, h2, h3⟩ => by
    obtain ⟨p, c, rfl, h4, _⟩ := h2.ss
    rw [h.out] at h1
    exact ⟨p, c, h1, h4, h3⟩
theorem rJoin19_is {a : Option Addr} {cap n : Nat} {L : List ByteArray} {x : ByteArray} {w : World} (hl : n ≤ 65536) (hz : Box (∀ x ∈ L, x.size ≤ 65000)) (hF : Ss w a L) (h : Box (L.length = n)) (hx : Box (joinB L = x)) :
    Calls Try.prog 35 #[.slice a n cap] w fun e w' => e = .returned (.string x) ∧ w = w' := by
  have := rJoin7_any a cap L w (by rw [h.out]; exact hl) (box fun x hx => Nat.le_trans (hz.out x hx) (by omega)) (box hF)
  rw [h.out, hx.out] at this; exact this
theorem rKind19_is {n : ByteArray} {k : Int} {w : World} (hn : n.size ≤ 65536) (h : Box (kindN n = k)) :
    Calls Try.prog 34 #[.string n] w fun e w' => e = .returned (.int .i64 k) ∧ Below w.heap.size w w' :=
  (rKind_any n w (by omega)).mono fun e w' ⟨h1, h2⟩ => ⟨by rw [h1, h.out], h2⟩
theorem rLow19_is {s x : ByteArray} {w : World} (hs : s.size ≤ 4260000000) (h : Box (bs (lowL s.data.toList) = x)) :
    Calls Try.prog 20 #[.string s] w fun e w' => e = .returned (.string x) ∧ Below w.heap.size w w' :=
  (rLower_any s w (by omega)).mono fun e w' ⟨h1, h2⟩ => ⟨by rw [h1, ← h.out]; rfl, h2⟩
theorem low_size19 (s : ByteArray) : (bs (lowL s.data.toList)).size = s.size := by rw [bs_size, lowL_length]; rfl
set_option maxHeartbeats 1600000 in
theorem rValY_any (nm : ByteArray) (a : Option Addr) (cap : Nat) (L : List F) (w : World) (S : Box (Sm L)) (hv : Box (∀ x ∈ getL nm L, x.size ≤ 65000)) (M : nm.size ≤ 65536) (hF : Box (Fs w a L)) :
    Calls Try.prog 14 #[.string nm, .slice a L.length cap] w fun e w' => e = .returned (.string (bs (valueY nm L))) ∧ Below w.heap.size w w' := by
  obtain ⟨n, hn⟩ : ∃ n, (getL nm L).length = n := ⟨_, rfl⟩
  have HN := box hn
  have hn6 : n ≤ 65536 := by rw [← hn]; unfold getL; rw [List.length_map]; exact Nat.le_trans (List.length_filter_le _ _) S.out.1
  obtain ⟨x, hx⟩ : ∃ x, valsB nm L = x := ⟨_, rfl⟩
  have HX : Box (joinB (getL nm L) = x) := box hx
  have hxz : x.size ≤ 4260000000 := by rw [← hx]; exact valsB_size (by rw [hn]; exact hn6) hv.out
  have ax := add61 x hxz
  by_cases h0 : n = 0
  · have HV : Box (bs (valueY nm L) = ⟨#[]⟩) := box (valueY_none19 (List.length_eq_zero_iff.1 (by rw [hn, h0])))
    subst h0
    rw [HV.out]
    clear hn hx ax
    go_enter Try.func14, Try.ntmps14
    go_wp2_with fail
    refine (rGet19_is S M hF.out HN).mono ?_; rintro e w1 ⟨p, c, rfl, hS, hb⟩
    have B1 := box hb
    clear hb hS
    go_wp2
    go_ret
    exact ⟨rfl, B1.out⟩
  · have hne : getL nm L ≠ [] := fun e => h0 (by rw [← hn, e]; rfl)
    have hnb : ((n : Int) == 0) = false := by simp; omega
    obtain ⟨k, hk⟩ : ∃ k, kindN nm = k := ⟨_, rfl⟩
    have HK := box hk
    by_cases hk0 : k = 0
    · have HV : Box (bs (valueY nm L) = ⟨#[61]⟩ ++ x) := box (valueY_kind hne (by rw [hk]; exact hk0) hx)
      have hkb : (k != 0) = false := by simp [hk0]
      rw [HV.out]
      clear hn hx hne hk h0 hk0
      go_enter Try.func14, Try.ntmps14
      go_wp2_with fail
      refine (rGet19_is S M hF.out HN).mono ?_; rintro e w1 ⟨p, c, rfl, hS, hb⟩
      have B1 := box hb
      have S1 := box hS
      clear hb hS
      go_wp2_with fail
      refine (rKind19_is M HK).mono ?_; rintro e w2 ⟨rfl, hb2⟩
      have S2 := box (S1.out.below hb2)
      have B2 := box (B1.out.trans (hb2.mono B1.out.size))
      clear hb2
      go_wp2_with fail
      refine (rJoin19_is hn6 hv S2.out HN HX).mono ?_; rintro e w3 ⟨rfl, rfl⟩
      go_wp2
      go_ret
      exact ⟨rfl, B2.out⟩
    · have hkb : (k != 0) = true := by simp [hk0]
      obtain ⟨m, hm⟩ : ∃ m, (allB nm L).length = m := ⟨_, rfl⟩
      have HM := box hm
      have hm6 : m ≤ 64 := by rw [← hm]; exact allB_len19
      by_cases hm0 : m < 64
      · have hmi : (m : Int) < 64 := by omega
        obtain ⟨y, hy⟩ : ∃ y, memsB nm L = y := ⟨_, rfl⟩
        have HY : Box (joinB (allB nm L) = y) := box hy
        have hyz : y.size ≤ 4260000000 := by rw [← hy]; exact memsB_size hv.out
        obtain ⟨z, hz⟩ : ∃ z, bs (lowL y.data.toList) = z := ⟨_, rfl⟩
        have HZ := box hz
        have az := add61 z (by rw [← hz, low_size19]; exact hyz)
        have HA := box (allB_mem19 hv.out)
        have HV : Box (bs (valueY nm L) = ⟨#[61]⟩ ++ z) := box (valueY_mem hne (by rw [hk]; exact hk0) (by rw [hm]; exact hm0) (by rw [hy]; exact hz))
        rw [HV.out]
        clear hn hx hne hk h0 hk0 hm hy hz ax
        go_enter Try.func14, Try.ntmps14
        go_wp2_with fail
        refine (rGet19_is S M hF.out HN).mono ?_; rintro e w1 ⟨p, c, rfl, hS, hb⟩
        have B1 := box hb
        clear hb hS
        go_wp2_with fail
        refine (rKind19_is M HK).mono ?_; rintro e w2 ⟨rfl, hb2⟩
        have B2 := box (B1.out.trans (hb2.mono B1.out.size))
        clear hb2
        go_wp2_with fail
        refine (rAll19_is S hv M (hF.out.below B2.out) HM).mono ?_; rintro e w3 ⟨p3, c3, rfl, hS3, hb3⟩
        have B3 := box (B2.out.trans (hb3.mono B2.out.size))
        have S3 := box hS3
        clear hb3 hS3
        go_wp2_with fail
        refine (rJoin19_is (by omega) HA S3.out HM HY).mono ?_; rintro e w4 ⟨rfl, rfl⟩
        go_wp2_with fail
        refine (rLow19_is hyz HZ).mono ?_; rintro e w4 ⟨rfl, hb4⟩
        have B4 := box (B3.out.trans (hb4.mono B3.out.size))
        clear hb4
        go_wp2
        go_ret
        exact ⟨rfl, B4.out⟩
      · have hmi : ¬ (m : Int) < 64 := by omega
        have HV : Box (bs (valueY nm L) = ⟨#[61]⟩ ++ x) := box (valueY_long hne (by rw [hm]; exact hm0) hx)
        rw [HV.out]
        clear hn hx hne hk h0 hk0 hm
        go_enter Try.func14, Try.ntmps14
        go_wp2_with fail
        refine (rGet19_is S M hF.out HN).mono ?_; rintro e w1 ⟨p, c, rfl, hS, hb⟩
        have B1 := box hb
        have S1 := box hS
        clear hb hS
        go_wp2_with fail
        refine (rKind19_is M HK).mono ?_; rintro e w2 ⟨rfl, hb2⟩
        have S2 := box (S1.out.below hb2)
        have B2 := box (B1.out.trans (hb2.mono B1.out.size))
        clear hb2
        go_wp2_with fail
        refine (rAll19_is S hv M (hF.out.below B2.out) HM).mono ?_; rintro e w3 ⟨p3, c3, rfl, hS3, hb3⟩
        have S3 := box (S2.out.below hb3)
        have B3 := box (B2.out.trans (hb3.mono B2.out.size))
        clear hb3 hS3
        go_wp2_with fail
        refine (rJoin19_is hn6 hv S3.out HN HX).mono ?_; rintro e w4 ⟨rfl, rfl⟩
        go_wp2
        go_ret
        exact ⟨rfl, B3.out⟩
end
section
open Go.RowKit
def OwnY (w : World) (R : List ByteArray) (e : Ending) (w' : World) : Prop := ∃ v, e = .returned v ∧ OwnS w' w.heap.size v R ∧ Below w.heap.size w w'
/-- the first k texts of a snapshot -/
def SnRel (N : List ByteArray) (L : List F) (W : World) (v i : Value) (wr : World) : Prop :=
  ∃ k : Nat, i = .int .i64 k ∧ k ≤ N.length ∧ OwnS wr W.heap.size v (snapY (N.take k) L) ∧ Below W.heap.size W wr
theorem snap_more {N : List ByteArray} {L : List F} {k : Nat} (h : k < N.length) : snapY (N.take (k + 1)) L = snapY (N.take k) L ++ [bs (valueY N[k] L)] := by
  unfold snapY
  rw [List.take_succ_eq_append_getElem h, List.map_append]; rfl
theorem snap_len (N : List ByteArray) (L : List F) : (snapY N L).length = N.length := by unfold snapY; rw [List.length_map]
set_option maxHeartbeats 1600000 in
theorem rSnap_any (a b : Option Addr) (ca cb : Nat) (N : List ByteArray) (L : List F) (w : World) (S : Box (Sm L)) (hv : Box (∀ n : ByteArray, ∀ x ∈ getL n L, x.size ≤ 65000)) (hnl : N.length ≤ 65536) (hN : Box (∀ i (hi : i < N.length), N[i].size ≤ 65536)) (hS : Box (Ss w a N)) (hF : Box (Fs w b L)) :
    Calls Try.prog 16 #[.slice a N.length ca, .slice b L.length cb] w fun e w' => OwnY w (snapY N L) e w' := by
  go_enter Try.func16, Try.ntmps16
  go_wp2
  go_loopw [5, 6] (fun v i wr => SnRel N L w v i wr) (fun _ i _ => N.length - (intOf i).toNat)
  case atStart => exact ⟨0, rfl, Nat.zero_le _, OwnS.nil _ _, Below.refl _ _⟩
  case round =>
    obtain ⟨k, rfl, hk, hO, hb⟩ := hrel
    have O := box hO
    have BL := box hb
    have hs0 := hb.size
    clear hO hb
    by_cases hlt : k < N.length
    · have hli : (k : Int) < (N.length : Int) := by omega
      have hk0 : (0 : Int) ≤ (k : Int) := by omega
      obtain ⟨x, hx⟩ : ∃ x, N[k] = x := ⟨_, rfl⟩
      have hxz : x.size ≤ 65536 := by rw [← hx]; exact hN.out k hlt
      obtain ⟨g, off, rfl, c0⟩ := (hS.out.below BL.out) k hlt
      rw [hx] at c0
      have HX : Box (snapY (N.take (k + 1)) L = snapY (N.take k) L ++ [bs (valueY x L)]) := box (by rw [snap_more hlt, hx])
      have HL : Box ((snapY (N.take k) L).length ≤ 65536) := box (by rw [snap_len, List.length_take]; omega)
      clear hx
      go_wp2_with fail
      refine (rValY_any x b cb L _ S (box (hv.out x)) hxz (box (hF.out.below BL.out))).mono ?_; rintro e w1 ⟨rfl, hb1⟩
      have O1 := box (own_below O.out hb1)
      have BL1 := box (BL.out.trans (hb1.mono BL.out.size))
      have hs1 := BL1.out.size
      clear hb1 c0
      go_wp2_with (at_builtin; refine wpList_append_str _ rfl (.tmp 13) (.tmp 20) rfl w.heap.size _ (snapY (N.take k) L) rfl ?a1 _ _ rfl (bs (valueY x L)) ?b1 ?c1 ?d1 ?_)
      case a1 => exact own_below O1.out (below_new _ _)
      case b1 => go_simp
      case c1 => exact HL.out
      case d1 => simp; omega
      intro v2 w2 hO2 hb2
      have O2 := box hO2
      clear hO2
      go_wp2
      go_roundw
      case rel => exact ⟨k + 1, by go_num, by omega, by rw [HX.out]; exact O2.out, (BL1.out.alloc BL1.out.size _).trans hb2⟩
      case measure => simp [intOf]; omega
    · have HE : Box (snapY (N.take k) L = snapY N L) := box (by rw [List.take_of_length_le (by omega)])
      go_wp2
      go_ret
      exact ⟨_, rfl, by rw [← HE.out]; exact O.out, BL.out⟩
theorem rSame19_is {a b : Option Addr} {ca cb n m : Nat} {K L : List ByteArray} {q : Bool} {w : World} (hk : n ≤ 65536) (hl : m ≤ 65536) (hK : Ss w a K) (hL : Ss w b L) (h1 : Box (K.length = n)) (h2 : Box (L.length = m)) (h : Box (decide (K = L) = q)) :
    Calls Try.prog 30 #[.slice a n ca, .slice b m cb] w fun e w' => e = .returned (.bool q) ∧ Below w.heap.size w w' := by
  have := SameS_any a b ca cb K L w (by rw [h1.out]; exact hk) (by rw [h2.out]; exact hl) (box hK) (box hL)
  rw [h1.out, h2.out, h.out] at this; exact this
theorem rSnap_is {a b : Option Addr} {ca cb n : Nat} {N : List ByteArray} {L : List F} {w : World} (S : Box (Sm L)) (hv : Box (∀ n : ByteArray, ∀ x ∈ getL n L, x.size ≤ 65000)) (hnl : n ≤ 65536) (hN : Box (∀ i (hi : i < N.length), N[i].size ≤ 65536)) (hS : Ss w a N) (hF : Fs w b L) (h : Box (N.length = n)) :
    Calls Try.prog 16 #[.slice a n ca, .slice b L.length cb] w fun e w' => ∃ p c, e = .returned (.slice p n c) ∧ Ss w' p (snapY N L) ∧ Below w.heap.size w w' := by
  have := rSnap_any a b ca cb N L w S hv (by rw [h.out]; exact hnl) hN (box hS) (box hF)
  rw [h.out] at this
  exact this.mono fun e w' ⟨v, h1, h2, h3⟩ => by
    obtain ⟨p, c, rfl, h4, _⟩ := h2.ss
    rw [snap_len, h.out] at h1
    exact ⟨p, c, h1, h4, h3⟩
set_option maxHeartbeats 1600000 in
theorem rMatch19_any (a b d : Option Addr) (ca cb cd : Nat) (N T : List ByteArray) (L : List F) (q : Bool) (w : World) (S : Box (Sm L)) (hv : Box (∀ n : ByteArray, ∀ x ∈ getL n L, x.size ≤ 65000)) (hnl : N.length ≤ 65536) (htl : T.length ≤ 65536) (hN : Box (∀ i (hi : i < N.length), N[i].size ≤ 65536)) (hS : Box (Ss w a N)) (hT : Box (Ss w d T)) (hF : Box (Fs w b L)) (hq : Box (matchY N T L = q)) :
    Calls Try.prog 18 #[.slice a N.length ca, .slice d T.length cd, .slice b L.length cb] w fun e w' => e = .returned (.bool q) ∧ Below w.heap.size w w' := by
  obtain ⟨n, hn⟩ : ∃ n, N.length = n := ⟨_, rfl⟩
  have HN := box hn
  obtain ⟨m, hm⟩ : ∃ m, T.length = m := ⟨_, rfl⟩
  have HM := box hm
  rw [hn] at hnl ⊢
  rw [hm] at htl ⊢
  by_cases h0 : n = m
  · have hb : ((n : Int) == (m : Int)) = true := by simp [h0]
    have HQ : Box (decide (snapY N L = T) = q) := box (by rw [← hq.out]; unfold matchY; rw [decide_eq_true (show N.length = T.length by rw [hn, hm, h0]), Bool.true_and])
    have HL : Box ((snapY N L).length = n) := box (by rw [snap_len, hn])
    clear h0 hn hm
    go_enter Try.func18, Try.ntmps18
    go_wp2_with fail
    refine (rSnap_is S hv hnl hN hS.out hF.out HN).mono ?_; rintro e w1 ⟨p, c, rfl, hS1, hb1⟩
    have B1 := box hb1
    have S1 := box hS1
    have T1 := box (hT.out.below hb1)
    clear hS1 hb1
    go_wp2_with fail
    refine (rSame19_is hnl htl S1.out T1.out HL HM HQ).mono ?_; rintro e w2 ⟨rfl, hb2⟩
    have B2 := box (B1.out.trans (hb2.mono B1.out.size))
    clear hb2
    go_wp2
    go_ret
    exact ⟨rfl, B2.out⟩
  · have hb : ((n : Int) == (m : Int)) = false := by simp; omega
    have HQ : Box (q = false) := box (by rw [← hq.out]; unfold matchY; rw [decide_eq_false (show ¬ N.length = T.length by rw [hn, hm]; exact h0), Bool.false_and])
    rw [HQ.out]
    clear h0 hn hm
    go_enter Try.func18, Try.ntmps18
    go_wp2
    go_ret
    exact ⟨rfl, Below.refl _ _⟩
end
section
/-- outside quoted strings (0), within one (1), behind a backslash within one (2) -/
def stepQ (s : Nat) (c : UInt8) : Nat := if s = 0 then (if c = 34 then 1 else 0) else if s = 1 then (if c = 34 then 0 else if c = 92 then 2 else 1) else 1
def pcF (sep : UInt8) : Nat → List UInt8 → List UInt8 → List UInt8 × List UInt8 × Bool
  | _, [], acc => (acc, [], false)
  | s, c :: r, acc => if s = 0 ∧ c = sep then (acc, r, true) else pcF sep (stepQ s c) r (acc ++ [c])
def pcL (sep : UInt8) (l : List UInt8) : List UInt8 × List UInt8 × Bool := pcF sep 0 l []
def moreL (sep : UInt8) (m : Bool) (l : List UInt8) : List (List UInt8) := if m then cutL sep l else []
theorem pcF_cons (sep : UInt8) (s : Nat) (c : UInt8) (r acc : List UInt8) : pcF sep s (c :: r) acc = if s = 0 ∧ c = sep then (acc, r, true) else pcF sep (stepQ s c) r (acc ++ [c]) := rfl
def qS (q : Bool) : Nat := if q = true then 1 else 0
theorem cut_pc {sep : UInt8} (hs : sep ≠ 34) : ∀ (f : Nat) (q : Bool) (l acc : List UInt8), l.length ≤ f → cutF sep f q l acc = (pcF sep (qS q) l acc).1 :: moreL sep (pcF sep (qS q) l acc).2.2 (pcF sep (qS q) l acc).2.1
  | f, q, [], acc, _ => by rw [cutF_nil]; rfl
  | 0, q, c :: r, acc, h => by simp at h
  | f + 1, q, c :: r, acc, h => by
    simp only [List.length_cons] at h
    rw [cutF_cons, pcF_cons]
    by_cases h1 : q = true ∧ c = 92
    · obtain ⟨rfl, rfl⟩ := h1
      rw [if_pos ⟨rfl, rfl⟩, if_neg (fun h => absurd h.1 (by decide))]
      match r, h with
      | [], h => rfl
      | d :: r2, h =>
        simp only [List.length_cons] at h
        simp only
        rw [cut_pc hs f true r2 _ (by omega), pcF_cons, if_neg (fun h => absurd h.1 (by decide)), List.append_assoc]
        rfl
    · rw [if_neg h1]
      by_cases h2 : c = 34
      · subst h2
        rw [if_pos rfl, if_neg (fun h => hs h.2.symm), cut_pc hs f (!q) r _ (by omega)]
        cases q <;> rfl
      · rw [if_neg h2]
        by_cases h3 : c = sep ∧ q = false
        · obtain ⟨rfl, rfl⟩ := h3
          rw [if_pos ⟨rfl, rfl⟩, if_pos ⟨rfl, rfl⟩]
          show acc :: cutF c f false r [] = acc :: cutF c r.length false r []
          rw [cutF_fuel f r.length false r [] (by omega) (Nat.le_refl _)]
        · rw [if_neg h3]
          have e : stepQ (qS q) c = qS q := by
            unfold stepQ
            cases q
            · show (if (0 : Nat) = 0 then _ else _) = _
              rw [if_pos rfl, if_neg h2]; rfl
            · show (if (1 : Nat) = 0 then _ else if (1 : Nat) = 1 then _ else _) = _
              rw [if_neg (by decide), if_pos rfl, if_neg h2, if_neg (fun h => h1 ⟨rfl, h⟩)]; rfl
          have n : ¬ (qS q = 0 ∧ c = sep) := by
            rintro ⟨h5, h6⟩
            cases q
            · exact h3 ⟨h6, rfl⟩
            · exact absurd h5 (by decide)
          rw [if_neg n, e, cut_pc hs f q r _ (by omega)]
theorem cutL_pc {sep : UInt8} (hs : sep ≠ 34) (l : List UInt8) : cutL sep l = (pcL sep l).1 :: moreL sep (pcL sep l).2.2 (pcL sep l).2.1 := cut_pc hs l.length false l [] (Nat.le_refl _)
/-- the steps, by places -/
def pcAt (sep : UInt8) (s : Nat) (l : List UInt8) (k : Nat) : List UInt8 × List UInt8 × Bool := pcF sep s (l.drop k) (l.take k)
theorem pc_start (sep : UInt8) (l : List UInt8) : pcL sep l = pcAt sep 0 l 0 := by unfold pcL pcAt; simp
theorem pc_end {sep : UInt8} {s : Nat} {l : List UInt8} {k : Nat} (h : l.length ≤ k) : pcAt sep s l k = (l, [], false) := by
  unfold pcAt; rw [List.drop_of_length_le h, List.take_of_length_le h]; rfl
theorem pc_sep {sep : UInt8} {l : List UInt8} {k : Nat} (hk : k < l.length) (h : l[k] = sep) : pcAt sep 0 l k = (l.take k, l.drop (k + 1), true) := by
  unfold pcAt; rw [List.drop_eq_getElem_cons hk, pcF_cons, if_pos ⟨rfl, h⟩]
theorem pc_step {sep : UInt8} {s : Nat} {l : List UInt8} {k : Nat} (hk : k < l.length) (h : ¬ (s = 0 ∧ l[k] = sep)) : pcAt sep s l k = pcAt sep (stepQ s l[k]) l (k + 1) := by
  unfold pcAt
  rw [List.drop_eq_getElem_cons hk, pcF_cons, if_neg h, List.take_add_one, List.getElem?_eq_getElem hk]; rfl
theorem stepQ_le (s : Nat) (c : UInt8) : stepQ s c ≤ 2 := by unfold stepQ; repeat' split <;> try omega
/-- sizes -/
theorem pcF_size (sep : UInt8) : ∀ (l : List UInt8) (s : Nat) (acc : List UInt8), (pcF sep s l acc).1.length + (pcF sep s l acc).2.1.length ≤ acc.length + l.length ∧ ((pcF sep s l acc).2.2 = true → (pcF sep s l acc).2.1.length < l.length)
  | [], s, acc => ⟨by simp [pcF], fun h => by simp [pcF] at h⟩
  | c :: r, s, acc => by
    rw [pcF_cons]
    split
    · refine ⟨by simp only [List.length_cons]; omega, fun _ => by simp⟩
    · obtain ⟨h1, h2⟩ := pcF_size sep r (stepQ s c) (acc ++ [c])
      simp only [List.length_append, List.length_cons, List.length_nil] at h1 ⊢
      exact ⟨by omega, fun h => by have := h2 h; omega⟩
/-- the members of a value behind others, as long as there is room -/
def addL (A : List (List UInt8)) (ps : List (List UInt8)) : List (List UInt8) := (A ++ memL ps).take 64
theorem addL_nil {A : List (List UInt8)} (h : A.length ≤ 64) : addL A [] = A := by unfold addL memL; simp [List.take_of_length_le h]
theorem addL_full {A ps : List (List UInt8)} (h : A.length = 64) : addL A ps = A := by
  unfold addL; rw [List.take_append_of_le_length (by omega), List.take_of_length_le (by omega)]
theorem memL_cons (p : List UInt8) (ps : List (List UInt8)) : memL (p :: ps) = (if trimL p = [] then [] else [trimL p]) ++ memL ps := by
  rw [show p :: ps = [p] ++ ps from rfl, memL_append]
  congr 1
  split
  · rename_i e; unfold memL; simp [e]
  · rename_i e; exact memL_one e
theorem addL_blank {A ps : List (List UInt8)} {p : List UInt8} (h : trimL p = []) : addL A (p :: ps) = addL A ps := by unfold addL; rw [memL_cons, if_pos h, List.nil_append]
theorem addL_more {A ps : List (List UInt8)} {p : List UInt8} (h : trimL p ≠ []) : addL A (p :: ps) = addL (A ++ [trimL p]) ps := by unfold addL; rw [memL_cons, if_neg h, List.append_assoc]
theorem addL_all {vs : List ByteArray} {k : Nat} (h : k < vs.length) : (allF (vs.take (k + 1))).take 64 = addL ((allF (vs.take k)).take 64) (cutL 44 vs[k].data.toList) := by
  rw [allF_more h]
  unfold addL splitL
  generalize (allF (vs.take k)).take 64 = X
  rw [List.take_append, List.take_append, List.take_take]
  congr 2
  omega
end
end Go.Proofs.Ytlhcccakiidbdaa.Asc
