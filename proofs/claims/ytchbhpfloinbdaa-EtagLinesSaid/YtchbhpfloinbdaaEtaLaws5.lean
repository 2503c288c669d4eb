/- The walk of the law EtagLines. -/
import Derived.Test.YtchbhpfloinbdaaEtaLaws4
import Derived.Test.YtchbhpfloinbdaaLisRef4
import Derived.Test.YtchbhpfloinbdaaLisKeep
set_option linter.unusedVariables false
set_option linter.unusedSimpArgs false
set_option maxRecDepth 100000
namespace Go.Proofs.Ytchbhpfloinbdaa.Asc
open Go.RowKit

/-- a row of the call's own stays where only what is newer changes -/
theorem own_low {w w' : World} {B B2 : Nat} {e : TypeId} {size n : Nat} {v : Value} {xs : List Value} (h : w.ownsRow B e size v n xs) (hb : Below B2 w w') (hv : ∀ g, v.ownBlock = some g → g < B2) : w'.ownsRow B e size v n xs := by
  refine ⟨h.1, ?_⟩
  rcases h.2 with q | ⟨g, cap, cur, hv2, hB, hg, r⟩
  · exact .inl q
  · refine .inr ⟨g, cap, cur, hv2, hB, ?_, r⟩
    rw [hb.block g (hv g (by rw [hv2]; rfl))]; exact hg
theorem own_lt {w : World} {B : Nat} {e : TypeId} {size n : Nat} {v : Value} {xs : List Value} (h : w.ownsRow B e size v n xs) : ∀ g, v.ownBlock = some g → g < w.heap.size := by
  intro k hk
  rcases h.2 with ⟨rfl, _⟩ | ⟨g, cap, cur, rfl, hb, hg, _⟩
  · simp [Value.ownBlock] at hk
  · simp [Value.ownBlock] at hk
    subst hk
    rcases Nat.lt_or_ge g w.heap.size with q | q
    · exact q
    · rw [Array.getElem?_eq_none q] at hg; cases hg
theorem fs_two21 (a b c d : ByteArray) (w : World) (t : TypeId) : Fs (w.alloc (.cells #[.string a, .string b, .string c, .string d] t)) (some ⟨w.heap.size, 0, none⟩) [(a, b), (c, d)] := by
  intro i hi
  refine ⟨w.heap.size, 0, rfl, ?_⟩
  rw [Nat.zero_add, World.cell?_alloc_mark, World.cell?_alloc_mark]
  match i, hi with
  | 0, _ => exact ⟨rfl, rfl⟩
  | 1, _ => exact ⟨rfl, rfl⟩
theorem rIndex21_is {s : ByteArray} {q : Int} {w : World} (hs : s.size ≤ 65000) (h : Box (idxF s.data.toList 92 0 = q)) :
    Calls Try.prog 24 #[.string s, .int .u8 92, .int .i64 0] w fun e w' => e = .returned (.int .i64 q) ∧ w = w' :=
  (rIndex_any s 92 92 0 w (by unfold maxLen; omega) (Nat.zero_le _) rfl).mono fun e w' ⟨h1, h2⟩ => ⟨by rw [h1, h.out], h2⟩
theorem rJoin21_is {a : Option Addr} {cap : Nat} {L : List ByteArray} {x : ByteArray} {n : Nat} {w : World} (hn : Box (L.length = n)) (hl : L.length ≤ 65536) (hz : Box (∀ x ∈ L, x.size ≤ 65536)) (hF : Ss w a L) (h : Box (joinB L = x)) :
    Calls Try.prog 25 #[.slice a n cap] w fun e w' => e = .returned (.string x) ∧ w = w' := by
  rw [← hn.out]
  exact (rJoin7_any a cap L w hl hz (box hF)).mono fun e w' ⟨h1, h2⟩ => ⟨by rw [h1, h.out], h2⟩
theorem joinC_le (n : Nat) : ∀ ms : List (List UInt8), (∀ m ∈ ms, m.length + 2 ≤ n) → (joinC ms).length ≤ n * ms.length
  | [], _ => by simp [joinC]
  | [m], h => by have := h m (by simp); simp only [joinC, List.length_cons, List.length_nil]; omega
  | m :: m2 :: ms, h => by
    have h1 := h m (by simp)
    have ih := joinC_le n (m2 :: ms) (fun x hx => h x (by simp [hx]))
    have e : joinC (m :: m2 :: ms) = m ++ [44, 32] ++ joinC (m2 :: ms) := by simp [joinC]
    rw [e, List.length_cons, Nat.mul_add]
    simp only [List.length_append, List.length_cons, List.length_nil] at *
    omega
/-- what the two fields hold, and what it is read as -/
theorem lines21 {L : List ByteArray} (hg : GoodK L) (hz : ∀ x ∈ L, x.size ≤ 100) (h1 : 1 ≤ L.length) (h20 : L.length ≤ 20) (c : Nat) :
    listM (allB inmN [(inmN, joinB ((fmtK L).take c)), (inmL, joinB ((fmtK L).drop c))]) = (tagsE L, false, true) ∧ (joinB ((fmtK L).take c)).size ≤ 3000 ∧ (joinB ((fmtK L).drop c)).size ≤ 3000 := by
  have hlen := fmtK_len L
  have hm : ∀ m ∈ fmtK L, ∃ e : ET, m = bs (fmtL e) ∧ tagT e.2.data.toList = true ∧ (92 : UInt8) ∉ fmtL e ∧ e.2.size ≤ 100 := fun m hm => by
    obtain ⟨i, hi, rfl⟩ := List.getElem_of_mem hm
    have hi2 : i < L.length := by rw [← hlen]; exact hi
    obtain ⟨k1, k2⟩ := hg i hi2
    exact ⟨(oddB i, L[i]), fmtK_at hi2 hi, k1, k2, hz _ (List.getElem_mem hi2)⟩
  have hsz : ∀ M : List ByteArray, (∀ m ∈ M, m ∈ fmtK L) → M.length ≤ 20 → (joinB M).size ≤ 3000 := fun M h hl => by
    unfold joinB; rw [bs_size]
    have := joinC_le 106 (M.map fun x => x.data.toList) (fun m hmm => by
      obtain ⟨x, hx, rfl⟩ := List.mem_map.mp hmm
      obtain ⟨e, rfl, _, _, k4⟩ := hm x (h x hx)
      have := fmt_len21 e
      rw [bs_toList]; omega)
    rw [List.length_map] at this
    omega
  have ht : ∀ m ∈ (fmtK L).take c, m ∈ fmtK L := fun m h => List.mem_of_mem_take h
  have hd : ∀ m ∈ (fmtK L).drop c, m ∈ fmtK L := fun m h => List.mem_of_mem_drop h
  have htl : ((fmtK L).take c).length ≤ 20 := by rw [List.length_take]; omega
  have hdl : ((fmtK L).drop c).length ≤ 20 := by rw [List.length_drop]; omega
  refine ⟨?_, hsz _ ht htl, hsz _ hd hdl⟩
  have s1 := etag_split (M := (fmtK L).take c) (fun m h => by obtain ⟨e, k1, k2, k3, _⟩ := hm m (ht m h); exact ⟨e, k1, k2, k3⟩) (by omega)
  have s2 := etag_split (M := (fmtK L).drop c) (fun m h => by obtain ⟨e, k1, k2, k3, _⟩ := hm m (hd m h); exact ⟨e, k1, k2, k3⟩) (by omega)
  have hall : allB inmN [(inmN, joinB ((fmtK L).take c)), (inmL, joinB ((fmtK L).drop c))] = fmtK L := by
    unfold allB allL
    rw [inm_get]
    unfold allF
    rw [List.flatMap_cons, List.flatMap_cons, List.flatMap_nil, List.append_nil]
    unfold joinB
    rw [bs_toList, bs_toList, s1, s2, ← List.map_append, List.take_append_drop, List.take_of_length_le (by rw [List.length_map]; omega), map_bs]
  rw [hall]
  exact fmtK_list hg h1 (by omega)
def LinRel (L : List ByteArray) (c : Nat) (w : World) (p q i : Value) (wr : World) : Prop :=
  ∃ (k B2 : Nat), i = .int .i64 k ∧ k ≤ L.length ∧ (∀ j (h : j < L.length), j < k → tagT L[j].data.toList = true ∧ (92 : UInt8) ∉ fmtL (oddB j, L[j])) ∧ OwnS wr w.heap.size p ((fmtK L).take (min k c)) ∧ (∀ g, p.ownBlock = some g → g < B2) ∧ B2 ≤ wr.heap.size ∧ w.heap.size ≤ B2 ∧ OwnS wr B2 q (((fmtK L).take k).drop c) ∧ (k ≤ c → q = .slice none 0 0) ∧ Below w.heap.size w wr

end Go.Proofs.Ytchbhpfloinbdaa.Asc
