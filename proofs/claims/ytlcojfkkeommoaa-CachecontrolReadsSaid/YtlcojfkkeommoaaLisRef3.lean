/- The contracts of the reference's All and Join. -/
import Derived.Test.YtlcojfkkeommoaaLisRef2
set_option linter.unusedVariables false
set_option linter.unusedSimpArgs false
set_option maxRecDepth 100000
namespace Go.Proofs.Ytlcojfkkeommoaa.Asc
open Go.RowKit

def allB (nm : ByteArray) (L : List F) : List ByteArray := (allL nm L).map bs
/-- the first k members more, as long as there is room -/
theorem room_more {A M : List (List UInt8)} {k : Nat} (h : k < M.length) (hl : ((A ++ M.take k).take 64).length < 64) : (A ++ M.take (k + 1)).take 64 = (A ++ M.take k).take 64 ++ [M[k]] := by
  have h1 : (A ++ M.take k).length < 64 := by rw [List.length_take] at hl; omega
  have e : M.take (k + 1) = M.take k ++ [M[k]] := by rw [List.take_add_one, List.getElem?_eq_getElem h]; rfl
  rw [e, ← List.append_assoc, List.take_of_length_le (l := A ++ M.take k) (by omega), List.take_of_length_le (by rw [List.length_append]; simp only [List.length_cons, List.length_nil]; omega)]
theorem room_full {A M : List (List UInt8)} {k : Nat} (hl : ((A ++ M.take k).take 64).length = 64) : (A ++ M).take 64 = (A ++ M.take k).take 64 := by
  have h1 : 64 ≤ (A ++ M.take k).length := by rw [List.length_take] at hl; omega
  have e : A ++ M = (A ++ M.take k) ++ M.drop k := by rw [List.append_assoc, List.take_append_drop]
  rw [e, List.take_append_of_le_length h1]
theorem ownS_len {w : World} {B : Nat} {v : Value} {L : List ByteArray} (h : OwnS w B v L) (n : Nat) (hn : L.length = n) : ∃ a cap, v = .slice a n cap := by
  obtain ⟨a, cap, rfl, _, _⟩ := h.ss
  exact ⟨a, cap, by rw [hn]⟩
def AllRel (vs : List ByteArray) (B : Nat) (w : World) (v i : Value) (wr : World) : Prop :=
  ∃ k : Nat, i = .int .i64 k ∧ k ≤ vs.length ∧ OwnS wr B v (((allF (vs.take k)).take 64).map bs) ∧ Below w.heap.size w wr
/-- a list of strings of the call's own, whose block does not lie from lo on below hi; what lies there stays -/
def OwnX (w : World) (B lo hi : Nat) (v : Value) (L : List ByteArray) : Prop := OwnS w B v L ∧ ∀ k, v.ownBlock = some k → k < lo ∨ hi ≤ k
def Mid (lo hi : Nat) (w w' : World) : Prop := ∀ k, lo ≤ k → k < hi → w'.heap[k]? = w.heap[k]?
theorem wpList_append_strX (w : World) {ops : Array Oper} {rest : List Oper} {o : Oper} {a : Act} {Q : Exit → Act → World → Prop} (hgd : o.guard = none) (s x : Operand)
    (ho : o.op = .call { callee := .builtin .append, args := #[s, x], argTypes := #[29, 29] })
    (B lo hi : Nat) (v : Value) (L : List ByteArray) (hs : a.eval s = v) (hown : OwnX w B lo hi v L)
    (g : Nat) (c : Nat) (hx : a.eval x = .slice (some ⟨g, 0, none⟩) 1 c) (u : ByteArray) (h0 : w.cell? ⟨g, 0, none⟩ = some (.string u)) (hl : L.length ≤ 65536) (hB : B ≤ w.heap.size) (hhi : hi ≤ w.heap.size)
    (h : ∀ v' w', OwnX w' B lo hi v' (L ++ [u]) → Below B w w' → Mid lo hi w w' → wpList Try.prog ops Q rest (a.put o.dst v') w') : wpList Try.prog ops Q (o :: rest) a w := by
  obtain ⟨i0, hi0, hz0, hz1, hz2⟩ := info_parts info_str
  refine wpList_append_lies (P := Try.prog) w hgd s x 29 ho B 9 i0 _ 1 16 Try.underlying29 hi0 hz0 hz1 hz2 rfl (by decide) v L.length (L.map Value.string) hs hown.1 ⟨g, 0, none⟩ 1 c [.string u] hx rfl ?_ ?_ (by omega) (by unfold maxLen; omega) (by omega) hB _ rfl ?_
  · intro j u hj
    match j, hj with
    | 0, hj => simp at hj; subst hj; simpa [Addr.add] using h0
  · intro u hu; simp at hu; subst hu; rfl
  · intro g' cap w' q1 q2 q3 _
    refine h _ w' ⟨by simpa [OwnS] using q1, fun k hk => ?_⟩ ((Below.refl _ _).grown q2 hB (fun k hk => own_block hown.1 k hk)) (fun k h1 h2 => q2.block k (by omega) (fun e => ?_))
    · simp [Value.ownBlock] at hk
      subst hk
      rcases q3 with q3 | q3
      · exact hown.2 _ q3
      · right; omega
    · rcases hown.2 k e.symm with q | q <;> omega
def InRel (A M : List (List UInt8)) (B lo hi : Nat) (w : World) (v i : Value) (wr : World) : Prop :=
  ∃ k : Nat, i = .int .i64 k ∧ k ≤ M.length ∧ OwnX wr B lo hi v (((A ++ M.take k).take 64).map bs) ∧ Below B w wr ∧ Mid lo hi w wr
set_option maxHeartbeats 4000000 in
theorem rAll_any (a : Option Addr) (cap : Nat) (L : List F) (nm : ByteArray) (w : World) (S : Box (Sm L)) (hv : Box (∀ x ∈ getL nm L, x.size ≤ 65000)) (M : Box (nm.size ≤ 65536)) (hF : Box (Fs w a L)) :
    Calls Try.prog 22 #[.slice a L.length cap, .string nm] w fun e w' => ∃ v, e = .returned v ∧ OwnS w' w.heap.size v (allB nm L) ∧ Below w.heap.size w w' := by
  obtain ⟨vs, hvs⟩ : ∃ vs, getL nm L = vs := ⟨_, rfl⟩
  have HVS := box hvs
  have HAL : Box (allB nm L = ((allF vs).take 64).map bs) := box (by unfold allB allL; rw [hvs])
  have hvl : vs.length ≤ 65536 := by
    have := get_le (nm := nm) (L := L) (k := L.length)
    rw [List.take_length, hvs] at this
    have := S.out.1; omega
  rw [hvs] at hv
  clear hvs
  have hl := S.out.1
  go_enter Try.func22, Try.ntmps22
  go_wp2_with fail
  refine (rGet_any a cap L nm _ hl S M hF).mono ?_; rintro e w1 ⟨v1, rfl, hO1, hb1⟩
  rw [HVS.out] at hO1
  obtain ⟨a1, cap1, rfl, hS1, hc1⟩ := hO1.ss
  have S1 := box hS1
  have B1 := box hb1
  have hB1 := hb1.size
  clear hO1 hS1 hb1
  go_wp2
  go_loopw [5, 7] (fun v i wr => AllRel vs w1.heap.size w1 v i wr) (fun _ i _ => vs.length - (intOf i).toNat)
  case atStart => exact ⟨0, rfl, Nat.zero_le _, OwnS.nil _ _, Below.refl _ _⟩
  case round =>
    obtain ⟨wo, rfl⟩ : ∃ wo, wo = wr := ⟨_, rfl⟩
    obtain ⟨k, rfl, hk, hO, hbel⟩ := hrel
    have O0 := box hO
    have BL := box hbel
    have hBw := hbel.size
    clear hO hbel
    by_cases hlt : k < vs.length
    · obtain ⟨q, off, rfl, c0⟩ := (S1.out.below BL.out) k hlt
      have hxz := hv.out vs[k] (List.getElem_mem hlt)
      have HN := box (allF_more hlt)
      obtain ⟨A, hA⟩ : ∃ A, (allF (vs.take k)).take 64 = A := ⟨_, rfl⟩
      have hA64 : A.length ≤ 64 := by rw [← hA, List.length_take]; omega
      have HA64 : Box (A = (A ++ ([] : List (List UInt8))).take 64) := box (by rw [List.append_nil, List.take_of_length_le hA64])
      rw [hA] at HN O0
      clear hA hA64
      go_wp2_with fail
      refine (rSplit_any vs[k] _ hxz).mono ?_; rintro e w2 ⟨v2, rfl, hO2, hb2⟩
      obtain ⟨MM, hMM⟩ : ∃ MM, splitL vs[k].data.toList = MM := ⟨_, rfl⟩
      have hM64 : MM.length ≤ 64 := by rw [← hMM]; exact split_len _
      unfold splitB at hO2
      rw [hMM] at hO2 HN
      obtain ⟨a2, cap2, rfl, hS2, hc2⟩ := hO2.ss
      rw [List.length_map] at hc2 ⊢
      have S2 := box hS2
      have hblk : ∀ q2 off2, a2 = some ⟨q2, off2, none⟩ → wo.heap.size ≤ q2 := fun q2 off2 e => own_block hO2 q2 (by rw [e]; rfl)
      have HBK := box hblk
      have OX : Box (OwnX w2 w1.heap.size wo.heap.size w2.heap.size _ (A.map bs)) := box ⟨own_below O0.out hb2, fun k hk => .inl (World.ownsRow.lt O0.out k hk).2⟩
      have B2 := box (BL.out.trans (hb2.mono BL.out.size))
      have hB2 := Nat.le_trans hBw hb2.size
      clear hO2 hS2 hb2 hMM c0 hblk
      go_wp2
      go_loopw [5, 9] (fun v i wi => InRel A MM w1.heap.size wo.heap.size w2.heap.size w2 v i wi) (fun _ i _ => MM.length - (intOf i).toNat)
      case atStart => exact ⟨0, rfl, Nat.zero_le _, by rw [List.take_zero, ← HA64.out]; exact OX.out, Below.refl _ _, fun _ _ _ => rfl⟩
      case round =>
        obtain ⟨j, rfl, hj, hO, hbel, hmid⟩ := hrel
        obtain ⟨O, hOl⟩ : ∃ O, (A ++ MM.take j).take 64 = O := ⟨_, rfl⟩
        rw [hOl] at hO
        have HOL := box hOl
        have ho64 : O.length ≤ 64 := by rw [← hOl, List.length_take]; omega
        obtain ⟨av, cv, rfl, _, _⟩ := hO.1.ss
        rw [List.length_map] at hO ⊢
        have O1 := box hO
        have B3 := box hbel
        have hmw := box hmid
        have hsz3 := hbel.size
        clear hO hbel hmid hOl
        by_cases hjl : j < MM.length
        · by_cases hm : O.length = 64
          · have hmi : ¬ (O.length : Int) < 64 := by omega
            have HF : Box ((A ++ MM).take 64 = O) := box (by rw [room_full (k := j) (by rw [HOL.out]; exact hm), HOL.out])
            clear hm
            go_wp2
            go_roundw
            case rel => exact ⟨k + 1, by go_num, by omega, by rw [HN.out, HF.out]; exact O1.out.1, B2.out.trans B3.out⟩
            case measure => simp [intOf]; omega
          · have hmi : (O.length : Int) < 64 := by omega
            obtain ⟨q2, off2, rfl, c1⟩ := S2.out j (by rw [List.length_map]; exact hjl)
            have hq1 := HBK.out q2 off2 rfl
            have hq2 : q2 < w2.heap.size := cell_lt c1
            have c2 : wr.cell? ⟨q2, off2 + j, none⟩ = some (.string (bs MM[j])) := by
              rw [World.cell?_of_block (w := w2) (hmw.out q2 hq1 hq2), c1, List.getElem_map]
            have HN2 : Box (((A ++ MM.take (j + 1)).take 64).map bs = O.map bs ++ [bs MM[j]]) := box (by
              rw [room_more hjl (by rw [HOL.out]; omega), HOL.out, List.map_append, List.map_cons, List.map_nil])
            have hm6 : Box ((O.map bs).length ≤ 65536) := box (by rw [List.length_map]; omega)
            have hB3 := B3.out.size
            have HBW : Box (w1.heap.size ≤ wr.heap.size) := box (Nat.le_trans hB2 hsz3)
            clear c1 hm
            go_wp2_with (at_builtin; refine wpList_append_strX _ rfl (.tmp 35) (.tmp 40) rfl w1.heap.size wo.heap.size w2.heap.size _ (O.map bs) rfl ?a1 _ _ rfl (bs MM[j]) ?b1 ?c1 ?d1 ?e1 ?_)
            case a1 => exact ⟨own_below O1.out.1 (below_new _ _), O1.out.2⟩
            case b1 => go_simp
            case c1 => exact hm6.out
            case d1 => have := HBW.out; simp; omega
            case e1 => simp; omega
            intro v4 w4 hO4 hb4 hm4
            have O4 := box hO4
            have B4 := box ((B3.out.alloc HBW.out _).trans hb4)
            have M4 : Box (Mid wo.heap.size w2.heap.size w2 w4) := box (fun k h1 h2 => by
              rw [hm4 k h1 h2, ← hmw.out k h1 h2]
              exact (below_new wr _).block k (by omega))
            clear hO4 hb4 hm4 c2
            go_wp2
            go_roundw
            case rel => exact ⟨j + 1, by go_num, by omega, by rw [HN2.out]; exact O4.out, B4.out, M4.out⟩
            case measure => simp [intOf]; omega
        · have HF : Box ((A ++ MM).take 64 = O) := box (by rw [← HOL.out, List.take_of_length_le (l := MM) (by omega)])
          go_wp2
          go_roundw
          case rel => exact ⟨k + 1, by go_num, by omega, by rw [HN.out, HF.out]; exact O1.out.1, B2.out.trans B3.out⟩
          case measure => simp [intOf]; omega
    · have HF : Box ((allF (vs.take k)).take 64 = (allF vs).take 64) := box (by rw [List.take_of_length_le (l := vs) (by omega)])
      rw [HF.out] at O0
      go_wp2
      go_ret
      exact ⟨_, rfl, by rw [HAL.out]; exact Go.Joins.ownsRow_le O0.out hB1, B1.out.trans (BL.out.mono hB1)⟩

end Go.Proofs.Ytlcojfkkeommoaa.Asc
