/- Merged texts: ClsRef2 ClsLaws. -/
import Derived.Test.YtklfpkaemnhdhaaGreatDoorZb02
import Derived.Test.YtklfpkaemnhdhaaGreatDoorZb04
import Derived.Test.YtklfpkaemnhdhaaGreatDoorZb05
import Derived.Test.YtklfpkaemnhdhaaGreatDoorZb06
import Derived.Test.YtklfpkaemnhdhaaGreatDoorZb07
import Derived.Test.YtklfpkaemnhdhaaGreatDoorZb08
import Derived.Test.YtklfpkaemnhdhaaGreatDoorZb09
import Derived.Test.YtklfpkaemnhdhaaGreatDoorZb10
import Derived.Test.YtklfpkaemnhdhaaGreatDoorZb11
import Derived.Test.YtklfpkaemnhdhaaGreatDoorZb13
import Derived.Test.YtklfpkaemnhdhaaGreatDoorZb16
set_option linter.unusedVariables false
set_option linter.unusedSimpArgs false
set_option maxRecDepth 100000
namespace Go.Proofs.YtklfpkaemnhdhaaGreatDoor.Asc
section
open Go.RowKit
theorem rQual18_is {k i : Int} {a : Option Addr} {cap : Nat} {L : List QP} {present : Bool} {v : ByteArray} {w : World} (hk : InI64 k) (hl : L.length ≤ 65536) (hz : Box (∀ i (hi : i < L.length), L[i].1.size ≤ 20000)) (hv : v.size ≤ 20000) (hF : Qs w a L) (h : Box (qualR k L present v.data.toList = i)) :
    Calls Tryz.prog 51 #[.int .i64 k, .slice a L.length cap, .bool present, .string v] w fun e w' => e = .returned (.int .i64 i) ∧ Below w.heap.size w w' := by
  have := rQuality_any k a cap L present v w hk hl hz hv (box hF)
  rw [h.out] at this; exact this
theorem rHas18_is {a : Option Addr} {cap n : Nat} {L : List F} {nm : ByteArray} {q : Bool} {w : World} (FL : Box (FitL L)) (hm : Box (nm.size ≤ 65536)) (hF : Fs w a L) (h : Box (L.any (nmd nm) = q)) (hn : Box (L.length = n)) :
    Calls Tryz.prog 29 #[.slice a n cap, .string nm] w fun e w' => e = .returned (.bool q) ∧ Below w.heap.size w w' := by
  have := rHas_any a cap L nm w FL.out.1.1 (box FL.out.1) hm (box hF)
  rw [h.out, hn.out] at this; exact this
theorem rRem18_is {a : Option Addr} {cap n : Nat} {L M : List F} {nm : ByteArray} {w : World} (FL : Box (FitL L)) (hm : Box (nm.size ≤ 65536)) (hF : Fs w a L) (h : Box (remL nm L = M)) (hn : Box (L.length = n)) :
    Calls Tryz.prog 25 #[.slice a n cap, .string nm] w fun e w' => ∃ v, e = .returned v ∧ OwnF w' w.heap.size v M ∧ Below w.heap.size w w' := by
  have := rRemove_any a cap L nm w FL.out.1.1 (box FL.out.1) hm (box hF)
  rw [h.out, hn.out] at this; exact this
theorem rFmt18_is {a : Option Addr} {cap : Nat} {P : List QP} {x : ByteArray} {w : World} (hl : P.length ≤ 65536) (hz : Box (∀ i (hi : i < P.length), P[i].1.size ≤ 65000)) (hq : Box (∀ i (hi : i < P.length), InI64 P[i].2)) (hF : Qs w a P) (h : Box (fmtPf P = x)) :
    Calls Tryz.prog 52 #[.slice a P.length cap] w fun e w' => e = .returned (.string x) ∧ Below w.heap.size w w' := by
  have := rFmtPrefs_any a cap P w hl hz hq (box hF)
  rw [h.out] at this; exact this
theorem nm_beq (nm : ByteArray) (h : nm ≠ ⟨#[]⟩) : (nm.toList == []) = false := by
  rw [toList_data, beq_eq_false_iff_ne]
  intro e; apply h; rw [bs_of nm, e]; rfl
theorem rNorm_no {k : Int} {a : Option Addr} {cap nl : Nat} {L : List F} {b : Option Addr} {cb nv : Nat} {w : World} (hk : InI64 k) (FL : Box (FitL L)) (hF : Box (Fs w a L)) (hcn : Box (a = none → cap = 0)) (HNL : Box (L.length = nl)) (ho : prefsO k L = false) :
    Calls Tryz.prog 20 #[.int .i64 k, .slice a nl cap, .slice b nv cb] w fun e w' => NormPost w L e w' := by
  obtain ⟨nm, hnm⟩ : ∃ nm, nameK k = nm := ⟨_, rfl⟩
  have HNM := box hnm
  have hnz : Box (nm.size ≤ 65536) := box (by rw [← hnm]; have := nameK_size k; omega)
  have hl6 := FL.out.1.1
  by_cases h0 : nm = ⟨#[]⟩
  · subst h0
    clear hnm ho
    go_enter Tryz.func20, Tryz.ntmps20
    go_wp2_with fail
    refine (rName_is hk HNM).mono ?_; rintro e w1 ⟨rfl, rfl⟩
    go_wp2_with (at_builtin; refine wpList_append_flds17 _ rfl (.const (.slice none 0 0)) (.tmp 23) rfl w.heap.size (.slice none 0 0) [] L rfl ?a1 a nl cap rfl HNL.out hcn.out ?b1 ?c1 hl6 ?d1 ?_)
    case a1 => exact OwnF.nil _ _
    case b1 => exact hF.out
    case c1 => simp
    case d1 => exact Nat.le_refl _
    intro v6 w6 hO6 hb6
    obtain ⟨a6, c6, rfl, _, _⟩ := OwnF.fs hO6
    have O6 := box hO6
    have B6 := box hb6
    clear hO6 hb6
    go_wp2
    go_ret
    exact ⟨_, rfl, O6.out, B6.out⟩
  · have e0 := nm_beq nm h0
    have hh : Box (L.any (nmd nm) = false) := box (by
      unfold prefsO at ho
      rw [hnm, decide_eq_true h0, Bool.true_and] at ho; exact ho)
    clear h0 hnm ho
    go_enter Tryz.func20, Tryz.ntmps20
    go_wp2_with fail
    refine (rName_is hk HNM).mono ?_; rintro e w1 ⟨rfl, rfl⟩
    go_wp2_with fail
    refine (rHas18_is FL hnz hF.out hh HNL).mono ?_; rintro e w2 ⟨rfl, hb2⟩
    have B2 := box hb2
    have hs2 := hb2.size
    have F2 := box (hF.out.below hb2)
    clear hb2
    go_wp2_with (at_builtin; refine wpList_append_flds17 _ rfl (.const (.slice none 0 0)) (.tmp 23) rfl w.heap.size (.slice none 0 0) [] L rfl ?a2 a nl cap rfl HNL.out hcn.out ?b2 ?c2 hl6 ?d2 ?_)
    case a2 => exact OwnF.nil _ _
    case b2 => exact F2.out
    case c2 => simp
    case d2 => exact hs2
    intro v6 w6 hO6 hb6
    obtain ⟨a6, c6, rfl, _, _⟩ := OwnF.fs hO6
    have O6 := box hO6
    have B6 := box (B2.out.trans hb6)
    clear hO6 hb6
    go_wp2
    go_ret
    exact ⟨_, rfl, O6.out, B6.out⟩
def NfRel (k : Int) (P : List QP) (V : List ByteArray) (W : World) (v i : Value) (wr : World) : Prop :=
  ∃ j : Nat, i = .int .i64 j ∧ j ≤ V.length ∧ OwnQ wr W.heap.size v (namedL k P (V.take j)) ∧ Box (Below W.heap.size W wr)
theorem tag_tok {x : ByteArray} (h : tagL x.data.toList = true) : tokL x.data.toList = true ∧ (x.toList == [42]) = false := by
  have rx : rangeT x.data.toList = true := by unfold rangeT; rw [h]; simp
  refine ⟨range_tok rx, ?_⟩
  rw [is_star]
  refine decide_eq_false (fun e => ?_)
  subst e
  exact absurd h (by decide)
theorem media_tok {x : ByteArray} (h : (mediaL x.data.toList).isSome = true) : tokL x.data.toList = false := by
  cases ht : tokL x.data.toList with
  | false => rfl
  | true =>
    exfalso
    have hp := par_back2 (L := []) (v := x.data.toList) (by have := Piece.tok ht (Piece.nil 59); rwa [List.append_nil] at this) (by have := trim_tok (v := x.data.toList) (a := []) (b := []) ht (by simp) (by simp); rwa [List.nil_append, List.append_nil] at this) (tok_ne ht) (fun p hp => by cases hp)
    have e0 : fmtPL x.data.toList [] = x.data.toList := by unfold fmtPL; simp
    rw [e0] at hp
    have hcb : cutB 47 x.data.toList = false := by
      cases hc : cutB 47 x.data.toList with
      | false => rfl
      | true => exact absurd (by rw [cut_join hc]; simp) (tok_no47 ht)
    have hty : typeL x.data.toList = none := by unfold typeL; rw [if_pos (by rw [hcb])]
    unfold mediaL rangeL at h
    rw [hp] at h
    simp only at h
    rw [hty] at h
    simp at h
set_option maxHeartbeats 8000000 in
theorem rNorm_med {k : Int} {a : Option Addr} {cap nl : Nat} {L : List F} {b : Option Addr} {cb nv : Nat} {V : List ByteArray} {w : World} (hk : InI64 k) (h1k : k = 1) (FL : Box (FitL L)) (hvl : V.length ≤ 65536) (hvz : Box (∀ v ∈ V, v.size ≤ 20000)) (hF : Box (Fs w a L)) (hS : Box (Ss w b V)) (HNL : Box (L.length = nl)) (HNV : Box (V.length = nv)) (ho : prefsO k L = true) :
    Calls Tryz.prog 20 #[.int .i64 k, .slice a nl cap, .slice b nv cb] w fun e w' => NormPost w (normF k L V) e w' := by
  subst h1k
  obtain ⟨N, hN⟩ : ∃ N, normF 1 L V = N := ⟨_, rfl⟩
  rw [hN]
  obtain ⟨P, hP⟩ : ∃ P, prefsV 1 L = P := ⟨_, rfl⟩
  have HP : Box (prefsV 1 L = P ∧ prefsO 1 L = true) := box ⟨hP, ho⟩
  have hpl : P.length ≤ 65536 := by rw [← hP]; exact prefs17_len _ _
  have HPz : Box (∀ i (hi : i < P.length), P[i].1.size ≤ 20000) := box (by rw [← hP]; exact prefs17_small FL.out.2)
  obtain ⟨nm, hnm⟩ : ∃ nm, nameK 1 = nm := ⟨_, rfl⟩
  have HNM := box hnm
  have hnz : Box (nm.size ≤ 65536) := box (by rw [← hnm]; have := nameK_size 1; omega)
  have hpo : decide (nm ≠ ⟨#[]⟩) = true ∧ L.any (nmd nm) = true := by
    unfold prefsO at ho
    rw [hnm, Bool.and_eq_true] at ho; exact ho
  have e0 := nm_beq nm (of_decide_eq_true hpo.1)
  have hh := box hpo.2
  obtain ⟨R, hR⟩ : ∃ R, namedL 1 P V = R := ⟨_, rfl⟩
  have HR := box hR
  have hrl : R.length ≤ 65536 := by rw [← hR]; have := namedL_len 1 P V; omega
  have HRz : Box (∀ i (hi : i < R.length), R[i].1.size ≤ 65000) := box (by rw [← hR]; exact namedL_small (fun v hv => by have := hvz.out v hv; omega))
  have HRq : Box (∀ i (hi : i < R.length), InI64 R[i].2) := box (by rw [← hR]; exact namedL_q (by rw [← hP]; exact prefs_q))
  obtain ⟨x0, hx0⟩ : ∃ x, fmtPf R = x := ⟨_, rfl⟩
  have HX0 := box hx0
  obtain ⟨M, hM⟩ : ∃ M, remL nm L = M := ⟨_, rfl⟩
  have HM := box hM
  have hml : M.length ≤ 65536 := by rw [← hM]; unfold remL; have := List.length_filter_le (fun p => !nmd nm p) L; have := FL.out.1.1; omega
  have HN : Box (M ++ [(nm, x0)] = N) := box (by rw [← hN]; unfold normF; rw [if_pos ho, named_norm ho, hP, hR, hx0, hnm, hM])
  clear hN hP ho hnm hR hx0 hM hpo
  go_enter Tryz.func20, Tryz.ntmps20
  go_wp2_with fail
  refine (rName_is hk HNM).mono ?_; rintro e w1 ⟨rfl, rfl⟩
  go_wp2_with fail
  refine (rHas18_is FL hnz hF.out hh HNL).mono ?_; rintro e w2 ⟨rfl, hb2⟩
  have B2 := box hb2
  have F2 := box (hF.out.below hb2)
  clear hb2
  go_wp2_with fail
  refine (rPrefs17_is hk FL F2.out HP HNL).mono ?_; rintro e w3 ⟨p3, c3, rfl, hQ3, hb3⟩
  have B3 := box (B2.out.trans (hb3.mono B2.out.size))
  have Q3 := box hQ3
  clear hQ3 hb3
  go_wp2
  go_loopw [10, 11] (fun v i wr => NfRel 1 P V w3 v i wr) (fun _ i _ => nv - (intOf i).toNat)
  case atStart => exact ⟨0, rfl, Nat.zero_le _, OwnQ.nil _ _, box (Below.refl _ _)⟩
  case round =>
    obtain ⟨ws, rfl⟩ : ∃ ws, ws = wr := ⟨_, rfl⟩
    obtain ⟨j, rfl, hj, hO, BL⟩ := hrel
    have hsl := BL.out.size
    obtain ⟨acc, hacc⟩ : ∃ acc, namedL 1 P (V.take j) = acc := ⟨_, rfl⟩
    rw [hacc] at hO
    obtain ⟨va, vc, rfl, hQv, _⟩ := hO.qs
    have O3 := box hO
    have QV := box hQv
    have HACC := box hacc
    have hacl : acc.length ≤ 65536 := by rw [← hacc]; have := namedL_len 1 P (V.take j); rw [List.length_take] at this; omega
    clear hO hacc hQv
    by_cases hlt : j < nv
    · have hji : (j : Int) < (nv : Int) := by omega
      have hj0 : (0 : Int) ≤ (j : Int) := by omega
      have hjV : j < V.length := by have := HNV.out; omega
      obtain ⟨x, hx⟩ : ∃ x, V[j] = x := ⟨_, rfl⟩
      have hxz : x.size ≤ 20000 := by rw [← hx]; exact hvz.out _ (List.getElem_mem hjV)
      have hxz6 : x.size ≤ 65000 := by omega
      have hxm : x.size ≤ maxLen := by unfold maxLen; omega
      obtain ⟨g, off, hbe, f0⟩ := hS.out j hjV
      subst hbe
      rw [hx] at f0
      have c0w := box (((B3.out.cell (cell_lt f0)).trans f0))
      have c0 := (BL.out.cell (cell_lt c0w.out)).trans c0w.out
      have HNX := box (namedL_more (k := 1) (P := P) hjV)
      rw [HACC.out, hx] at HNX
      obtain ⟨z, hz1⟩ : ∃ z, nameV 1 x = z := ⟨_, rfl⟩
      have HZ := box hz1
      obtain ⟨q, hq⟩ : ∃ q, qualR 1 P true x.data.toList = q := ⟨_, rfl⟩
      have HQ := box hq
      rw [hz1, hq] at HNX
      obtain ⟨t, ht⟩ : ∃ t, tokL x.data.toList = t := ⟨_, rfl⟩
      have HT := box ht
      obtain ⟨s, hs⟩ : ∃ s, (x.toList == [42]) = s := ⟨_, rfl⟩
      have HST := box hs
      obtain ⟨vn, hvn⟩ : ∃ vn, Value.slice va acc.length vc = vn := ⟨_, rfl⟩
      rw [hvn] at O3 ⊢
      clear hx hz1 hq hvn f0 ht
      obtain ⟨⟨ma, mb, ML⟩, hm⟩ : ∃ m, ofM (mediaL x.data.toList) = m := ⟨_, rfl⟩
      have hq2 : (mediaL x.data.toList).isSome = z := by rw [← HZ.out]; unfold nameV; rw [if_pos rfl]
      have HMD := box (And.intro hm hq2)
      have htz : z = true → t = false := fun e => by rw [e] at hq2; rw [← HT.out]; exact media_tok hq2
      clear hm hq2
      cases z with
      | false =>
        clear htz
        cases t with
        | false =>
          go_wp2_with fail
          refine (rToken_is hxm HT).mono ?_; rintro e w4 ⟨rfl, rfl⟩
          go_wp2_with fail
          refine (rMedia15_is hxz6 HMD).mono ?_; rintro e w5 ⟨p5, c5, rfl, _, hb5⟩
          have B5 := box (BL.out.trans (hb5.mono hsl))
          have O5 := box (own_below O3.out hb5)
          clear hb5
          have HN2 : Box (namedL 1 P (V.take (j + 1)) = acc) := box (by rw [HNX.out]; simp)
          go_wp2
          go_roundw
          case rel => exact ⟨j + 1, by go_num, by omega, by rw [HN2.out]; exact O5.out, B5⟩
          case measure => simp [intOf]; omega
        | true =>
          cases s with
          | false =>
            go_wp2_with fail
            refine (rToken_is hxm HT).mono ?_; rintro e w4 ⟨rfl, rfl⟩
            go_wp2_with fail
            refine (rMedia15_is hxz6 HMD).mono ?_; rintro e w5 ⟨p5, c5, rfl, _, hb5⟩
            have B5 := box (BL.out.trans (hb5.mono hsl))
            have O5 := box (own_below O3.out hb5)
            clear hb5
            have HN2 : Box (namedL 1 P (V.take (j + 1)) = acc) := box (by rw [HNX.out]; simp)
            go_wp2
            go_roundw
            case rel => exact ⟨j + 1, by go_num, by omega, by rw [HN2.out]; exact O5.out, B5⟩
            case measure => simp [intOf]; omega
          | true =>
            go_wp2_with fail
            refine (rToken_is hxm HT).mono ?_; rintro e w4 ⟨rfl, rfl⟩
            go_wp2_with fail
            refine (rMedia15_is hxz6 HMD).mono ?_; rintro e w5 ⟨p5, c5, rfl, _, hb5⟩
            have B5 := box (BL.out.trans (hb5.mono hsl))
            have O5 := box (own_below O3.out hb5)
            clear hb5
            have HN2 : Box (namedL 1 P (V.take (j + 1)) = acc) := box (by rw [HNX.out]; simp)
            go_wp2
            go_roundw
            case rel => exact ⟨j + 1, by go_num, by omega, by rw [HN2.out]; exact O5.out, B5⟩
            case measure => simp [intOf]; omega
      | true =>
        obtain rfl := htz rfl
        clear htz hs
        go_wp2_with fail
        refine (rToken_is hxm HT).mono ?_; rintro e w4 ⟨rfl, rfl⟩
        go_wp2_with fail
        refine (rMedia15_is hxz6 HMD).mono ?_; rintro e w5 ⟨p5, c5, rfl, _, hb5⟩
        have B5 := box (BL.out.trans (hb5.mono hsl))
        have O5 := box (own_below O3.out hb5)
        clear hb5
        have HN2 : Box (namedL 1 P (V.take (j + 1)) = acc ++ [(x, q)]) := box (by rw [HNX.out]; simp)
        have BS0 := box ((Below.refl w5.heap.size w5).drew)
        have c0' := (B5.out.cell (cell_lt c0w.out)).trans c0w.out
        go_wp2
        refine wp_region_held_drew (S := (fun w' : World => w'.cell? ⟨g, off + j, none⟩ = some (.string x) ∧ Box (Below w3.heap.size w3 w'))) (by kernel_rfl) ⟨(B5.out.cell (cell_lt c0w.out)).trans c0w.out, box B5.out.drew⟩ (fun hHeld => ?_)
        refine wpAnyH_take (i := 0) (oi := { dst := some 67, op := Op.move (Operand.tmp 10), type := 50, pos := "variants.go:369", after := #[], guard := none }) (v := ?v0z1) rfl (by kernel_rfl) (by kernel_rfl) (by kernel_rfl) (fun _ _ _ h => h) (Or.inl ⟨by rfl, ?y0z1⟩) (by assumption) ?r0z1
        case y0z1 => (intro w hSw; (try dsimp only at hSw); go_simp; first | done | with_reducible rfl)
        try simp only [Act.put, List.setIfInBounds_toArray, List.set_cons_zero, List.set_cons_succ]
        refine wpAnyH_take (i := 1) (oi := { dst := some 68, op := Op.move (Operand.tmp 2), type := 29, pos := "variants.go:369", after := #[], guard := none }) (v := ?v1z1) rfl (by kernel_rfl) (by kernel_rfl) (by kernel_rfl) (fun _ _ _ h => h) (Or.inl ⟨by rfl, ?y1z1⟩) (by assumption) ?r1z1
        case y1z1 => (intro w hSw; (try dsimp only at hSw); go_simp; first | done | with_reducible rfl)
        try simp only [Act.put, List.setIfInBounds_toArray, List.set_cons_zero, List.set_cons_succ]
        refine wpAnyH_take (i := 2) (oi := { dst := some 69, op := Op.move (Operand.tmp 11), type := 3, pos := "variants.go:369", after := #[], guard := none }) (v := ?v2z1) rfl (by kernel_rfl) (by kernel_rfl) (by kernel_rfl) (fun _ _ _ h => h) (Or.inl ⟨by rfl, ?y2z1⟩) (by assumption) ?r2z1
        case y2z1 => (intro w hSw; (try dsimp only at hSw); go_simp; first | done | with_reducible rfl)
        try simp only [Act.put, List.setIfInBounds_toArray, List.set_cons_zero, List.set_cons_succ]
        refine wpAnyH_take (i := 3) (oi := { dst := some 70, op := Op.indexAddr 29 (Operand.tmp 68) (Operand.tmp 69), type := 0, pos := "variants.go:369", after := #[{ on := 1, ground := Ground.data }, { on := 2, ground := Ground.data }], guard := none }) (v := ?v3z1) rfl (by kernel_rfl) (by kernel_rfl) (by kernel_rfl) (fun _ _ _ h => h) (Or.inl ⟨by rfl, ?y3z1⟩) (by assumption) ?r3z1
        case y3z1 => (intro w hSw; (try dsimp only at hSw); go_simp; first | done | with_reducible rfl)
        try simp only [Act.put, List.setIfInBounds_toArray, List.set_cons_zero, List.set_cons_succ]
        refine wpAnyH_take (i := 4) (oi := { dst := some 71, op := Op.load 9 (Operand.tmp 70), type := 9, pos := "variants.go:369", after := #[{ on := 3, ground := Ground.data }], guard := none }) (v := ?v4z1) rfl (by kernel_rfl) (by kernel_rfl) (by kernel_rfl) (fun _ _ _ h => h) (Or.inl ⟨by rfl, ?y4z1⟩) (by assumption) ?r4z1
        case y4z1 => (intro w hSw; (try dsimp only at hSw); go_simp; first | done | with_reducible rfl)
        try simp only [Act.put, List.setIfInBounds_toArray, List.set_cons_zero, List.set_cons_succ]
        refine wpAnyH_take (i := 5) (oi := { dst := some 72, op := Op.move (Operand.tmp 0), type := 3, pos := "variants.go:369", after := #[], guard := none }) (v := ?v5z1) rfl (by kernel_rfl) (by kernel_rfl) (by kernel_rfl) (fun _ _ _ h => h) (Or.inl ⟨by rfl, ?y5z1⟩) (by assumption) ?r5z1
        case y5z1 => (intro w hSw; (try dsimp only at hSw); go_simp; first | done | with_reducible rfl)
        try simp only [Act.put, List.setIfInBounds_toArray, List.set_cons_zero, List.set_cons_succ]
        refine wpAnyH_take (i := 6) (oi := { dst := some 73, op := Op.move (Operand.tmp 8), type := 50, pos := "variants.go:369", after := #[], guard := none }) (v := ?v6z1) rfl (by kernel_rfl) (by kernel_rfl) (by kernel_rfl) (fun _ _ _ h => h) (Or.inl ⟨by rfl, ?y6z1⟩) (by assumption) ?r6z1
        case y6z1 => (intro w hSw; (try dsimp only at hSw); go_simp; first | done | with_reducible rfl)
        try simp only [Act.put, List.setIfInBounds_toArray, List.set_cons_zero, List.set_cons_succ]
        refine wpAnyH_take (i := 7) (oi := { dst := some 74, op := Op.move (Operand.tmp 9), type := 4, pos := "variants.go:369", after := #[], guard := none }) (v := ?v7z1) rfl (by kernel_rfl) (by kernel_rfl) (by kernel_rfl) (fun _ _ _ h => h) (Or.inl ⟨by rfl, ?y7z1⟩) (by assumption) ?r7z1
        case y7z1 => (intro w hSw; (try dsimp only at hSw); go_simp; first | done | with_reducible rfl)
        try simp only [Act.put, List.setIfInBounds_toArray, List.set_cons_zero, List.set_cons_succ]
        refine wpAnyH_take (i := 8) (oi := { dst := some 75, op := Op.move (Operand.tmp 2), type := 29, pos := "variants.go:369", after := #[], guard := none }) (v := ?v8z1) rfl (by kernel_rfl) (by kernel_rfl) (by kernel_rfl) (fun _ _ _ h => h) (Or.inl ⟨by rfl, ?y8z1⟩) (by assumption) ?r8z1
        case y8z1 => (intro w hSw; (try dsimp only at hSw); go_simp; first | done | with_reducible rfl)
        try simp only [Act.put, List.setIfInBounds_toArray, List.set_cons_zero, List.set_cons_succ]
        refine wpAnyH_take (i := 9) (oi := { dst := some 76, op := Op.move (Operand.tmp 11), type := 3, pos := "variants.go:369", after := #[], guard := none }) (v := ?v9z1) rfl (by kernel_rfl) (by kernel_rfl) (by kernel_rfl) (fun _ _ _ h => h) (Or.inl ⟨by rfl, ?y9z1⟩) (by assumption) ?r9z1
        case y9z1 => (intro w hSw; (try dsimp only at hSw); go_simp; first | done | with_reducible rfl)
        try simp only [Act.put, List.setIfInBounds_toArray, List.set_cons_zero, List.set_cons_succ]
        refine wpAnyH_take (i := 10) (oi := { dst := some 77, op := Op.indexAddr 29 (Operand.tmp 75) (Operand.tmp 76), type := 0, pos := "variants.go:369", after := #[{ on := 8, ground := Ground.data }, { on := 9, ground := Ground.data }], guard := none }) (v := ?v10z1) rfl (by kernel_rfl) (by kernel_rfl) (by kernel_rfl) (fun _ _ _ h => h) (Or.inl ⟨by rfl, ?y10z1⟩) (by assumption) ?r10z1
        case y10z1 => (intro w hSw; (try dsimp only at hSw); go_simp; first | done | with_reducible rfl)
        try simp only [Act.put, List.setIfInBounds_toArray, List.set_cons_zero, List.set_cons_succ]
        refine wpAnyH_take (i := 11) (oi := { dst := some 78, op := Op.load 9 (Operand.tmp 77), type := 9, pos := "variants.go:369", after := #[{ on := 10, ground := Ground.data }], guard := none }) (v := ?v11z1) rfl (by kernel_rfl) (by kernel_rfl) (by kernel_rfl) (fun _ _ _ h => h) (Or.inl ⟨by rfl, ?y11z1⟩) (by assumption) ?r11z1
        case y11z1 => (intro w hSw; (try dsimp only at hSw); go_simp; first | done | with_reducible rfl)
        try simp only [Act.put, List.setIfInBounds_toArray, List.set_cons_zero, List.set_cons_succ]
        refine wpAnyH_ready (rs := [12]) (by kernel_rfl) (by simp) ?_
        refine AllReadyH.cons (o := { dst := some 79, op := Op.call { callee := Callee.value (Operand.func 51), args := #[Operand.tmp 72, Operand.tmp 73, Operand.tmp 74, Operand.tmp 78], argTypes := #[3, 50, 4, 9] }, type := 3, pos := "variants.go:369", after := #[{ on := 5, ground := Ground.data }, { on := 6, ground := Ground.data }, { on := 7, ground := Ground.data }, { on := 11, ground := Ground.data }], guard := none }) rfl (fun K hK => ?_) AllReadyH.nil
        go_simp
        refine (rQual18_is hk hpl HPz hxz ((Q3.out.below B5.out).below BS0.out) HQ).mono ?_; rintro e w7 ⟨rfl, hb7⟩
        have BS1 := box (BS0.out.trans (hb7.mono BS0.out.size))
        have BB2 := box (hHeld.2.out.trans (hb7.mono hHeld.2.out.size))
        clear hb7
        go_wp2_with fail
        refine hK.out _ _ ⟨(BB2.out.cell (cell_lt c0w.out)).trans c0w.out, BB2⟩ (fun hHeld => ?_)
        clear hK K
        try simp only [Act.put, List.setIfInBounds_toArray, List.set_cons_zero, List.set_cons_succ]
        refine wpAnyH_take (i := 13) (oi := { dst := some 80, op := Op.build 55 #[(0, Operand.tmp 71), (1, Operand.tmp 79)], type := 55, pos := "variants.go:369", after := #[{ on := 4, ground := Ground.data }, { on := 12, ground := Ground.data }], guard := none }) (v := ?v13z1) rfl (by kernel_rfl) (by kernel_rfl) (by kernel_rfl) (fun _ _ _ h => h) (Or.inl ⟨by rfl, ?y13z1⟩) (by assumption) ?r13z1
        case y13z1 => (intro w hSw; (try dsimp only at hSw); go_simp; first | done | with_reducible rfl)
        try simp only [Act.put, List.setIfInBounds_toArray, List.set_cons_zero, List.set_cons_succ]
        refine wpAnyH_ready (rs := [14]) (by kernel_rfl) (by simp) ?_
        refine AllReadyH.cons (o := { dst := some 81, op := Op.buildSlice 50 1 #[(0, Operand.tmp 80)], type := 50, pos := "variants.go:369", after := #[{ on := 13, ground := Ground.data }], guard := none }) rfl (fun K hK => ?_) AllReadyH.nil
        go_simp
        have BS2 := box (BS1.out.alloc BS1.out.size (.cells #[.string x, .int .i64 q] 55))
        have BB3 := box (BB2.out.alloc BB2.out.size (.cells #[.string x, .int .i64 q] 55))
        go_wp2_with fail
        refine hK.out _ _ ⟨(BB3.out.cell (cell_lt c0w.out)).trans c0w.out, BB3⟩ (fun hHeld => ?_)
        clear hK K
        try simp only [Act.put, List.setIfInBounds_toArray, List.set_cons_zero, List.set_cons_succ]
        refine wpAnyH_ready (rs := [15]) (by kernel_rfl) (by simp) ?_
        refine AllReadyH.cons (o := { dst := some 82, op := Op.call { callee := Callee.builtin Builtin.append, args := #[Operand.tmp 67, Operand.tmp 81], argTypes := #[50, 50] }, type := 50, pos := "variants.go:369", after := #[{ on := 0, ground := Ground.data }, { on := 14, ground := Ground.data }, { on := 12, ground := Ground.chain }], guard := none }) rfl (fun K hK => ?_) AllReadyH.nil
        refine step_append_prf _ rfl (.tmp 67) (.tmp 81) rfl w3.heap.size vn acc rfl ?a15 _ _ rfl x q ?b15 ?c15 hacl ?d15 ?_
        case a15 => exact own_below O5.out BS2.out
        case b15 => exact (World.cell?_alloc_at (w := w7) #[.string x, .int .i64 q] 55 w7.heap.size 0 rfl).trans rfl
        case c15 => exact (World.cell?_alloc_at (w := w7) #[.string x, .int .i64 q] 55 w7.heap.size 1 rfl).trans rfl
        case d15 => exact BB3.out.size
        intro v8 w8 hO8 hb8
        have BB4 := box (BB3.out.trans hb8)
        rw [← HN2.out] at hO8
        have O8 := box hO8
        clear hO8 hb8
        refine hK.out _ _ ⟨(BB4.out.cell (cell_lt c0w.out)).trans c0w.out, BB4⟩ (fun hHeld => ?_)
        clear hK K
        try simp only [Act.put, List.setIfInBounds_toArray, List.set_cons_zero, List.set_cons_succ]
        refine wpAnyH_take (i := 16) (oi := { dst := some 10, op := Op.assign (Operand.tmp 82), type := 50, pos := "variants.go:369", after := #[{ on := 15, ground := Ground.data }, { on := 15, ground := Ground.chain }, { on := 0, ground := Ground.phase }, { on := 1, ground := Ground.phase }, { on := 2, ground := Ground.phase }, { on := 3, ground := Ground.phase }, { on := 4, ground := Ground.phase }, { on := 5, ground := Ground.phase }, { on := 6, ground := Ground.phase }, { on := 7, ground := Ground.phase }, { on := 8, ground := Ground.phase }, { on := 9, ground := Ground.phase }, { on := 10, ground := Ground.phase }, { on := 11, ground := Ground.phase }, { on := 12, ground := Ground.phase }, { on := 13, ground := Ground.phase }, { on := 14, ground := Ground.phase }, { on := 15, ground := Ground.phase }], guard := none }) (v := ?v16z1) rfl (by kernel_rfl) (by kernel_rfl) (by kernel_rfl) (fun _ _ _ h => h) (Or.inl ⟨by rfl, ?y16z1⟩) (by assumption) ?r16z1
        case y16z1 => (intro w hSw; (try dsimp only at hSw); go_simp; first | done | with_reducible rfl)
        try simp only [Act.put, List.setIfInBounds_toArray, List.set_cons_zero, List.set_cons_succ]
        refine wpAnyH_done (by kernel_rfl) ?_ _
        go_wp2
        go_roundw
        case rel => exact ⟨j + 1, by go_num, by omega, O8.out, BB4⟩
        case measure => simp [intOf]; omega
    · have hji : ¬ (j : Int) < (nv : Int) := by omega
      have HE : Box (acc = R) := box (by rw [← HACC.out, List.take_of_length_le (by have := HNV.out; omega), HR.out])
      have BB3 := box (B3.out.trans (BL.out.mono B3.out.size))
      have F3 := box (hF.out.below BB3.out)
      rw [HE.out] at QV ⊢
      go_wp2_with fail
      refine (rRem18_is FL hnz F3.out HM HNL).mono ?_; rintro e w5 ⟨v5, rfl, hO5, hb5⟩
      obtain ⟨a5, c5, rfl, _, _⟩ := hO5.fs
      obtain ⟨un, hun⟩ : ∃ un, Value.slice a5 M.length c5 = un := ⟨_, rfl⟩
      have B5 := box (BB3.out.trans (hb5.mono BB3.out.size))
      have hs5 := B5.out.size
      have O5 := box (show OwnF w5 w.heap.size _ M from Go.Joins.ownsRow_le hO5 BB3.out.size)
      have Q5 := box (QV.out.below hb5)
      rw [hun] at O5 ⊢
      clear hO5 hb5 hun
      go_wp2_with fail
      refine (rFmt18_is hrl HRz HRq Q5.out HX0).mono ?_; rintro e w6 ⟨rfl, hb6⟩
      have B6 := box (B5.out.trans (hb6.mono hs5))
      have hs6 := B6.out.size
      have O6 := box (show OwnF w6 w.heap.size un M from own_below O5.out hb6)
      clear hb6
      go_wp2_with (at_builtin; refine wpList_append_fld _ rfl (.tmp 85) (.tmp 90) rfl w.heap.size un M rfl ?a8 _ _ rfl nm x0 ?b8 ?c8 hml ?d8 ?_)
      case a8 => exact own_below O6.out (below_new _ _)
      case b8 => exact (World.cell?_alloc_at (w := w6) #[.string nm, .string x0] 42 w6.heap.size 0 rfl).trans rfl
      case c8 => exact (World.cell?_alloc_at (w := w6) #[.string nm, .string x0] 42 w6.heap.size 1 rfl).trans rfl
      case d8 => first | exact Nat.le_trans hs6 (below_new _ _).size | (simp; omega)
      intro v7 w7 hO7 hb7
      rw [HN.out] at hO7
      obtain ⟨a7, c7, rfl, _, _⟩ := OwnF.fs hO7
      have O7 := box hO7
      have B7 := box ((B6.out.alloc hs6 _).trans hb7)
      clear hO7 hb7
      go_wp2
      go_ret
      exact ⟨_, rfl, O7.out, B7.out⟩
set_option maxHeartbeats 8000000 in
theorem rNorm_lan {k : Int} {a : Option Addr} {cap nl : Nat} {L : List F} {b : Option Addr} {cb nv : Nat} {V : List ByteArray} {w : World} (hk : InI64 k) (h2k : k = 2) (FL : Box (FitL L)) (hvl : V.length ≤ 65536) (hvz : Box (∀ v ∈ V, v.size ≤ 20000)) (hF : Box (Fs w a L)) (hS : Box (Ss w b V)) (HNL : Box (L.length = nl)) (HNV : Box (V.length = nv)) (ho : prefsO k L = true) :
    Calls Tryz.prog 20 #[.int .i64 k, .slice a nl cap, .slice b nv cb] w fun e w' => NormPost w (normF k L V) e w' := by
  subst h2k
  obtain ⟨N, hN⟩ : ∃ N, normF 2 L V = N := ⟨_, rfl⟩
  rw [hN]
  obtain ⟨P, hP⟩ : ∃ P, prefsV 2 L = P := ⟨_, rfl⟩
  have HP : Box (prefsV 2 L = P ∧ prefsO 2 L = true) := box ⟨hP, ho⟩
  have hpl : P.length ≤ 65536 := by rw [← hP]; exact prefs17_len _ _
  have HPz : Box (∀ i (hi : i < P.length), P[i].1.size ≤ 20000) := box (by rw [← hP]; exact prefs17_small FL.out.2)
  obtain ⟨nm, hnm⟩ : ∃ nm, nameK 2 = nm := ⟨_, rfl⟩
  have HNM := box hnm
  have hnz : Box (nm.size ≤ 65536) := box (by rw [← hnm]; have := nameK_size 2; omega)
  have hpo : decide (nm ≠ ⟨#[]⟩) = true ∧ L.any (nmd nm) = true := by
    unfold prefsO at ho
    rw [hnm, Bool.and_eq_true] at ho; exact ho
  have e0 := nm_beq nm (of_decide_eq_true hpo.1)
  have hh := box hpo.2
  obtain ⟨R, hR⟩ : ∃ R, namedL 2 P V = R := ⟨_, rfl⟩
  have HR := box hR
  have hrl : R.length ≤ 65536 := by rw [← hR]; have := namedL_len 2 P V; omega
  have HRz : Box (∀ i (hi : i < R.length), R[i].1.size ≤ 65000) := box (by rw [← hR]; exact namedL_small (fun v hv => by have := hvz.out v hv; omega))
  have HRq : Box (∀ i (hi : i < R.length), InI64 R[i].2) := box (by rw [← hR]; exact namedL_q (by rw [← hP]; exact prefs_q))
  obtain ⟨x0, hx0⟩ : ∃ x, fmtPf R = x := ⟨_, rfl⟩
  have HX0 := box hx0
  obtain ⟨M, hM⟩ : ∃ M, remL nm L = M := ⟨_, rfl⟩
  have HM := box hM
  have hml : M.length ≤ 65536 := by rw [← hM]; unfold remL; have := List.length_filter_le (fun p => !nmd nm p) L; have := FL.out.1.1; omega
  have HN : Box (M ++ [(nm, x0)] = N) := box (by rw [← hN]; unfold normF; rw [if_pos ho, named_norm ho, hP, hR, hx0, hnm, hM])
  clear hN hP ho hnm hR hx0 hM hpo
  go_enter Tryz.func20, Tryz.ntmps20
  go_wp2_with fail
  refine (rName_is hk HNM).mono ?_; rintro e w1 ⟨rfl, rfl⟩
  go_wp2_with fail
  refine (rHas18_is FL hnz hF.out hh HNL).mono ?_; rintro e w2 ⟨rfl, hb2⟩
  have B2 := box hb2
  have F2 := box (hF.out.below hb2)
  clear hb2
  go_wp2_with fail
  refine (rPrefs17_is hk FL F2.out HP HNL).mono ?_; rintro e w3 ⟨p3, c3, rfl, hQ3, hb3⟩
  have B3 := box (B2.out.trans (hb3.mono B2.out.size))
  have Q3 := box hQ3
  clear hQ3 hb3
  go_wp2
  go_loopw [10, 11] (fun v i wr => NfRel 2 P V w3 v i wr) (fun _ i _ => nv - (intOf i).toNat)
  case atStart => exact ⟨0, rfl, Nat.zero_le _, OwnQ.nil _ _, box (Below.refl _ _)⟩
  case round =>
    obtain ⟨ws, rfl⟩ : ∃ ws, ws = wr := ⟨_, rfl⟩
    obtain ⟨j, rfl, hj, hO, BL⟩ := hrel
    have hsl := BL.out.size
    obtain ⟨acc, hacc⟩ : ∃ acc, namedL 2 P (V.take j) = acc := ⟨_, rfl⟩
    rw [hacc] at hO
    obtain ⟨va, vc, rfl, hQv, _⟩ := hO.qs
    have O3 := box hO
    have QV := box hQv
    have HACC := box hacc
    have hacl : acc.length ≤ 65536 := by rw [← hacc]; have := namedL_len 2 P (V.take j); rw [List.length_take] at this; omega
    clear hO hacc hQv
    by_cases hlt : j < nv
    · have hji : (j : Int) < (nv : Int) := by omega
      have hj0 : (0 : Int) ≤ (j : Int) := by omega
      have hjV : j < V.length := by have := HNV.out; omega
      obtain ⟨x, hx⟩ : ∃ x, V[j] = x := ⟨_, rfl⟩
      have hxz : x.size ≤ 20000 := by rw [← hx]; exact hvz.out _ (List.getElem_mem hjV)
      have hxz6 : x.size ≤ 65000 := by omega
      have hxm : x.size ≤ maxLen := by unfold maxLen; omega
      obtain ⟨g, off, hbe, f0⟩ := hS.out j hjV
      subst hbe
      rw [hx] at f0
      have c0w := box (((B3.out.cell (cell_lt f0)).trans f0))
      have c0 := (BL.out.cell (cell_lt c0w.out)).trans c0w.out
      have HNX := box (namedL_more (k := 2) (P := P) hjV)
      rw [HACC.out, hx] at HNX
      obtain ⟨z, hz1⟩ : ∃ z, nameV 2 x = z := ⟨_, rfl⟩
      have HZ := box hz1
      obtain ⟨q, hq⟩ : ∃ q, qualR 2 P true x.data.toList = q := ⟨_, rfl⟩
      have HQ := box hq
      rw [hz1, hq] at HNX
      obtain ⟨t, ht⟩ : ∃ t, tokL x.data.toList = t := ⟨_, rfl⟩
      have HT := box ht
      obtain ⟨s, hs⟩ : ∃ s, (x.toList == [42]) = s := ⟨_, rfl⟩
      have HST := box hs
      obtain ⟨vn, hvn⟩ : ∃ vn, Value.slice va acc.length vc = vn := ⟨_, rfl⟩
      rw [hvn] at O3 ⊢
      clear hx hz1 hq hvn f0 ht
      have HTG : Box (tagL x.data.toList = z) := box (by rw [← HZ.out]; unfold nameV; rw [if_neg (by decide), if_pos rfl])
      have htz : z = true → t = true ∧ s = false := fun e => by have h1 := HTG.out; rw [e] at h1; have h2 := tag_tok h1; exact ⟨by rw [← HT.out]; exact h2.1, by rw [← HST.out]; exact h2.2⟩
      cases z with
      | false =>
        clear htz
        cases t with
        | false =>
          go_wp2_with fail
          refine (rToken_is hxm HT).mono ?_; rintro e w4 ⟨rfl, rfl⟩
          go_wp2_with fail
          refine (rTag_is hxz6 HTG).mono ?_; rintro e w5 ⟨rfl, hb5⟩
          have B5 := box (BL.out.trans (hb5.mono hsl))
          have O5 := box (own_below O3.out hb5)
          clear hb5
          have HN2 : Box (namedL 2 P (V.take (j + 1)) = acc) := box (by rw [HNX.out]; simp)
          go_wp2
          go_roundw
          case rel => exact ⟨j + 1, by go_num, by omega, by rw [HN2.out]; exact O5.out, B5⟩
          case measure => simp [intOf]; omega
        | true =>
          cases s with
          | false =>
            go_wp2_with fail
            refine (rToken_is hxm HT).mono ?_; rintro e w4 ⟨rfl, rfl⟩
            go_wp2_with fail
            refine (rTag_is hxz6 HTG).mono ?_; rintro e w5 ⟨rfl, hb5⟩
            have B5 := box (BL.out.trans (hb5.mono hsl))
            have O5 := box (own_below O3.out hb5)
            clear hb5
            have HN2 : Box (namedL 2 P (V.take (j + 1)) = acc) := box (by rw [HNX.out]; simp)
            go_wp2
            go_roundw
            case rel => exact ⟨j + 1, by go_num, by omega, by rw [HN2.out]; exact O5.out, B5⟩
            case measure => simp [intOf]; omega
          | true =>
            go_wp2_with fail
            refine (rToken_is hxm HT).mono ?_; rintro e w4 ⟨rfl, rfl⟩
            go_wp2_with fail
            refine (rTag_is hxz6 HTG).mono ?_; rintro e w5 ⟨rfl, hb5⟩
            have B5 := box (BL.out.trans (hb5.mono hsl))
            have O5 := box (own_below O3.out hb5)
            clear hb5
            have HN2 : Box (namedL 2 P (V.take (j + 1)) = acc) := box (by rw [HNX.out]; simp)
            go_wp2
            go_roundw
            case rel => exact ⟨j + 1, by go_num, by omega, by rw [HN2.out]; exact O5.out, B5⟩
            case measure => simp [intOf]; omega
      | true =>
        obtain ⟨rfl, rfl⟩ := htz rfl
        clear htz
        go_wp2_with fail
        refine (rToken_is hxm HT).mono ?_; rintro e w4 ⟨rfl, rfl⟩
        go_wp2_with fail
        refine (rTag_is hxz6 HTG).mono ?_; rintro e w5 ⟨rfl, hb5⟩
        have B5 := box (BL.out.trans (hb5.mono hsl))
        have O5 := box (own_below O3.out hb5)
        clear hb5
        have HN2 : Box (namedL 2 P (V.take (j + 1)) = acc ++ [(x, q)]) := box (by rw [HNX.out]; simp)
        have BS0 := box ((Below.refl w5.heap.size w5).drew)
        have c0' := (B5.out.cell (cell_lt c0w.out)).trans c0w.out
        go_wp2
        refine wp_region_held_drew (S := (fun w' : World => w'.cell? ⟨g, off + j, none⟩ = some (.string x) ∧ Box (Below w3.heap.size w3 w'))) (by kernel_rfl) ⟨(B5.out.cell (cell_lt c0w.out)).trans c0w.out, box B5.out.drew⟩ (fun hHeld => ?_)
        refine wpAnyH_take (i := 0) (oi := { dst := some 67, op := Op.move (Operand.tmp 10), type := 50, pos := "variants.go:369", after := #[], guard := none }) (v := ?v0z2) rfl (by kernel_rfl) (by kernel_rfl) (by kernel_rfl) (fun _ _ _ h => h) (Or.inl ⟨by rfl, ?y0z2⟩) (by assumption) ?r0z2
        case y0z2 => (intro w hSw; (try dsimp only at hSw); go_simp; first | done | with_reducible rfl)
        try simp only [Act.put, List.setIfInBounds_toArray, List.set_cons_zero, List.set_cons_succ]
        refine wpAnyH_take (i := 1) (oi := { dst := some 68, op := Op.move (Operand.tmp 2), type := 29, pos := "variants.go:369", after := #[], guard := none }) (v := ?v1z2) rfl (by kernel_rfl) (by kernel_rfl) (by kernel_rfl) (fun _ _ _ h => h) (Or.inl ⟨by rfl, ?y1z2⟩) (by assumption) ?r1z2
        case y1z2 => (intro w hSw; (try dsimp only at hSw); go_simp; first | done | with_reducible rfl)
        try simp only [Act.put, List.setIfInBounds_toArray, List.set_cons_zero, List.set_cons_succ]
        refine wpAnyH_take (i := 2) (oi := { dst := some 69, op := Op.move (Operand.tmp 11), type := 3, pos := "variants.go:369", after := #[], guard := none }) (v := ?v2z2) rfl (by kernel_rfl) (by kernel_rfl) (by kernel_rfl) (fun _ _ _ h => h) (Or.inl ⟨by rfl, ?y2z2⟩) (by assumption) ?r2z2
        case y2z2 => (intro w hSw; (try dsimp only at hSw); go_simp; first | done | with_reducible rfl)
        try simp only [Act.put, List.setIfInBounds_toArray, List.set_cons_zero, List.set_cons_succ]
        refine wpAnyH_take (i := 3) (oi := { dst := some 70, op := Op.indexAddr 29 (Operand.tmp 68) (Operand.tmp 69), type := 0, pos := "variants.go:369", after := #[{ on := 1, ground := Ground.data }, { on := 2, ground := Ground.data }], guard := none }) (v := ?v3z2) rfl (by kernel_rfl) (by kernel_rfl) (by kernel_rfl) (fun _ _ _ h => h) (Or.inl ⟨by rfl, ?y3z2⟩) (by assumption) ?r3z2
        case y3z2 => (intro w hSw; (try dsimp only at hSw); go_simp; first | done | with_reducible rfl)
        try simp only [Act.put, List.setIfInBounds_toArray, List.set_cons_zero, List.set_cons_succ]
        refine wpAnyH_take (i := 4) (oi := { dst := some 71, op := Op.load 9 (Operand.tmp 70), type := 9, pos := "variants.go:369", after := #[{ on := 3, ground := Ground.data }], guard := none }) (v := ?v4z2) rfl (by kernel_rfl) (by kernel_rfl) (by kernel_rfl) (fun _ _ _ h => h) (Or.inl ⟨by rfl, ?y4z2⟩) (by assumption) ?r4z2
        case y4z2 => (intro w hSw; (try dsimp only at hSw); go_simp; first | done | with_reducible rfl)
        try simp only [Act.put, List.setIfInBounds_toArray, List.set_cons_zero, List.set_cons_succ]
        refine wpAnyH_take (i := 5) (oi := { dst := some 72, op := Op.move (Operand.tmp 0), type := 3, pos := "variants.go:369", after := #[], guard := none }) (v := ?v5z2) rfl (by kernel_rfl) (by kernel_rfl) (by kernel_rfl) (fun _ _ _ h => h) (Or.inl ⟨by rfl, ?y5z2⟩) (by assumption) ?r5z2
        case y5z2 => (intro w hSw; (try dsimp only at hSw); go_simp; first | done | with_reducible rfl)
        try simp only [Act.put, List.setIfInBounds_toArray, List.set_cons_zero, List.set_cons_succ]
        refine wpAnyH_take (i := 6) (oi := { dst := some 73, op := Op.move (Operand.tmp 8), type := 50, pos := "variants.go:369", after := #[], guard := none }) (v := ?v6z2) rfl (by kernel_rfl) (by kernel_rfl) (by kernel_rfl) (fun _ _ _ h => h) (Or.inl ⟨by rfl, ?y6z2⟩) (by assumption) ?r6z2
        case y6z2 => (intro w hSw; (try dsimp only at hSw); go_simp; first | done | with_reducible rfl)
        try simp only [Act.put, List.setIfInBounds_toArray, List.set_cons_zero, List.set_cons_succ]
        refine wpAnyH_take (i := 7) (oi := { dst := some 74, op := Op.move (Operand.tmp 9), type := 4, pos := "variants.go:369", after := #[], guard := none }) (v := ?v7z2) rfl (by kernel_rfl) (by kernel_rfl) (by kernel_rfl) (fun _ _ _ h => h) (Or.inl ⟨by rfl, ?y7z2⟩) (by assumption) ?r7z2
        case y7z2 => (intro w hSw; (try dsimp only at hSw); go_simp; first | done | with_reducible rfl)
        try simp only [Act.put, List.setIfInBounds_toArray, List.set_cons_zero, List.set_cons_succ]
        refine wpAnyH_take (i := 8) (oi := { dst := some 75, op := Op.move (Operand.tmp 2), type := 29, pos := "variants.go:369", after := #[], guard := none }) (v := ?v8z2) rfl (by kernel_rfl) (by kernel_rfl) (by kernel_rfl) (fun _ _ _ h => h) (Or.inl ⟨by rfl, ?y8z2⟩) (by assumption) ?r8z2
        case y8z2 => (intro w hSw; (try dsimp only at hSw); go_simp; first | done | with_reducible rfl)
        try simp only [Act.put, List.setIfInBounds_toArray, List.set_cons_zero, List.set_cons_succ]
        refine wpAnyH_take (i := 9) (oi := { dst := some 76, op := Op.move (Operand.tmp 11), type := 3, pos := "variants.go:369", after := #[], guard := none }) (v := ?v9z2) rfl (by kernel_rfl) (by kernel_rfl) (by kernel_rfl) (fun _ _ _ h => h) (Or.inl ⟨by rfl, ?y9z2⟩) (by assumption) ?r9z2
        case y9z2 => (intro w hSw; (try dsimp only at hSw); go_simp; first | done | with_reducible rfl)
        try simp only [Act.put, List.setIfInBounds_toArray, List.set_cons_zero, List.set_cons_succ]
        refine wpAnyH_take (i := 10) (oi := { dst := some 77, op := Op.indexAddr 29 (Operand.tmp 75) (Operand.tmp 76), type := 0, pos := "variants.go:369", after := #[{ on := 8, ground := Ground.data }, { on := 9, ground := Ground.data }], guard := none }) (v := ?v10z2) rfl (by kernel_rfl) (by kernel_rfl) (by kernel_rfl) (fun _ _ _ h => h) (Or.inl ⟨by rfl, ?y10z2⟩) (by assumption) ?r10z2
        case y10z2 => (intro w hSw; (try dsimp only at hSw); go_simp; first | done | with_reducible rfl)
        try simp only [Act.put, List.setIfInBounds_toArray, List.set_cons_zero, List.set_cons_succ]
        refine wpAnyH_take (i := 11) (oi := { dst := some 78, op := Op.load 9 (Operand.tmp 77), type := 9, pos := "variants.go:369", after := #[{ on := 10, ground := Ground.data }], guard := none }) (v := ?v11z2) rfl (by kernel_rfl) (by kernel_rfl) (by kernel_rfl) (fun _ _ _ h => h) (Or.inl ⟨by rfl, ?y11z2⟩) (by assumption) ?r11z2
        case y11z2 => (intro w hSw; (try dsimp only at hSw); go_simp; first | done | with_reducible rfl)
        try simp only [Act.put, List.setIfInBounds_toArray, List.set_cons_zero, List.set_cons_succ]
        refine wpAnyH_ready (rs := [12]) (by kernel_rfl) (by simp) ?_
        refine AllReadyH.cons (o := { dst := some 79, op := Op.call { callee := Callee.value (Operand.func 51), args := #[Operand.tmp 72, Operand.tmp 73, Operand.tmp 74, Operand.tmp 78], argTypes := #[3, 50, 4, 9] }, type := 3, pos := "variants.go:369", after := #[{ on := 5, ground := Ground.data }, { on := 6, ground := Ground.data }, { on := 7, ground := Ground.data }, { on := 11, ground := Ground.data }], guard := none }) rfl (fun K hK => ?_) AllReadyH.nil
        go_simp
        refine (rQual18_is hk hpl HPz hxz ((Q3.out.below B5.out).below BS0.out) HQ).mono ?_; rintro e w7 ⟨rfl, hb7⟩
        have BS1 := box (BS0.out.trans (hb7.mono BS0.out.size))
        have BB2 := box (hHeld.2.out.trans (hb7.mono hHeld.2.out.size))
        clear hb7
        go_wp2_with fail
        refine hK.out _ _ ⟨(BB2.out.cell (cell_lt c0w.out)).trans c0w.out, BB2⟩ (fun hHeld => ?_)
        clear hK K
        try simp only [Act.put, List.setIfInBounds_toArray, List.set_cons_zero, List.set_cons_succ]
        refine wpAnyH_take (i := 13) (oi := { dst := some 80, op := Op.build 55 #[(0, Operand.tmp 71), (1, Operand.tmp 79)], type := 55, pos := "variants.go:369", after := #[{ on := 4, ground := Ground.data }, { on := 12, ground := Ground.data }], guard := none }) (v := ?v13z2) rfl (by kernel_rfl) (by kernel_rfl) (by kernel_rfl) (fun _ _ _ h => h) (Or.inl ⟨by rfl, ?y13z2⟩) (by assumption) ?r13z2
        case y13z2 => (intro w hSw; (try dsimp only at hSw); go_simp; first | done | with_reducible rfl)
        try simp only [Act.put, List.setIfInBounds_toArray, List.set_cons_zero, List.set_cons_succ]
        refine wpAnyH_ready (rs := [14]) (by kernel_rfl) (by simp) ?_
        refine AllReadyH.cons (o := { dst := some 81, op := Op.buildSlice 50 1 #[(0, Operand.tmp 80)], type := 50, pos := "variants.go:369", after := #[{ on := 13, ground := Ground.data }], guard := none }) rfl (fun K hK => ?_) AllReadyH.nil
        go_simp
        have BS2 := box (BS1.out.alloc BS1.out.size (.cells #[.string x, .int .i64 q] 55))
        have BB3 := box (BB2.out.alloc BB2.out.size (.cells #[.string x, .int .i64 q] 55))
        go_wp2_with fail
        refine hK.out _ _ ⟨(BB3.out.cell (cell_lt c0w.out)).trans c0w.out, BB3⟩ (fun hHeld => ?_)
        clear hK K
        try simp only [Act.put, List.setIfInBounds_toArray, List.set_cons_zero, List.set_cons_succ]
        refine wpAnyH_ready (rs := [15]) (by kernel_rfl) (by simp) ?_
        refine AllReadyH.cons (o := { dst := some 82, op := Op.call { callee := Callee.builtin Builtin.append, args := #[Operand.tmp 67, Operand.tmp 81], argTypes := #[50, 50] }, type := 50, pos := "variants.go:369", after := #[{ on := 0, ground := Ground.data }, { on := 14, ground := Ground.data }, { on := 12, ground := Ground.chain }], guard := none }) rfl (fun K hK => ?_) AllReadyH.nil
        refine step_append_prf _ rfl (.tmp 67) (.tmp 81) rfl w3.heap.size vn acc rfl ?a15 _ _ rfl x q ?b15 ?c15 hacl ?d15 ?_
        case a15 => exact own_below O5.out BS2.out
        case b15 => exact (World.cell?_alloc_at (w := w7) #[.string x, .int .i64 q] 55 w7.heap.size 0 rfl).trans rfl
        case c15 => exact (World.cell?_alloc_at (w := w7) #[.string x, .int .i64 q] 55 w7.heap.size 1 rfl).trans rfl
        case d15 => exact BB3.out.size
        intro v8 w8 hO8 hb8
        have BB4 := box (BB3.out.trans hb8)
        rw [← HN2.out] at hO8
        have O8 := box hO8
        clear hO8 hb8
        refine hK.out _ _ ⟨(BB4.out.cell (cell_lt c0w.out)).trans c0w.out, BB4⟩ (fun hHeld => ?_)
        clear hK K
        try simp only [Act.put, List.setIfInBounds_toArray, List.set_cons_zero, List.set_cons_succ]
        refine wpAnyH_take (i := 16) (oi := { dst := some 10, op := Op.assign (Operand.tmp 82), type := 50, pos := "variants.go:369", after := #[{ on := 15, ground := Ground.data }, { on := 15, ground := Ground.chain }, { on := 0, ground := Ground.phase }, { on := 1, ground := Ground.phase }, { on := 2, ground := Ground.phase }, { on := 3, ground := Ground.phase }, { on := 4, ground := Ground.phase }, { on := 5, ground := Ground.phase }, { on := 6, ground := Ground.phase }, { on := 7, ground := Ground.phase }, { on := 8, ground := Ground.phase }, { on := 9, ground := Ground.phase }, { on := 10, ground := Ground.phase }, { on := 11, ground := Ground.phase }, { on := 12, ground := Ground.phase }, { on := 13, ground := Ground.phase }, { on := 14, ground := Ground.phase }, { on := 15, ground := Ground.phase }], guard := none }) (v := ?v16z2) rfl (by kernel_rfl) (by kernel_rfl) (by kernel_rfl) (fun _ _ _ h => h) (Or.inl ⟨by rfl, ?y16z2⟩) (by assumption) ?r16z2
        case y16z2 => (intro w hSw; (try dsimp only at hSw); go_simp; first | done | with_reducible rfl)
        try simp only [Act.put, List.setIfInBounds_toArray, List.set_cons_zero, List.set_cons_succ]
        refine wpAnyH_done (by kernel_rfl) ?_ _
        go_wp2
        go_roundw
        case rel => exact ⟨j + 1, by go_num, by omega, O8.out, BB4⟩
        case measure => simp [intOf]; omega
    · have hji : ¬ (j : Int) < (nv : Int) := by omega
      have HE : Box (acc = R) := box (by rw [← HACC.out, List.take_of_length_le (by have := HNV.out; omega), HR.out])
      have BB3 := box (B3.out.trans (BL.out.mono B3.out.size))
      have F3 := box (hF.out.below BB3.out)
      rw [HE.out] at QV ⊢
      go_wp2_with fail
      refine (rRem18_is FL hnz F3.out HM HNL).mono ?_; rintro e w5 ⟨v5, rfl, hO5, hb5⟩
      obtain ⟨a5, c5, rfl, _, _⟩ := hO5.fs
      obtain ⟨un, hun⟩ : ∃ un, Value.slice a5 M.length c5 = un := ⟨_, rfl⟩
      have B5 := box (BB3.out.trans (hb5.mono BB3.out.size))
      have hs5 := B5.out.size
      have O5 := box (show OwnF w5 w.heap.size _ M from Go.Joins.ownsRow_le hO5 BB3.out.size)
      have Q5 := box (QV.out.below hb5)
      rw [hun] at O5 ⊢
      clear hO5 hb5 hun
      go_wp2_with fail
      refine (rFmt18_is hrl HRz HRq Q5.out HX0).mono ?_; rintro e w6 ⟨rfl, hb6⟩
      have B6 := box (B5.out.trans (hb6.mono hs5))
      have hs6 := B6.out.size
      have O6 := box (show OwnF w6 w.heap.size un M from own_below O5.out hb6)
      clear hb6
      go_wp2_with (at_builtin; refine wpList_append_fld _ rfl (.tmp 85) (.tmp 90) rfl w.heap.size un M rfl ?a8 _ _ rfl nm x0 ?b8 ?c8 hml ?d8 ?_)
      case a8 => exact own_below O6.out (below_new _ _)
      case b8 => exact (World.cell?_alloc_at (w := w6) #[.string nm, .string x0] 42 w6.heap.size 0 rfl).trans rfl
      case c8 => exact (World.cell?_alloc_at (w := w6) #[.string nm, .string x0] 42 w6.heap.size 1 rfl).trans rfl
      case d8 => first | exact Nat.le_trans hs6 (below_new _ _).size | (simp; omega)
      intro v7 w7 hO7 hb7
      rw [HN.out] at hO7
      obtain ⟨a7, c7, rfl, _, _⟩ := OwnF.fs hO7
      have O7 := box hO7
      have B7 := box ((B6.out.alloc hs6 _).trans hb7)
      clear hO7 hb7
      go_wp2
      go_ret
      exact ⟨_, rfl, O7.out, B7.out⟩
set_option maxHeartbeats 8000000 in
theorem rNorm_tok {k : Int} {a : Option Addr} {cap nl : Nat} {L : List F} {b : Option Addr} {cb nv : Nat} {V : List ByteArray} {w : World} (hk : InI64 k) (h1k : k ≠ 1) (h2k : k ≠ 2) (FL : Box (FitL L)) (hvl : V.length ≤ 65536) (hvz : Box (∀ v ∈ V, v.size ≤ 20000)) (hF : Box (Fs w a L)) (hS : Box (Ss w b V)) (HNL : Box (L.length = nl)) (HNV : Box (V.length = nv)) (ho : prefsO k L = true) :
    Calls Tryz.prog 20 #[.int .i64 k, .slice a nl cap, .slice b nv cb] w fun e w' => NormPost w (normF k L V) e w' := by
  have hk1 : (k == 1) = false := by rw [beq_eq_false_iff_ne]; exact h1k
  have hk2 : (k == 2) = false := by rw [beq_eq_false_iff_ne]; exact h2k
  obtain ⟨N, hN⟩ : ∃ N, normF k L V = N := ⟨_, rfl⟩
  rw [hN]
  obtain ⟨P, hP⟩ : ∃ P, prefsV k L = P := ⟨_, rfl⟩
  have HP : Box (prefsV k L = P ∧ prefsO k L = true) := box ⟨hP, ho⟩
  have hpl : P.length ≤ 65536 := by rw [← hP]; exact prefs17_len _ _
  have HPz : Box (∀ i (hi : i < P.length), P[i].1.size ≤ 20000) := box (by rw [← hP]; exact prefs17_small FL.out.2)
  obtain ⟨nm, hnm⟩ : ∃ nm, nameK k = nm := ⟨_, rfl⟩
  have HNM := box hnm
  have hnz : Box (nm.size ≤ 65536) := box (by rw [← hnm]; have := nameK_size k; omega)
  have hpo : decide (nm ≠ ⟨#[]⟩) = true ∧ L.any (nmd nm) = true := by
    unfold prefsO at ho
    rw [hnm, Bool.and_eq_true] at ho; exact ho
  have e0 := nm_beq nm (of_decide_eq_true hpo.1)
  have hh := box hpo.2
  obtain ⟨R, hR⟩ : ∃ R, namedL k P V = R := ⟨_, rfl⟩
  have HR := box hR
  have hrl : R.length ≤ 65536 := by rw [← hR]; have := namedL_len k P V; omega
  have HRz : Box (∀ i (hi : i < R.length), R[i].1.size ≤ 65000) := box (by rw [← hR]; exact namedL_small (fun v hv => by have := hvz.out v hv; omega))
  have HRq : Box (∀ i (hi : i < R.length), InI64 R[i].2) := box (by rw [← hR]; exact namedL_q (by rw [← hP]; exact prefs_q))
  obtain ⟨x0, hx0⟩ : ∃ x, fmtPf R = x := ⟨_, rfl⟩
  have HX0 := box hx0
  obtain ⟨M, hM⟩ : ∃ M, remL nm L = M := ⟨_, rfl⟩
  have HM := box hM
  have hml : M.length ≤ 65536 := by rw [← hM]; unfold remL; have := List.length_filter_le (fun p => !nmd nm p) L; have := FL.out.1.1; omega
  have HN : Box (M ++ [(nm, x0)] = N) := box (by rw [← hN]; unfold normF; rw [if_pos ho, named_norm ho, hP, hR, hx0, hnm, hM])
  clear hN hP ho hnm hR hx0 hM hpo
  go_enter Tryz.func20, Tryz.ntmps20
  go_wp2_with fail
  refine (rName_is hk HNM).mono ?_; rintro e w1 ⟨rfl, rfl⟩
  go_wp2_with fail
  refine (rHas18_is FL hnz hF.out hh HNL).mono ?_; rintro e w2 ⟨rfl, hb2⟩
  have B2 := box hb2
  have F2 := box (hF.out.below hb2)
  clear hb2
  go_wp2_with fail
  refine (rPrefs17_is hk FL F2.out HP HNL).mono ?_; rintro e w3 ⟨p3, c3, rfl, hQ3, hb3⟩
  have B3 := box (B2.out.trans (hb3.mono B2.out.size))
  have Q3 := box hQ3
  clear hQ3 hb3
  go_wp2
  go_loopw [10, 11] (fun v i wr => NfRel k P V w3 v i wr) (fun _ i _ => nv - (intOf i).toNat)
  case atStart => exact ⟨0, rfl, Nat.zero_le _, OwnQ.nil _ _, box (Below.refl _ _)⟩
  case round =>
    obtain ⟨ws, rfl⟩ : ∃ ws, ws = wr := ⟨_, rfl⟩
    obtain ⟨j, rfl, hj, hO, BL⟩ := hrel
    have hsl := BL.out.size
    obtain ⟨acc, hacc⟩ : ∃ acc, namedL k P (V.take j) = acc := ⟨_, rfl⟩
    rw [hacc] at hO
    obtain ⟨va, vc, rfl, hQv, _⟩ := hO.qs
    have O3 := box hO
    have QV := box hQv
    have HACC := box hacc
    have hacl : acc.length ≤ 65536 := by rw [← hacc]; have := namedL_len k P (V.take j); rw [List.length_take] at this; omega
    clear hO hacc hQv
    by_cases hlt : j < nv
    · have hji : (j : Int) < (nv : Int) := by omega
      have hj0 : (0 : Int) ≤ (j : Int) := by omega
      have hjV : j < V.length := by have := HNV.out; omega
      obtain ⟨x, hx⟩ : ∃ x, V[j] = x := ⟨_, rfl⟩
      have hxz : x.size ≤ 20000 := by rw [← hx]; exact hvz.out _ (List.getElem_mem hjV)
      have hxz6 : x.size ≤ 65000 := by omega
      have hxm : x.size ≤ maxLen := by unfold maxLen; omega
      obtain ⟨g, off, hbe, f0⟩ := hS.out j hjV
      subst hbe
      rw [hx] at f0
      have c0w := box (((B3.out.cell (cell_lt f0)).trans f0))
      have c0 := (BL.out.cell (cell_lt c0w.out)).trans c0w.out
      have HNX := box (namedL_more (k := k) (P := P) hjV)
      rw [HACC.out, hx] at HNX
      obtain ⟨z, hz1⟩ : ∃ z, nameV k x = z := ⟨_, rfl⟩
      have HZ := box hz1
      obtain ⟨q, hq⟩ : ∃ q, qualR k P true x.data.toList = q := ⟨_, rfl⟩
      have HQ := box hq
      rw [hz1, hq] at HNX
      obtain ⟨t, ht⟩ : ∃ t, tokL x.data.toList = t := ⟨_, rfl⟩
      have HT := box ht
      obtain ⟨s, hs⟩ : ∃ s, (x.toList == [42]) = s := ⟨_, rfl⟩
      have HST := box hs
      obtain ⟨vn, hvn⟩ : ∃ vn, Value.slice va acc.length vc = vn := ⟨_, rfl⟩
      rw [hvn] at O3 ⊢
      clear hx hz1 hq hvn f0 ht
      have hzz : z = (t && !s) := by
        have h1 := HZ.out
        unfold nameV at h1
        rw [if_neg h1k, if_neg h2k, HT.out] at h1
        rw [← h1, ← HST.out, is_star]
        congr 1
        by_cases e : x = star <;> simp [e]
      cases t with
      | false =>
        obtain rfl : z = false := by rw [hzz]; rfl
        clear hzz
        go_wp2_with fail
        refine (rToken_is hxm HT).mono ?_; rintro e w4 ⟨rfl, rfl⟩
        have HN2 : Box (namedL k P (V.take (j + 1)) = acc) := box (by rw [HNX.out]; simp)
        go_wp2
        go_roundw
        case rel => exact ⟨j + 1, by go_num, by omega, by rw [HN2.out]; exact O3.out, BL⟩
        case measure => simp [intOf]; omega
      | true =>
        cases s with
        | false =>
          obtain rfl : z = true := by rw [hzz]; rfl
          clear hzz
          go_wp2_with fail
          refine (rToken_is hxm HT).mono ?_; rintro e w4 ⟨rfl, rfl⟩
          have HN2 : Box (namedL k P (V.take (j + 1)) = acc ++ [(x, q)]) := box (by rw [HNX.out]; simp)
          have BS0 := box ((Below.refl ws.heap.size ws).drew)
          have c0' := (BL.out.cell (cell_lt c0w.out)).trans c0w.out
          go_wp2
          refine wp_region_held_drew (S := (fun w' : World => w'.cell? ⟨g, off + j, none⟩ = some (.string x) ∧ Box (Below w3.heap.size w3 w'))) (by kernel_rfl) ⟨(BL.out.cell (cell_lt c0w.out)).trans c0w.out, box BL.out.drew⟩ (fun hHeld => ?_)
          refine wpAnyH_take (i := 0) (oi := { dst := some 67, op := Op.move (Operand.tmp 10), type := 50, pos := "variants.go:369", after := #[], guard := none }) (v := ?v0z3) rfl (by kernel_rfl) (by kernel_rfl) (by kernel_rfl) (fun _ _ _ h => h) (Or.inl ⟨by rfl, ?y0z3⟩) (by assumption) ?r0z3
          case y0z3 => (intro w hSw; (try dsimp only at hSw); go_simp; first | done | with_reducible rfl)
          try simp only [Act.put, List.setIfInBounds_toArray, List.set_cons_zero, List.set_cons_succ]
          refine wpAnyH_take (i := 1) (oi := { dst := some 68, op := Op.move (Operand.tmp 2), type := 29, pos := "variants.go:369", after := #[], guard := none }) (v := ?v1z3) rfl (by kernel_rfl) (by kernel_rfl) (by kernel_rfl) (fun _ _ _ h => h) (Or.inl ⟨by rfl, ?y1z3⟩) (by assumption) ?r1z3
          case y1z3 => (intro w hSw; (try dsimp only at hSw); go_simp; first | done | with_reducible rfl)
          try simp only [Act.put, List.setIfInBounds_toArray, List.set_cons_zero, List.set_cons_succ]
          refine wpAnyH_take (i := 2) (oi := { dst := some 69, op := Op.move (Operand.tmp 11), type := 3, pos := "variants.go:369", after := #[], guard := none }) (v := ?v2z3) rfl (by kernel_rfl) (by kernel_rfl) (by kernel_rfl) (fun _ _ _ h => h) (Or.inl ⟨by rfl, ?y2z3⟩) (by assumption) ?r2z3
          case y2z3 => (intro w hSw; (try dsimp only at hSw); go_simp; first | done | with_reducible rfl)
          try simp only [Act.put, List.setIfInBounds_toArray, List.set_cons_zero, List.set_cons_succ]
          refine wpAnyH_take (i := 3) (oi := { dst := some 70, op := Op.indexAddr 29 (Operand.tmp 68) (Operand.tmp 69), type := 0, pos := "variants.go:369", after := #[{ on := 1, ground := Ground.data }, { on := 2, ground := Ground.data }], guard := none }) (v := ?v3z3) rfl (by kernel_rfl) (by kernel_rfl) (by kernel_rfl) (fun _ _ _ h => h) (Or.inl ⟨by rfl, ?y3z3⟩) (by assumption) ?r3z3
          case y3z3 => (intro w hSw; (try dsimp only at hSw); go_simp; first | done | with_reducible rfl)
          try simp only [Act.put, List.setIfInBounds_toArray, List.set_cons_zero, List.set_cons_succ]
          refine wpAnyH_take (i := 4) (oi := { dst := some 71, op := Op.load 9 (Operand.tmp 70), type := 9, pos := "variants.go:369", after := #[{ on := 3, ground := Ground.data }], guard := none }) (v := ?v4z3) rfl (by kernel_rfl) (by kernel_rfl) (by kernel_rfl) (fun _ _ _ h => h) (Or.inl ⟨by rfl, ?y4z3⟩) (by assumption) ?r4z3
          case y4z3 => (intro w hSw; (try dsimp only at hSw); go_simp; first | done | with_reducible rfl)
          try simp only [Act.put, List.setIfInBounds_toArray, List.set_cons_zero, List.set_cons_succ]
          refine wpAnyH_take (i := 5) (oi := { dst := some 72, op := Op.move (Operand.tmp 0), type := 3, pos := "variants.go:369", after := #[], guard := none }) (v := ?v5z3) rfl (by kernel_rfl) (by kernel_rfl) (by kernel_rfl) (fun _ _ _ h => h) (Or.inl ⟨by rfl, ?y5z3⟩) (by assumption) ?r5z3
          case y5z3 => (intro w hSw; (try dsimp only at hSw); go_simp; first | done | with_reducible rfl)
          try simp only [Act.put, List.setIfInBounds_toArray, List.set_cons_zero, List.set_cons_succ]
          refine wpAnyH_take (i := 6) (oi := { dst := some 73, op := Op.move (Operand.tmp 8), type := 50, pos := "variants.go:369", after := #[], guard := none }) (v := ?v6z3) rfl (by kernel_rfl) (by kernel_rfl) (by kernel_rfl) (fun _ _ _ h => h) (Or.inl ⟨by rfl, ?y6z3⟩) (by assumption) ?r6z3
          case y6z3 => (intro w hSw; (try dsimp only at hSw); go_simp; first | done | with_reducible rfl)
          try simp only [Act.put, List.setIfInBounds_toArray, List.set_cons_zero, List.set_cons_succ]
          refine wpAnyH_take (i := 7) (oi := { dst := some 74, op := Op.move (Operand.tmp 9), type := 4, pos := "variants.go:369", after := #[], guard := none }) (v := ?v7z3) rfl (by kernel_rfl) (by kernel_rfl) (by kernel_rfl) (fun _ _ _ h => h) (Or.inl ⟨by rfl, ?y7z3⟩) (by assumption) ?r7z3
          case y7z3 => (intro w hSw; (try dsimp only at hSw); go_simp; first | done | with_reducible rfl)
          try simp only [Act.put, List.setIfInBounds_toArray, List.set_cons_zero, List.set_cons_succ]
          refine wpAnyH_take (i := 8) (oi := { dst := some 75, op := Op.move (Operand.tmp 2), type := 29, pos := "variants.go:369", after := #[], guard := none }) (v := ?v8z3) rfl (by kernel_rfl) (by kernel_rfl) (by kernel_rfl) (fun _ _ _ h => h) (Or.inl ⟨by rfl, ?y8z3⟩) (by assumption) ?r8z3
          case y8z3 => (intro w hSw; (try dsimp only at hSw); go_simp; first | done | with_reducible rfl)
          try simp only [Act.put, List.setIfInBounds_toArray, List.set_cons_zero, List.set_cons_succ]
          refine wpAnyH_take (i := 9) (oi := { dst := some 76, op := Op.move (Operand.tmp 11), type := 3, pos := "variants.go:369", after := #[], guard := none }) (v := ?v9z3) rfl (by kernel_rfl) (by kernel_rfl) (by kernel_rfl) (fun _ _ _ h => h) (Or.inl ⟨by rfl, ?y9z3⟩) (by assumption) ?r9z3
          case y9z3 => (intro w hSw; (try dsimp only at hSw); go_simp; first | done | with_reducible rfl)
          try simp only [Act.put, List.setIfInBounds_toArray, List.set_cons_zero, List.set_cons_succ]
          refine wpAnyH_take (i := 10) (oi := { dst := some 77, op := Op.indexAddr 29 (Operand.tmp 75) (Operand.tmp 76), type := 0, pos := "variants.go:369", after := #[{ on := 8, ground := Ground.data }, { on := 9, ground := Ground.data }], guard := none }) (v := ?v10z3) rfl (by kernel_rfl) (by kernel_rfl) (by kernel_rfl) (fun _ _ _ h => h) (Or.inl ⟨by rfl, ?y10z3⟩) (by assumption) ?r10z3
          case y10z3 => (intro w hSw; (try dsimp only at hSw); go_simp; first | done | with_reducible rfl)
          try simp only [Act.put, List.setIfInBounds_toArray, List.set_cons_zero, List.set_cons_succ]
          refine wpAnyH_take (i := 11) (oi := { dst := some 78, op := Op.load 9 (Operand.tmp 77), type := 9, pos := "variants.go:369", after := #[{ on := 10, ground := Ground.data }], guard := none }) (v := ?v11z3) rfl (by kernel_rfl) (by kernel_rfl) (by kernel_rfl) (fun _ _ _ h => h) (Or.inl ⟨by rfl, ?y11z3⟩) (by assumption) ?r11z3
          case y11z3 => (intro w hSw; (try dsimp only at hSw); go_simp; first | done | with_reducible rfl)
          try simp only [Act.put, List.setIfInBounds_toArray, List.set_cons_zero, List.set_cons_succ]
          refine wpAnyH_ready (rs := [12]) (by kernel_rfl) (by simp) ?_
          refine AllReadyH.cons (o := { dst := some 79, op := Op.call { callee := Callee.value (Operand.func 51), args := #[Operand.tmp 72, Operand.tmp 73, Operand.tmp 74, Operand.tmp 78], argTypes := #[3, 50, 4, 9] }, type := 3, pos := "variants.go:369", after := #[{ on := 5, ground := Ground.data }, { on := 6, ground := Ground.data }, { on := 7, ground := Ground.data }, { on := 11, ground := Ground.data }], guard := none }) rfl (fun K hK => ?_) AllReadyH.nil
          go_simp
          refine (rQual18_is hk hpl HPz hxz ((Q3.out.below BL.out).below BS0.out) HQ).mono ?_; rintro e w7 ⟨rfl, hb7⟩
          have BS1 := box (BS0.out.trans (hb7.mono BS0.out.size))
          have BB2 := box (hHeld.2.out.trans (hb7.mono hHeld.2.out.size))
          clear hb7
          go_wp2_with fail
          refine hK.out _ _ ⟨(BB2.out.cell (cell_lt c0w.out)).trans c0w.out, BB2⟩ (fun hHeld => ?_)
          clear hK K
          try simp only [Act.put, List.setIfInBounds_toArray, List.set_cons_zero, List.set_cons_succ]
          refine wpAnyH_take (i := 13) (oi := { dst := some 80, op := Op.build 55 #[(0, Operand.tmp 71), (1, Operand.tmp 79)], type := 55, pos := "variants.go:369", after := #[{ on := 4, ground := Ground.data }, { on := 12, ground := Ground.data }], guard := none }) (v := ?v13z3) rfl (by kernel_rfl) (by kernel_rfl) (by kernel_rfl) (fun _ _ _ h => h) (Or.inl ⟨by rfl, ?y13z3⟩) (by assumption) ?r13z3
          case y13z3 => (intro w hSw; (try dsimp only at hSw); go_simp; first | done | with_reducible rfl)
          try simp only [Act.put, List.setIfInBounds_toArray, List.set_cons_zero, List.set_cons_succ]
          refine wpAnyH_ready (rs := [14]) (by kernel_rfl) (by simp) ?_
          refine AllReadyH.cons (o := { dst := some 81, op := Op.buildSlice 50 1 #[(0, Operand.tmp 80)], type := 50, pos := "variants.go:369", after := #[{ on := 13, ground := Ground.data }], guard := none }) rfl (fun K hK => ?_) AllReadyH.nil
          go_simp
          have BS2 := box (BS1.out.alloc BS1.out.size (.cells #[.string x, .int .i64 q] 55))
          have BB3 := box (BB2.out.alloc BB2.out.size (.cells #[.string x, .int .i64 q] 55))
          go_wp2_with fail
          refine hK.out _ _ ⟨(BB3.out.cell (cell_lt c0w.out)).trans c0w.out, BB3⟩ (fun hHeld => ?_)
          clear hK K
          try simp only [Act.put, List.setIfInBounds_toArray, List.set_cons_zero, List.set_cons_succ]
          refine wpAnyH_ready (rs := [15]) (by kernel_rfl) (by simp) ?_
          refine AllReadyH.cons (o := { dst := some 82, op := Op.call { callee := Callee.builtin Builtin.append, args := #[Operand.tmp 67, Operand.tmp 81], argTypes := #[50, 50] }, type := 50, pos := "variants.go:369", after := #[{ on := 0, ground := Ground.data }, { on := 14, ground := Ground.data }, { on := 12, ground := Ground.chain }], guard := none }) rfl (fun K hK => ?_) AllReadyH.nil
          refine step_append_prf _ rfl (.tmp 67) (.tmp 81) rfl w3.heap.size vn acc rfl ?a15 _ _ rfl x q ?b15 ?c15 hacl ?d15 ?_
          case a15 => exact own_below O3.out BS2.out
          case b15 => exact (World.cell?_alloc_at (w := w7) #[.string x, .int .i64 q] 55 w7.heap.size 0 rfl).trans rfl
          case c15 => exact (World.cell?_alloc_at (w := w7) #[.string x, .int .i64 q] 55 w7.heap.size 1 rfl).trans rfl
          case d15 => exact BB3.out.size
          intro v8 w8 hO8 hb8
          have BB4 := box (BB3.out.trans hb8)
          rw [← HN2.out] at hO8
          have O8 := box hO8
          clear hO8 hb8
          refine hK.out _ _ ⟨(BB4.out.cell (cell_lt c0w.out)).trans c0w.out, BB4⟩ (fun hHeld => ?_)
          clear hK K
          try simp only [Act.put, List.setIfInBounds_toArray, List.set_cons_zero, List.set_cons_succ]
          refine wpAnyH_take (i := 16) (oi := { dst := some 10, op := Op.assign (Operand.tmp 82), type := 50, pos := "variants.go:369", after := #[{ on := 15, ground := Ground.data }, { on := 15, ground := Ground.chain }, { on := 0, ground := Ground.phase }, { on := 1, ground := Ground.phase }, { on := 2, ground := Ground.phase }, { on := 3, ground := Ground.phase }, { on := 4, ground := Ground.phase }, { on := 5, ground := Ground.phase }, { on := 6, ground := Ground.phase }, { on := 7, ground := Ground.phase }, { on := 8, ground := Ground.phase }, { on := 9, ground := Ground.phase }, { on := 10, ground := Ground.phase }, { on := 11, ground := Ground.phase }, { on := 12, ground := Ground.phase }, { on := 13, ground := Ground.phase }, { on := 14, ground := Ground.phase }, { on := 15, ground := Ground.phase }], guard := none }) (v := ?v16z3) rfl (by kernel_rfl) (by kernel_rfl) (by kernel_rfl) (fun _ _ _ h => h) (Or.inl ⟨by rfl, ?y16z3⟩) (by assumption) ?r16z3
          case y16z3 => (intro w hSw; (try dsimp only at hSw); go_simp; first | done | with_reducible rfl)
          try simp only [Act.put, List.setIfInBounds_toArray, List.set_cons_zero, List.set_cons_succ]
          refine wpAnyH_done (by kernel_rfl) ?_ _
          go_wp2
          go_roundw
          case rel => exact ⟨j + 1, by go_num, by omega, O8.out, BB4⟩
          case measure => simp [intOf]; omega
        | true =>
          obtain rfl : z = false := by rw [hzz]; rfl
          clear hzz
          go_wp2_with fail
          refine (rToken_is hxm HT).mono ?_; rintro e w4 ⟨rfl, rfl⟩
          have HN2 : Box (namedL k P (V.take (j + 1)) = acc) := box (by rw [HNX.out]; simp)
          go_wp2
          go_roundw
          case rel => exact ⟨j + 1, by go_num, by omega, by rw [HN2.out]; exact O3.out, BL⟩
          case measure => simp [intOf]; omega
    · have hji : ¬ (j : Int) < (nv : Int) := by omega
      have HE : Box (acc = R) := box (by rw [← HACC.out, List.take_of_length_le (by have := HNV.out; omega), HR.out])
      have BB3 := box (B3.out.trans (BL.out.mono B3.out.size))
      have F3 := box (hF.out.below BB3.out)
      rw [HE.out] at QV ⊢
      go_wp2_with fail
      refine (rRem18_is FL hnz F3.out HM HNL).mono ?_; rintro e w5 ⟨v5, rfl, hO5, hb5⟩
      obtain ⟨a5, c5, rfl, _, _⟩ := hO5.fs
      obtain ⟨un, hun⟩ : ∃ un, Value.slice a5 M.length c5 = un := ⟨_, rfl⟩
      have B5 := box (BB3.out.trans (hb5.mono BB3.out.size))
      have hs5 := B5.out.size
      have O5 := box (show OwnF w5 w.heap.size _ M from Go.Joins.ownsRow_le hO5 BB3.out.size)
      have Q5 := box (QV.out.below hb5)
      rw [hun] at O5 ⊢
      clear hO5 hb5 hun
      go_wp2_with fail
      refine (rFmt18_is hrl HRz HRq Q5.out HX0).mono ?_; rintro e w6 ⟨rfl, hb6⟩
      have B6 := box (B5.out.trans (hb6.mono hs5))
      have hs6 := B6.out.size
      have O6 := box (show OwnF w6 w.heap.size un M from own_below O5.out hb6)
      clear hb6
      go_wp2_with (at_builtin; refine wpList_append_fld _ rfl (.tmp 85) (.tmp 90) rfl w.heap.size un M rfl ?a8 _ _ rfl nm x0 ?b8 ?c8 hml ?d8 ?_)
      case a8 => exact own_below O6.out (below_new _ _)
      case b8 => exact (World.cell?_alloc_at (w := w6) #[.string nm, .string x0] 42 w6.heap.size 0 rfl).trans rfl
      case c8 => exact (World.cell?_alloc_at (w := w6) #[.string nm, .string x0] 42 w6.heap.size 1 rfl).trans rfl
      case d8 => first | exact Nat.le_trans hs6 (below_new _ _).size | (simp; omega)
      intro v7 w7 hO7 hb7
      rw [HN.out] at hO7
      obtain ⟨a7, c7, rfl, _, _⟩ := OwnF.fs hO7
      have O7 := box hO7
      have B7 := box ((B6.out.alloc hs6 _).trans hb7)
      clear hO7 hb7
      go_wp2
      go_ret
      exact ⟨_, rfl, O7.out, B7.out⟩
theorem rNorm_is {k : Int} {a : Option Addr} {cap nl : Nat} {L M : List F} {b : Option Addr} {cb nv : Nat} {V : List ByteArray} {w : World} (hk : InI64 k) (FL : Box (FitL L)) (hvl : V.length ≤ 65536) (hvz : Box (∀ v ∈ V, v.size ≤ 20000)) (hF : Fs w a L) (hcn : Box (a = none → cap = 0)) (hS : Ss w b V) (h : Box (normF k L V = M)) (HNL : Box (L.length = nl)) (HNV : Box (V.length = nv)) :
    Calls Tryz.prog 20 #[.int .i64 k, .slice a nl cap, .slice b nv cb] w fun e w' => NormPost w M e w' := by
  rw [← h.out]
  cases ho : prefsO k L with
  | false =>
    have e : normF k L V = L := by unfold normF; rw [if_neg (by rw [ho]; simp)]
    rw [e]
    exact rNorm_no hk FL (box hF) hcn HNL ho
  | true =>
    by_cases h1 : k = 1
    · exact rNorm_med hk h1 FL hvl hvz (box hF) (box hS) HNL HNV ho
    · by_cases h2 : k = 2
      · exact rNorm_lan hk h2 FL hvl hvz (box hF) (box hS) HNL HNV ho
      · exact rNorm_tok hk h1 h2 FL hvl hvz (box hF) (box hS) HNL HNV ho
end
section
open Go.RowKit
def aw18T : ByteArray := ⟨#[97, 99, 99, 101, 112, 116, 45, 108, 97, 110, 103, 117, 97, 103, 101, 61, 40, 101, 110, 32, 102, 114, 41, 44, 32, 97, 99, 99, 101, 112, 116, 45, 101, 110, 99, 111, 100, 105, 110, 103, 61, 40, 103, 122, 105, 112, 32, 105, 100, 101, 110, 116, 105, 116, 121, 41]⟩
theorem aw18_is : classS aw15X [] false = aw18T := by decide +kernel
theorem fit_nil : FitL [] := fit_small (m := 0) (by simp) (fun i hi => absurd hi (by simp))
theorem aw18_fit : FitC aw15X := fun i hi => by
  obtain ⟨h1, h2, h3⟩ := aw15_fit i hi
  exact ⟨h1, by omega, fun j hj => h3 _ (List.getElem_mem hj)⟩
theorem fitC_keep {X : List AX} (h : keepA X = true) : FitC X := fun i hi => by
  obtain ⟨h3, h4, h5⟩ := (keepA_parts h).2 i hi
  exact ⟨by omega, by omega, fun j hj => by have := h5 _ (List.getElem_mem hj); omega⟩
theorem axes18_any (w : World) : Calls Tryz.prog 41 #[] w fun e w' => ∃ p c, e = .returned (.slice p aw15X.length c) ∧ Axs w' p aw15X ∧ Below w.heap.size w w' := by
  have S1 := ss_two15 ⟨#[101, 110]⟩ ⟨#[102, 114]⟩ w 9
  have b1 := below_new w (.cells #[.string ⟨#[101, 110]⟩, .string ⟨#[102, 114]⟩] 9)
  have S2 := ss_two15 ⟨#[103, 122, 105, 112]⟩ ⟨#[105, 100, 101, 110, 116, 105, 116, 121]⟩ (w.alloc (.cells #[.string ⟨#[101, 110]⟩, .string ⟨#[102, 114]⟩] 9)) 9
  have b2 := below_new (w.alloc (.cells #[.string ⟨#[101, 110]⟩, .string ⟨#[102, 114]⟩] 9)) (.cells #[.string ⟨#[103, 122, 105, 112]⟩, .string ⟨#[105, 100, 101, 110, 116, 105, 116, 121]⟩] 9)
  have HS := box (And.intro S1 (And.intro b1 (And.intro S2 b2)))
  clear S1 b1 S2 b2
  go_enter Tryz.func41, Tryz.ntmps41
  go_wp2
  go_ret
  obtain ⟨S1, b1, S2, b2⟩ := HS.out
  obtain ⟨W2, hW2⟩ : ∃ W2, (w.alloc (.cells #[.string ⟨#[101, 110]⟩, .string ⟨#[102, 114]⟩] 9)).alloc (.cells #[.string ⟨#[103, 122, 105, 112]⟩, .string ⟨#[105, 100, 101, 110, 116, 105, 116, 121]⟩] 9) = W2 := ⟨_, rfl⟩
  have hsz : (w.alloc (.cells #[.string ⟨#[101, 110]⟩, .string ⟨#[102, 114]⟩] 9)).heap.size = w.heap.size + 1 := by simp
  have hsz2 : W2.heap.size = w.heap.size + 1 + 1 := by rw [← hW2]; simp
  have S1' := S1.below b2
  rw [hsz] at S2
  rw [hW2] at S1' S2
  have b3 := below_new W2 (.cells #[.string aw15A, .slice (some ⟨w.heap.size, 0, none⟩) 2 2, .string aw15B, .slice (some ⟨w.heap.size + 1, 0, none⟩) 2 2] 39)
  refine ⟨some ⟨W2.heap.size, 0, none⟩, 2, by rw [hsz2]; rfl, ?_, (by
    have h := (b1.trans (b2.mono b1.size))
    rw [hW2] at h
    have h2 := h.trans (b3.mono h.size)
    rw [← hW2] at h2
    exact h2)⟩
  show Axs ((((w.alloc (.cells #[.string ⟨#[101, 110]⟩, .string ⟨#[102, 114]⟩] 9)).alloc (.cells #[.string ⟨#[103, 122, 105, 112]⟩, .string ⟨#[105, 100, 101, 110, 116, 105, 116, 121]⟩] 9))).alloc (.cells #[.string aw15A, .slice (some ⟨w.heap.size, 0, none⟩) 2 2, .string aw15B, .slice (some ⟨w.heap.size + 1, 0, none⟩) 2 2] 39)) _ _
  rw [hW2]
  intro i hi
  match i, hi with
  | 0, _ => exact ⟨W2.heap.size, 0, _, rfl, by rw [World.cell?_alloc_mark]; rfl, by rw [World.cell?_alloc_mark]; rfl, some ⟨w.heap.size, 0, none⟩, 2, rfl, S1'.below b3, Nat.le_refl 2⟩
  | 1, _ => exact ⟨W2.heap.size, 0, _, rfl, by rw [World.cell?_alloc_mark]; rfl, by rw [World.cell?_alloc_mark]; rfl, some ⟨w.heap.size + 1, 0, none⟩, 2, rfl, S2.below b3, Nat.le_refl 2⟩
set_option maxHeartbeats 2000000 in
theorem awake18_any (w : World) (hW : Wts w) : Calls Tryz.prog 16 #[] w fun e w' => e = .returned (.bool true) ∧ Below w.heap.size w w' := by
  have HT := box hW
  have HX := box aw18_is
  have ZX := box aw18_fit
  have FL := box fit_nil
  have hl : aw15X.length ≤ 65536 := by decide
  have hn1 : Box (aw15X.length = 2) := box rfl
  have hn2 : Box (([] : List F).length = 0) := box rfl
  have hlit : aw18T.toList = [97, 99, 99, 101, 112, 116, 45, 108, 97, 110, 103, 117, 97, 103, 101, 61, 40, 101, 110, 32, 102, 114, 41, 44, 32, 97, 99, 99, 101, 112, 116, 45, 101, 110, 99, 111, 100, 105, 110, 103, 61, 40, 103, 122, 105, 112, 32, 105, 100, 101, 110, 116, 105, 116, 121, 41] := by rw [toList_data]; rfl
  clear hW
  go_enter Tryz.func16, Tryz.ntmps16
  go_wp2_with fail
  refine (axes18_any _).mono ?_; rintro e w1 ⟨p1, c1, rfl, hA1, hb1⟩
  have B1 := box hb1
  have A1 := box hA1
  have T1 := HT.out.below hb1
  clear hb1 hA1
  rw [hn1.out]
  go_wp2_with fail
  refine (mClass_is (X := aw15X) (L := []) hl ZX FL A1.out (Fs.nil17 _ _) T1 HX hn1 hn2).mono ?_; rintro e w2 ⟨rfl, hb2⟩
  have B2 := box (B1.out.trans (hb2.mono B1.out.size))
  clear hb2 T1
  go_wp2
  go_ret
  exact ⟨rfl, B2.out⟩
theorem keepS18_is {a : Option Addr} {cap n : Nat} {L : List ByteArray} {q : Bool} {w : World} (hl : L.length ≤ maxLen) (hF : Ss w a L) (h : Box (keepS L = q)) (hn : Box (L.length = n)) :
    Calls Tryz.prog 17 #[.slice a n cap] w fun e w' => e = .returned (.bool q) ∧ w = w' := by
  have := keepStrings_any a cap L w hl (box hF)
  rw [h.out, hn.out] at this; exact this
theorem sameF18_is {a b : Option Addr} {ca cb na nb : Nat} {K L : List F} {q : Bool} {w : World} (hk : K.length ≤ 65536) (hl : L.length ≤ 65536) (hK : Fs w a K) (hL : Fs w b L) (h : Box (decide (K = L) = q)) (hna : Box (K.length = na)) (hnb : Box (L.length = nb)) :
    Calls Tryz.prog 18 #[.slice a na ca, .slice b nb cb] w fun e w' => e = .returned (.bool q) ∧ Below w.heap.size w w' := by
  have := SameF_any a b ca cb K L w hk hl (box hK) (box hL)
  rw [h.out, hna.out, hnb.out] at this; exact this
theorem mNorm_is {k : Int} {a : Option Addr} {cap nl : Nat} {L M : List F} {b : Option Addr} {cb nv : Nat} {V : List ByteArray} {w : World} (hk : InI64 k) (FL : Box (FitL L)) (hvl : V.length ≤ 65536) (hvz : Box (∀ v ∈ V, v.size ≤ 20000)) (hF : Fs w a L) (hS : Ss w b V) (hW : Wts w) (h : Box (normF k L V = M)) (HNL : Box (L.length = nl)) (HNV : Box (V.length = nv)) :
    Calls Tryz.prog 19 #[.int .i64 k, .slice a nl cap, .slice b nv cb] w fun e w' => NormPost w M e w' := by
  have := mNorm_any k a cap nl L b cb nv V w hk FL hvl hvz (box hF) (box hS) hW HNL HNV
  rw [h.out] at this; exact this
theorem normF_len {k : Int} {L : List F} {V : List ByteArray} : (normF k L V).length ≤ L.length + 1 := by
  unfold normF
  split
  · rw [List.length_append]
    have : (remL (nameK k) L).length ≤ L.length := by unfold remL; exact List.length_filter_le _ _
    simp only [List.length_cons, List.length_nil]; omega
  · omega
set_option maxHeartbeats 4000000 in
theorem normalizes18_in (k : Int) (a : Option Addr) (ca nl : Nat) (L : List F) (b : Option Addr) (cb nv : Nat) (V : List ByteArray) (w : World) (hk : InI64 k) (hl0 : Box (L.length ≤ maxLen)) (hF : Box (Fs w a L)) (hcn : Box (a = none → ca = 0)) (hv0 : Box (V.length ≤ maxLen)) (hS : Box (Ss w b V)) (hW : Wts w) (HNL : Box (L.length = nl)) (HNV : Box (V.length = nv)) :
    Calls Tryz.prog 4 #[.int .i64 k, .slice a nl ca, .slice b nv cb] w fun e w' => e = .returned (.bool true) ∧ Below w.heap.size w w' := by
  have HT := box hW
  obtain ⟨q1, hq1⟩ : ∃ q, keepF L = q := ⟨_, rfl⟩
  obtain ⟨q2, hq2⟩ : ∃ q, keepS V = q := ⟨_, rfl⟩
  have Q1 := box hq1
  have Q2 := box hq2
  cases q1 with
  | false =>
    clear hq1 hq2 hW
    go_enter Tryz.func4, Tryz.ntmps4
    go_wp2_with fail
    refine (keepF17_is hl0.out hF.out Q1 HNL).mono ?_; rintro e w1 ⟨rfl, rfl⟩
    go_wp2
    go_ret
    exact ⟨rfl, Below.refl _ _⟩
  | true =>
    cases q2 with
    | false =>
      clear hq1 hq2 hW
      go_enter Tryz.func4, Tryz.ntmps4
      go_wp2_with fail
      refine (keepF17_is hl0.out hF.out Q1 HNL).mono ?_; rintro e w1 ⟨rfl, rfl⟩
      go_wp2_with fail
      refine (keepS18_is hv0.out hS.out Q2 HNV).mono ?_; rintro e w1 ⟨rfl, rfl⟩
      go_wp2
      go_ret
      exact ⟨rfl, Below.refl _ _⟩
    | true =>
      have FL := box (fit_keepF hq1)
      obtain ⟨v1, v2⟩ := keepS_small hq2
      have v6 : V.length ≤ 65536 := by omega
      have HVZ : Box (∀ v ∈ V, v.size ≤ 20000) := box (fun v hv => by have := v2 v hv; omega)
      obtain ⟨N, hN⟩ : ∃ N, normF k L V = N := ⟨_, rfl⟩
      have HN := box hN
      have hn6 : N.length ≤ 65536 := by
        rw [← hN]
        have h1 := normF_len (k := k) (L := L) (V := V)
        have h2 := (keep_parts hq1).1
        omega
      clear hq1 hq2 hW hN v2
      go_enter Tryz.func4, Tryz.ntmps4
      go_wp2_with fail
      refine (keepF17_is hl0.out hF.out Q1 HNL).mono ?_; rintro e w1 ⟨rfl, rfl⟩
      go_wp2_with fail
      refine (keepS18_is hv0.out hS.out Q2 HNV).mono ?_; rintro e w1 ⟨rfl, rfl⟩
      go_wp2_with fail
      refine (mNorm_is hk FL v6 HVZ hF.out hS.out HT.out HN HNL HNV).mono ?_; rintro e w1 ⟨v1, rfl, hO1, hb1⟩
      obtain ⟨a1, c1, rfl, hS1, _⟩ := hO1.fs
      have B1 := box hb1
      have S1 := box hS1
      clear hO1 hb1 hS1
      go_wp2_with fail
      refine (rNorm_is hk FL v6 HVZ (hF.out.below B1.out) hcn (hS.out.below B1.out) HN HNL HNV).mono ?_; rintro e w2 ⟨v2, rfl, hO2, hb2⟩
      obtain ⟨a2, c2, rfl, hS2, _⟩ := hO2.fs
      have B2 := box (B1.out.trans (hb2.mono B1.out.size))
      have S1b := box (S1.out.below hb2)
      have S2 := box hS2
      clear hO2 hb2 hS2
      go_wp2_with fail
      refine (sameF18_is hn6 hn6 S1b.out S2.out (q := true) (box (decide_eq_true rfl)) (box rfl) (box rfl)).mono ?_; rintro e w3 ⟨rfl, hb3⟩
      have B3 := box (B2.out.trans (hb3.mono B2.out.size))
      clear hb3
      go_wp2_with fail
      refine (awake18_any _ (HT.out.below B3.out)).mono ?_; rintro e w4 ⟨rfl, hb4⟩
      have B4 := box (B3.out.trans (hb4.mono B3.out.size))
      clear hb4
      go_wp2
      go_ret
      exact ⟨rfl, B4.out⟩
theorem normalizes18_walk (k : Int) (a : Option Addr) (ca : Nat) (L : List F) (b : Option Addr) (cb : Nat) (V : List ByteArray) (w : World) (hk : (Lit.int .i64 k).wf = true) (hl0 : L.length ≤ maxLen) (hF : Fs w a L) (hcl : L.length ≤ ca ∧ (a = none → ca = 0)) (hv0 : V.length ≤ maxLen) (hS : Ss w b V) (hcv : V.length ≤ cb) (hW : Wts w) :
    Calls Tryz.prog 4 #[.int .i64 k, .slice a L.length ca, .slice b V.length cb] w fun e w' => e = .returned (.bool true) ∧ Below w.heap.size w w' :=
  normalizes18_in k a ca _ L b cb _ V w (in13 hk) (box hl0) (box hF) (box hcl.2) (box hv0) (box hS) hW (box rfl) (box rfl)
end
end Go.Proofs.YtklfpkaemnhdhaaGreatDoor.Asc
