/- Merged texts: FldSrc HopMine2 HopRef AscDec AscRDec AscLaws LstOpen. -/
import Derived.Test.YtgagaebgiioeoaaZs01
import Derived.Test.YtgagaebgiioeoaaZs02
import Derived.Test.YtgagaebgiioeoaaZs03
import Derived.Test.YtgagaebgiioeoaaZs04
import Derived.Test.YtgagaebgiioeoaaZs06
import Derived.Carry
import Derived.Deep.SlicePairs
import Derived.Laws.AppendOwnNone
import Derived.Laws.OwnMore
import Derived.Lib.Hide
import Derived.LoopTactic
import Derived.ProofKit
set_option linter.unusedVariables false
set_option linter.unusedSimpArgs false
set_option maxRecDepth 100000
namespace Go.Proofs.Ytgagaebgiioeoaa.Asc
section
open Go.RowKit Go.Deep
section
variable {ops : Array Oper} {o : Oper} {a : Act} {K : Act → World → Prop} {Q : Exit → Act → World → Prop} {E : Prop}
end
theorem Fs.nil17 (w : World) (a : Option Addr) : Fs w a [] := fun i hi => absurd hi (by simp)
end
section
open Go.RowKit
def StrRel (M : List ByteArray) (L : List F) (B : Nat) (W : World) (v i : Value) (wr : World) : Prop := ∃ k : Nat, k ≤ L.length ∧ i = .int .i64 k ∧ OwnF wr B v ((L.take k).filter fun p => !drpF M p) ∧ Below W.heap.size W wr
theorem drop_yes {M : List ByteArray} {L : List F} {k : Nat} {p : F} (h : k < L.length) (hp : L[k] = p) (hd : drpF M p = true) : ((L.take (k + 1)).filter fun p => !drpF M p) = ((L.take k).filter fun p => !drpF M p) := by
  rw [str_more h, hp, hd]; simp
theorem drop_no {M : List ByteArray} {L : List F} {k : Nat} {p : F} (h : k < L.length) (hp : L[k] = p) (hd : drpF M p = false) : ((L.take (k + 1)).filter fun p => !drpF M p) = ((L.take k).filter fun p => !drpF M p) ++ [p] := by
  rw [str_more h, hp, hd]; simp
theorem drop_len {M : List ByteArray} {L : List F} (k : Nat) (h : L.length ≤ 65536) : ((L.take k).filter fun p => !drpF M p).length ≤ 65536 :=
  Nat.le_trans (List.length_filter_le _ _) (by rw [List.length_take]; omega)
set_option maxHeartbeats 2000000 in
theorem mStrip_any (a : Option Addr) (cap n : Nat) (L : List F) (w : World) (hm : MxL w) (S : Box (Sm L)) (hv : Box (∀ x ∈ getL conN L, x.size ≤ 65000)) (hF : Box (Fs w a L)) (hn : Box (L.length = n)) :
    Calls Try.prog 8 #[.slice a n cap] w fun e w' => ∃ v, e = .returned v ∧ OwnF w' w.heap.size v (strL L) ∧ Below w.heap.size w w' := by
  obtain ⟨M, hM⟩ : ∃ M, allB conN L = M := ⟨_, rfl⟩
  have HM := box hM
  have HS : Box (strL L = L.filter fun p => !drpF M p) := box (by unfold strL; rw [hM])
  have HML : Box ((M.map lowBs).length ≤ 65536) := box (by rw [List.length_map, ← hM]; exact all_count _ _)
  have hl := S.out.1
  have HC := listed_any a cap n L w S hv hF hn
  rw [hM] at HC
  have HC := box HC
  have X0 := box hm
  have hn2 := hn.out
  clear hM hm
  go_enter Try.func8, Try.ntmps8
  go_wp2_with fail
  refine HC.out.mono ?_; rintro e w1 ⟨v1, rfl, hO1, hb1⟩
  obtain ⟨a1, cap1, rfl, hS1, _⟩ := hO1.ss
  obtain ⟨m, hm2⟩ : ∃ m, (M.map lowBs).length = m := ⟨_, rfl⟩
  rw [hm2]
  have HMM := box hm2
  have S1 := box hS1
  have B1 := box hb1
  have X1 := box (X0.out.below hb1 (Nat.le_refl _))
  have hs1 := hb1.size
  clear hO1 hS1 hb1 hm2
  go_wp2
  go_loopw [4, 11] (fun v i wr => StrRel M L w1.heap.size w1 v i wr) (fun _ i _ => L.length - (intOf i).toNat)
  case atStart => exact ⟨0, Nat.zero_le _, rfl, OwnF.nil _ _, Below.refl _ _⟩
  case round =>
    obtain ⟨k, hk, rfl, hO, hbel⟩ := hrel
    have O := box hO
    have BL := box hbel
    have hbs := hbel.size
    clear hO hbel
    by_cases hlt : k < L.length
    · have hkn : (k : Int) < (n : Int) := by omega
      obtain ⟨q, off, rfl, c0, c1⟩ := (hF.out.below (B1.out.trans (BL.out.mono B1.out.size))) k hlt
      have hz := S.out.2 k hlt
      obtain ⟨p, hp⟩ : ∃ p, L[k] = p := ⟨_, rfl⟩
      have HP := box hp
      rw [hp] at c0 c1 hz
      obtain ⟨fn, fv⟩ := p
      clear hp
      obtain ⟨y, hy⟩ : ∃ y, lowBs fn = y := ⟨_, rfl⟩
      have HY := box hy
      have hyz : y.size ≤ 65536 := by rw [← hy, lowBs_size]; exact hz.1
      obtain ⟨d, hd⟩ : ∃ d, drpF M (fn, fv) = d := ⟨_, rfl⟩
      have HD := box hd
      have HQ : Box (conB y (M.map lowBs) = d) := box (by rw [← hy, ← hd]; exact con_drp M (fn, fv))
      clear hy hd
      go_wp2_with fail
      refine (low25_is hz.1 HY).mono ?_; rintro e w2 ⟨rfl, hb2⟩
      have d0 : w2.cell? ⟨wr.heap.size, 0, none⟩ = some (.string fn) := (hb2.cell (by simp)).trans (by rw [World.cell?_alloc_mark]; rfl)
      have d1 : w2.cell? ⟨wr.heap.size, 1, none⟩ = some (.string fv) := (hb2.cell (by simp)).trans (by rw [World.cell?_alloc_mark]; rfl)
      have B2 := box ((BL.out.alloc BL.out.size _).trans (hb2.mono (by simp; omega)))
      have O2 := box (own_below (own_below O.out (below_new _ _)) hb2)
      clear hb2 c0 c1
      go_wp2_with fail
      refine (con_is (X1.out.below B2.out (Nat.le_refl _)) hyz HML.out (S1.out.below B2.out) HMM HQ).mono ?_; rintro e w3 ⟨rfl, hb3⟩
      have e0 := (hb3.cell (cell_lt d0)).trans d0
      have e1 := (hb3.cell (cell_lt d1)).trans d1
      have B3 := box (B2.out.trans (hb3.mono B2.out.size))
      have O3 := box (own_below O2.out hb3)
      have hbs3 := B3.out.size
      clear hb3 d0 d1
      cases d with
      | true =>
        have HE := box (drop_yes hlt HP.out HD.out)
        go_wp2
        go_roundw
        case rel => exact ⟨k + 1, by omega, by go_num, by rw [HE.out]; exact O3.out, B3.out⟩
        case measure => simp [intOf]; omega
      | false =>
        have HE := box (drop_no hlt HP.out HD.out)
        go_wp2_with (at_builtin; refine wpList_append_fld _ rfl (.tmp 21) (.tmp 23) rfl w1.heap.size _ ((L.take k).filter fun p => !drpF M p) rfl ?a1 _ _ rfl fn fv ?b1 ?b2 ?c1 ?d1 ?_)
        case a1 => exact own_below O3.out (below_new _ _)
        case b1 => go_simp
        case b2 => go_simp
        case c1 => exact drop_len k hl
        case d1 => simp; omega
        intro v' w4 hO4 hb4
        have O4 := box hO4
        clear hO4
        go_wp2
        go_roundw
        case rel => exact ⟨k + 1, by omega, by go_num, by rw [HE.out]; exact O4.out, (B3.out.alloc B3.out.size _).trans hb4⟩
        case measure => simp [intOf]; omega
    · have hkn : ¬ (k : Int) < (n : Int) := by omega
      have e : k = L.length := by omega
      have OE := O.out
      rw [e, List.take_length, ← HS.out] at OE
      replace OE := box OE
      clear O e
      go_wp2
      go_ret
      exact ⟨_, rfl, Go.Joins.ownsRow_le OE.out hs1, B1.out.trans (BL.out.mono B1.out.size)⟩
end
section
open Go.RowKit
theorem rFold25_is {a b : ByteArray} {q : Bool} {w : World} (ha : a.size ≤ 65536) (hb : b.size ≤ 65536) (h : Box (foldL a.data.toList b.data.toList = q)) :
    Calls Try.prog 15 #[.string a, .string b] w fun e w' => e = .returned (.bool q) ∧ Below w.heap.size w w' :=
  (rFold_any a b w (by omega) (by omega)).mono fun e w' ⟨h1, h2⟩ => ⟨by rw [h1, h.out], h2⟩
theorem amg_no {x : ByteArray} {K : List ByteArray} {k : Nat} (h : k < K.length) (hn : amgL x (K.take k) = false) (hf : foldL x.data.toList K[k].data.toList = false) : amgL x (K.take (k + 1)) = false := by
  rw [List.take_succ_eq_append_getElem h, amg_app, hn, Bool.false_or]
  unfold amgL; rw [List.any_cons, hf]; rfl
theorem amg_at {x : ByteArray} {K : List ByteArray} {k : Nat} (h : k < K.length) (hf : foldL x.data.toList K[k].data.toList = true) : amgL x K = true := amg_mem hf (List.getElem_mem h)
def AmgRel (x : ByteArray) (K : List ByteArray) (W : World) (i : Value) (wr : World) : Prop := ∃ k : Nat, k ≤ K.length ∧ i = .int .i64 k ∧ amgL x (K.take k) = false ∧ Below W.heap.size W wr
set_option maxHeartbeats 1000000 in
theorem rAmong_any (x : ByteArray) (a : Option Addr) (cap n : Nat) (K : List ByteArray) (q : Bool) (w : World) (hx : x.size ≤ 65536) (hK : K.length ≤ 65536) (hz : Box (∀ y ∈ K, y.size ≤ 65536)) (hS : Box (Ss w a K)) (hn : Box (K.length = n)) (hQ : Box (amgL x K = q)) :
    Calls Try.prog 21 #[.string x, .slice a n cap] w fun e w' => e = .returned (.bool q) ∧ Below w.heap.size w w' := by
  have hn2 := hn.out
  go_enter Try.func21, Try.ntmps21
  go_wp2
  go_loopw [5] (fun i wr => AmgRel x K w i wr) (fun i _ => K.length - (intOf i).toNat)
  case atStart => exact ⟨0, Nat.zero_le _, rfl, rfl, Below.refl _ _⟩
  case round =>
    obtain ⟨k, hk, rfl, hno, hbel⟩ := hrel
    have HNO := box hno
    have BL := box hbel
    clear hno hbel
    by_cases hlt : k < K.length
    · have hkn : (k : Int) < (n : Int) := by omega
      obtain ⟨g, off, rfl, c0⟩ := (hS.out.below BL.out) k hlt
      have HX : Box (K[k].size ≤ 65536) := box (hz.out _ (List.getElem_mem hlt))
      rcases hf : foldL x.data.toList K[k].data.toList with _ | _
      · have HF := box hf
        have HN := box (amg_no hlt HNO.out hf)
        clear hf
        go_wp2_with fail
        refine (rFold25_is hx HX.out HF).mono ?_; rintro e w2 ⟨rfl, hb2⟩
        have B2 := box (BL.out.trans (hb2.mono BL.out.size))
        clear hb2 c0
        go_wp2
        go_roundw
        case rel => exact ⟨k + 1, by omega, by go_num, HN.out, B2.out⟩
        case measure => simp [intOf]; omega
      · have HF := box hf
        have HN : Box (q = true) := box (by rw [← hQ.out]; exact amg_at hlt hf)
        clear hf
        go_wp2_with fail
        refine (rFold25_is hx HX.out HF).mono ?_; rintro e w2 ⟨rfl, hb2⟩
        have B2 := box (BL.out.trans (hb2.mono BL.out.size))
        clear hb2 c0
        go_wp2
        go_ret
        exact ⟨ret_bool HN.out.symm, B2.out⟩
    · have hkn : ¬ (k : Int) < (n : Int) := by omega
      have HN : Box (q = false) := box (by
        have h := HNO.out
        rw [show k = K.length from by omega, List.take_length, hQ.out] at h
        exact h)
      go_wp2
      go_ret
      exact ⟨ret_bool HN.out.symm, BL.out⟩
theorem rAmong_is {x : ByteArray} {a : Option Addr} {cap n : Nat} {K : List ByteArray} {q : Bool} {w : World} (hx : x.size ≤ 65536) (hK : K.length ≤ 65536) (hz : Box (∀ y ∈ K, y.size ≤ 65536)) (hS : Ss w a K) (hn : Box (K.length = n)) (hQ : Box (amgL x K = q)) :
    Calls Try.prog 21 #[.string x, .slice a n cap] w fun e w' => e = .returned (.bool q) ∧ Below w.heap.size w w' :=
  rAmong_any x a cap n K q w hx hK hz (box hS) hn hQ
theorem Ss.cells25 (K : List ByteArray) (w : World) (t : TypeId) : Ss (w.alloc (.cells (K.map Value.string).toArray t)) (some ⟨w.heap.size, 0, none⟩) K := fun i hi => by
  refine ⟨_, 0, rfl, ?_⟩
  rw [World.cell?_alloc_mark]
  simp [hi]
def RStRel (M : List ByteArray) (L : List F) (B : Nat) (W : World) (v i : Value) (wr : World) : Prop := ∃ k : Nat, k ≤ L.length ∧ i = .int .i64 k ∧ OwnF wr B v ((L.take k).filter fun p => !drpF M p) ∧ Below W.heap.size W wr
theorem drp_fix {M : List ByteArray} {p : F} (h : amgL p.1 fixN = true) : drpF M p = true := by unfold drpF; rw [h]; rfl
theorem drp_not {M : List ByteArray} {p : F} (h : amgL p.1 fixN = false) (h2 : amgL p.1 M = false) : drpF M p = false := by unfold drpF; rw [h, h2]; rfl
theorem drp_kep {M : List ByteArray} {p : F} {q : Bool} (h : amgL p.1 fixN = false) (h2 : amgL p.1 M = true) (h3 : amgL p.1 kepN = q) : drpF M p = !q := by unfold drpF; rw [h, h2, h3]; rfl
set_option maxHeartbeats 4000000 in
theorem rStrip_any (a : Option Addr) (cap n : Nat) (L : List F) (w : World) (S : Box (Sm L)) (hv : Box (∀ x ∈ getL conN L, x.size ≤ 65000)) (hF : Box (Fs w a L)) (hn : Box (L.length = n)) :
    Calls Try.prog 9 #[.slice a n cap] w fun e w' => ∃ v, e = .returned v ∧ OwnF w' w.heap.size v (strL L) ∧ Below w.heap.size w w' := by
  obtain ⟨M, hM⟩ : ∃ M, allB conN L = M := ⟨_, rfl⟩
  have HM := box hM
  have HS : Box (strL L = L.filter fun p => !drpF M p) := box (by unfold strL; rw [hM])
  have HML : Box (M.length ≤ 65536) := box (by rw [← hM]; exact all_count _ _)
  have HMZ : Box (∀ x ∈ M, x.size ≤ 65536) := box (by rw [← hM]; exact fun x hx => Nat.le_trans (allB_mem19 hv.out x hx) (by decide))
  have hl := S.out.1
  have hn2 := hn.out
  clear hM
  obtain ⟨W0, hW0⟩ : ∃ W0, (w.alloc (.cells (fixN.map Value.string).toArray 9)).alloc (.cells (kepN.map Value.string).toArray 9) = W0 := ⟨_, rfl⟩
  have HW := box hW0
  have BW : Box (Below w.heap.size w W0) := box (by rw [← hW0]; exact (below_new w _).trans ((below_new _ _).mono (by simp)))
  have F0 : Box (Ss W0 (some ⟨w.heap.size, 0, none⟩) fixN) := box (by rw [← hW0]; exact (Ss.cells25 fixN w _).below (below_new _ _))
  have K0 : Box (Ss W0 (some ⟨w.heap.size + 1, 0, none⟩) kepN) := box (by
    have h := Ss.cells25 kepN (w.alloc (.cells (fixN.map Value.string).toArray 9)) 9
    rw [show (w.alloc (.cells (fixN.map Value.string).toArray 9)).heap.size = w.heap.size + 1 from by simp] at h
    rw [← hW0]; exact h)
  clear hW0
  have HC := fun (w0 : World) (h : Fs w0 a L) => rAll_is (nm := conN) (cap := cap) (w := w0) S hv (box (by decide)) h HM
  rw [hn2] at HC
  have HC := box HC
  go_enter Try.func9, Try.ntmps9
  go_wp2_with fail
  show Calls _ _ _ ((w.alloc (.cells (fixN.map Value.string).toArray 9)).alloc (.cells (kepN.map Value.string).toArray 9)) _
  rw [HW.out]
  refine (HC.out W0 (hF.out.below BW.out)).mono ?_; rintro e w1 ⟨a1, cap1, rfl, hS1, hb1⟩
  obtain ⟨m, hm2⟩ : ∃ m, M.length = m := ⟨_, rfl⟩
  rw [hm2]
  have HMM := box hm2
  have S1 := box hS1
  have B1 := box (BW.out.trans (hb1.mono BW.out.size))
  have F1 := box (F0.out.below hb1)
  have K1 := box (K0.out.below hb1)
  have hs1 := B1.out.size
  clear hS1 hb1 hm2
  go_wp2
  go_loopw [6, 7] (fun v i wr => RStRel M L w1.heap.size w1 v i wr) (fun _ i _ => L.length - (intOf i).toNat)
  case atStart => exact ⟨0, Nat.zero_le _, rfl, OwnF.nil _ _, Below.refl _ _⟩
  case round =>
    obtain ⟨k, hk, rfl, hO, hbel⟩ := hrel
    have O := box hO
    have BL := box hbel
    have hbs := hbel.size
    clear hO hbel
    by_cases hlt : k < L.length
    · have hkn : (k : Int) < (n : Int) := by omega
      obtain ⟨q, off, rfl, c0, c1⟩ := (hF.out.below (B1.out.trans (BL.out.mono B1.out.size))) k hlt
      have hz := S.out.2 k hlt
      obtain ⟨p, hp⟩ : ∃ p, L[k] = p := ⟨_, rfl⟩
      have HP := box hp
      rw [hp] at c0 c1 hz
      obtain ⟨fn, fv⟩ := p
      clear hp
      obtain ⟨d1, hd1⟩ : ∃ d1, amgL fn fixN = d1 := ⟨_, rfl⟩
      have H1 := box hd1
      obtain ⟨d2, hd2⟩ : ∃ d2, amgL fn M = d2 := ⟨_, rfl⟩
      have H2 := box hd2
      obtain ⟨d3, hd3⟩ : ∃ d3, amgL fn kepN = d3 := ⟨_, rfl⟩
      have H3 := box hd3
      clear hd1 hd2 hd3
      go_wp2_with fail
      refine (rAmong_is (K := fixN) hz.1 (by decide) (box (by decide)) (F1.out.below BL.out) (box (by decide)) H1).mono ?_; rintro e w2 ⟨rfl, hb2⟩
      have B2 := box (BL.out.trans (hb2.mono BL.out.size))
      have O2 := box (own_below O.out hb2)
      have hbs2 := B2.out.size
      have e0 := (hb2.cell (cell_lt c0)).trans c0
      have e1 := (hb2.cell (cell_lt c1)).trans c1
      clear hb2 c0 c1
      cases d1 with
      | true =>
        have HE := box (drop_yes hlt HP.out (drp_fix (M := M) H1.out))
        go_wp2
        go_roundw
        case rel => exact ⟨k + 1, by omega, by go_num, by rw [HE.out]; exact O2.out, B2.out⟩
        case measure => simp [intOf]; omega
      | false =>
        go_wp2_with fail
        refine (rAmong_is (K := M) hz.1 HML.out HMZ (S1.out.below B2.out) HMM H2).mono ?_; rintro e w3 ⟨rfl, hb3⟩
        have B3 := box (B2.out.trans (hb3.mono B2.out.size))
        have O3 := box (own_below O2.out hb3)
        have hbs3 := B3.out.size
        have f0 := (hb3.cell (cell_lt e0)).trans e0
        have f1 := (hb3.cell (cell_lt e1)).trans e1
        clear hb3 e0 e1
        cases d2 with
        | false =>
          have HE := box (drop_no hlt HP.out (drp_not (M := M) H1.out H2.out))
          go_wp2_with (at_builtin; refine wpList_append_fld _ rfl (.tmp 44) (.tmp 49) rfl w1.heap.size _ ((L.take k).filter fun p => !drpF M p) rfl ?a1 _ _ rfl fn fv ?b1 ?b2 ?c1 ?d1 ?_)
          case a1 => exact own_below O3.out (below_new _ _)
          case b1 => go_simp
          case b2 => go_simp
          case c1 => exact drop_len k hl
          case d1 => simp; omega
          intro v' w5 hO5 hb5
          have O5 := box hO5
          clear hO5
          go_wp2
          go_roundw
          case rel => exact ⟨k + 1, by omega, by go_num, by rw [HE.out]; exact O5.out, (B3.out.alloc B3.out.size _).trans hb5⟩
          case measure => simp [intOf]; omega
        | true =>
          go_wp2_with fail
          refine (rAmong_is (K := kepN) hz.1 (by decide) (box (by decide)) (K1.out.below B3.out) (box (by decide)) H3).mono ?_; rintro e w4 ⟨rfl, hb4⟩
          have B4 := box (B3.out.trans (hb4.mono B3.out.size))
          have O4 := box (own_below O3.out hb4)
          have hbs4 := B4.out.size
          have g0 := (hb4.cell (cell_lt f0)).trans f0
          have g1 := (hb4.cell (cell_lt f1)).trans f1
          clear hb4 f0 f1
          cases d3 with
          | true =>
            have HE := box (drop_no hlt HP.out (show drpF M (fn, fv) = false from drp_kep (q := true) H1.out H2.out H3.out))
            go_wp2_with (at_builtin; refine wpList_append_fld _ rfl (.tmp 44) (.tmp 49) rfl w1.heap.size _ ((L.take k).filter fun p => !drpF M p) rfl ?a1 _ _ rfl fn fv ?b1 ?b2 ?c1 ?d1 ?_)
            case a1 => exact own_below O4.out (below_new _ _)
            case b1 => go_simp
            case b2 => go_simp
            case c1 => exact drop_len k hl
            case d1 => simp; omega
            intro v' w5 hO5 hb5
            have O5 := box hO5
            clear hO5
            go_wp2
            go_roundw
            case rel => exact ⟨k + 1, by omega, by go_num, by rw [HE.out]; exact O5.out, (B4.out.alloc B4.out.size _).trans hb5⟩
            case measure => simp [intOf]; omega
          | false =>
            have HE := box (drop_yes hlt HP.out (show drpF M (fn, fv) = true from drp_kep (q := false) H1.out H2.out H3.out))
            go_wp2
            go_roundw
            case rel => exact ⟨k + 1, by omega, by go_num, by rw [HE.out]; exact O4.out, B4.out⟩
            case measure => simp [intOf]; omega
    · have hkn : ¬ (k : Int) < (n : Int) := by omega
      have e : k = L.length := by omega
      have OE := O.out
      rw [e, List.take_length, ← HS.out] at OE
      replace OE := box OE
      clear O e
      go_wp2
      go_ret
      exact ⟨_, rfl, Go.Joins.ownsRow_le OE.out hs1, B1.out.trans (BL.out.mono B1.out.size)⟩
end
section
open Go.RowKit
def InI64 (n : Int) : Prop := -9223372036854775808 ≤ n ∧ n ≤ 9223372036854775807
theorem wrapu_pos {n : Int} (h : InI64 n) (h0 : 0 ≤ n) : IntKind.u64.wrap n = (n.natAbs : Int) := by
  unfold InI64 at h; rw [IntKind.wrap_u64]; omega
theorem wrapu_neg {n : Int} (h : InI64 n) (h0 : n < 0) : IntKind.u64.wrap (-IntKind.u64.wrap n) = (n.natAbs : Int) := by
  unfold InI64 at h; rw [IntKind.wrap_u64, IntKind.wrap_u64]; omega
theorem wrapu_div {N q : Nat} {acc : List UInt8} (h : DecAt N q acc) : IntKind.u64.wrap ((q : Int) / 10) = (q : Int) / 10 := by
  have h2 := h.2.1
  have h3 : q ≤ q * 10 ^ acc.length := Nat.le_mul_of_pos_right _ (Nat.pow_pos (by omega))
  rw [IntKind.wrap_u64]; omega
theorem slice_buf (g p : Nat) (x : Int) (w : World) (hx : x = (p : Int)) (h2 : p < 20) :
    (Instr.sliceAt 48 (.pointer (some ⟨g, 0, none⟩)) (some (.int .i64 x)) none none).run Try.prog w = .ok (.slice (some ⟨g, p, none⟩) (20 - p) (20 - p)) w := by
  have e : Try.prog.arrayLen 48 = 20 := by kernel_rfl
  have e2 : Try.prog.elem 48 = 5 := by kernel_rfl
  have hs : (sizeOf 5).run Try.prog w = .ok 1 w := by kernel_rfl
  have h := run_sliceAt_array_l (P := Try.prog) w 48 ⟨g, 0, none⟩ (by kernel_rfl) .i64 x (by omega) (by rw [e]; omega)
  rw [h, e, e2, hs]
  have e3 : x.toNat = p := by omega
  simp only [Result.andThen, slicedAt, e3]
  rw [if_neg (by omega)]
  have e4 : (⟨g, 0, none⟩ : Addr).add (p * 1) = ⟨g, p, none⟩ := by unfold Addr.add; split <;> simp_all
  rw [e4]
theorem buf_start (w : World) : Bys (w.alloc (.cells (Array.replicate 20 (.int .u8 0)) 48)) w.heap.size (zbuf 20 []) := by
  refine ⟨by simp, fun j hj => ?_⟩
  simp only [zbuf, List.append_nil, List.length_replicate] at hj ⊢
  refine ⟨?_, by go_simp⟩
  rw [World.cell?_alloc_at (hn := rfl), Array.getElem?_replicate, if_pos hj]
  rw [getD_get _ _ (by simpa using hj), List.getElem_replicate]; rfl
/-- 'string(buffer[p:])' -/
theorem str_buf (g p : Nat) (acc : List UInt8) (w : World) (h : Bys w g (zbuf p acc)) (hp : acc.length + p = 20) :
    (convert 45 9 (.slice (some ⟨g, p, none⟩) (20 - p) (20 - p))).run Try.prog w = .ok (.string ⟨acc.toArray⟩) w := by
  have e : 20 - p = acc.length := by omega
  rw [e]
  refine run_convert_bytes_back w 45 9 5 ⟨g, p, none⟩ acc.length acc Try.underlying45 Try.underlying5 Try.underlying9 fun j hj => ?_
  have hc := h.cell (j := p + j) (by simp [zbuf]; omega)
  have ea : (⟨g, p, none⟩ : Addr).add j = ⟨g, p + j, none⟩ := by unfold Addr.add; split <;> simp_all
  rw [ea, hc]
  have : (zbuf p acc).getD (p + j) 0 = acc[j] := by
    simp only [zbuf, List.getD_eq_getElem?_getD]
    rw [List.getElem?_append_right (by simp)]; simp [hj]
  rw [this]; rfl
theorem Decimal_pos (n : Int) (w : World) (h0 : 0 ≤ n) (h1 : InI64 n) :
    Calls Try.prog 23 #[.int .i64 n] w fun e w' => e = .returned (.string ⟨(decL n).toArray⟩) ∧ Below w.heap.size w w' := by
  have H1 := Lib.hid h1
  clear h1
  go_enter Try.func23, Try.ntmps23
  go_wp2
  go_loopw [3, 5] (fun m i wr => ∃ (q p : Nat) (acc : List UInt8), m = .int .u64 q ∧ i = .int .i64 p ∧ acc.length + p = 20 ∧ Bys wr w.heap.size (zbuf p acc) ∧ DecAt n.natAbs q acc ∧ Below w.heap.size w wr) (fun _ i _ => (intOf i).toNat)
  case atStart =>
    refine ⟨_, 20, [], by rw [wrapu_pos H1.out h0], rfl, rfl, ?_, DecAt.start (by have := H1.out; unfold InI64 at this; omega), (Below.refl _ _).alloc (Nat.le_refl _) _⟩
    exact buf_start w
  case round =>
    obtain ⟨q, p, acc, rfl, rfl, hp, hB, hD, hbel⟩ := hrel
    have hl := hD.len
    have hp1 : 2 ≤ p := by omega
    have hp2 : p ≤ 20 := by omega
    have HP := Lib.hid hp
    obtain ⟨cv, hc⟩ : ∃ cv, wr.cell? ⟨w.heap.size, p - 1, none⟩ = some cv := ⟨_, hB.cell (by simp [zbuf]; omega)⟩
    have hf : wr.frozen? ⟨w.heap.size, p - 1, none⟩ = false := hB.frozen (by simp [zbuf]; omega)
    have hset := hB.set (k := p - 1) (by simp [zbuf]; omega) (digB q)
    rw [zbuf_set _ (by omega), bv, dig_toNat] at hset
    have HS := Lib.hid hset
    have hbs := Lib.hid (hbel.setCell (p := ⟨w.heap.size, p - 1, none⟩) (Nat.le_refl _) (.int .u8 (48 + (q : Int) % 10)))
    have hw := wrapu_div hD
    have hsl := fun wx => slice_buf w.heap.size (p - 1) ((p : Int) - 1) wx (by omega) (by omega)
    clear hp hset
    by_cases hm : q / 10 = 0
    · have hst := str_buf _ _ _ _ HS.out (by have := HP.out; simp; omega)
      have hm' : ((q : Int) / 10 == 0) = true := by simp; omega
      have HF := Lib.hid (hD.fin hm)
      clear hm
      go_wp2
      go_ret
      exact ⟨by rw [decL, if_neg (by omega), HF.out]; rfl, hbs.out⟩
    · have hm' : ((q : Int) / 10 == 0) = false := by simp; omega
      have HF := Lib.hid (hD.step hm)
      clear hm
      go_wp2
      go_roundw
      case rel => exact ⟨q / 10, p - 1, _, by go_num, by go_num, by have := HP.out; simp; omega, HS.out, HF.out, hbs.out⟩
      case measure => simp [intOf]; omega
theorem Decimal_neg (n : Int) (w : World) (h0 : n < 0) (h1 : InI64 n) :
    Calls Try.prog 23 #[.int .i64 n] w fun e w' => e = .returned (.string ⟨(decL n).toArray⟩) ∧ Below w.heap.size w w' := by
  have H1 := Lib.hid h1
  clear h1
  go_enter Try.func23, Try.ntmps23
  go_wp2
  go_loopw [3, 5] (fun m i wr => ∃ (q p : Nat) (acc : List UInt8), m = .int .u64 q ∧ i = .int .i64 p ∧ acc.length + p = 20 ∧ Bys wr w.heap.size (zbuf p acc) ∧ DecAt n.natAbs q acc ∧ Below w.heap.size w wr) (fun _ i _ => (intOf i).toNat)
  case atStart =>
    refine ⟨_, 20, [], by rw [wrapu_neg H1.out h0], rfl, rfl, ?_, DecAt.start (by have := H1.out; unfold InI64 at this; omega), (Below.refl _ _).alloc (Nat.le_refl _) _⟩
    exact buf_start w
  case round =>
    obtain ⟨q, p, acc, rfl, rfl, hp, hB, hD, hbel⟩ := hrel
    have hl := hD.len
    have hp1 : 2 ≤ p := by omega
    have hp2 : p ≤ 20 := by omega
    have HP := Lib.hid hp
    obtain ⟨cv, hc⟩ : ∃ cv, wr.cell? ⟨w.heap.size, p - 1, none⟩ = some cv := ⟨_, hB.cell (by simp [zbuf]; omega)⟩
    have hf : wr.frozen? ⟨w.heap.size, p - 1, none⟩ = false := hB.frozen (by simp [zbuf]; omega)
    have hset := hB.set (k := p - 1) (by simp [zbuf]; omega) (digB q)
    rw [zbuf_set _ (by omega), bv, dig_toNat] at hset
    have HS := Lib.hid hset
    have hbs := Lib.hid (hbel.setCell (p := ⟨w.heap.size, p - 1, none⟩) (Nat.le_refl _) (.int .u8 (48 + (q : Int) % 10)))
    have hw := wrapu_div hD
    have hsl := fun wx => slice_buf w.heap.size (p - 1) ((p : Int) - 1) wx (by omega) (by omega)
    clear hp hset
    by_cases hm : q / 10 = 0
    · obtain ⟨cv2, hc2⟩ : ∃ cv, (wr.setCell ⟨w.heap.size, p - 1, none⟩ (.int .u8 (48 + (q : Int) % 10))).cell? ⟨w.heap.size, p - 1 - 1, none⟩ = some cv := ⟨_, HS.out.cell (by simp [zbuf]; omega)⟩
      have hf2 : wr.frozen? ⟨w.heap.size, p - 1 - 1, none⟩ = false := hB.frozen (by simp [zbuf]; omega)
      have hset2 := HS.out.set (k := p - 1 - 1) (by simp [zbuf]; omega) 45
      rw [zbuf_set _ (by omega), show bv 45 = .int .u8 45 from rfl] at hset2
      have hst := str_buf _ _ _ _ hset2 (by have := HP.out; simp; omega)
      have hbs2 := Lib.hid (hbs.out.setCell (p := ⟨w.heap.size, p - 1 - 1, none⟩) (Nat.le_refl _) (.int .u8 45))
      have hsl := fun wx => slice_buf w.heap.size (p - 1 - 1) ((p : Int) - 1 - 1) wx (by omega) (by omega)
      clear hset2
      have hm' : ((q : Int) / 10 == 0) = true := by simp; omega
      have HF := Lib.hid (hD.fin hm)
      clear hm
      go_wp2
      go_ret
      exact ⟨by rw [decL, if_pos (by omega), HF.out]; rfl, hbs2.out⟩
    · have hm' : ((q : Int) / 10 == 0) = false := by simp; omega
      have HF := Lib.hid (hD.step hm)
      clear hm
      go_wp2
      go_roundw
      case rel => exact ⟨q / 10, p - 1, _, by go_num, by go_num, by have := HP.out; simp; omega, HS.out, HF.out, hbs.out⟩
      case measure => simp [intOf]; omega
theorem Decimal_any (n : Int) (w : World) (h1 : InI64 n) :
    Calls Try.prog 23 #[.int .i64 n] w fun e w' => e = .returned (.string ⟨(decL n).toArray⟩) ∧ Below w.heap.size w w' := by
  by_cases h : 0 ≤ n
  · exact Decimal_pos n w h h1
  · exact Decimal_neg n w (by omega) h1
end
section
open Go.RowKit
/-- append of the bytes of a slice of the call's own, nil or not -/
theorem wpList_append_bytes (w : World) {ops : Array Oper} {rest : List Oper} {o : Oper} {a : Act} {Q : Exit → Act → World → Prop} (hgd : o.guard = none) (s x : Operand)
    (ho : o.op = .call { callee := .builtin .append, args := #[s, x], argTypes := #[45, 45] })
    (B : Nat) (v : Value) (l : List UInt8) (hs : a.eval s = v) (hown : Own w B v l)
    (v2 : Value) (l2 : List UInt8) (hx : a.eval x = v2) (hown2 : Own w B v2 l2) (hl : l.length + l2.length < 8589934592) (hB : B ≤ w.heap.size)
    (h : ∀ v' w', Own w' B v' (l ++ l2) → Below B w w' → wpList Try.prog ops Q rest (a.put o.dst v') w') : wpList Try.prog ops Q (o :: rest) a w := by
  obtain ⟨i0, hi0, hz0, hz1, hz2⟩ := info_parts info_u8
  rcases hown2.2 with ⟨rfl, hn⟩ | ⟨g, cap, cur, rfl, hb, hh, hnc, hcm, hcs, htake⟩
  · have e : l2 = [] := by simpa using hn
    subst e
    refine wpList_append_own_none (P := Try.prog) (w := w) hgd s x 45 ho B 5 i0 1 Try.underlying45 hi0 v l.length (l.map bv) hs hown hx ?_
    exact h v w (by simpa using hown) (Below.refl _ _)
  · refine wpList_append_own (P := Try.prog) w hgd s x 45 ho B 5 i0 _ 1 1 Try.underlying45 hi0 hz0 hz1 hz2 rfl (by decide) v l.length (l.map bv) hs hown ⟨g, 0, none⟩ l2.length cap (l2.map bv) hx (by simp) ?_ (bv_oneCell l2) (by unfold maxLen; omega) (by omega) hB ?_
    · intro j u hj
      have ea : (⟨g, 0, none⟩ : Addr).add j = ⟨g, j, none⟩ := by unfold Addr.add; split <;> simp_all
      have hj' := (List.getElem?_eq_some_iff.1 hj).1
      rw [ea, World.ownsRow.cellAt hown2 j (by simpa using hj')]; exact hj
    · intro v' w' h1 h2 _
      exact h v' w' (by simpa [Own] using h1) ((Below.refl _ _).grown h2 hB (fun k hk => Own.block hown k hk))
/-- how far the digits have come -/
def RDec (N m : Nat) (acc : List UInt8) : Prop := DecAt N m acc ∨ (m = 0 ∧ 1 ≤ acc.length ∧ acc.length ≤ 19 ∧ decF 20 N [] = acc)
theorem RDec.next {N m : Nat} {acc : List UInt8} (h : DecAt N m acc) : RDec N (m / 10) (digB m :: acc) := by
  by_cases hm : m / 10 = 0
  · have := h.len
    exact .inr ⟨hm, by simp, by simp; omega, h.fin hm⟩
  · exact .inl (h.step hm)
theorem Own.fresh (w : World) (B : Nat) (d : UInt8) (b : Int) (hb : b = (d.toNat : Int)) (hB : B ≤ w.heap.size) : Own (w.alloc (.cells #[.int .u8 b] 5)) B (.slice (some ⟨w.heap.size, 0, none⟩) 1 1) [d] := by
  subst hb
  exact ⟨rfl, .inr ⟨_, _, _, rfl, hB, heap_alloc_new w _, Nat.le_refl _, by unfold maxLen; omega, rfl, rfl⟩⟩
theorem wrap_div {N m : Nat} {acc : List UInt8} (h : DecAt N m acc) : wrap64 ((m : Int) / 10) = (m : Int) / 10 := by
  have h2 := h.2.1
  have h3 : m ≤ m * 10 ^ acc.length := Nat.le_mul_of_pos_right _ (Nat.pow_pos (by omega))
  exact IntWalk.wrap64_in _ (by omega)
theorem wrap_ndiv {N m : Nat} {acc : List UInt8} (h : DecAt N m acc) : wrap64 (-((m : Int) / 10)) = -((m : Int) / 10) := by
  have h2 := h.2.1
  have h3 : m ≤ m * 10 ^ acc.length := Nat.le_mul_of_pos_right _ (Nat.pow_pos (by omega))
  exact IntWalk.wrap64_in _ (by omega)
theorem RDec.step {N m : Nat} {acc : List UInt8} (h : DecAt N m acc) : Hid (RDec N (m / 10) (digB m :: acc)) := Lib.hid (RDec.next h)
theorem rDecimal_pos (n : Int) (w : World) (h0 : 0 ≤ n) (h1 : InI64 n) :
    Calls Try.prog 24 #[.int .i64 n] w fun e w' => e = .returned (.string ⟨(decL n).toArray⟩) ∧ Below w.heap.size w w' := by
  obtain ⟨N, rfl⟩ := Int.eq_ofNat_of_zero_le h0
  have H1 := Lib.hid h1
  clear h1
  go_enter Try.func24, Try.ntmps24
  go_wp2
  go_loopw [0, 3, 5, 6] (fun n b k _ wr => ∃ (m : Nat) (acc : List UInt8), n = .int .i64 m ∧ k = .int .i64 acc.length ∧ Own wr w.heap.size b acc ∧ Hid (RDec N m acc) ∧ Below w.heap.size w wr) (fun n _ k _ _ => 20 - (intOf k).toNat)
  case atStart => exact ⟨N, [], rfl, rfl, Own.nil _ _, Lib.hid (.inl (DecAt.start (by have := H1.out; unfold InI64 at this; omega))), Below.refl _ _⟩
  case round =>
    obtain ⟨m, acc, rfl, rfl, hO, hR, hbel⟩ := hrel
    rcases hR.out with hD | ⟨rfl, ha1, ha2, ha3⟩
    · have hlen := hD.len
      have HD := Lib.hid hD
      have hw := wrap_div hD
      have HN := RDec.step hD
      clear hD
      by_cases hm : m = 0
      · have hm1 : ((m : Int) != 0) = false := by simp [hm]
        have hm2 : ((acc.length : Int) == 0) = true := by rcases HD.out.2.2 with h | h <;> simp [h] ; omega
        clear hm
        go_wp2_with (at_builtin; refine wpList_append_bytes _ rfl _ _ rfl w.heap.size _ [digB m] rfl (Own.fresh _ _ _ _ (dig_toNat m).symm hbel.size) _ acc rfl (hO.alloc _) (by simp; omega) (by have := hbel.size; simp; omega) ?_; intro v' w1 hO1 hb1)
        go_roundw
        case rel => exact ⟨m / 10, digB m :: acc, by go_num, by go_num, hO1, HN, (hbel.alloc hbel.size _).trans hb1⟩
        case measure => simp [intOf]; omega
      · have hm1 : ((m : Int) != 0) = true := by simp [hm]
        clear hm
        go_wp2_with (at_builtin; refine wpList_append_bytes _ rfl _ _ rfl w.heap.size _ [digB m] rfl (Own.fresh _ _ _ _ (dig_toNat m).symm hbel.size) _ acc rfl (hO.alloc _) (by simp; omega) (by have := hbel.size; simp; omega) ?_; intro v' w1 hO1 hb1)
        go_roundw
        case rel => exact ⟨m / 10, digB m :: acc, by go_num, by go_num, hO1, HN, (hbel.alloc hbel.size _).trans hb1⟩
        case measure => simp [intOf]; omega
    · have hst := hO.str
      have hm2 : ((acc.length : Int) == 0) = false := by simp; intro h; simp [h] at ha1
      have HA := Lib.hid ha3
      clear ha3
      go_wp2
      go_ret
      exact ⟨by rw [decL, if_neg (by omega), show ((N : Int)).natAbs = N from rfl, HA.out]; rfl, hbel⟩
theorem rDecimal_neg (N : Nat) (w : World) (h0 : 1 ≤ N) (h1 : InI64 (-(N : Int))) :
    Calls Try.prog 24 #[.int .i64 (-(N : Int))] w fun e w' => e = .returned (.string ⟨(decL (-(N : Int))).toArray⟩) ∧ Below w.heap.size w w' := by
  have H1 := Lib.hid h1
  clear h1
  go_enter Try.func24, Try.ntmps24
  go_wp2
  go_loopw [0, 3, 5, 6] (fun n b k _ wr => ∃ (m : Nat) (acc : List UInt8), n = .int .i64 (-(m : Int)) ∧ k = .int .i64 acc.length ∧ Own wr w.heap.size b acc ∧ Hid (RDec N m acc) ∧ Below w.heap.size w wr) (fun n _ k _ _ => 20 - (intOf k).toNat)
  case atStart => exact ⟨N, [], rfl, rfl, Own.nil _ _, Lib.hid (.inl (DecAt.start (by have := H1.out; unfold InI64 at this; omega))), Below.refl _ _⟩
  case round =>
    obtain ⟨m, acc, rfl, rfl, hO, hR, hbel⟩ := hrel
    rcases hR.out with hD | ⟨rfl, ha1, ha2, ha3⟩
    · have hlen := hD.len
      have HD := Lib.hid hD
      have hw := wrap_ndiv hD
      have HN := RDec.step hD
      clear hD
      by_cases hm : m = 0
      · have hm1 : (-(m : Int) != 0) = false := by simp [hm]
        have hm2 : ((acc.length : Int) == 0) = true := by rcases HD.out.2.2 with h | h <;> simp [h] ; omega
        have hd : ¬ 0 < (m : Int) % 10 := by omega
        clear hm
        go_wp2_with (at_builtin; refine wpList_append_bytes _ rfl _ _ rfl w.heap.size _ [digB m] rfl (Own.fresh _ _ _ _ (by have := dig_toNat m; omega) hbel.size) _ acc rfl (hO.alloc _) (by simp; omega) (by have := hbel.size; simp; omega) ?_; intro v' w1 hO1 hb1)
        go_roundw
        case rel => exact ⟨m / 10, digB m :: acc, by go_num, by go_num, hO1, HN, (hbel.alloc hbel.size _).trans hb1⟩
        case measure => simp [intOf]; omega
      · have hm1 : (-(m : Int) != 0) = true := by simp [hm]
        clear hm
        by_cases hd : 0 < (m : Int) % 10
        all_goals
          go_wp2_with (at_builtin; refine wpList_append_bytes _ rfl _ _ rfl w.heap.size _ [digB m] rfl (Own.fresh _ _ _ _ (by have := dig_toNat m; omega) hbel.size) _ acc rfl (hO.alloc _) (by simp; omega) (by have := hbel.size; simp; omega) ?_; intro v' w1 hO1 hb1)
          go_roundw
          case rel => exact ⟨m / 10, digB m :: acc, by go_num, by go_num, hO1, HN, (hbel.alloc hbel.size _).trans hb1⟩
          case measure => simp [intOf]; omega
    · have hst := hO.str
      have hm2 : ((acc.length : Int) == 0) = false := by simp; intro h; simp [h] at ha1
      have HA := Lib.hid ha3
      clear ha3
      go_wp2
      go_ret
      exact ⟨by rw [decL, if_pos (by omega), show (-(N : Int)).natAbs = N from by omega, HA.out]; rfl, hbel⟩
theorem rDecimal_any (n : Int) (w : World) (h1 : InI64 n) :
    Calls Try.prog 24 #[.int .i64 n] w fun e w' => e = .returned (.string ⟨(decL n).toArray⟩) ∧ Below w.heap.size w w' := by
  by_cases h : 0 ≤ n
  · exact rDecimal_pos n w h h1
  · obtain ⟨N, rfl⟩ : ∃ N : Nat, n = -(N : Int) := ⟨n.natAbs, by omega⟩
    exact rDecimal_neg N w (by omega) h1
end
section
open Go.RowKit
theorem inI64 {n : Int} (h : (Lit.int .i64 n).wf = true) : InI64 n := by
  unfold InI64
  simp [Lit.wf, IntKind.min, IntKind.max, IntKind.bits, IntKind.signed] at h
  omega
theorem decL_size (n : Int) : (⟨(decL n).toArray⟩ : ByteArray).size ≤ 21 := by
  have h : ∀ f m acc, (decF f m acc).length ≤ f + acc.length := fun f => by
    induction f with
    | zero => intro m acc; simp [decF]
    | succ f ih =>
      intro m acc
      unfold decF; split
      · simp; omega
      · have := ih (m / 10) (digB m :: acc); simp at this; omega
  have h2 := h 20 n.natAbs []
  show (decL n).toArray.size ≤ 21
  rw [List.size_toArray]; unfold decL; split
  · simp at h2 ⊢; omega
  · simp at h2; omega
end
section
open Go.RowKit Go.ChangeShapes Go.WideShapes Go.Deep
def strOf : Value → ByteArray
  | .string s => s
  | _ => ByteArray.empty
theorem laid : laidOutB Try.prog = true := by kernel_rfl
theorem open_fields {H : Type} {enc : TypeId × Value → H} {W : World} {base : Nat} {sp : Nat → Bool} {held : Bool} {r : Reach} {b0 : Nat} {v : Value} {d : DataW H} {p : List MemPlace}
    (hval : Value.okWide Try.prog W r b0 22 v) (h : DataW.Trod enc Try.prog W base sp held 22 v d p) :
    ∃ (a : Option Addr) (cap : Nat) (L : List F), v = .slice a L.length cap ∧ L.length ≤ maxLen ∧ Fs W a L ∧ L.length ≤ cap := by
  obtain ⟨a0, len, cap, rfl⟩ := okWide_slice Try.underlying22 hval
  obtain ⟨fuel, hf⟩ := h
  rcases open_slice_pairs Try.underlying22 Try.underlying35 (by kernel_rfl) rfl rfl (by kernel_rfl) (by kernel_rfl) hf with ⟨hcs, hx⟩ | ⟨a, len', cap', m, n, V0, V1, D0, D1, P0, P1, hcs, _, hl, hm, hmm, hx, hi⟩
  · simp [Value.cells] at hcs
    obtain ⟨rfl, rfl, rfl⟩ := hcs
    exact ⟨none, 0, [], rfl, Nat.zero_le _, fun i hi => absurd hi (by simp), Nat.le_refl _⟩
  · simp [Value.cells] at hcs
    obtain ⟨rfl, rfl, rfl⟩ := hcs
    have hlm : len ≤ m := by rw [hmm]; split <;> omega
    refine ⟨some a, cap, (List.range len).map fun i => (strOf (V0 i), strOf (V1 i)), by simp, by simp; omega, fun i hi2 => ?_, by simp; omega⟩
    have hil : i < len := by simpa using hi2
    obtain ⟨g, off, spot⟩ := a
    obtain ⟨z0, _, _, _⟩ := hi 0 (by omega)
    have hspot : spot = none := by simpa [Addr.add] using World.cell?_spot z0
    subst hspot
    obtain ⟨k0, k1, t0, t1⟩ := hi i (by omega)
    obtain ⟨s0, e0, _, _⟩ := DataW.trod_string Try.underlying9 t0
    obtain ⟨s1, e1, _, _⟩ := DataW.trod_string Try.underlying9 t1
    rw [add_plain] at k0 k1
    simp at e0 e1
    refine ⟨g, off, rfl, ?_, ?_⟩
    · rw [k0, e0]; simp [strOf, e0]
    · rw [← Nat.add_assoc] at k1
      rw [k1, e1]; simp [strOf, e1]
end
end Go.Proofs.Ytgagaebgiioeoaa.Asc
