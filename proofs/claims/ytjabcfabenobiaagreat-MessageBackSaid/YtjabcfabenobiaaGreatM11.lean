/- Merged texts: MsgRd MsgRd2 MsgRd3 MsgRef7. -/
import Derived.Test.YtjabcfabenobiaaGreatM06
import Derived.Test.YtjabcfabenobiaaGreatM07
import Derived.Test.YtjabcfabenobiaaGreatM08
import Derived.Test.YtjabcfabenobiaaGreatM09
import Derived.Test.YtjabcfabenobiaaGreatM10
import Derived.Deep.LoopGhost
import Derived.Deep.RegionHeld3
import Derived.Deep.RegionLaw
set_option linter.unusedVariables false
set_option linter.unusedSimpArgs false
set_option maxRecDepth 100000
namespace Go.Proofs.YtjabcfabenobiaaGreat.Asc
section
open Go.RowKit
/-- all is as it was, but for the first five cells of block g -/
structure Kept (g : Nat) (w w' : World) : Prop where
  only : Only g w w'
  tail : ∀ i, 5 ≤ i → w'.cell? ⟨g, i, none⟩ = w.cell? ⟨g, i, none⟩ ∧ w'.frozen? ⟨g, i, none⟩ = w.frozen? ⟨g, i, none⟩
theorem Kept.refl (g : Nat) (w : World) : Kept g w w := ⟨Only.refl _ _, fun _ _ => ⟨rfl, rfl⟩⟩
theorem Kept.trans {g : Nat} {a b c : World} (h : Kept g a b) (k : Kept g b c) : Kept g a c :=
  ⟨h.only.trans k.only, fun i hi => ⟨(k.tail i hi).1.trans (h.tail i hi).1, (k.tail i hi).2.trans (h.tail i hi).2⟩⟩
theorem Kept.of {g : Nat} {w w' : World} (h : Below w.heap.size w w') (hg : g < w.heap.size) : Kept g w w' := ⟨Only.of h, fun i _ => ⟨h.cell hg, h.frozen hg⟩⟩
theorem Kept.set {g i : Nat} {w w' : World} (h : Kept g w w') (hi : i < 5) (v : Value) : Kept g w (w'.setCell ⟨g, i, none⟩ v) :=
  ⟨h.only.setAt i v, fun j hj => ⟨(World.cell?_setCell_other _ _ _ _ (by simp <;> omega)).trans (h.tail j hj).1, by rw [World.frozen?_setCell]; exact (h.tail j hj).2⟩⟩
theorem Kept.below {g : Nat} {w0 w w' : World} (h : Kept g w w') (hb : Below w0.heap.size w0 w) (hg : w0.heap.size ≤ g) : Below w0.heap.size w0 w' := hb.trans (h.only.below hg hb.size)
section
variable {g : Nat} {c0 c1 c2 c3 c4 : Value} {w : World}
theorem C5.set1 (f : C5 g c0 c1 c2 c3 c4 w) (v : Value) : C5 g c0 v c2 c3 c4 (w.setCell ⟨g, 1, none⟩ v) := by
  obtain ⟨⟨h0, h1, h2, h3, h4⟩, f0⟩ := f
  refine ⟨⟨?_, ?_, ?_, ?_, ?_⟩, by simpa only [World.frozen?_setCell] using f0⟩
  all_goals first
    | (rw [World.cell?_setCell_same (h := h1)])
    | exact (World.cell?_setCell_other _ _ _ _ (by simp)).trans (by assumption)
theorem C5.set2 (f : C5 g c0 c1 c2 c3 c4 w) (v : Value) : C5 g c0 c1 v c3 c4 (w.setCell ⟨g, 2, none⟩ v) := by
  obtain ⟨⟨h0, h1, h2, h3, h4⟩, f0⟩ := f
  refine ⟨⟨?_, ?_, ?_, ?_, ?_⟩, by simpa only [World.frozen?_setCell] using f0⟩
  all_goals first
    | (rw [World.cell?_setCell_same (h := h2)])
    | exact (World.cell?_setCell_other _ _ _ _ (by simp)).trans (by assumption)
theorem C5.set3 (f : C5 g c0 c1 c2 c3 c4 w) (v : Value) : C5 g c0 c1 c2 v c4 (w.setCell ⟨g, 3, none⟩ v) := by
  obtain ⟨⟨h0, h1, h2, h3, h4⟩, f0⟩ := f
  refine ⟨⟨?_, ?_, ?_, ?_, ?_⟩, by simpa only [World.frozen?_setCell] using f0⟩
  all_goals first
    | (rw [World.cell?_setCell_same (h := h3)])
    | exact (World.cell?_setCell_other _ _ _ _ (by simp)).trans (by assumption)
theorem C5.set4 (f : C5 g c0 c1 c2 c3 c4 w) (v : Value) : C5 g c0 c1 c2 c3 v (w.setCell ⟨g, 4, none⟩ v) := by
  obtain ⟨⟨h0, h1, h2, h3, h4⟩, f0⟩ := f
  refine ⟨⟨?_, ?_, ?_, ?_, ?_⟩, by simpa only [World.frozen?_setCell] using f0⟩
  all_goals first
    | (rw [World.cell?_setCell_same (h := h4)])
    | exact (World.cell?_setCell_other _ _ _ _ (by simp)).trans (by assumption)
end
theorem host_un (K : List F) : getL hostN (unfrL K) = getL hostN K := by
  have key : ∀ p : F, nmd hostN p = true → nmd clN p = false ∧ nmd teN p = false := by
    intro p h
    unfold nmd foldL at *
    simp only [decide_eq_true_eq, decide_eq_false_iff_not] at *
    constructor
    · intro e; rw [h] at e; exact absurd e (by decide +kernel)
    · intro e; rw [h] at e; exact absurd e (by decide +kernel)
  unfold unfrL getL remL
  rw [List.filter_filter, List.filter_filter]
  congr 1
  apply List.filter_congr
  intro p _
  rcases hp : nmd hostN p with _ | _
  · simp
  · obtain ⟨k1, k2⟩ := key p hp
    simp [k1, k2]
theorem bytesRead_any (g : Nat) (s x : ByteArray) (v f l : Value) (w : World) (hs : s.size ≤ 4000000) (hx : x.size ≤ 4000000) (C : Box (C5 g (.string s) (.string x) v f l w)) :
    Calls Tryz.prog 27 #[.pointer (some ⟨g, 0, none⟩)] w fun e w' => e = .returned (.int .i64 ((s.size : Int) - (x.size : Int))) ∧ Below w.heap.size w w' := by
  obtain ⟨⟨c0, c1, c2, c3, c4⟩, _⟩ := C.out
  go_enter Tryz.func27, Tryz.ntmps27
  go_wp2
  go_quiet (fail)
  go_wp2
  go_ret
  exact ⟨rfl, below_drewN _ _⟩
theorem cLine_is {x : ByteArray} {o : Int ⊕ (List UInt8 × List UInt8)} {w : World} (hx : x.size ≤ 4000000) (h : Box (nextL x.data.toList = o)) :
    Calls Tryz.prog 89 #[.string x] w fun e w' => e = .returned (lineV o) ∧ Below w.heap.size w w' :=
  (cLine_any x w hx).mono fun e w' ⟨h1, h2⟩ => ⟨by rw [h1, h.out], h2⟩
theorem cLine_ok {x x1 : ByteArray} {t : List UInt8} {w : World} (hx : x.size ≤ 4000000) (h : Box (nextL x.data.toList = .inr (t, x1.data.toList))) :
    Calls Tryz.prog 89 #[.string x] w fun e w' => e = .returned (.tuple #[.string (bs t), .string x1, .int .i64 0]) ∧ Below w.heap.size w w' :=
  (cLine_any x w hx).mono fun e w' ⟨h1, h2⟩ => ⟨by rw [h1, h.out]; rfl, h2⟩
def hlV (x : ByteArray) (c : Int) : Value := .tuple #[.string x, .int .i64 c]
theorem nh_bad (g : Nat) (s x : ByteArray) (v f l : Value) (w : World) (hx : x.size ≤ 4000000) (e0 : Int) (he : (e0 != 0) = true) (HN : Box (nextL x.data.toList = .inl e0)) (C : Box (C5 g (.string s) (.string x) v f l w)) :
    Calls Tryz.prog 71 #[.pointer (some ⟨g, 0, none⟩)] w fun e w' => e = .returned (hlV ⟨#[]⟩ e0) ∧ Kept g w w' := by
  have hlt := C.out.lt
  obtain ⟨⟨c0, c1, c2, c3, c4⟩, _⟩ := C.out
  go_enter Tryz.func71, Tryz.ntmps71
  go_wp2_with fail
  refine (cLine_is hx HN).mono ?_; rintro e w1 ⟨rfl, hb1⟩; unfold lineV
  have K1 := box (Kept.of hb1 hlt)
  clear hb1 c0 c1 c2 c3 c4
  go_wp2
  go_ret2
  exact ⟨rfl, K1.out⟩
theorem nh_any (g : Nat) (s x x1 : ByteArray) (t : List UInt8) (v f l : Value) (w : World) (hs : s.size ≤ 4000000) (hx : x.size ≤ 4000000) (hx1 : x1.size ≤ 4000000) (HN : Box (nextL x.data.toList = .inr (t, x1.data.toList))) (C : Box (C5 g (.string s) (.string x) v f l w)) :
    Calls Tryz.prog 71 #[.pointer (some ⟨g, 0, none⟩)] w fun e w' =>
      e = .returned (if (16000 : Int) < (s.size : Int) - (x1.size : Int) then hlV ⟨#[]⟩ 4 else hlV (bs t) 0) ∧ C5 g (.string s) (.string x1) v f l w' ∧ Kept g w w' := by
  have hlt := C.out.lt
  obtain ⟨⟨c0, c1, c2, c3, c4⟩, _⟩ := C.out
  by_cases hz : (16000 : Int) < (s.size : Int) - (x1.size : Int)
  · rw [if_pos hz]
    go_enter Tryz.func71, Tryz.ntmps71
    go_wp2_with fail
    refine (cLine_ok hx HN).mono ?_; rintro e w1 ⟨rfl, hb1⟩
    have C1 := C.out.next hb1
    have K1 := box ((Kept.of hb1 hlt).set (i := 1) (by omega) (.string x1))
    have C2 := box (C1.set1 (.string x1))
    clear hb1 c0 c1 c2 c3 c4
    obtain ⟨⟨c0, c1, c2, c3, c4⟩, ⟨f0, f1, f2, f3, f4⟩⟩ := C1
    go_wp2_with fail
    refine (bytesRead_any g s x1 v f l _ hs hx1 C2).mono ?_; rintro e w2 ⟨rfl, hb2⟩
    have C3 := box (C2.out.next hb2)
    have K2 := box (K1.out.trans (Kept.of hb2 C2.out.lt))
    clear hb2
    go_wp2
    go_ret2
    exact ⟨rfl, C3.out, K2.out⟩
  · rw [if_neg hz]
    go_enter Tryz.func71, Tryz.ntmps71
    go_wp2_with fail
    refine (cLine_ok hx HN).mono ?_; rintro e w1 ⟨rfl, hb1⟩
    have C1 := C.out.next hb1
    have K1 := box ((Kept.of hb1 hlt).set (i := 1) (by omega) (.string x1))
    have C2 := box (C1.set1 (.string x1))
    clear hb1 c0 c1 c2 c3 c4
    obtain ⟨⟨c0, c1, c2, c3, c4⟩, ⟨f0, f1, f2, f3, f4⟩⟩ := C1
    go_wp2_with fail
    refine (bytesRead_any g s x1 v f l _ hs hx1 C2).mono ?_; rintro e w2 ⟨rfl, hb2⟩
    have C3 := box (C2.out.next hb2)
    have K2 := box (K1.out.trans (Kept.of hb2 C2.out.lt))
    clear hb2
    go_wp2
    go_ret2
    exact ⟨rfl, C3.out, K2.out⟩
end
section
open Go.RowKit
def RdFPost (B g : Nat) (s : ByteArray) (f l : Value) (o : Int ⊕ (List UInt8 × List F × Nat × List UInt8)) (e : Ending) (w' : World) : Prop := match o with
  | .inl c => e = .returned (.int .i64 c) ∧ (c = 0 → False)
  | .inr (st, L, n, r) => e = .returned (.int .i64 0) ∧ ∃ v x, OwnF w' B v L ∧ C5 g (.string s) (.string x) v f l w' ∧ x.data.toList = r ∧ n + x.size = s.size ∧ L.length ≤ 64
def FldRel (g : Nat) (s : ByteArray) (f l : Value) (rq : Bool) (st : List UInt8) (o : Int ⊕ (List UInt8 × List F × Nat × List UInt8)) (w : World) (gk : Nat) (wr : World) : Prop :=
  ∃ (n : Nat) (x : ByteArray) (v : Value) (L : List F), L.length + gk = 65 ∧ 1 ≤ gk ∧ n + x.size = s.size ∧ o = headF (gk + 1) rq (L.length + 1) st L n x.data.toList ∧ OwnF wr w.heap.size v L ∧ C5 g (.string s) (.string x) v f l wr ∧ Kept g w wr
theorem Kept.ext {g : Nat} {w w1 w2 : World} (h : Kept g w w1) (hb : Below w.heap.size w1 w2) (hg : g < w.heap.size) : Kept g w w2 :=
  ⟨⟨hb.os.trans h.only.os, hb.tape.trans h.only.tape, hb.output.trans h.only.output, Nat.le_trans h.only.size hb.size, fun j hj hk => (hb.block j hj).trans (h.only.block j hj hk)⟩,
    fun i hi => ⟨(hb.cell hg).trans (h.tail i hi).1, (hb.frozen hg).trans (h.tail i hi).2⟩⟩
theorem size_next {n : Nat} {s x x1 : ByteArray} {t : List UInt8} (hn : n + x.size = s.size) (h : nextL x.data.toList = .inr (t, x1.data.toList)) : (n + t.length + 2) + x1.size = s.size ∧ t.length ≤ 2000 := by
  obtain ⟨h1, _, h3⟩ := next_line h
  have := congrArg List.length h1
  simp at this
  omega
set_option maxHeartbeats 4000000 in
theorem readFields_any (g : Nat) (s x : ByteArray) (rq : Bool) (st : List UInt8) (n : Nat) (f l : Value) (w : World) (hs : s.size ≤ 4000000) (hn : n + x.size = s.size) (C : Box (C5 g (.string s) (.string x) (.slice none 0 0) f l w)) (o : Int ⊕ (List UInt8 × List F × Nat × List UInt8)) (HO : Box (headF 66 rq 1 st [] n x.data.toList = o)) :
    Calls Tryz.prog 72 #[.pointer (some ⟨g, 0, none⟩)] w fun e w' => RdFPost w.heap.size g s f l o e w' ∧ Kept g w w' := by
  have hgw := C.out.lt
  go_enter Tryz.func72, Tryz.ntmps72
  go_wp2
  go_loopg [] 65 (fun gk wr => FldRel g s f l rq st o w gk wr)
  case atStart => exact ⟨n, x, _, [], rfl, by omega, hn, HO.out.symm, OwnF.nil _ _, C.out, Kept.refl _ _⟩
  case round =>
    clear HO hn C
    clear x n
    obtain ⟨n, x, v, L, hL, hg1, hn, hH, hO, hC, hK⟩ := hrel
    have HH := box hH
    have O0 := box hO
    have C0 := box hC
    have K0 := box hK
    have hx : x.size ≤ 4000000 := by omega
    clear hH hO hC hK
    rcases hN : nextL x.data.toList with e0 | ⟨t, r⟩
    · have HN := box hN
      have HE : Box (o = .inl e0) := box (by rw [HH.out, head_bad hN])
      have he0 : (e0 != 0) = true := by rcases err_size hN with rfl | rfl | rfl <;> rfl
      have HNE : Box (e0 = 0 → False) := box (by intro q; rw [q] at he0; simp at he0)
      clear hN
      go_wp2_with fail
      refine (nh_bad g s x v f l _ hx e0 he0 HN C0).mono ?_; rintro e w1 ⟨rfl, hk1⟩; unfold hlV
      have K1 := box (K0.out.trans hk1)
      clear hk1
      go_wp2
      go_ret
      refine ⟨?_, K1.out⟩
      rw [HE.out]
      exact ⟨rfl, HNE.out⟩
    · obtain ⟨x1, rfl⟩ : ∃ x1 : ByteArray, r = x1.data.toList := ⟨bs r, rfl⟩
      obtain ⟨hn1, htl⟩ := size_next hn hN
      have HN := box hN
      have hx1 : x1.size ≤ 4000000 := by omega
      by_cases hl : 16000 < n + t.length + 2
      · have HV : Box ((if (16000 : Int) < (s.size : Int) - (x1.size : Int) then hlV ⟨#[]⟩ 4 else hlV (bs t) 0) = .tuple #[.string ⟨#[]⟩, .int .i64 4]) := box (by rw [if_pos (by omega)]; rfl)
        have HE : Box (o = .inl 4) := box (by rw [HH.out, head_long hN (.inl hl)])
        clear hN
        go_wp2_with fail
        refine (nh_any g s x x1 t v f l _ hs hx hx1 HN C0).mono ?_; rintro e w1 ⟨rfl, hc1, hk1⟩; rw [HV.out]
        have K1 := box (K0.out.trans hk1)
        clear hc1 hk1
        go_wp2
        go_ret
        refine ⟨?_, K1.out⟩
        rw [HE.out]
        exact ⟨rfl, by decide⟩
      · have HV : Box ((if (16000 : Int) < (s.size : Int) - (x1.size : Int) then hlV ⟨#[]⟩ 4 else hlV (bs t) 0) = .tuple #[.string (bs t), .int .i64 0]) := box (by rw [if_neg (by omega)]; rfl)
        by_cases ht : t = []
        · subst ht
          have HE : Box (o = .inr (st, L, n + 2, x1.data.toList)) := box (by rw [HH.out, head_done hN (by simpa using hl) (by omega)])
          have hn2 : (n + 2) + x1.size = s.size := by simpa using hn1
          clear hN
          go_wp2_with fail
          refine (nh_any g s x x1 [] v f l _ hs hx hx1 HN C0).mono ?_; rintro e w1 ⟨rfl, hc1, hk1⟩; rw [HV.out]
          have O1 := box (own_only O0.out hk1.only hgw)
          have C1 := box hc1
          have K1 := box (K0.out.trans hk1)
          clear hc1 hk1
          rw [show bs ([] : List UInt8) = (⟨#[]⟩ : ByteArray) from rfl]
          go_wp2
          go_ret
          refine ⟨?_, K1.out⟩
          rw [HE.out]
          exact ⟨rfl, v, x1, O1.out, C1.out, rfl, hn2, by omega⟩
        · have hte : (bs t).toList.isEmpty = false := by rw [toList_bs]; cases t <;> simp_all
          obtain ⟨a0, cap0, rfl, _, _⟩ := O0.out.fs
          by_cases h64 : L.length = 64
          · have h6i : ((L.length : Int) == 64) = true := by rw [h64]; rfl
            have HE : Box (o = .inl 4) := box (by rw [HH.out, head_long hN (.inr ⟨by omega, ht⟩)])
            clear hN ht h64
            go_wp2_with fail
            refine (nh_any g s x x1 t _ f l _ hs hx hx1 HN C0).mono ?_; rintro e w1 ⟨rfl, hc1, hk1⟩; rw [HV.out]
            have K1 := box (K0.out.trans hk1)
            obtain ⟨⟨c0, c1, c2, c3, c4⟩, _⟩ := hc1
            clear hk1
            go_wp2
            go_ret
            refine ⟨?_, K1.out⟩
            rw [HE.out]
            exact ⟨rfl, by decide⟩
          · have h6i : ((L.length : Int) == 64) = false := by rw [beq_eq_false_iff_ne]; omega
            have hlt : ¬ (16000 < n + t.length + 2 ∨ (64 < L.length + 1 ∧ t ≠ [])) := by omega
            obtain ⟨a1, a2, e2, hfl⟩ : ∃ a1 a2 e2, fieldL t = (a1, a2, e2) := ⟨_, _, _, rfl⟩
            have HF := box hfl
            rcases he2 : (e2 != 0) with _ | _
            · have e20 : e2 = 0 := by simpa using he2
              obtain ⟨gk', rfl⟩ : ∃ g', gk = g' + 1 := ⟨gk - 1, by omega⟩
              have HX := box (HH.out.trans (head_more hN hlt (by omega) ht (by rw [hfl]; exact e20)))
              rw [hfl] at HX
              have hL6 : L.length ≤ 65536 := by omega
              have hL7 : (L ++ [(bs a1, bs a2)]).length + gk' = 65 := by simp; omega
              have hg2 : 1 ≤ gk' := by omega
              clear hN hlt e20 hfl ht h64
              go_wp2_with fail
              refine (nh_any g s x x1 t _ f l _ hs hx hx1 HN C0).mono ?_; rintro e w1 ⟨rfl, hc1, hk1⟩; rw [HV.out]
              have O1 := box (own_only O0.out hk1.only hgw)
              have C1 := box hc1
              have K1 := box (K0.out.trans hk1)
              obtain ⟨⟨c0, c1, c2, c3, c4⟩, _⟩ := hc1
              clear hk1
              go_wp2_with fail
              refine (Parse5_is htl HF).mono ?_; rintro e w2 ⟨rfl, hb2⟩
              have O2 := box (own_below O1.out hb2)
              have C2 := box (C1.out.next hb2)
              have K2 := box (K1.out.trans (Kept.of hb2 C1.out.lt))
              clear c0 c1 c2 c3 c4 hb2
              go_wp2
              obtain ⟨W, hW⟩ : ∃ W, w2.alloc (.cells #[.string (bs a1), .string (bs a2)] 77) = W := ⟨_, rfl⟩
              have hb3 : Below w2.heap.size w2 W := by rw [← hW]; exact below_new _ _
              have hsw : w.heap.size ≤ W.heap.size := Nat.le_trans K2.out.only.size hb3.size
              have d0 : W.cell? ⟨w2.heap.size, 0, none⟩ = some (.string (bs a1)) := by rw [← hW]; exact (Fld.new (bs a1) (bs a2) w2 77).1
              have d1 : W.cell? ⟨w2.heap.size, 1, none⟩ = some (.string (bs a2)) := by rw [← hW]; exact (Fld.new (bs a1) (bs a2) w2 77).2.1
              rw [hW]
              have O3 := box (own_below O2.out hb3)
              have C3 := box (C2.out.next hb3)
              have K3 := box (K2.out.trans (Kept.of hb3 C2.out.lt))
              clear hW hb3
              obtain ⟨⟨c0, c1, c2, c3, c4⟩, ⟨f0, f1, f2, f3, f4⟩⟩ := C3.out
              have hgW := C3.out.lt
              have hLe : (L ++ [(bs a1, bs a2)]).length = L.length + 1 := by simp
              have HB : Box (∀ o, Below W.heap.size W (W.drew.alloc o)) := box (fun o => (Below.refl _ _).drew.alloc (Nat.le_refl _) o)
              go_region_law (refine step_append_fld _ rfl (.tmp 37) (.tmp 39) rfl w.heap.size _ L (by rfl) (own_below O3.out (HB.out _)) _ _ (by rfl) (bs a1) (bs a2) (Fld.new (bs a1) (bs a2) W.drew 77).1 (Fld.new (bs a1) (bs a2) W.drew 77).2.1 hL6 (Nat.le_trans hsw (HB.out _).size) ?_; intro v' w4 hO4 hb4; obtain ⟨a5, cap5, rfl, _, _⟩ := OwnF.fs hO4; rw [hLe] at hO4; have O4 := box hO4; have C4 := box ((C3.out.next (HB.out _)).below hb4 hgw); have K4 := box ((K3.out.trans (Kept.of (HB.out _) hgW)).ext hb4 hgw); obtain ⟨⟨c0, c1, c2, c3, c4⟩, ⟨f0, f1, f2, f3, f4⟩⟩ := C4.out; clear hO4 hb4)
              all_goals
                go_wp2
                go_roundg gk'
                case rel => exact ⟨n + t.length + 2, x1, _, L ++ [(bs a1, bs a2)], hL7, hg2, hn1, by rw [HX.out, List.length_append]; rfl, own_only O4.out ((Only.refl _ _).setAt 2 _) hgw, C4.out.set2 _, K4.out.set (i := 2) (by omega) _⟩
                case measure => omega
            · have e20 : e2 ≠ 0 := by simpa using he2
              have HE : Box (o = .inl e2) := box (by rw [HH.out, head_field hN hlt (by omega) ht (by rw [hfl]; exact e20), hfl])
              have HNE := box e20
              clear hN hlt e20 hfl ht h64
              go_wp2_with fail
              refine (nh_any g s x x1 t _ f l _ hs hx hx1 HN C0).mono ?_; rintro e w1 ⟨rfl, hc1, hk1⟩; rw [HV.out]
              have C1 := box hc1
              have K1 := box (K0.out.trans hk1)
              obtain ⟨⟨c0, c1, c2, c3, c4⟩, _⟩ := hc1
              clear hk1
              go_wp2_with fail
              refine (Parse5_is htl HF).mono ?_; rintro e w2 ⟨rfl, hb2⟩
              have K2 := box (K1.out.trans (Kept.of hb2 C1.out.lt))
              have L2 := box (C1.out.next hb2).lt
              clear hb2
              go_wp2
              go_ret
              refine ⟨?_, K2.out.trans (Kept.of (below_new _ _) L2.out)⟩
              rw [HE.out]
              exact ⟨rfl, HNE.out⟩
end
section
open Go.RowKit
theorem without_any (a : Option Addr) (cap : Nat) (L : List F) (w : World) (S : Box (Sm L)) (hF : Box (Fs w a L)) :
    Calls Tryz.prog 63 #[.slice a L.length cap] w fun e w' => ∃ v, e = .returned v ∧ OwnF w' w.heap.size v (unfrL L) ∧ Below w.heap.size w w' := by
  have hl := S.out.1
  have M1 : Box (clN.size ≤ 65536) := box (by decide)
  have M2 : Box (teN.size ≤ 65536) := box (by decide)
  have S2 : Box (Sm (remL clN L)) := box (sm_rem S.out)
  go_enter Tryz.func63, Tryz.ntmps63
  go_wp2_with fail
  refine (Remove_any a cap L clN _ hl S M1 hF).mono ?_; rintro e w1 ⟨v1, rfl, hO1, hb1⟩
  obtain ⟨a1, cap1, rfl, hF1, _⟩ := hO1.fs
  have F1 := box hF1
  have B1 := box hb1
  clear hO1 hF1 hb1
  go_wp2_with fail
  refine (Remove_any a1 cap1 _ teN _ S2.out.1 S2 M2 F1).mono ?_; rintro e w2 ⟨v2, rfl, hO2, hb2⟩
  have O2 := box (own_le hO2 B1.out.size)
  have B2 := box (B1.out.trans (hb2.mono B1.out.size))
  clear hO2 hb2
  go_wp2
  go_ret
  exact ⟨_, rfl, O2.out, B2.out⟩
theorem Fold_is {s t : ByteArray} {b : Bool} {w : World} (hs : Box (s.size ≤ 65536)) (ht : Box (t.size ≤ 65536)) (h : Box (foldL s.data.toList t.data.toList = b)) :
    Calls Tryz.prog 110 #[.string s, .string t] w fun e w' => e = .returned (.bool b) ∧ Below w.heap.size w w' := by
  have := Fold_any s t w (small_max hs).out (small_max ht).out
  rw [h.out] at this; exact this
theorem Number_is {s : ByteArray} {o : Option Int} {w : World} (hs : Box (s.size ≤ 65536)) (h : Box (numL s.data.toList = o)) :
    Calls Tryz.prog 103 #[.string s] w fun e w' => e = .returned (numT o) ∧ w = w' := by
  have := Number_any s w (small_max hs).out
  rw [h.out] at this; exact this
section
variable {g : Nat} {s x v : Value} {w : World}
theorem tc_many {a a2 : Option Addr} {n cap n2 cap2 : Nat} (hn : (1 : Int) < (n : Int)) :
    Calls Tryz.prog 91 #[.pointer (some ⟨g, 0, none⟩), .slice a n cap, .slice a2 n2 cap2] w fun e w' => e = .returned (.int .i64 7) ∧ w = w' := by
  go_enter Tryz.func91, Tryz.ntmps91
  go_wp2
  go_ret
  exact ⟨rfl, rfl⟩
theorem tc_bad {q off : Nat} {t : ByteArray} {a2 : Option Addr} {cap n2 cap2 : Nat} (c0 : w.cell? ⟨q, off, none⟩ = some (.string t)) (hcap : 1 ≤ cap) (hts : Box (t.size ≤ 65536)) (HF : Box (foldL t.data.toList chunkedB.data.toList = false)) :
    Calls Tryz.prog 91 #[.pointer (some ⟨g, 0, none⟩), .slice (some ⟨q, off, none⟩) 1 cap, .slice a2 n2 cap2] w fun e w' => e = .returned (.int .i64 7) ∧ Below w.heap.size w w' := by
  have hck : Box (chunkedB.size ≤ 65536) := box (by decide)
  go_enter Tryz.func91, Tryz.ntmps91
  go_wp2_with fail
  refine (Fold_is hts hck HF).mono ?_; rintro e w1 ⟨rfl, hb1⟩
  have B1 := box hb1
  clear hb1 c0
  go_wp2
  go_ret
  exact ⟨rfl, B1.out⟩
theorem tc_both {q off : Nat} {t : ByteArray} {a2 : Option Addr} {cap n2 cap2 : Nat} (c0 : w.cell? ⟨q, off, none⟩ = some (.string t)) (hcap : 1 ≤ cap) (hts : Box (t.size ≤ 65536)) (HF : Box (foldL t.data.toList chunkedB.data.toList = true)) (hn2 : (0 : Int) < (n2 : Int)) :
    Calls Tryz.prog 91 #[.pointer (some ⟨g, 0, none⟩), .slice (some ⟨q, off, none⟩) 1 cap, .slice a2 n2 cap2] w fun e w' => e = .returned (.int .i64 8) ∧ Below w.heap.size w w' := by
  have hck : Box (chunkedB.size ≤ 65536) := box (by decide)
  go_enter Tryz.func91, Tryz.ntmps91
  go_wp2_with fail
  refine (Fold_is hts hck HF).mono ?_; rintro e w1 ⟨rfl, hb1⟩
  have B1 := box hb1
  clear hb1 c0
  go_wp2
  go_ret
  exact ⟨rfl, B1.out⟩
theorem tc_ok {q off : Nat} {t : ByteArray} {a2 : Option Addr} {cap cap2 : Nat} {f l : Value} (c0 : w.cell? ⟨q, off, none⟩ = some (.string t)) (hcap : 1 ≤ cap) (hts : Box (t.size ≤ 65536)) (HF : Box (foldL t.data.toList chunkedB.data.toList = true)) (C : Box (C5 g s x v f l w)) (hf : f.oneCell' = true) :
    Calls Tryz.prog 91 #[.pointer (some ⟨g, 0, none⟩), .slice (some ⟨q, off, none⟩) 1 cap, .slice a2 0 cap2] w fun e w' => e = .returned (.int .i64 0) ∧ C5 g s x v (.int .i64 2) l w' ∧ Kept g w w' := by
  have hck : Box (chunkedB.size ≤ 65536) := box (by decide)
  go_enter Tryz.func91, Tryz.ntmps91
  go_wp2_with fail
  refine (Fold_is hts hck HF).mono ?_; rintro e w1 ⟨rfl, hb1⟩
  have C1 := box (C.out.next hb1)
  have K1 := box (Kept.of hb1 C.out.lt)
  clear hb1 c0
  obtain ⟨⟨r0, r1, r2, r3, r4⟩, ⟨f0, f1, f2, f3, f4⟩⟩ := C1.out
  go_wp2
  go_ret
  exact ⟨rfl, C1.out.set3 _, K1.out.set (i := 3) (by omega) _⟩
theorem tl_none {a : Option Addr} {cap : Nat} :
    Calls Tryz.prog 92 #[.pointer (some ⟨g, 0, none⟩), .slice a 0 cap] w fun e w' => e = .returned (.int .i64 0) ∧ w = w' := by
  go_enter Tryz.func92, Tryz.ntmps92
  go_wp2
  go_ret
  exact ⟨rfl, rfl⟩
theorem tl_two {a : Option Addr} {n cap : Nat} (h0 : ((n : Int) == 0) = false) (h1 : ((n : Int) == 1) = false) :
    Calls Tryz.prog 92 #[.pointer (some ⟨g, 0, none⟩), .slice a n cap] w fun e w' => e = .returned (.int .i64 8) ∧ w = w' := by
  go_enter Tryz.func92, Tryz.ntmps92
  go_wp2
  go_ret
  exact ⟨rfl, rfl⟩
theorem tl_bad {q off : Nat} {c : ByteArray} {cap : Nat} (c0 : w.cell? ⟨q, off, none⟩ = some (.string c)) (hcap : 1 ≤ cap) (hcs : Box (c.size ≤ 65536)) (HN : Box (numL c.data.toList = none)) :
    Calls Tryz.prog 92 #[.pointer (some ⟨g, 0, none⟩), .slice (some ⟨q, off, none⟩) 1 cap] w fun e w' => e = .returned (.int .i64 8) ∧ w = w' := by
  go_enter Tryz.func92, Tryz.ntmps92
  go_wp2_with fail
  refine (Number_is hcs HN).mono ?_; rintro e w3 ⟨rfl, rfl⟩; unfold numT numV
  go_wp2
  go_ret
  exact ⟨rfl, rfl⟩
theorem tl_long {q off : Nat} {c : ByteArray} {cap : Nat} {n : Int} (c0 : w.cell? ⟨q, off, none⟩ = some (.string c)) (hcap : 1 ≤ cap) (hcs : Box (c.size ≤ 65536)) (HN : Box (numL c.data.toList = some n)) (h9 : (9 : Int) < (c.size : Int)) :
    Calls Tryz.prog 92 #[.pointer (some ⟨g, 0, none⟩), .slice (some ⟨q, off, none⟩) 1 cap] w fun e w' => e = .returned (.int .i64 8) ∧ w = w' := by
  go_enter Tryz.func92, Tryz.ntmps92
  go_wp2_with fail
  refine (Number_is hcs HN).mono ?_; rintro e w3 ⟨rfl, rfl⟩; unfold numT numV
  go_wp2
  go_ret
  exact ⟨rfl, rfl⟩
theorem tl_ok {q off : Nat} {c : ByteArray} {cap : Nat} {n : Int} {f l : Value} (c0 : w.cell? ⟨q, off, none⟩ = some (.string c)) (hcap : 1 ≤ cap) (hcs : Box (c.size ≤ 65536)) (HN : Box (numL c.data.toList = some n)) (h9 : ¬ (9 : Int) < (c.size : Int)) (C : Box (C5 g s x v f l w)) :
    Calls Tryz.prog 92 #[.pointer (some ⟨g, 0, none⟩), .slice (some ⟨q, off, none⟩) 1 cap] w fun e w' => e = .returned (.int .i64 0) ∧ C5 g s x v (.int .i64 1) (.int .i64 n) w' ∧ Kept g w w' := by
  obtain ⟨⟨r0, r1, r2, r3, r4⟩, ⟨f0, f1, f2, f3, f4⟩⟩ := C.out
  go_enter Tryz.func92, Tryz.ntmps92
  go_wp2_with fail
  refine (Number_is hcs HN).mono ?_; rintro e w3 ⟨rfl, rfl⟩; unfold numT numV
  go_wp2
  go_ret
  exact ⟨rfl, (C.out.set3 _).set4 _, ((Kept.refl _ _).set (i := 3) (by omega) _).set (i := 4) (by omega) _⟩
end
/-- how the framing stands in the reader's cells -/
def FrOk (how fr ln : Int) : Prop := (how = -1 ∧ fr = 2 ∧ ln = 0) ∨ (how = -2 ∧ fr = 0 ∧ ln = 0) ∨ (0 ≤ how ∧ how ≤ 2147483647 ∧ fr = 1 ∧ ln = how)
def TfPost (B g : Nat) (s x : Value) (L : List F) (p : Int × Int) (e : Ending) (w' : World) : Prop :=
  e = .returned (.int .i64 p.2) ∧ (p.2 = 0 → ∃ v fr ln, OwnF w' B v (unfrL L) ∧ C5 g s x v (.int .i64 fr) (.int .i64 ln) w' ∧ FrOk p.1 fr ln)
/-- the part of takeFraming that is the same for all ways: what lies when the branch begins -/
theorem num_bd {l : List UInt8} {v : Int} (h : numL l = some v) : 0 ≤ v ∧ v ≤ 2147483647 := by
  have hb : ∀ l : List UInt8, (∀ c ∈ l, digitI c.toNat = true) → ∀ v : Int, 0 ≤ v ∧ v ≤ 2147483647 → 0 ≤ l.foldl (fun n c => satI n ((c.toNat : Int) - 48)) v ∧ l.foldl (fun n c => satI n ((c.toNat : Int) - 48)) v ≤ 2147483647 := by
    intro l
    induction l with
    | nil => intro _ v h; exact h
    | cons c l ih =>
      intro hd v h
      have h1 := digitI_bd (hd c (by simp))
      exact ih (fun x hx => hd x (by simp [hx])) _ (satI_bd h.1 (by omega))
  unfold numL at h
  split at h
  · rename_i hd
    cases h
    exact hb _ (fun c hc => List.all_eq_true.mp hd.1 c hc) 0 ⟨by omega, by omega⟩
  · cases h
theorem ss_one {w : World} {a : Option Addr} {t : ByteArray} {R : List ByteArray} (h : Ss w a (t :: R)) : ∃ q off, a = some ⟨q, off, none⟩ ∧ w.cell? ⟨q, off, none⟩ = some (.string t) := by
  obtain ⟨q, off, rfl, c0⟩ := h 0 (by simp)
  exact ⟨q, off, rfl, by simpa using c0⟩
theorem ownS_ss {w : World} {B n cap : Nat} {a : Option Addr} {L : List ByteArray} (h : OwnS w B (.slice a n cap) L) : Ss w a L := by
  obtain ⟨a', cap', he, hF, _⟩ := h.ss
  cases he; exact hF
set_option maxHeartbeats 4000000 in
theorem takeFraming_any (g : Nat) (s x : Value) (a : Option Addr) (cap : Nat) (L : List F) (w : World) (S : Box (Sm L)) (hF : Box (Fs w a L)) (C : Box (C5 g s x (.slice a L.length cap) (.int .i64 0) (.int .i64 0) w)) :
    Calls Tryz.prog 73 #[.pointer (some ⟨g, 0, none⟩)] w fun e w' => TfPost w.heap.size g s x L (framedL L) e w' ∧ Kept g w w' := by
  have hl := S.out.1
  have TS := box (get_small (nm := teN) S.out)
  have CS := box (get_small (nm := clN) S.out)
  have hg := C.out.lt
  obtain ⟨nt, hnt⟩ : ∃ n, (getL teN L).length = n := ⟨_, rfl⟩
  obtain ⟨nc, hnc⟩ : ∃ n, (getL clN L).length = n := ⟨_, rfl⟩
  have HNT := box hnt
  have HNC := box hnc
  clear hnt hnc
  obtain ⟨⟨r0, r1, r2, r3, r4⟩, _⟩ := C.out
  go_enter Tryz.func73, Tryz.ntmps73
  go_wp2_with fail
  refine (Get_any a cap L teN _ hl S (box (by decide)) hF).mono ?_; rintro e w1 ⟨v, rfl, hO, hb⟩
  obtain ⟨a2, cap2, rfl, _, hc⟩ := hO.ss
  rw [HNT.out] at hO hc ⊢
  have F1 := box (hF.out.below hb)
  have C1 := box (C.out.next hb)
  have K1 := box (Kept.of hb hg)
  have BB1 := box hb.size
  have T1 := box hO
  clear hO hb r0 r1 r2 r3 r4
  obtain ⟨⟨r0, r1, r2, r3, r4⟩, _⟩ := C1.out
  go_wp2_with fail
  refine (Get_any a cap L clN _ hl S (box (by decide)) F1).mono ?_; rintro e w2 ⟨v, rfl, hO, hb⟩
  obtain ⟨a3, cap3, rfl, _, hc3⟩ := hO.ss
  rw [HNC.out] at hO hc3 ⊢
  have F2 := box (F1.out.below hb)
  have C2 := box (C1.out.next hb)
  have K2 := box (K1.out.trans (Kept.of hb C1.out.lt))
  have BB2 := box (Nat.le_trans BB1.out hb.size)
  have T2 := box (own_below T1.out hb)
  have S2 := box (own_le hO BB1.out)
  clear hO hb r0 r1 r2 r3 r4
  obtain ⟨⟨r0, r1, r2, r3, r4⟩, _⟩ := C2.out
  go_wp2_with fail
  refine (without_any a cap L _ S F2).mono ?_; rintro e w3 ⟨v, rfl, hO, hb⟩
  obtain ⟨a4, cap4, rfl, _, _⟩ := hO.fs
  have C3 := box (C2.out.next hb)
  have hset := (Only.refl g w3).setAt 2 (.slice a4 (unfrL L).length cap4)
  have K4 := box ((K2.out.trans (Kept.of hb C2.out.lt)).set (i := 2) (by omega) (.slice a4 (unfrL L).length cap4))
  have T4 := box (ownS_ss (own_only (own_below T2.out hb) hset hg))
  have S4 := box (ownS_ss (own_only (own_below S2.out hb) hset hg))
  have O4 := box (own_only (own_le hO BB2.out) hset hg)
  have C4 := box (C3.out.set2 (.slice a4 (unfrL L).length cap4))
  clear hO hb hset r0 r1 r2 r3 r4
  obtain ⟨⟨r0, r1, r2, r3, r4⟩, ⟨f0, f1, f2, f3, f4⟩⟩ := C3.out
  rcases hte : getL teN L with _ | ⟨t, _ | ⟨t', R⟩⟩
  · obtain rfl : nt = 0 := by rw [← HNT.out, hte]; rfl
    rcases hcl : getL clN L with _ | ⟨c, _ | ⟨c', R'⟩⟩
    · obtain rfl : nc = 0 := by rw [← HNC.out, hcl]; rfl
      have HE := box (fr_none hte hcl)
      clear hte hcl
      go_wp2_with fail
      refine tl_none.mono ?_; rintro e w5 ⟨rfl, rfl⟩
      go_wp2
      go_ret
      rw [HE.out]
      exact ⟨⟨rfl, fun _ => ⟨_, 0, 0, O4.out, C4.out, .inr (.inl ⟨rfl, rfl, rfl⟩)⟩⟩, K4.out⟩
    · obtain rfl : nc = 1 := by rw [← HNC.out, hcl]; rfl
      have hcs : Box (c.size ≤ 65536) := box (CS.out c (by rw [hcl]; simp))
      rw [hcl] at S4
      obtain ⟨q, off, rfl, c0⟩ := ss_one S4.out
      rcases hn : numL c.data.toList with _ | n
      · have HN := box hn
        have HE := box (fr_one0 hte hcl hn)
        clear hte hcl hn
        go_wp2_with fail
        refine (tl_bad c0 hc3 hcs HN).mono ?_; rintro e w5 ⟨rfl, rfl⟩
        go_wp2
        go_ret
        rw [HE.out]
        exact ⟨⟨rfl, fun h => absurd h (by decide)⟩, K4.out⟩
      · have HN := box hn
        have hbd := num_bd hn
        by_cases h9 : c.size ≤ 9
        · have h9i : ¬ (9 : Int) < (c.size : Int) := by omega
          have HE : Box (framedL L = (n, 0)) := box (by rw [fr_one1 hte hcl hn, if_pos h9])
          clear hte hcl hn
          go_wp2_with fail
          refine (tl_ok c0 hc3 hcs HN (by omega) C4).mono ?_; rintro e w5 ⟨rfl, hC5, hK5⟩
          have C6 := box hC5
          have K6 := box (K4.out.trans hK5)
          have O6 := box (own_only O4.out hK5.only hg)
          clear hC5 hK5
          go_wp2
          go_ret
          rw [HE.out]
          exact ⟨⟨rfl, fun _ => ⟨_, 1, n, O6.out, C6.out, .inr (.inr ⟨hbd.1, hbd.2, rfl, rfl⟩)⟩⟩, K6.out⟩
        · have h9i : (9 : Int) < (c.size : Int) := by omega
          have HE : Box (framedL L = (0, 8)) := box (by rw [fr_one1 hte hcl hn, if_neg h9])
          clear hte hcl hn
          go_wp2_with fail
          refine (tl_long c0 hc3 hcs HN h9i).mono ?_; rintro e w5 ⟨rfl, rfl⟩
          go_wp2
          go_ret
          rw [HE.out]
          exact ⟨⟨rfl, fun h => absurd h (by decide)⟩, K4.out⟩
    · have hnc2 : 2 ≤ nc := by rw [← HNC.out, hcl]; simp
      have h0 : ((nc : Int) == 0) = false := by rw [beq_eq_false_iff_ne]; omega
      have h1 : ((nc : Int) == 1) = false := by rw [beq_eq_false_iff_ne]; omega
      have HE := box (fr_two hte hcl)
      clear hte hcl
      go_wp2_with fail
      refine (tl_two h0 h1).mono ?_; rintro e w5 ⟨rfl, rfl⟩
      go_wp2
      go_ret
      rw [HE.out]
      exact ⟨⟨rfl, fun h => absurd h (by decide)⟩, K4.out⟩
  · obtain rfl : nt = 1 := by rw [← HNT.out, hte]; rfl
    have hts : Box (t.size ≤ 65536) := box (TS.out t (by rw [hte]; simp))
    rw [hte] at T4
    obtain ⟨q, off, rfl, c0⟩ := ss_one T4.out
    rcases hf : foldL t.data.toList chunkedL with _ | _
    · have HF : Box (foldL t.data.toList chunkedB.data.toList = false) := box hf
      have HE := box (fr_bad hte hf)
      clear hte hf
      go_wp2_with fail
      refine (tc_bad c0 hc hts HF).mono ?_; rintro e w5 ⟨rfl, hb⟩
      have K6 := box (K4.out.trans (Kept.of hb C4.out.lt))
      clear hb
      go_wp2
      go_ret
      rw [HE.out]
      exact ⟨⟨rfl, fun h => absurd h (by decide)⟩, K6.out⟩
    · have HF : Box (foldL t.data.toList chunkedB.data.toList = true) := box hf
      rcases hcl : getL clN L with _ | ⟨c, R'⟩
      · obtain rfl : nc = 0 := by rw [← HNC.out, hcl]; rfl
        have HE := box (fr_te hte hf hcl)
        clear hte hf hcl
        go_wp2_with fail
        refine (tc_ok c0 hc hts HF C4 rfl).mono ?_; rintro e w5 ⟨rfl, hC5, hK5⟩
        have C6 := box hC5
        have K6 := box (K4.out.trans hK5)
        have O6 := box (own_only O4.out hK5.only hg)
        clear hC5 hK5
        go_wp2
        go_ret
        rw [HE.out]
        exact ⟨⟨rfl, fun _ => ⟨_, 2, 0, O6.out, C6.out, .inl ⟨rfl, rfl, rfl⟩⟩⟩, K6.out⟩
      · have hn2 : (0 : Int) < (nc : Int) := by have : 0 < nc := by rw [← HNC.out, hcl]; simp
                                                omega
        have HE := box (fr_both hte hf hcl)
        clear hte hf hcl
        go_wp2_with fail
        refine (tc_both c0 hc hts HF hn2).mono ?_; rintro e w5 ⟨rfl, hb⟩
        have K6 := box (K4.out.trans (Kept.of hb C4.out.lt))
        clear hb
        go_wp2
        go_ret
        rw [HE.out]
        exact ⟨⟨rfl, fun h => absurd h (by decide)⟩, K6.out⟩
  · have hnt2 : 2 ≤ nt := by rw [← HNT.out, hte]; simp
    have h1 : (1 : Int) < (nt : Int) := by omega
    have HE := box (fr_many hte)
    clear hte
    go_wp2_with fail
    refine (tc_many h1).mono ?_; rintro e w5 ⟨rfl, rfl⟩
    go_wp2
    go_ret
    rw [HE.out]
    exact ⟨⟨rfl, fun h => absurd h (by decide)⟩, K4.out⟩
end
section
open Go.RowKit
theorem C5.drewN {g n : Nat} {c0 c1 c2 c3 c4 : Value} {w : World} (h : C5 g c0 c1 c2 c3 c4 w) : C5 g c0 c1 c2 c3 c4 (w.drewN n) := h
theorem rJoined_is {st b : ByteArray} {a : Option Addr} {cap : Nat} {L : List F} {ln wh : Bool} {x : ByteArray} {w : World} (hst : Box (st.size ≤ 100000)) (hb : b.size ≤ 1000000) (S : Box (Sm L)) (hF : Box (Fs w a L)) (h : Box (bs (joinedL st.data.toList L b.data.toList ln wh) = x)) :
    Calls Tryz.prog 39 #[.string st, .slice a L.length cap, .string b, .bool ln, .bool wh] w fun e w' => e = .returned (.string x) ∧ Below w.heap.size w w' :=
  (rJoined_any st a cap L b ln wh w hst.out hb S hF).mono fun e w' ⟨h1, h2⟩ => ⟨by rw [h1, h.out], h2⟩
theorem rFReq_is {m t : ByteArray} {n : Int} {x : ByteArray} {w : World} (hm : m.size ≤ 3000) (ht : t.size ≤ 3000) (h1 : Box (InI64 n)) (h : Box (bs (fmtReqL m.data.toList t.data.toList n) = x)) :
    Calls Tryz.prog 40 #[.string m, .string t, .int .i64 n] w fun e w' => e = .returned (.string x) ∧ Below w.heap.size w w' :=
  (rFormatRequest_any m t n w hm ht h1).mono fun e w' ⟨h1, h2⟩ => ⟨by rw [h1, h.out], h2⟩
theorem rFSta_is {n s : Int} {r : ByteArray} {x : ByteArray} {w : World} (hr : r.size ≤ 3000) (h1 : Box (InI64 n)) (h2 : Box (InI64 s)) (h : Box (bs (fmtStaL n s r.data.toList) = x)) :
    Calls Tryz.prog 42 #[.int .i64 n, .int .i64 s, .string r] w fun e w' => e = .returned (.string x) ∧ Below w.heap.size w w' :=
  (rFormatStatus_any n s r w hr h1 h2).mono fun e w' ⟨h1, h2⟩ => ⟨by rw [h1, h.out], h2⟩
theorem fmtReq_le {m t : List UInt8} {n : Int} : (fmtReqL m t n).length ≤ 2000 ∨ (fmtReqL m t n).length ≤ m.length + t.length + 40 := by
  right
  unfold fmtReqL
  split
  · unfold reqLine http7; have := decL_len n; simp; omega
  · simp
theorem fmtSta_le {n s : Int} {r : List UInt8} : (fmtStaL n s r).length ≤ r.length + 60 := by
  unfold fmtStaL
  split
  · unfold staLine http7; have := decL_len n; have := decL_len s; simp; omega
  · simp
set_option maxRecDepth 100000 in
set_option maxHeartbeats 4000000 in
theorem rFmtReq_any (m t : ByteArray) (n : Int) (a : Option Addr) (cap : Nat) (L : List F) (b : ByteArray) (w : World) (hm : m.size ≤ 3000) (ht : t.size ≤ 3000) (h1 : Box (InI64 n)) (hb : b.size ≤ 1000000) (S : Box (Sm L)) (hF : Box (Fs w a L)) :
    Calls Tryz.prog 19 #[.agg #[.string m, .string t, .int .i64 n, .slice a L.length cap, .string b]] w fun e w' => e = .returned (.string (bs (fmtRQ (m.data.toList, t.data.toList, n, L, b.data.toList)))) ∧ Below w.heap.size w w' := by
  obtain ⟨st, hst⟩ : ∃ st, bs (fmtReqL m.data.toList t.data.toList n) = st := ⟨_, rfl⟩
  have HST := box hst
  have HSZ : Box (st.size ≤ 100000) := box (by
    rw [← hst, bs_size]
    have e1 : m.data.toList.length = m.size := by simp
    have e2 : t.data.toList.length = t.size := by simp
    rcases fmtReq_le (m := m.data.toList) (t := t.data.toList) (n := n) with h | h <;> omega)
  obtain ⟨ln, hln⟩ : ∃ ln, lengthB m.data.toList b.data.toList = ln := ⟨_, rfl⟩
  obtain ⟨x, hx⟩ : ∃ x, bs (fmtRQ (m.data.toList, t.data.toList, n, L, b.data.toList)) = x := ⟨_, rfl⟩
  have HX : Box (bs (joinedL st.data.toList L b.data.toList ln true) = x) := box (by rw [← hx, ← hst, bs_toList]; unfold fmtRQ; rw [hln])
  have HE := box hx
  have C0 := box (C5.new (.string m) (.string t) (.int .i64 n) (.slice a L.length cap) (.string b) w 24)
  have F0 := box (hF.out.below (below_new w (.cells #[.string m, .string t, .int .i64 n, .slice a L.length cap, .string b] 24)))
  have hlnE : ln = (!b.toList.isEmpty || m.toList == [80, 79, 83, 84] || m.toList == [80, 85, 84] || m.toList == [80, 65, 84, 67, 72]) := by rw [← hln, toList_data, toList_data]; rfl
  clear hst hln hx
  have ways : b.toList.isEmpty = false ∧ ln = true ∨ b.toList.isEmpty = true ∧ ((m.toList == [80, 79, 83, 84]) = true ∧ ln = true ∨ (m.toList == [80, 79, 83, 84]) = false ∧ ((m.toList == [80, 85, 84]) = true ∧ ln = true ∨ (m.toList == [80, 85, 84]) = false ∧ ((m.toList == [80, 65, 84, 67, 72]) = true ∧ ln = true ∨ (m.toList == [80, 65, 84, 67, 72]) = false ∧ ln = false))) := by
    rw [hlnE]
    cases b.toList.isEmpty <;> cases (m.toList == [80, 79, 83, 84]) <;> cases (m.toList == [80, 85, 84]) <;> cases (m.toList == [80, 65, 84, 67, 72]) <;> simp
  clear hlnE
  rcases ways with ⟨g0, rfl⟩ | ⟨g0, ⟨g1, rfl⟩ | ⟨g1, ⟨g2, rfl⟩ | ⟨g2, ⟨g3, rfl⟩ | ⟨g3, rfl⟩⟩⟩⟩
  all_goals
    go_enter Tryz.func19, Tryz.ntmps19
    go_wp2
    go_region_held3 (fun w' => w'.cell? ⟨w.heap.size, 0, none⟩ = some (.string m) ∧ w'.cell? ⟨w.heap.size, 1, none⟩ = some (.string t) ∧ w'.cell? ⟨w.heap.size, 2, none⟩ = some (.int .i64 n) ∧ w'.cell? ⟨w.heap.size, 3, none⟩ = some (.slice a L.length cap) ∧ w'.cell? ⟨w.heap.size, 4, none⟩ = some (.string b)) (first | exact C1.out.1 | exact C2.out.1 | exact C0.out.1 | exact (C5.drewN C0.out).1 | exact (C5.drewN C1.out).1 | exact (C5.drewN C2.out).1) (first | (go_at_call 40; refine (rFReq_is hm ht h1 HST).mono ?_; rintro e w1 ⟨rfl, hb1⟩; have C1 := box ((C5.drewN C0.out).next hb1); have F1 := box (F0.out.below ((below_drewN _ _).trans hb1)); have B1 := box ((below_new w _).trans (((below_drewN _ _).trans hb1).mono (below_new w _).size)); clear hb1) | (go_at_call 39; refine (rJoined_is HSZ hb S F1 HX).mono ?_; rintro e w2 ⟨rfl, hb2⟩; have C2 := box (C1.out.next hb2); have B2 := box (B1.out.trans (hb2.mono B1.out.size)); clear hb2))
    all_goals
      go_wp2
      go_ret
      exact ⟨by rw [HE.out]; rfl, B2.out⟩
set_option maxRecDepth 100000 in
set_option maxHeartbeats 4000000 in
theorem rFmtRes_any (n s : Int) (r : ByteArray) (a : Option Addr) (cap : Nat) (L : List F) (b me : ByteArray) (w : World) (hr : r.size ≤ 3000) (hm : me.size ≤ 65536) (h1 : Box (InI64 n)) (h2 : Box (InI64 s)) (hb : b.size ≤ 1000000) (S : Box (Sm L)) (hF : Box (Fs w a L)) :
    Calls Tryz.prog 21 #[.agg #[.int .i64 n, .int .i64 s, .string r, .slice a L.length cap, .string b], .string me] w fun e w' => e = .returned (.string (bs (fmtRS (n, s, r.data.toList, L, b.data.toList) me.data.toList))) ∧ Below w.heap.size w w' := by
  obtain ⟨st, hst⟩ : ∃ st, bs (fmtStaL n s r.data.toList) = st := ⟨_, rfl⟩
  have HST := box hst
  have HSZ : Box (st.size ≤ 100000) := box (by
    rw [← hst, bs_size]
    have e1 : r.data.toList.length = r.size := by simp
    have h := fmtSta_le (n := n) (s := s) (r := r.data.toList)
    omega)
  obtain ⟨nb, hnb⟩ : ∃ nb, bodilessL s me.data.toList = nb := ⟨_, rfl⟩
  obtain ⟨x, hx⟩ : ∃ x, bs (fmtRS (n, s, r.data.toList, L, b.data.toList) me.data.toList) = x := ⟨_, rfl⟩
  have HX : Box (bs (joinedL st.data.toList L b.data.toList (!nb) (!nb)) = x) := box (by rw [← hx, ← hst, bs_toList]; unfold fmtRS; rw [hnb])
  have HE := box hx
  have HNB := box hnb
  have C0 := box (C5.new (.int .i64 n) (.int .i64 s) (.string r) (.slice a L.length cap) (.string b) w 32)
  have F0 := box (hF.out.below (below_new w (.cells #[.int .i64 n, .int .i64 s, .string r, .slice a L.length cap, .string b] 32)))
  clear hst hx hnb
  cases nb
  all_goals
    simp only [Bool.not_true, Bool.not_false] at HX
    go_enter Tryz.func21, Tryz.ntmps21
    go_wp2_with fail
    refine (rBodil_is hm HNB).mono ?_; rintro e w0 ⟨rfl, rfl⟩
    go_wp2
    go_region_held3 (fun w' => w'.cell? ⟨w.heap.size, 0, none⟩ = some (.int .i64 n) ∧ w'.cell? ⟨w.heap.size, 1, none⟩ = some (.int .i64 s) ∧ w'.cell? ⟨w.heap.size, 2, none⟩ = some (.string r) ∧ w'.cell? ⟨w.heap.size, 3, none⟩ = some (.slice a L.length cap) ∧ w'.cell? ⟨w.heap.size, 4, none⟩ = some (.string b)) (first | exact C1.out.1 | exact C2.out.1 | exact C0.out.1 | exact (C5.drewN C0.out).1 | exact (C5.drewN C1.out).1 | exact (C5.drewN C2.out).1) (first | (go_at_call 42; refine (rFSta_is hr h1 h2 HST).mono ?_; rintro e w1 ⟨rfl, hb1⟩; have C1 := box ((C5.drewN C0.out).next hb1); have F1 := box (F0.out.below ((below_drewN _ _).trans hb1)); have B1 := box ((below_new w _).trans (((below_drewN _ _).trans hb1).mono (below_new w _).size)); clear hb1) | (go_at_call 39; refine (rJoined_is HSZ hb S F1 HX).mono ?_; rintro e w2 ⟨rfl, hb2⟩; have C2 := box (C1.out.next hb2); have B2 := box (B1.out.trans (hb2.mono B1.out.size)); clear hb2))
    all_goals
      go_wp2
      go_ret
      exact ⟨by rw [HE.out]; rfl, B2.out⟩
end
end Go.Proofs.YtjabcfabenobiaaGreat.Asc
