/- Merged texts: MedLaws2 MedLaws3 LstClo MedApp MedLaws4. -/
import Derived.Test.YtkalddhokoldgaaM04
import Derived.Test.YtkalddhokoldgaaM05
import Derived.Test.YtkalddhokoldgaaM09
import Derived.Deep.RegionHeld3
import Derived.Laws.EntriesVeiled
import Derived.Lib.SliceRun
set_option linter.unusedVariables false
set_option linter.unusedSimpArgs false
set_option maxRecDepth 100000
namespace Go.Proofs.Ytkalddhokoldgaa.Asc
section
open Go.RowKit
/-- two structs of three cells lie one behind the other, and two lists of parameters -/
structure Two3 (w : World) (c0 c1 c2 d0 d1 d2 : Value) (a a' : Option Addr) (K L : List F) (w' : World) : Prop where
  c : C3 w.heap.size c0 c1 c2 w'
  d : C3 (w.heap.size + 1) d0 d1 d2 w'
  f : Fs w' a K
  g : Fs w' a' L
  b : Below w.heap.size w w'
section
variable {w w' w'' : World} {c0 c1 c2 d0 d1 d2 : Value} {a a' : Option Addr} {K L : List F}
theorem Two3.next (h : Two3 w c0 c1 c2 d0 d1 d2 a a' K L w') (hb : Below w'.heap.size w' w'') : Two3 w c0 c1 c2 d0 d1 d2 a a' K L w'' :=
  ⟨h.c.next hb, h.d.next hb, h.f.below hb, h.g.below hb, h.b.trans (hb.mono h.b.size)⟩
theorem Two3.drewN {n : Nat} (h : Two3 w c0 c1 c2 d0 d1 d2 a a' K L w') : Two3 w c0 c1 c2 d0 d1 d2 a a' K L (w'.drewN n) := h.next (below_drewN _ _)
theorem Two3.new (t1 t2 : TypeId) (hF : Fs w a K) (hG : Fs w a' L) : Two3 w c0 c1 c2 d0 d1 d2 a a' K L ((w.alloc (.cells #[c0, c1, c2] t1)).alloc (.cells #[d0, d1, d2] t2)) := by
  have b1 := below_new w (.cells #[c0, c1, c2] t1)
  have b2 := below_new (w.alloc (.cells #[c0, c1, c2] t1)) (.cells #[d0, d1, d2] t2)
  have D := C3.new d0 d1 d2 (w.alloc (.cells #[c0, c1, c2] t1)) t2
  rw [show (w.alloc (.cells #[c0, c1, c2] t1)).heap.size = w.heap.size + 1 from by simp] at D
  exact ⟨(C3.new c0 c1 c2 w t1).next b2, D, (hF.below b1).below b2, (hG.below b1).below b2, b1.trans (b2.mono b1.size)⟩
theorem Two3.cells (h : Two3 w c0 c1 c2 d0 d1 d2 a a' K L w') : w'.cell? ⟨w.heap.size, 0, none⟩ = some c0 ∧ w'.cell? ⟨w.heap.size, 1, none⟩ = some c1 ∧ w'.cell? ⟨w.heap.size, 2, none⟩ = some c2 ∧ w'.cell? ⟨w.heap.size + 1, 0, none⟩ = some d0 ∧ w'.cell? ⟨w.heap.size + 1, 1, none⟩ = some d1 ∧ w'.cell? ⟨w.heap.size + 1, 2, none⟩ = some d2 :=
  ⟨h.c.1.1, h.c.1.2.1, h.c.1.2.2, h.d.1.1, h.d.1.2.1, h.d.1.2.2⟩
end
theorem mFmt10_is {a b : ByteArray} {p : Option Addr} {cap : Nat} {L : List F} {x : ByteArray} {w : World} (ha : a.size ≤ 30000) (hb : b.size ≤ 30000) (hl : Box (L.length ≤ 65536)) (hz : Box (∀ i (hi : i < L.length), L[i].1.size ≤ 65536 ∧ L[i].2.size ≤ 65536)) (hF : Fs w p L) (h : Box (fmtMB (a, b, L) = x)) :
    Calls Try.prog 16 #[.agg #[.string a, .string b, .slice p L.length cap]] w fun e w' => e = .returned (.string x) ∧ Below w.heap.size w w' :=
  (mFmt10_any a b p cap L w ha hb hl.out hz (box hF)).mono fun e w' ⟨h1, h2⟩ => ⟨by rw [h1, h.out], h2⟩
theorem rFmt10_is {a b : ByteArray} {p : Option Addr} {cap : Nat} {L : List F} {x : ByteArray} {w : World} (ha : a.size ≤ 30000) (hb : b.size ≤ 30000) (hl : Box (L.length ≤ 65536)) (hz : Box (∀ i (hi : i < L.length), L[i].1.size ≤ 65536 ∧ L[i].2.size ≤ 65536)) (hF : Fs w p L) (h : Box (fmtMB (a, b, L) = x)) :
    Calls Try.prog 17 #[.agg #[.string a, .string b, .slice p L.length cap]] w fun e w' => e = .returned (.string x) ∧ Below w.heap.size w w' :=
  (rFmtType_any a b p cap L w ha hb hl.out hz (box hF)).mono fun e w' ⟨h1, h2⟩ => ⟨by rw [h1, h.out], h2⟩
theorem keepM_parts {a b : ByteArray} {L : List F} (h : keepM (a, b, L) = true) : a.size ≤ 100 ∧ b.size ≤ 100 ∧ L.length ≤ 8 ∧ ∀ i (hi : i < L.length), L[i].1.size ≤ 100 ∧ L[i].2.size ≤ 100 := by
  unfold keepM at h
  simp only [Bool.and_eq_true, decide_eq_true_eq] at h
  obtain ⟨k1, k2⟩ := keepP_parts h.2
  exact ⟨h.1.1, h.1.2, k1, k2⟩
theorem same_str10 (m : ByteArray) : (m.toList == m.toList) = true := by simp
set_option maxRecDepth 100000 in
set_option maxHeartbeats 4000000 in
theorem matches10_walk (a b : ByteArray) (p : Option Addr) (cp : Nat) (K : List F) (c d : ByteArray) (q : Option Addr) (cq : Nat) (L : List F) (w : World)
    (ha0 : a.size ≤ maxLen) (hb0 : b.size ≤ maxLen) (hk : K.length ≤ maxLen) (hF : Fs w p K) (hkc : K.length ≤ cp) (hc0 : c.size ≤ maxLen) (hd0 : d.size ≤ maxLen) (hl : L.length ≤ maxLen) (hG : Fs w q L) (hlc : L.length ≤ cq) :
    Calls Try.prog 4 #[mtV a b p cp K, mtV c d q cq L] w fun e w' => e = .returned (.bool true) ∧ Below w.heap.size w w' := by
  have HK := hk
  have HL := hl
  have T0 := box (Two3.new (c0 := .string a) (c1 := .string b) (c2 := .slice p K.length cp) (d0 := .string c) (d1 := .string d) (d2 := .slice q L.length cq) 24 24 hF hG)
  unfold mtV
  clear hk hl hF hG
  go_enter Try.func4, Try.ntmps4
  go_wp2_with fail
  refine (keepMedia_any a b p cp K _ ha0 hb0 HK (box T0.out.f)).mono ?_; rintro e w1 ⟨rfl, hb1⟩
  have T1 := box (T0.out.next hb1)
  obtain ⟨e0, e1, e2, e3, e4, e5⟩ := T1.out.cells
  clear hb1
  rcases hk1 : keepM (a, b, K) with _ | _
  · go_wp2
    go_ret
    exact ⟨rfl, T1.out.b⟩
  · go_wp2_with fail
    refine (keepMedia_any c d q cq L _ hc0 hd0 HL (box T1.out.g)).mono ?_; rintro e w2 ⟨rfl, hb2⟩
    have T2 := box (T1.out.next hb2)
    clear hb2 e0 e1 e2 e3 e4 e5
    rcases hk2 : keepM (c, d, L) with _ | _
    · go_wp2
      go_ret
      exact ⟨rfl, T2.out.b⟩
    · obtain ⟨ha1, hb1, hK8, hKz⟩ := keepM_parts hk1
      obtain ⟨hc1, hd1, hL8, hLz⟩ := keepM_parts hk2
      have lK : Box (K.length ≤ 65536) := box (by omega)
      have lL : Box (L.length ≤ 65536) := box (by omega)
      have zK : Box (∀ i (hi : i < K.length), K[i].1.size ≤ 65536 ∧ K[i].2.size ≤ 65536) := box (fun i hi => by have := hKz i hi; omega)
      have zL : Box (∀ i (hi : i < L.length), L[i].1.size ≤ 65536 ∧ L[i].2.size ≤ 65536) := box (fun i hi => by have := hLz i hi; omega)
      have hc : c.size ≤ 30000 := by omega
      have hd : d.size ≤ 30000 := by omega
      obtain ⟨x, hx⟩ : ∃ x, fmtMB (c, d, L) = x := ⟨_, rfl⟩
      obtain ⟨i, hi⟩ : ∃ i, matchI (a, b, K) (c, d, L) = i := ⟨_, rfl⟩
      have HX := box hx
      have HI := box hi
      have sx := same_str10 x
      have si : (i == i) = true := by simp
      have K0 := T2
      clear hx hi hk1 hk2 hKz hLz ha1 hb1 hc1 hd1 hK8 hL8 ha0 hb0 hc0 hd0 HK HL hkc hlc
      go_wp2
      go_region_held3 (fun w' => w'.cell? ⟨w.heap.size, 0, none⟩ = some (.string a) ∧ w'.cell? ⟨w.heap.size, 1, none⟩ = some (.string b) ∧ w'.cell? ⟨w.heap.size, 2, none⟩ = some (.slice p K.length cp) ∧ w'.cell? ⟨w.heap.size + 1, 0, none⟩ = some (.string c) ∧ w'.cell? ⟨w.heap.size + 1, 1, none⟩ = some (.string d) ∧ w'.cell? ⟨w.heap.size + 1, 2, none⟩ = some (.slice q L.length cq)) (first | exact K5.out.cells | exact K4.out.cells | exact K3.out.cells | exact K2.out.cells | exact K1.out.cells | exact K0.out.cells | exact (K0.out.drewN).cells) (first | (go_at_call 12; refine (awake10_any _).mono ?_; rintro e u5 ⟨rfl, hu⟩; have K5 := box ((K4.out).next hu); clear hu) | (go_at_call 17; refine (rFmt10_is hc hd lL zL K3.out.g HX).mono ?_; rintro e u4 ⟨rfl, hu⟩; have K4 := box ((K3.out).next hu); clear hu) | (go_at_call 16; refine (mFmt10_is hc hd lL zL K2.out.g HX).mono ?_; rintro e u3 ⟨rfl, hu⟩; have K3 := box ((K2.out).next hu); clear hu) | (go_at_call 15; refine (rmatch_is (K := K) (L := L) (box rfl) (box rfl) lK lL zK zL K1.out.f K1.out.g HI).mono ?_; rintro e u2 ⟨rfl, hu⟩; have K2 := box ((K1.out).next hu); clear hu) | (go_at_call 14; refine (match_is (K := K) (L := L) (box rfl) (box rfl) lK lL zK zL (K0.out.drewN).f (K0.out.drewN).g HI).mono ?_; rintro e u1 ⟨rfl, hu⟩; have K1 := box ((K0.out.drewN).next hu); clear hu) )
      all_goals
        go_wp2
        go_ret
        exact ⟨rfl, K5.out.b⟩
end
section
open Go.RowKit
theorem some_of {o : Option M} {m : M} (h : ofM o = m) (hs : o.isSome = true) : o = some m := by
  cases o with
  | none => cases hs
  | some x => rw [← h]; rfl
theorem fmtMB_list (a b : ByteArray) (L : List F) : (fmtMB (a, b, L)).data.toList = fmtPL (a.data.toList ++ 47 :: b.data.toList) L := by
  have e : (a ++ (⟨#[47]⟩ : ByteArray) ++ b).data.toList = a.data.toList ++ 47 :: b.data.toList := by simp [ByteArray.data_append]
  show (bs (fmtPL (a ++ (⟨#[47]⟩ : ByteArray) ++ b).data.toList L)).data.toList = _
  rw [e, bs_toList]
theorem back_facts {s a b x : ByteArray} {L : List F} (h : rangeL s.data.toList = some (a, b, L)) (hs : s.size ≤ 1000) (hx : fmtMB (a, b, L) = x) : rangeL x.data.toList = some (a, b, L) ∧ x.size ≤ 65000 := by
  have hz : s.data.toList.length = s.size := by simp
  obtain ⟨_, _, h3, h4⟩ := range_facts h
  have hb := range_back h
  have hl := fmt_len (a.data.toList ++ 47 :: b.data.toList) L
  rw [← fmtMB_list, hx] at hb hl
  refine ⟨hb, ?_⟩
  have z1 : a.data.toList.length = a.size := by simp
  have z2 : b.data.toList.length = b.size := by simp
  have z3 : x.data.toList.length = x.size := by simp
  rw [List.length_append, List.length_cons] at hl
  omega
set_option maxHeartbeats 1000000 in
theorem back10_walk (s : ByteArray) (w : World) (S : s.size ≤ maxLen) :
    Calls Try.prog 5 #[.string s] w fun e w' => e = .returned (.bool true) ∧ Below w.heap.size w w' := by
  unfold maxLen at S
  by_cases h : 1000 < s.size
  · have hi : (1000 : Int) < (s.size : Int) := by omega
    go_enter Try.func5, Try.ntmps5
    go_wp2
    go_ret
    exact ⟨rfl, Below.refl _ _⟩
  · have hi : ¬ (1000 : Int) < (s.size : Int) := by omega
    have hs6 : s.size ≤ 65000 := by omega
    obtain ⟨⟨a, b, L⟩, hR⟩ : ∃ m, ofM (rangeL s.data.toList) = m := ⟨_, rfl⟩
    rcases hr : (rangeL s.data.toList).isSome with _ | _
    · have HR := box (And.intro hR hr)
      clear hR hr
      go_enter Try.func5, Try.ntmps5
      go_wp2_with fail
      refine (mRan_is hs6 HR).mono ?_; rintro e w1 ⟨p1, c1, rfl, hF1, hb1⟩
      have hnw := below_new w1 (.cells #[.string a, .string b, .slice p1 L.length c1] 24)
      have B1 := box (hb1.trans (hnw.mono hb1.size))
      clear hF1 hb1 hnw
      go_wp2_with fail
      refine (awake10_any _).mono ?_; rintro e w2 ⟨rfl, hb2⟩
      have B2 := box (B1.out.trans (hb2.mono B1.out.size))
      clear hb2
      go_wp2
      go_ret
      exact ⟨rfl, B2.out⟩
    · obtain ⟨x, hx⟩ : ∃ x, fmtMB (a, b, L) = x := ⟨_, rfl⟩
      obtain ⟨k1, k2⟩ := back_facts (some_of hR hr) (by omega) hx
      obtain ⟨g1, g2, g3, g4⟩ := range_len hR
      have lL : Box (L.length ≤ 65536) := box (by omega)
      have zL : Box (∀ i (hi : i < L.length), L[i].1.size ≤ 65536 ∧ L[i].2.size ≤ 65536) := box (fun i hi => by have := g2 i hi; omega)
      have ha : a.size ≤ 30000 := by omega
      have hb : b.size ≤ 30000 := by omega
      have HX := box hx
      have HR := box (And.intro hR hr)
      have HB : Box (ofM (rangeL x.data.toList) = (a, b, L) ∧ (rangeL x.data.toList).isSome = true) := box (by rw [k1]; exact ⟨rfl, rfl⟩)
      clear hR hr hx k1 g1 g2 g3 g4
      go_enter Try.func5, Try.ntmps5
      go_wp2_with fail
      refine (mRan_is hs6 HR).mono ?_; rintro e w1 ⟨p1, c1, rfl, hF1, hb1⟩
      have hnw := below_new w1 (.cells #[.string a, .string b, .slice p1 L.length c1] 24)
      have M1 := box (MedAt.new hF1 a b c1)
      have B1 := box (hb1.trans (hnw.mono hb1.size))
      clear hF1 hb1 hnw
      go_wp2_with fail
      refine (mFmt10_is ha hb lL zL M1.out.2 HX).mono ?_; rintro e w2 ⟨rfl, hb2⟩
      have M1 := box (M1.out.next hb2)
      have B2 := box (B1.out.trans (hb2.mono B1.out.size))
      clear hb2
      go_wp2_with fail
      refine (mRan_is k2 HB).mono ?_; rintro e w3 ⟨p3, c3, rfl, hF3, hb3⟩
      have hnw := below_new w3 (.cells #[.string a, .string b, .slice p3 L.length c3] 24)
      have N1 := M1.out.next hb3
      have F1 := box (N1.next hnw).2
      have F3 := box (hF3.below hnw)
      have B3 := box (B2.out.trans ((hb3.trans (hnw.mono hb3.size)).mono B2.out.size))
      have n1 : w1.heap.size ≠ w3.heap.size := Nat.ne_of_lt N1.lt
      obtain ⟨⟨⟨r0, r1, r2⟩, _⟩, _⟩ := N1.next hnw
      clear hF3 hb3 hnw M1 N1
      go_wp2_with fail
      refine (sameM_is (L := L) (box rfl) (box rfl) lL F1.out F3.out).mono ?_; rintro e w4 ⟨rfl, hb4⟩
      have B4 := box (B3.out.trans (hb4.mono B3.out.size))
      clear r0 r1 r2 n1 hb4
      go_wp2_with fail
      refine (awake10_any _).mono ?_; rintro e w5 ⟨rfl, hb5⟩
      have B5 := box (B4.out.trans (hb5.mono B4.out.size))
      clear hb5
      go_wp2
      go_ret
      exact ⟨rfl, B5.out⟩
end
section
open Go.RowKit
theorem add_at (g off j : Nat) : (⟨g, off, none⟩ : Addr).add j = ⟨g, off + j, none⟩ := by
  unfold Addr.add; split <;> simp_all
/-- the cells of a list of fields, out of memory -/
theorem Fs.news {w : World} {ad : Addr} {M : List F} (h : Fs w (some ad) M) : ∀ j u, (cellsF M)[j]? = some u → w.cell? (ad.add j) = some u := by
  intro j u hj
  have hlen := (List.getElem?_eq_some_iff.mp hj).1
  rw [cellsF_len] at hlen
  have hi : j / 2 < M.length := by omega
  obtain ⟨g, off, e, c0, c1⟩ := h (j / 2) hi
  obtain ⟨q0, q1⟩ := cellsF_at M (j / 2) hi
  cases e
  rw [add_at]
  rcases Nat.mod_two_eq_zero_or_one j with r | r
  · have ej : j = j / 2 * 2 := by omega
    rw [← ej] at q0 c0
    rw [q0] at hj; cases hj; exact c0
  · have ej : j = j / 2 * 2 + 1 := by omega
    rw [← ej] at q1
    rw [Nat.add_assoc, ← ej] at c1
    rw [q1] at hj; cases hj; exact c1
theorem cellsF_one (M : List F) : ∀ u ∈ cellsF M, u.oneCell' = true := by
  intro u hu
  obtain ⟨p, _, hp⟩ := List.mem_flatMap.mp hu
  simp at hp; rcases hp with rfl | rfl <;> rfl
end
section
open Go.RowKit
/-- append of a list of parameters -/
theorem wpList_append_prms (w : World) {ops : Array Oper} {rest : List Oper} {o : Oper} {a : Act} {Q : Exit → Act → World → Prop} (hgd : o.guard = none) (s x : Operand)
    (ho : o.op = .call { callee := .builtin .append, args := #[s, x], argTypes := #[22, 22] })
    (B : Nat) (v : Value) (L M : List F) (hs : a.eval s = v) (hown : OwnP w B v L)
    (ad : Option Addr) (c : Nat) (hx : a.eval x = .slice ad M.length c) (hn : ad = none → c = 0) (hM : Fs w ad M) (hl : L.length ≤ 65536) (hm : M.length ≤ 65536) (hB : B ≤ w.heap.size)
    (h : ∀ v' w', OwnP w' B v' (L ++ M) → Below B w w' → wpList Try.prog ops Q rest (a.put o.dst v') w') : wpList Try.prog ops Q (o :: rest) a w := by
  obtain ⟨i0, hi0, hz0, hz1, hz2⟩ := info_parts info_prm
  rcases ad with _ | ad
  · have hc := hn rfl
    subst hc
    have he : M = [] := by
      rcases M with _ | ⟨p, M⟩
      · rfl
      · obtain ⟨g, off, e, _⟩ := hM 0 (by simp)
        cases e
    subst he
    rw [List.append_nil] at h
    exact wpList_append_own_none (P := Try.prog) hgd s x 22 ho B 35 i0 2 Try.underlying22 hi0 v L.length (cellsF L) hs hown hx (h v w hown (Below.refl _ _))
  · refine wpList_append_own (P := Try.prog) w hgd s x 22 ho B 35 i0 _ 2 32 Try.underlying22 hi0 hz0 hz1 hz2 rfl (by decide) v L.length (cellsF L) hs hown ad M.length c (cellsF M) hx (cellsF_len M) hM.news (cellsF_one M) (by unfold maxLen; omega) (by omega) hB ?_
    intro v' w' q1 q2 _
    refine h v' w' (by simpa [OwnP, cellsF_app] using q1) ((Below.refl _ _).grown q2 hB (fun k hk => own_block hown k hk))
/-- what a slice of parameters that a call owns looks like: nil has no capacity -/
theorem OwnP.fs2 {w : World} {B : Nat} {v : Value} {L : List F} (h : OwnP w B v L) : ∃ a cap, v = .slice a L.length cap ∧ Fs w a L ∧ (a = none → cap = 0) ∧ L.length ≤ cap := by
  rcases h.2 with ⟨rfl, hn⟩ | ⟨g, cap, cur, rfl, _⟩
  · exact ⟨none, 0, by rw [hn], fun i hi => by omega, fun _ => rfl, by omega⟩
  · obtain ⟨a, cap', hv, hf, hc⟩ := OwnP.fs h
    injection hv with e1 e2 e3
    exact ⟨_, cap, rfl, by rw [e1]; exact hf, fun ha => (by cases ha), by omega⟩
theorem C3.set2 {g : Nat} {c0 c1 c2 : Value} {w : World} (f : C3 g c0 c1 c2 w) (v : Value) : C3 g c0 c1 v (w.setCell ⟨g, 2, none⟩ v) := by
  obtain ⟨⟨h0, h1, h2⟩, f0⟩ := f
  refine ⟨⟨?_, ?_, ?_⟩, by simpa only [World.frozen?_setCell] using f0⟩
  all_goals first
    | (rw [World.cell?_setCell_same (h := h2)])
    | exact (World.cell?_setCell_other _ _ _ _ (by simp)).trans (by assumption)
theorem C3.other {g k i : Nat} {c0 c1 c2 : Value} {w : World} (f : C3 g c0 c1 c2 w) (hk : k ≠ g) (v : Value) : C3 g c0 c1 c2 (w.setCell ⟨k, i, none⟩ v) := by
  obtain ⟨⟨h0, h1, h2⟩, f0⟩ := f
  refine ⟨⟨?_, ?_, ?_⟩, by simpa only [World.frozen?_setCell] using f0⟩
  all_goals exact (World.cell?_setCell_other _ ⟨k, i, none⟩ _ _ (by intro e; cases e; exact hk rfl)).trans (by assumption)
end
section
open Go.RowKit
theorem prm_self (p : F) : prmOk p p = true := by unfold prmOk; rw [fold_refl]; simp
theorem all_self (L : List F) : (L.all fun p => prmIn p L) = true := by
  rw [List.all_eq_true]
  intro p hp
  unfold prmIn
  rw [List.any_eq_true]
  exact ⟨p, hp, prm_self p⟩
theorem match_self {a b : ByteArray} {L : List F} (ha : (a.toList == [42]) = false) (hb : (b.toList == [42]) = false) : matchI (a, b, L) (a, b, L) = 2 + (L.length : Int) := by
  unfold matchI
  simp only [ha, hb, all_self]
  simp
theorem match_type {a b : ByteArray} {L : List F} (ha : (a.toList == [42]) = false) : matchI (a, star, []) (a, b, L) = 1 := by
  have hs : (star.toList == [42]) = true := by decide +kernel
  unfold matchI
  simp only [ha, hs]
  simp
theorem match_every {a b : ByteArray} {L : List F} : matchI (star, star, []) (a, b, L) = 0 := by
  have hs : (star.toList == [42]) = true := by decide +kernel
  unfold matchI
  simp only [hs]
  simp
theorem match_more {a b : ByteArray} {L : List F} {x : F} (ha : (a.toList == [42]) = false) (hb : (b.toList == [42]) = false) (hx : ∀ p ∈ L, p.1.size < x.1.size) : matchI (a, b, L ++ [x]) (a, b, L) = -1 := by
  have hn : prmIn x L = false := by
    unfold prmIn
    rw [List.any_eq_false]
    intro p hp e
    unfold prmOk at e
    rw [Bool.and_eq_true] at e
    have := str_eq e.1
    have h2 := hx p hp
    rw [this] at h2; omega
  have hall : ((L ++ [x]).all fun p => prmIn p L) = false := by rw [List.all_append]; simp [hn]
  unfold matchI
  simp only [ha, hb, hall]
  simp
theorem media_more {s : ByteArray} {a b : ByteArray} {L : List F} (h : ofM (mediaL s.data.toList) = (a, b, L)) (hs : (mediaL s.data.toList).isSome = true) :
    (a.toList == [42]) = false ∧ (b.toList == [42]) = false ∧ (∀ p ∈ L, p.1.size ≤ s.size) := by
  have hz : s.data.toList.length = s.size := by simp
  rw [media_cases] at h hs
  split at h
  · rename_i hr
    rw [if_pos hr] at hs
    split at h
    · rename_i hst
      rw [if_pos hst] at hs; cases hs
    · rename_i hst
      have h' : ofM (rangeL s.data.toList) = (a, b, L) := h
      rw [h'] at hst
      obtain ⟨_, _, h3, _⟩ := range_facts (some_of h' hr)
      refine ⟨?_, ?_, fun p hp => by have := szF_mem hp; omega⟩
      · cases e : (a.toList == [42]) with
        | false => rfl
        | true => exact absurd (.inl ((star_eq e).2 rfl)) hst
      · cases e : (b.toList == [42]) with
        | false => rfl
        | true => exact absurd (.inr ((star_eq e).2 rfl)) hst
  · rename_i hr
    rw [if_neg hr] at hs; cases hs
theorem mMed_is2 {s : ByteArray} {a b : ByteArray} {L : List F} {q : Bool} {w : World} (hs : s.size ≤ 65000) (h : Box (ofM (mediaL s.data.toList) = (a, b, L) ∧ (mediaL s.data.toList).isSome = q)) :
    Calls Try.prog 7 #[.string s] w fun e w' => ∃ p cap, e = .returned (.tuple #[.agg #[.string a, .string b, .slice p L.length cap], .bool q]) ∧ Fs w' p L ∧ (p = none → cap = 0) ∧ Below w.heap.size w w' :=
  (mMedia_any s w hs).mono fun e w' ⟨v, h1, h2, h3⟩ => by
    rw [h.out.1] at h1 h2
    rw [h.out.2] at h1
    obtain ⟨p, cap, rfl, hF, hn, _⟩ := h2.fs2
    exact ⟨p, cap, h1, hF, hn, h3⟩
theorem rLow10_is {s x : ByteArray} {w : World} (hs : s.size ≤ 4294967296) (h : Box (bs (lowL s.data.toList) = x)) :
    Calls Try.prog 18 #[.string s] w fun e w' => e = .returned (.string x) ∧ Below w.heap.size w w' :=
  (rLower_any s w hs).mono fun e w' ⟨h1, h2⟩ => ⟨by rw [h1, ← h.out]; rfl, h2⟩
theorem OwnP.at {w : World} {B : Nat} {a : Option Addr} {n cap : Nat} {L : List F} (h : OwnP w B (.slice a n cap) L) : Fs w a L := by
  obtain ⟨a', cap', hv, hF, _⟩ := h.fs
  injection hv with e1 e2 e3
  rw [e1]; exact hF
theorem fs_none {w : World} : Fs w none [] := fun i hi => absurd hi (by simp)
theorem nil_small : ∀ i (hi : i < ([] : List F).length), ([] : List F)[i].1.size ≤ 65536 ∧ ([] : List F)[i].2.size ≤ 65536 := fun i hi => absurd hi (by simp)
set_option maxRecDepth 100000 in
set_option maxHeartbeats 4000000 in
theorem itself10_in (s nm : ByteArray) (w : World) (h1 : s.size ≤ 1000) (h2 : nm.size ≤ 50) (a b : ByteArray) (L K : List F) (lw x : ByteArray) (HM : Box (ofM (mediaL s.data.toList) = (a, b, L) ∧ (mediaL s.data.toList).isSome = true))
    (HW : Box (bs (lowL nm.data.toList) = lw)) (HWZ : lw.size ≤ 50) (HXQ : (⟨#[120]⟩ : ByteArray) ++ lw ++ s = x) (HK : Box (L ++ [(x, ⟨#[49]⟩)] = K)) (lL : Box (L.length ≤ 65536)) (lL2 : L.length ≤ 1000) (lK : Box (K.length ≤ 65536))
    (zL : Box (∀ i (hi : i < L.length), L[i].1.size ≤ 65536 ∧ L[i].2.size ≤ 65536)) (zK : Box (∀ i (hi : i < K.length), K[i].1.size ≤ 65536 ∧ K[i].2.size ≤ 65536))
    (H1 : Box (matchI (a, b, L) (a, b, L) = 2 + (L.length : Int))) (H2 : Box (matchI (a, ⟨#[42]⟩, []) (a, b, L) = 1)) (H3 : Box (matchI (⟨#[42]⟩, ⟨#[42]⟩, []) (a, b, L) = 0)) (H4 : Box (matchI (a, b, K) (a, b, L) = -1)) :
    Calls Try.prog 6 #[.string s, .string nm] w fun e w' => e = .returned (.bool true) ∧ Below w.heap.size w w' := by
  have i1 : ¬ (1000 : Int) < (s.size : Int) := by omega
  have i2 : ¬ (50 : Int) < (nm.size : Int) := by omega
  have hs6 : s.size ≤ 65000 := by omega
  have hn4 : nm.size ≤ 4294967296 := by omega
  have nL : Box (([] : List F).length ≤ 65536) := box (Nat.zero_le _)
  have nZ := box nil_small
  have ad1 : ∀ w, (Op.stringOp .add ⟨#[120]⟩ lw).run Try.prog w = .ok (.string (⟨#[120]⟩ ++ lw)) w := fun w => run_string_add_sum w _ _ (by show 1 + lw.size ≤ 9223372036854775807; omega)
  have ad2 : ∀ w, (Op.stringOp .add (⟨#[120]⟩ ++ lw) s).run Try.prog w = .ok (.string x) w := fun w => by
    have := run_string_add_sum (P := Try.prog) w ((⟨#[120]⟩ : ByteArray) ++ lw) s (by rw [ByteArray.size_append]; show 1 + lw.size + s.size ≤ 9223372036854775807; omega)
    rw [HXQ] at this; exact this
  have hwr : IntKind.i64.wrap ((2 : Int) + (L.length : Int)) = 2 + (L.length : Int) := IntWalk.i64_in _ (by omega)
  have si : ((2 : Int) + (L.length : Int) == 2 + (L.length : Int)) = true := by simp
  clear HXQ HWZ
  go_enter Try.func6, Try.ntmps6
  go_wp2_with fail
  refine (mMed_is2 hs6 HM).mono ?_; rintro e w1 ⟨p1, c1, rfl, hF1, hn1, hb1⟩
  have T1 := box (Two3.new (c0 := .string a) (c1 := .string b) (c2 := .slice p1 L.length c1) (d0 := .string a) (d1 := .string b) (d2 := .slice p1 L.length c1) 24 24 hF1 hF1)
  have B1 := box hb1
  have N1 := box hn1
  have F1 := box hF1
  clear hF1 hb1 hn1
  go_wp2_with (at_builtin; refine wpList_append_prms _ rfl (.const (.slice none 0 0)) (.tmp 26) rfl (w1.heap.size + 1 + 1) _ [] L rfl (OwnP.nil _ _) p1 c1 rfl N1.out T1.out.f (by simp) lL.out (by simp) ?_)
  intro v2 w2 hO2 hb2
  have O2 := box hO2
  have T2 := box (T1.out.next (hb2.mono (by simp)))
  have hsz2 : w1.heap.size + 1 + 1 ≤ w2.heap.size := by have := hb2.size; simpa using this
  clear hO2 hb2
  go_wp2_with fail
  refine (rLow10_is hn4 HW).mono ?_; rintro e w3 ⟨rfl, hb3⟩
  have O3 := box (own_below O2.out hb3)
  have T3 := box (T2.out.next hb3)
  have hsz3 := Nat.le_trans hsz2 hb3.size
  clear hb3
  go_wp2_with (at_builtin; refine wpList_append_prm _ rfl (.tmp 27) (.tmp 34) rfl (w1.heap.size + 1 + 1) _ L rfl ?a1 _ _ rfl x ⟨#[49]⟩ ?b1 ?b2 ?c1 ?d1 ?_)
  case a1 => exact own_below O3.out (below_new _ _)
  case b1 => go_simp
  case b2 => go_simp
  case c1 => omega
  case d1 => simp; omega
  intro v4 w4 hO4 hb4
  have hB4 := (T3.out.b.trans ((below_new w3 (.cells #[.string x, .string ⟨#[49]⟩] 35)).mono T3.out.b.size)).trans (hb4.mono (B' := w1.heap.size) (by omega))
  have C1 := (T3.out.c.next (below_new w3 (.cells #[.string x, .string ⟨#[49]⟩] 35))).below hb4 (by omega)
  have D1 := (T3.out.d.next (below_new w3 (.cells #[.string x, .string ⟨#[49]⟩] 35))).below hb4 (by omega)
  rw [HK.out] at hO4
  obtain ⟨p2, c2, rfl, _, _⟩ := hO4.fs
  have T5 : Box (Two3 w1 (.string a) (.string b) (.slice p1 L.length c1) (.string a) (.string b) (.slice p2 K.length c2) p1 p2 L K (w4.setCell ⟨w1.heap.size + 1, 2, none⟩ (.slice p2 K.length c2))) :=
    box ⟨C1.other (by omega) _, D1.set2 _, F1.out.below (hB4.setCell (p := ⟨w1.heap.size + 1, 2, none⟩) (Nat.le_succ _) _), OwnP.at (own_only hO4 ((Only.refl (w1.heap.size + 1) w4).setAt 2 _) (Nat.lt_succ_self _)), hB4.setCell (p := ⟨w1.heap.size + 1, 2, none⟩) (Nat.le_succ _) _⟩
  obtain ⟨⟨d0, d1, d2⟩, ⟨_, _, d5⟩⟩ := D1
  clear hO4 hb4 hB4 C1
  have K0 := T5
  go_wp2
  go_region_held3 (fun w' => w'.cell? ⟨w1.heap.size, 0, none⟩ = some (.string a) ∧ w'.cell? ⟨w1.heap.size, 1, none⟩ = some (.string b) ∧ w'.cell? ⟨w1.heap.size, 2, none⟩ = some (.slice p1 L.length c1) ∧ w'.cell? ⟨w1.heap.size + 1, 0, none⟩ = some (.string a) ∧ w'.cell? ⟨w1.heap.size + 1, 1, none⟩ = some (.string b) ∧ w'.cell? ⟨w1.heap.size + 1, 2, none⟩ = some (.slice p2 K.length c2)) (first | exact K5.out.cells | exact K4.out.cells | exact K3.out.cells | exact K2.out.cells | exact K1.out.cells | exact K0.out.cells | exact (K0.out.drewN).cells) (first | (go_at_call 12; refine (awake10_any _).mono ?_; rintro e u5 ⟨rfl, hu⟩; have K5 := box ((K4.out).next hu); clear hu) | (go_at_call 14; refine (match_is (K := K) (L := L) (box rfl) (box rfl) lK lL zK zL K3.out.g K3.out.f H4).mono ?_; rintro e u4 ⟨rfl, hu⟩; have K4 := box ((K3.out).next hu); clear hu) | (go_at_call 14; refine (match_is (K := []) (L := L) (box rfl) (box rfl) nL lL nZ zL fs_none K2.out.f H3).mono ?_; rintro e u3 ⟨rfl, hu⟩; have K3 := box ((K2.out).next hu); clear hu) | (go_at_call 14; refine (match_is (K := []) (L := L) (box rfl) (box rfl) nL lL nZ zL fs_none K1.out.f H2).mono ?_; rintro e u2 ⟨rfl, hu⟩; have K2 := box ((K1.out).next hu); clear hu) | (go_at_call 14; refine (match_is (K := L) (L := L) (box rfl) (box rfl) lL lL zL zL (K0.out.drewN).f (K0.out.drewN).f H1).mono ?_; rintro e u1 ⟨rfl, hu⟩; have K1 := box ((K0.out.drewN).next hu); clear hu) )
  all_goals
    go_wp2
    go_ret
    exact ⟨rfl, B1.out.trans (K5.out.b.mono B1.out.size)⟩
set_option maxHeartbeats 1000000 in
theorem itself10_walk (s nm : ByteArray) (w : World) (S : s.size ≤ maxLen) (N : nm.size ≤ maxLen) :
    Calls Try.prog 6 #[.string s, .string nm] w fun e w' => e = .returned (.bool true) ∧ Below w.heap.size w w' := by
  unfold maxLen at S N
  by_cases h1 : s.size ≤ 1000
  · have i1 : ¬ (1000 : Int) < (s.size : Int) := by omega
    by_cases h2 : nm.size ≤ 50
    · have i2 : ¬ (50 : Int) < (nm.size : Int) := by omega
      obtain ⟨⟨a, b, L⟩, hM⟩ : ∃ m, ofM (mediaL s.data.toList) = m := ⟨_, rfl⟩
      rcases hq : (mediaL s.data.toList).isSome with _ | _
      · have HM := box (And.intro hM hq)
        have hs6 : s.size ≤ 65000 := by omega
        clear hM hq
        go_enter Try.func6, Try.ntmps6
        go_wp2_with fail
        refine (mMed_is hs6 HM).mono ?_; rintro e w1 ⟨p1, c1, rfl, hF1, hb1⟩
        have hnw := below_new w1 (.cells #[.string a, .string b, .slice p1 L.length c1] 24)
        have B1 := box (hb1.trans (hnw.mono hb1.size))
        clear hF1 hb1 hnw
        go_wp2_with fail
        refine (awake10_any _).mono ?_; rintro e w2 ⟨rfl, hb2⟩
        have B2 := box (B1.out.trans (hb2.mono B1.out.size))
        clear hb2
        go_wp2
        go_ret
        exact ⟨rfl, B2.out⟩
      · obtain ⟨ha, hb, hsm⟩ := media_more hM hq
        obtain ⟨g1, g2, _, _⟩ := media_len hM
        have hlw : (bs (lowL nm.data.toList)).size = nm.size := by rw [bs_size, lowL_len]; simp
        have hxs : ((⟨#[120]⟩ : ByteArray) ++ bs (lowL nm.data.toList) ++ s).size = 1 + nm.size + s.size := by rw [ByteArray.size_append, ByteArray.size_append, hlw]; rfl
        refine itself10_in s nm w h1 h2 a b L _ _ _ (box ⟨hM, hq⟩) (box rfl) (by omega) rfl (box rfl) (box (by omega)) (by omega) (box (by rw [List.length_append]; simp; omega)) (box fun i hi => by have := g2 i hi; omega) (box fun i hi => ?_)
          (box (match_self ha hb)) (box (match_type ha)) (box match_every) (box (match_more ha hb fun p hp => ?_))
        · by_cases hil : i < L.length
          · rw [List.getElem_append_left hil]; have := g2 i hil; omega
          · rw [List.getElem_append_right (by omega)]
            simp only [List.getElem_singleton]
            exact ⟨by rw [hxs]; omega, by show 1 ≤ 65536; omega⟩
        · have := hsm p hp
          show p.1.size < ((⟨#[120]⟩ : ByteArray) ++ bs (lowL nm.data.toList) ++ s).size
          rw [hxs]; omega
    · have i2 : (50 : Int) < (nm.size : Int) := by omega
      go_enter Try.func6, Try.ntmps6
      go_wp2
      go_ret
      exact ⟨rfl, Below.refl _ _⟩
  · have i1 : (1000 : Int) < (s.size : Int) := by omega
    go_enter Try.func6, Try.ntmps6
    go_wp2
    go_ret
    exact ⟨rfl, Below.refl _ _⟩
end
end Go.Proofs.Ytkalddhokoldgaa.Asc
