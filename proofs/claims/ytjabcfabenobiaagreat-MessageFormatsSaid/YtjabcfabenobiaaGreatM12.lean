/- Merged texts: MsgRd4 MsgRd5 MsgRd6 MsgRd7. -/
import Derived.Test.YtjabcfabenobiaaGreatM11
import Derived.BigRegion
import Derived.Deep.RegionHeld3
set_option linter.unusedVariables false
set_option linter.unusedSimpArgs false
set_option maxRecDepth 100000
namespace Go.Proofs.YtjabcfabenobiaaGreat.Asc
section
open Go.RowKit
def BodPost (g : Nat) (s x : ByteArray) (v fr : Value) (o : Int ⊕ (List UInt8 × Int)) (e : Ending) (w' : World) : Prop := match o with
  | .inl c => e = .returned (hlV ⟨#[]⟩ c) ∧ (c = 0 → False)
  | .inr (b, c) => e = .returned (hlV (bs b) 0) ∧ ∃ x1 ln, C5 g (.string s) (.string x1) v fr ln w' ∧ (x1.size : Int) + c = x.size ∧ 0 ≤ c
theorem counted_any (g : Nat) (s x : ByteArray) (v fr : Value) (k : Nat) (w : World) (hx : x.size ≤ 4000000) (hk : (k : Int) ≤ 2147483647) (C : Box (C5 g (.string s) (.string x) v fr (.int .i64 k) w)) (o : Int ⊕ (List UInt8 × Int)) (HO : Box (bodyL k x.data.toList = o)) :
    Calls Tryz.prog 75 #[.pointer (some ⟨g, 0, none⟩)] w fun e w' => BodPost g s x v fr o e w' ∧ Kept g w w' := by
  have hz : x.data.toList.length = x.size := by simp
  have hg := C.out.lt
  obtain ⟨⟨r0, r1, r2, r3, r4⟩, ⟨f0, f1, f2, f3, f4⟩⟩ := C.out
  by_cases h1 : (100000 : Int) < (k : Int)
  · have HE : Box (o = .inl 5) := box (by rw [← HO.out]; unfold bodyL; rw [if_neg (by omega), if_pos h1])
    clear hz
    go_enter Tryz.func75, Tryz.ntmps75
    go_wp2
    go_ret2
    rw [HE.out]
    exact ⟨⟨rfl, by decide⟩, Kept.refl _ _⟩
  · by_cases h2 : (x.size : Int) < (k : Int)
    · have HE : Box (o = .inl 2) := box (by rw [← HO.out]; unfold bodyL; rw [if_neg (by omega), if_neg h1, if_pos (by omega)])
      clear hz
      go_enter Tryz.func75, Tryz.ntmps75
      go_wp2
      go_quiet (fail)
      go_wp2
      go_ret2
      rw [HE.out]
      exact ⟨⟨rfl, by decide⟩, Kept.of (below_drewN _ _) hg⟩
    · have hkn : k ≤ x.size := by omega
      have hk0 : (0 : Int) ≤ (k : Int) := by omega
      have hkx : (k : Int) ≤ (x.size : Int) := by omega
      have HE : Box (o = .inr ((x.extract 0 k).data.toList, (k : Int))) := box (by
        rw [← HO.out]; unfold bodyL; rw [if_neg (by omega), if_neg h1, if_neg (by omega)]
        rw [ext_bs, bs_toList]; simp)
      have HZ : Box (((x.extract k x.size).size : Int) + (k : Int) = x.size) := box (by simp; omega)
      clear hz
      go_enter Tryz.func75, Tryz.ntmps75
      go_wp2
      go_quiet (fail)
      go_wp2
      go_quiet (fail)
      go_wp2
      go_region
      all_goals
        go_wp2
        go_ret2
        rw [HE.out]
        exact ⟨⟨rfl, x.extract k x.size, _, C5.set1 (C5.drewN C.out) _, HZ.out, hk0⟩, Kept.set (i := 1) (Kept.of (below_drewN _ _) hg) (by omega) _⟩
theorem cDec_is {x b : ByteArray} {c e0 : Int} {w : World} (hx : x.size ≤ 2000000) (h : Box (decodeL x.data.toList = (b.data.toList, c, e0))) :
    Calls Tryz.prog 95 #[.string x] w fun e w' => e = .returned (.tuple #[.string b, .int .i64 c, .int .i64 e0]) ∧ Below w.heap.size w w' :=
  (cDecode_any x w hx).mono fun e w' ⟨h1, h2⟩ => ⟨by rw [h1, h.out]; rfl, h2⟩
theorem chunked_any (g : Nat) (s x : ByteArray) (v fr ln : Value) (w : World) (hx : x.size ≤ 2000000) (C : Box (C5 g (.string s) (.string x) v fr ln w)) (o : Int ⊕ (List UInt8 × Int)) (HO : Box (bodyL (-1) x.data.toList = o)) :
    Calls Tryz.prog 76 #[.pointer (some ⟨g, 0, none⟩)] w fun e w' => BodPost g s x v fr o e w' ∧ Kept g w w' := by
  have hz : x.data.toList.length = x.size := by simp
  have hg := C.out.lt
  obtain ⟨⟨r0, r1, r2, r3, r4⟩, _⟩ := C.out
  obtain ⟨b, c, e0, hd⟩ : ∃ (b : ByteArray) (c e0 : Int), decodeL x.data.toList = (b.data.toList, c, e0) := ⟨bs (decodeL x.data.toList).1, _, _, by rw [bs_toList]⟩
  have HD := box hd
  by_cases he : e0 = 0
  · subst he
    have hbd := dec_bd (l := x.data.toList)
    rw [hd] at hbd
    simp only at hbd
    have HE : Box (o = .inr (b.data.toList, c)) := box (by rw [← HO.out]; unfold bodyL; rw [if_pos rfl, hd]; simp)
    obtain ⟨k, rfl⟩ : ∃ k : Nat, c = (k : Int) := ⟨c.toNat, by omega⟩
    have hkn : k ≤ x.size := by omega
    have hk0 : (0 : Int) ≤ (k : Int) := by omega
    have hkx : (k : Int) ≤ (x.size : Int) := by omega
    have HZ : Box (((x.extract k x.size).size : Int) + (k : Int) = x.size) := box (by simp; omega)
    clear hd hbd hz
    go_enter Tryz.func76, Tryz.ntmps76
    go_wp2_with fail
    refine (cDec_is hx HD).mono ?_; rintro e w1 ⟨rfl, hb1⟩
    have C1 := box (C.out.next hb1)
    have K1 := box (Kept.of hb1 hg)
    clear hb1 r0 r1 r2 r3 r4
    obtain ⟨⟨r0, r1, r2, r3, r4⟩, ⟨f0, f1, f2, f3, f4⟩⟩ := C1.out
    go_wp2
    go_ret2
    rw [HE.out]
    exact ⟨⟨rfl, x.extract k x.size, _, C1.out.set1 _, HZ.out, hk0⟩, K1.out.set (i := 1) (by omega) _⟩
  · have HE : Box (o = .inl e0) := box (by rw [← HO.out]; unfold bodyL; rw [if_pos rfl, hd]; simp [he])
    have hne : (e0 != 0) = true := by simpa using he
    have HNE := box he
    clear hd hz he
    go_enter Tryz.func76, Tryz.ntmps76
    go_wp2_with fail
    refine (cDec_is hx HD).mono ?_; rintro e w1 ⟨rfl, hb1⟩
    have K1 := box (Kept.of hb1 hg)
    clear hb1
    go_wp2
    go_ret2
    rw [HE.out]
    exact ⟨⟨rfl, HNE.out⟩, K1.out⟩
theorem bodL_zero (l : List UInt8) : bodyL 0 l = .inr ([], 0) := by
  unfold bodyL; rw [if_neg (by omega), if_neg (by omega), if_neg (by omega)]; rfl
theorem BodPost.shape {g : Nat} {s x : ByteArray} {v fr : Value} {o : Int ⊕ (List UInt8 × Int)} {e : Ending} {w' : World} (h : BodPost g s x v fr o e w') : ∃ y c, e = .returned (hlV y c) := by
  rcases o with c | ⟨b, c⟩
  · exact ⟨_, _, h.1⟩
  · exact ⟨_, _, h.1⟩
theorem readBody_any (g : Nat) (s x : ByteArray) (v : Value) (how fr ln : Int) (w : World) (hx : x.size ≤ 2000000) (hf : FrOk how fr ln) (C : Box (C5 g (.string s) (.string x) v (.int .i64 fr) (.int .i64 ln) w)) (o : Int ⊕ (List UInt8 × Int)) (HO : Box (bodyL (if how = -2 then 0 else how) x.data.toList = o)) :
    Calls Tryz.prog 48 #[.pointer (some ⟨g, 0, none⟩)] w fun e w' => BodPost g s x v (.int .i64 fr) o e w' ∧ Kept g w w' := by
  obtain ⟨⟨r0, r1, r2, r3, r4⟩, _⟩ := C.out
  rcases hf with ⟨rfl, rfl, rfl⟩ | ⟨rfl, rfl, rfl⟩ | ⟨h0, h1, rfl, rfl⟩
  · have HO2 : Box (bodyL (-1) x.data.toList = o) := box (by have := HO.out; rwa [if_neg (by omega)] at this)
    go_enter Tryz.func48, Tryz.ntmps48
    go_wp2_with fail
    refine (chunked_any g s x v _ _ _ hx C o HO2).mono ?_; rintro e w1 ⟨hp, hk⟩
    obtain ⟨y, c, rfl⟩ := hp.shape
    have P := box hp
    have K := box hk
    clear hp hk
    unfold hlV
    go_wp2
    go_ret2
    exact ⟨P.out, K.out⟩
  · have HE : Box (o = .inr ([], 0)) := box (by rw [← HO.out, if_pos rfl, bodL_zero])
    go_enter Tryz.func48, Tryz.ntmps48
    go_wp2
    go_ret2
    rw [HE.out]
    exact ⟨⟨rfl, x, _, C.out, by omega, by omega⟩, Kept.refl _ _⟩
  · obtain ⟨k, rfl⟩ : ∃ k : Nat, ln = (k : Int) := ⟨ln.toNat, by omega⟩
    have HO2 : Box (bodyL k x.data.toList = o) := box (by have := HO.out; rwa [if_neg (by omega)] at this)
    have hx4 : x.size ≤ 4000000 := by omega
    go_enter Tryz.func48, Tryz.ntmps48
    go_wp2_with fail
    refine (counted_any g s x v _ k _ hx4 h1 C o HO2).mono ?_; rintro e w1 ⟨hp, hk⟩
    obtain ⟨y, c, rfl⟩ := hp.shape
    have P := box hp
    have K := box hk
    clear hp hk
    unfold hlV
    go_wp2
    go_ret2
    exact ⟨P.out, K.out⟩
end
section
open Go.RowKit
theorem C5.setD {g i : Nat} {c0 c1 c2 c3 c4 : Value} {w : World} (f : C5 g c0 c1 c2 c3 c4 w) (hi : 5 ≤ i) (v : Value) : C5 g c0 c1 c2 c3 c4 (w.setCell ⟨g, i, none⟩ v) := by
  obtain ⟨⟨h0, h1, h2, h3, h4⟩, f0⟩ := f
  refine ⟨⟨?_, ?_, ?_, ?_, ?_⟩, by simpa only [World.frozen?_setCell] using f0⟩
  all_goals exact (World.cell?_setCell_other _ _ _ _ (by intro e; have := congrArg Addr.off e; simp at this; omega)).trans (by assumption)
/-- the cells behind the reader's five -/
def Dq (g : Nat) (d5 d6 d7 d8 d9 : Value) (w : World) : Prop :=
  (w.cell? ⟨g, 5, none⟩ = some d5 ∧ w.cell? ⟨g, 6, none⟩ = some d6 ∧ w.cell? ⟨g, 7, none⟩ = some d7 ∧ w.cell? ⟨g, 8, none⟩ = some d8 ∧ w.cell? ⟨g, 9, none⟩ = some d9) ∧
  (w.frozen? ⟨g, 5, none⟩ = false ∧ w.frozen? ⟨g, 6, none⟩ = false ∧ w.frozen? ⟨g, 7, none⟩ = false ∧ w.frozen? ⟨g, 8, none⟩ = false ∧ w.frozen? ⟨g, 9, none⟩ = false)
section
variable {g : Nat} {d5 d6 d7 d8 d9 : Value} {w w' : World}
theorem Dq.kept (h : Dq g d5 d6 d7 d8 d9 w) (k : Kept g w w') : Dq g d5 d6 d7 d8 d9 w' := by
  obtain ⟨⟨h5, h6, h7, h8, h9⟩, ⟨f5, f6, f7, f8, f9⟩⟩ := h
  exact ⟨⟨(k.tail 5 (by omega)).1.trans h5, (k.tail 6 (by omega)).1.trans h6, (k.tail 7 (by omega)).1.trans h7, (k.tail 8 (by omega)).1.trans h8, (k.tail 9 (by omega)).1.trans h9⟩, ⟨(k.tail 5 (by omega)).2.trans f5, (k.tail 6 (by omega)).2.trans f6, (k.tail 7 (by omega)).2.trans f7, (k.tail 8 (by omega)).2.trans f8, (k.tail 9 (by omega)).2.trans f9⟩⟩
theorem Dq.next (h : Dq g d5 d6 d7 d8 d9 w) (hb : Below w.heap.size w w') : Dq g d5 d6 d7 d8 d9 w' := h.kept (Kept.of hb (cell_lt (p := ⟨g, 5, none⟩) h.1.1))
theorem Dq.drewN {n : Nat} (h : Dq g d5 d6 d7 d8 d9 w) : Dq g d5 d6 d7 d8 d9 (w.drewN n) := h
theorem Dq.set5 (f : Dq g d5 d6 d7 d8 d9 w) (v : Value) : Dq g v d6 d7 d8 d9 (w.setCell ⟨g, 5, none⟩ v) := by
  obtain ⟨⟨h5, h6, h7, h8, h9⟩, f0⟩ := f
  refine ⟨⟨?_, ?_, ?_, ?_, ?_⟩, by simpa only [World.frozen?_setCell] using f0⟩
  all_goals first
    | (rw [World.cell?_setCell_same (h := h5)])
    | exact (World.cell?_setCell_other _ _ _ _ (by simp)).trans (by assumption)
theorem Dq.set6 (f : Dq g d5 d6 d7 d8 d9 w) (v : Value) : Dq g d5 v d7 d8 d9 (w.setCell ⟨g, 6, none⟩ v) := by
  obtain ⟨⟨h5, h6, h7, h8, h9⟩, f0⟩ := f
  refine ⟨⟨?_, ?_, ?_, ?_, ?_⟩, by simpa only [World.frozen?_setCell] using f0⟩
  all_goals first
    | (rw [World.cell?_setCell_same (h := h6)])
    | exact (World.cell?_setCell_other _ _ _ _ (by simp)).trans (by assumption)
theorem Dq.set7 (f : Dq g d5 d6 d7 d8 d9 w) (v : Value) : Dq g d5 d6 v d8 d9 (w.setCell ⟨g, 7, none⟩ v) := by
  obtain ⟨⟨h5, h6, h7, h8, h9⟩, f0⟩ := f
  refine ⟨⟨?_, ?_, ?_, ?_, ?_⟩, by simpa only [World.frozen?_setCell] using f0⟩
  all_goals first
    | (rw [World.cell?_setCell_same (h := h7)])
    | exact (World.cell?_setCell_other _ _ _ _ (by simp)).trans (by assumption)
theorem Dq.set8 (f : Dq g d5 d6 d7 d8 d9 w) (v : Value) : Dq g d5 d6 d7 v d9 (w.setCell ⟨g, 8, none⟩ v) := by
  obtain ⟨⟨h5, h6, h7, h8, h9⟩, f0⟩ := f
  refine ⟨⟨?_, ?_, ?_, ?_, ?_⟩, by simpa only [World.frozen?_setCell] using f0⟩
  all_goals first
    | (rw [World.cell?_setCell_same (h := h8)])
    | exact (World.cell?_setCell_other _ _ _ _ (by simp)).trans (by assumption)
theorem Dq.set9 (f : Dq g d5 d6 d7 d8 d9 w) (v : Value) : Dq g d5 d6 d7 d8 v (w.setCell ⟨g, 9, none⟩ v) := by
  obtain ⟨⟨h5, h6, h7, h8, h9⟩, f0⟩ := f
  refine ⟨⟨?_, ?_, ?_, ?_, ?_⟩, by simpa only [World.frozen?_setCell] using f0⟩
  all_goals first
    | (rw [World.cell?_setCell_same (h := h9)])
    | exact (World.cell?_setCell_other _ _ _ _ (by simp)).trans (by assumption)
end
theorem Pq_is {t a b : List UInt8} {n e0 : Int} {w : World} (hs : t.length ≤ 2000) (h : Box (reqL t = (a, b, n, e0))) :
    Calls Tryz.prog 62 #[.string (bs t)] w fun e w' => e = .returned (.tuple #[.string (bs a), .string (bs b), .int .i64 n, .int .i64 e0]) ∧ Below w.heap.size w w' :=
  (ParseRequest_any (bs t) w (by rw [bs_size]; unfold maxLen; omega)).mono fun e w' ⟨h1, h2⟩ => ⟨by rw [h1, bs_toList, h.out]; rfl, h2⟩
theorem rslq_any {g : Nat} {t a b : List UInt8} {n e0 : Int} {d5 d6 d7 d8 d9 : Value} {w : World} (ht : t.length ≤ 2000) (HQ : Box (reqL t = (a, b, n, e0))) (HD : Box (Dq g d5 d6 d7 d8 d9 w)) :
    Calls Tryz.prog 46 #[.pointer (some ⟨g, 0, none⟩), .string (bs t)] w fun e w' => e = .returned (.int .i64 e0) ∧ Dq g (.string (bs a)) (.string (bs b)) (.int .i64 n) (.slice none 0 0) (.string ⟨#[]⟩) w' ∧ (∀ c0 c1 c2 c3 c4, C5 g c0 c1 c2 c3 c4 w → C5 g c0 c1 c2 c3 c4 w') ∧ Only g w w' := by
  go_enter Tryz.func46, Tryz.ntmps46
  go_wp2_with fail
  refine (Pq_is ht HQ).mono ?_; rintro e w1 ⟨rfl, hb1⟩
  have D1 := box (HD.out.next hb1)
  have B1 := box hb1
  clear hb1
  obtain ⟨⟨r5, r6, r7, r8, r9⟩, ⟨f5, f6, f7, f8, f9⟩⟩ := D1.out
  go_wp2
  go_ret
  refine ⟨rfl, (((((D1.out.set5 _).set6 _).set7 _).set8 _).set9 _), fun c0 c1 c2 c3 c4 hc0 => ?_, (Only.setAt (Only.setAt (Only.setAt (Only.setAt (Only.setAt (Only.of B1.out) 5 _) 6 _) 7 _) 8 _) 9 _)⟩
  have hc := hc0.next B1.out
  exact (C5.setD (C5.setD (C5.setD (C5.setD (C5.setD hc (i := 5) (by omega) _) (i := 6) (by omega) _) (i := 7) (by omega) _) (i := 8) (by omega) _) (i := 9) (by omega) _)
theorem head_st : ∀ {f k n : Nat} {rq : Bool} {st l st' r : List UInt8} {L L' : List F} {n' : Nat}, headF f rq k st L n l = .inr (st', L', n', r) → k ≠ 0 → st' = st
  | 0, k, n, rq, st, l, st', r, L, L', n', h, hk => by cases h
  | f + 1, k, n, rq, st, l, st', r, L, L', n', h, hk => by
    unfold headF at h
    split at h
    · cases h
    · split at h
      · cases h
      · try rw [if_neg hk] at h
        split at h
        · cases h; rfl
        · split at h
          · cases h
          · exact head_st h (by omega)
def Hdq (B g : Nat) (s : ByteArray) (o : Int ⊕ (List UInt8 × List F × Nat × List UInt8)) (e : Ending) (w' : World) : Prop := match o with
  | .inl c => e = .returned (.int .i64 c) ∧ (c = 0 → False)
  | .inr (st, L, n, r) => e = .returned (.int .i64 (framedL L).2) ∧ ((framedL L).2 = 0 → ∃ v x fr ln, OwnF w' B v (unfrL L) ∧ C5 g (.string s) (.string x) v (.int .i64 fr) (.int .i64 ln) w' ∧ FrOk (framedL L).1 fr ln ∧ x.data.toList = r ∧ n + x.size = s.size ∧ Dq g (.string (bs (reqL st).1)) (.string (bs (reqL st).2.1)) (.int .i64 (reqL st).2.2.1) (.slice none 0 0) (.string ⟨#[]⟩) w')
set_option maxHeartbeats 4000000 in
theorem headq_any {g : Nat} {s : ByteArray} {d5 d6 d7 d8 d9 : Value} {w : World} (hs : s.size ≤ 4000000) (C : Box (C5 g (.string s) (.string s) (.slice none 0 0) (.int .i64 0) (.int .i64 0) w)) (HD : Box (Dq g d5 d6 d7 d8 d9 w)) (o : Int ⊕ (List UInt8 × List F × Nat × List UInt8)) (HO : Box (headL true s.data.toList = o)) :
    Calls Tryz.prog 45 #[.pointer (some ⟨g, 0, none⟩), .func (.func 46) #[.pointer (some ⟨g, 0, none⟩)] #[]] w fun e w' => Hdq w.heap.size g s o e w' ∧ Only g w w' := by
  have hg := C.out.lt
  have HO2 : Box (headF 67 true 0 [] [] 0 s.data.toList = o) := HO
  rcases hN : nextL s.data.toList with e0 | ⟨t, r⟩
  · have HE : Box (o = .inl e0) := box (by rw [← HO2.out, head_bad hN])
    have HN := box hN
    have he0 : (e0 != 0) = true := by rcases err_size hN with rfl | rfl | rfl <;> rfl
    have HNE : Box (e0 = 0 → False) := box (by intro q; rw [q] at he0; simp at he0)
    clear hN
    go_enter Tryz.func45, Tryz.ntmps45
    go_wp2_with fail
    refine (nh_bad g s s _ _ _ _ hs e0 he0 HN C).mono ?_; rintro e w1 ⟨rfl, hk1⟩; unfold hlV
    have K1 := box hk1.only
    clear hk1
    go_wp2
    go_ret
    rw [HE.out]
    exact ⟨⟨rfl, HNE.out⟩, K1.out⟩
  · obtain ⟨x1, rfl⟩ : ∃ x1 : ByteArray, r = x1.data.toList := ⟨bs r, rfl⟩
    obtain ⟨hn1, htl⟩ := size_next (n := 0) (s := s) (x := s) (by omega) hN
    have HN := box hN
    have hx1 : x1.size ≤ 4000000 := by omega
    have HV : Box ((if (16000 : Int) < (s.size : Int) - (x1.size : Int) then hlV ⟨#[]⟩ 4 else hlV (bs t) 0) = .tuple #[.string (bs t), .int .i64 0]) := box (by rw [if_neg (by omega)]; rfl)
    have hlt : ¬ (16000 < 0 + t.length + 2 ∨ (64 < 0 ∧ t ≠ [])) := by omega
    obtain ⟨a, b, n, e0, hq⟩ : ∃ a b n e0, reqL t = (a, b, n, e0) := ⟨_, _, _, _, rfl⟩
    have HQ := box hq
    have hse : startE true t = e0 := by unfold startE; rw [if_pos rfl]; rw [hq]
    by_cases he : e0 = 0
    · subst he
      have HX : Box (headF 66 true 1 t [] (0 + t.length + 2) x1.data.toList = o) := box (by rw [← HO2.out]; exact (head_first hN hlt hse).symm)
      clear hN hlt hse hq
      go_enter Tryz.func45, Tryz.ntmps45
      go_wp2_with fail
      refine (nh_any g s s x1 t _ _ _ _ hs hs hx1 HN C).mono ?_; rintro e w1 ⟨rfl, hc1, hk1⟩; rw [HV.out]
      have C1 := box hc1
      have D1 := box (HD.out.kept hk1)
      have K1 := box hk1.only
      clear hc1 hk1
      go_wp2_with fail
      refine (rslq_any htl HQ D1).mono ?_; rintro e w2 ⟨rfl, hd2, hc2, ho2⟩
      have C2 := box (hc2 _ _ _ _ _ C1.out)
      have D2 := box hd2
      have K2 := box (K1.out.trans ho2)
      clear hd2 hc2 ho2
      go_wp2_with fail
      refine (readFields_any g s x1 true t _ _ _ _ hs hn1 C2 o HX).mono ?_; rintro e w3 ⟨hp, hk3⟩
      have D3 := box (D2.out.kept hk3)
      have K3 := box (K2.out.trans hk3.only)
      have Z2 := box K2.out.size
      have K23 := box hk3.only.size
      clear hk3
      rcases o with c | ⟨st, L, n, r⟩
      · obtain ⟨rfl, hc0⟩ := hp
        have hcn : (c != 0) = true := by rw [bne_iff_ne]; exact fun e => hc0 e
        have HC := box hc0
        clear hc0
        go_wp2
        go_ret
        exact ⟨⟨rfl, HC.out⟩, K3.out⟩
      · obtain ⟨rfl, v, x, hO, hC, hxr, hnx, hL64⟩ := hp
        have hok := headL_ok HO.out
        have S : Box (Sm L) := box (sm_head hok.small hok.few)
        obtain rfl : st = t := by
          have := HX.out
          exact head_st this (by omega)
        obtain ⟨a, cap, rfl, hF, _⟩ := hO.fs
        have C3 := box hC
        have F3 := box hF
        have ZZ := box hnx
        have XR := box hxr
        clear hO hC hF hok hxr hnx hL64
        go_wp2_with fail
        refine (takeFraming_any g _ _ a cap L _ S F3 C3).mono ?_; rintro e w4 ⟨⟨rfl, hp⟩, hk4⟩
        have D4 := box (D3.out.kept hk4)
        have K4 := box (K3.out.trans hk4.only)
        have P4 := box hp
        have Z4 : Box (w.heap.size ≤ w3.heap.size) := box K3.out.size
        clear hp hk4
        go_wp2
        go_ret
        refine ⟨⟨rfl, fun h0 => ?_⟩, K4.out⟩
        obtain ⟨v, fr, ln, hO, hC, hf⟩ := P4.out h0
        exact ⟨v, x, fr, ln, own_le hO Z4.out, hC, hf, XR.out, ZZ.out, by rw [HQ.out]; exact D4.out⟩
    · have HE : Box (o = .inl e0) := box (by rw [← HO2.out, head_start hN hlt (by rw [hse]; exact he), hse])
      have hne : (e0 != 0) = true := by simpa using he
      have HNE := box he
      clear hN hlt hse hq he
      go_enter Tryz.func45, Tryz.ntmps45
      go_wp2_with fail
      refine (nh_any g s s x1 t _ _ _ _ hs hs hx1 HN C).mono ?_; rintro e w1 ⟨rfl, hc1, hk1⟩; rw [HV.out]
      have D1 := box (HD.out.kept hk1)
      have K1 := box hk1.only
      clear hc1 hk1
      go_wp2_with fail
      refine (rslq_any htl HQ D1).mono ?_; rintro e w2 ⟨rfl, _, _, ho2⟩
      have K2 := box (K1.out.trans ho2)
      clear ho2
      go_wp2
      go_ret
      rw [HE.out]
      exact ⟨⟨rfl, HNE.out⟩, K2.out⟩
end
section
open Go.RowKit
/-- the cells behind the reader's five -/
def Dp (g : Nat) (d5 d6 d7 d8 d9 d10 d11 : Value) (w : World) : Prop :=
  (w.cell? ⟨g, 5, none⟩ = some d5 ∧ w.cell? ⟨g, 6, none⟩ = some d6 ∧ w.cell? ⟨g, 7, none⟩ = some d7 ∧ w.cell? ⟨g, 8, none⟩ = some d8 ∧ w.cell? ⟨g, 9, none⟩ = some d9 ∧ w.cell? ⟨g, 10, none⟩ = some d10 ∧ w.cell? ⟨g, 11, none⟩ = some d11) ∧
  (w.frozen? ⟨g, 5, none⟩ = false ∧ w.frozen? ⟨g, 6, none⟩ = false ∧ w.frozen? ⟨g, 7, none⟩ = false ∧ w.frozen? ⟨g, 8, none⟩ = false ∧ w.frozen? ⟨g, 9, none⟩ = false ∧ w.frozen? ⟨g, 10, none⟩ = false ∧ w.frozen? ⟨g, 11, none⟩ = false)
section
variable {g : Nat} {d5 d6 d7 d8 d9 d10 d11 : Value} {w w' : World}
theorem Dp.kept (h : Dp g d5 d6 d7 d8 d9 d10 d11 w) (k : Kept g w w') : Dp g d5 d6 d7 d8 d9 d10 d11 w' := by
  obtain ⟨⟨h5, h6, h7, h8, h9, h10, h11⟩, ⟨f5, f6, f7, f8, f9, f10, f11⟩⟩ := h
  exact ⟨⟨(k.tail 5 (by omega)).1.trans h5, (k.tail 6 (by omega)).1.trans h6, (k.tail 7 (by omega)).1.trans h7, (k.tail 8 (by omega)).1.trans h8, (k.tail 9 (by omega)).1.trans h9, (k.tail 10 (by omega)).1.trans h10, (k.tail 11 (by omega)).1.trans h11⟩, ⟨(k.tail 5 (by omega)).2.trans f5, (k.tail 6 (by omega)).2.trans f6, (k.tail 7 (by omega)).2.trans f7, (k.tail 8 (by omega)).2.trans f8, (k.tail 9 (by omega)).2.trans f9, (k.tail 10 (by omega)).2.trans f10, (k.tail 11 (by omega)).2.trans f11⟩⟩
theorem Dp.next (h : Dp g d5 d6 d7 d8 d9 d10 d11 w) (hb : Below w.heap.size w w') : Dp g d5 d6 d7 d8 d9 d10 d11 w' := h.kept (Kept.of hb (cell_lt (p := ⟨g, 5, none⟩) h.1.1))
theorem Dp.drewN {n : Nat} (h : Dp g d5 d6 d7 d8 d9 d10 d11 w) : Dp g d5 d6 d7 d8 d9 d10 d11 (w.drewN n) := h
theorem Dp.set5 (f : Dp g d5 d6 d7 d8 d9 d10 d11 w) (v : Value) : Dp g v d6 d7 d8 d9 d10 d11 (w.setCell ⟨g, 5, none⟩ v) := by
  obtain ⟨⟨h5, h6, h7, h8, h9, h10, h11⟩, f0⟩ := f
  refine ⟨⟨?_, ?_, ?_, ?_, ?_, ?_, ?_⟩, by simpa only [World.frozen?_setCell] using f0⟩
  all_goals first
    | (rw [World.cell?_setCell_same (h := h5)])
    | exact (World.cell?_setCell_other _ _ _ _ (by simp)).trans (by assumption)
theorem Dp.set6 (f : Dp g d5 d6 d7 d8 d9 d10 d11 w) (v : Value) : Dp g d5 v d7 d8 d9 d10 d11 (w.setCell ⟨g, 6, none⟩ v) := by
  obtain ⟨⟨h5, h6, h7, h8, h9, h10, h11⟩, f0⟩ := f
  refine ⟨⟨?_, ?_, ?_, ?_, ?_, ?_, ?_⟩, by simpa only [World.frozen?_setCell] using f0⟩
  all_goals first
    | (rw [World.cell?_setCell_same (h := h6)])
    | exact (World.cell?_setCell_other _ _ _ _ (by simp)).trans (by assumption)
theorem Dp.set7 (f : Dp g d5 d6 d7 d8 d9 d10 d11 w) (v : Value) : Dp g d5 d6 v d8 d9 d10 d11 (w.setCell ⟨g, 7, none⟩ v) := by
  obtain ⟨⟨h5, h6, h7, h8, h9, h10, h11⟩, f0⟩ := f
  refine ⟨⟨?_, ?_, ?_, ?_, ?_, ?_, ?_⟩, by simpa only [World.frozen?_setCell] using f0⟩
  all_goals first
    | (rw [World.cell?_setCell_same (h := h7)])
    | exact (World.cell?_setCell_other _ _ _ _ (by simp)).trans (by assumption)
theorem Dp.set8 (f : Dp g d5 d6 d7 d8 d9 d10 d11 w) (v : Value) : Dp g d5 d6 d7 v d9 d10 d11 (w.setCell ⟨g, 8, none⟩ v) := by
  obtain ⟨⟨h5, h6, h7, h8, h9, h10, h11⟩, f0⟩ := f
  refine ⟨⟨?_, ?_, ?_, ?_, ?_, ?_, ?_⟩, by simpa only [World.frozen?_setCell] using f0⟩
  all_goals first
    | (rw [World.cell?_setCell_same (h := h8)])
    | exact (World.cell?_setCell_other _ _ _ _ (by simp)).trans (by assumption)
theorem Dp.set9 (f : Dp g d5 d6 d7 d8 d9 d10 d11 w) (v : Value) : Dp g d5 d6 d7 d8 v d10 d11 (w.setCell ⟨g, 9, none⟩ v) := by
  obtain ⟨⟨h5, h6, h7, h8, h9, h10, h11⟩, f0⟩ := f
  refine ⟨⟨?_, ?_, ?_, ?_, ?_, ?_, ?_⟩, by simpa only [World.frozen?_setCell] using f0⟩
  all_goals first
    | (rw [World.cell?_setCell_same (h := h9)])
    | exact (World.cell?_setCell_other _ _ _ _ (by simp)).trans (by assumption)
theorem Dp.set10 (f : Dp g d5 d6 d7 d8 d9 d10 d11 w) (v : Value) : Dp g d5 d6 d7 d8 d9 v d11 (w.setCell ⟨g, 10, none⟩ v) := by
  obtain ⟨⟨h5, h6, h7, h8, h9, h10, h11⟩, f0⟩ := f
  refine ⟨⟨?_, ?_, ?_, ?_, ?_, ?_, ?_⟩, by simpa only [World.frozen?_setCell] using f0⟩
  all_goals first
    | (rw [World.cell?_setCell_same (h := h10)])
    | exact (World.cell?_setCell_other _ _ _ _ (by simp)).trans (by assumption)
theorem Dp.set11 (f : Dp g d5 d6 d7 d8 d9 d10 d11 w) (v : Value) : Dp g d5 d6 d7 d8 d9 d10 v (w.setCell ⟨g, 11, none⟩ v) := by
  obtain ⟨⟨h5, h6, h7, h8, h9, h10, h11⟩, f0⟩ := f
  refine ⟨⟨?_, ?_, ?_, ?_, ?_, ?_, ?_⟩, by simpa only [World.frozen?_setCell] using f0⟩
  all_goals first
    | (rw [World.cell?_setCell_same (h := h11)])
    | exact (World.cell?_setCell_other _ _ _ _ (by simp)).trans (by assumption)
end
theorem Pp_is {t b : List UInt8} {a n e0 : Int} {w : World} (hs : t.length ≤ 2000) (h : Box (staL t = (a, n, b, e0))) :
    Calls Tryz.prog 69 #[.string (bs t)] w fun e w' => e = .returned (.tuple #[.int .i64 a, .int .i64 n, .string (bs b), .int .i64 e0]) ∧ Below w.heap.size w w' :=
  (ParseStatus_any (bs t) w (by rw [bs_size]; unfold maxLen; omega)).mono fun e w' ⟨h1, h2⟩ => ⟨by rw [h1, bs_toList, h.out]; rfl, h2⟩
theorem rslp_any {g : Nat} {t b : List UInt8} {a n e0 : Int} {d5 d6 d7 d8 d9 d10 d11 : Value} {w : World} (ht : t.length ≤ 2000) (HQ : Box (staL t = (a, n, b, e0))) (HD : Box (Dp g d5 d6 d7 d8 d9 d10 d11 w)) :
    Calls Tryz.prog 57 #[.pointer (some ⟨g, 0, none⟩), .string (bs t)] w fun e w' => e = .returned (.int .i64 e0) ∧ Dp g d5 d6 (.int .i64 a) (.int .i64 n) (.string (bs b)) (.slice none 0 0) (.string ⟨#[]⟩) w' ∧ (∀ c0 c1 c2 c3 c4, C5 g c0 c1 c2 c3 c4 w → C5 g c0 c1 c2 c3 c4 w') ∧ Only g w w' := by
  go_enter Tryz.func57, Tryz.ntmps57
  go_wp2_with fail
  refine (Pp_is ht HQ).mono ?_; rintro e w1 ⟨rfl, hb1⟩
  have D1 := box (HD.out.next hb1)
  have B1 := box hb1
  clear hb1
  obtain ⟨⟨r5, r6, r7, r8, r9, r10, r11⟩, ⟨f5, f6, f7, f8, f9, f10, f11⟩⟩ := D1.out
  go_wp2
  go_ret
  refine ⟨rfl, (((((D1.out.set7 _).set8 _).set9 _).set10 _).set11 _), fun c0 c1 c2 c3 c4 hc0 => ?_, (Only.setAt (Only.setAt (Only.setAt (Only.setAt (Only.setAt (Only.of B1.out) 7 _) 8 _) 9 _) 10 _) 11 _)⟩
  have hc := hc0.next B1.out
  exact (C5.setD (C5.setD (C5.setD (C5.setD (C5.setD hc (i := 7) (by omega) _) (i := 8) (by omega) _) (i := 9) (by omega) _) (i := 10) (by omega) _) (i := 11) (by omega) _)
def Hdp (B g : Nat) (s : ByteArray) (d5 d6 : Value) (o : Int ⊕ (List UInt8 × List F × Nat × List UInt8)) (e : Ending) (w' : World) : Prop := match o with
  | .inl c => e = .returned (.int .i64 c) ∧ (c = 0 → False)
  | .inr (st, L, n, r) => e = .returned (.int .i64 (framedL L).2) ∧ ((framedL L).2 = 0 → ∃ v x fr ln, OwnF w' B v (unfrL L) ∧ C5 g (.string s) (.string x) v (.int .i64 fr) (.int .i64 ln) w' ∧ FrOk (framedL L).1 fr ln ∧ x.data.toList = r ∧ n + x.size = s.size ∧ Dp g d5 d6 (.int .i64 (staL st).1) (.int .i64 (staL st).2.1) (.string (bs (staL st).2.2.1)) (.slice none 0 0) (.string ⟨#[]⟩) w')
set_option maxHeartbeats 4000000 in
theorem headp_any {g : Nat} {s : ByteArray} {d5 d6 d7 d8 d9 d10 d11 : Value} {w : World} (hs : s.size ≤ 4000000) (C : Box (C5 g (.string s) (.string s) (.slice none 0 0) (.int .i64 0) (.int .i64 0) w)) (HD : Box (Dp g d5 d6 d7 d8 d9 d10 d11 w)) (o : Int ⊕ (List UInt8 × List F × Nat × List UInt8)) (HO : Box (headL false s.data.toList = o)) :
    Calls Tryz.prog 45 #[.pointer (some ⟨g, 0, none⟩), .func (.func 57) #[.pointer (some ⟨g, 0, none⟩)] #[]] w fun e w' => Hdp w.heap.size g s d5 d6 o e w' ∧ Only g w w' := by
  have hg := C.out.lt
  have HO2 : Box (headF 67 false 0 [] [] 0 s.data.toList = o) := HO
  rcases hN : nextL s.data.toList with e0 | ⟨t, r⟩
  · have HE : Box (o = .inl e0) := box (by rw [← HO2.out, head_bad hN])
    have HN := box hN
    have he0 : (e0 != 0) = true := by rcases err_size hN with rfl | rfl | rfl <;> rfl
    have HNE : Box (e0 = 0 → False) := box (by intro q; rw [q] at he0; simp at he0)
    clear hN
    go_enter Tryz.func45, Tryz.ntmps45
    go_wp2_with fail
    refine (nh_bad g s s _ _ _ _ hs e0 he0 HN C).mono ?_; rintro e w1 ⟨rfl, hk1⟩; unfold hlV
    have K1 := box hk1.only
    clear hk1
    go_wp2
    go_ret
    rw [HE.out]
    exact ⟨⟨rfl, HNE.out⟩, K1.out⟩
  · obtain ⟨x1, rfl⟩ : ∃ x1 : ByteArray, r = x1.data.toList := ⟨bs r, rfl⟩
    obtain ⟨hn1, htl⟩ := size_next (n := 0) (s := s) (x := s) (by omega) hN
    have HN := box hN
    have hx1 : x1.size ≤ 4000000 := by omega
    have HV : Box ((if (16000 : Int) < (s.size : Int) - (x1.size : Int) then hlV ⟨#[]⟩ 4 else hlV (bs t) 0) = .tuple #[.string (bs t), .int .i64 0]) := box (by rw [if_neg (by omega)]; rfl)
    have hlt : ¬ (16000 < 0 + t.length + 2 ∨ (64 < 0 ∧ t ≠ [])) := by omega
    obtain ⟨a, n, b, e0, hq⟩ : ∃ a n b e0, staL t = (a, n, b, e0) := ⟨_, _, _, _, rfl⟩
    have HQ := box hq
    have hse : startE false t = e0 := by unfold startE; rw [if_neg (by simp)]; rw [hq]
    by_cases he : e0 = 0
    · subst he
      have HX : Box (headF 66 false 1 t [] (0 + t.length + 2) x1.data.toList = o) := box (by rw [← HO2.out]; exact (head_first hN hlt hse).symm)
      clear hN hlt hse hq
      go_enter Tryz.func45, Tryz.ntmps45
      go_wp2_with fail
      refine (nh_any g s s x1 t _ _ _ _ hs hs hx1 HN C).mono ?_; rintro e w1 ⟨rfl, hc1, hk1⟩; rw [HV.out]
      have C1 := box hc1
      have D1 := box (HD.out.kept hk1)
      have K1 := box hk1.only
      clear hc1 hk1
      go_wp2_with fail
      refine (rslp_any htl HQ D1).mono ?_; rintro e w2 ⟨rfl, hd2, hc2, ho2⟩
      have C2 := box (hc2 _ _ _ _ _ C1.out)
      have D2 := box hd2
      have K2 := box (K1.out.trans ho2)
      clear hd2 hc2 ho2
      go_wp2_with fail
      refine (readFields_any g s x1 false t _ _ _ _ hs hn1 C2 o HX).mono ?_; rintro e w3 ⟨hp, hk3⟩
      have D3 := box (D2.out.kept hk3)
      have K3 := box (K2.out.trans hk3.only)
      have Z2 := box K2.out.size
      have K23 := box hk3.only.size
      clear hk3
      rcases o with c | ⟨st, L, n, r⟩
      · obtain ⟨rfl, hc0⟩ := hp
        have hcn : (c != 0) = true := by rw [bne_iff_ne]; exact fun e => hc0 e
        have HC := box hc0
        clear hc0
        go_wp2
        go_ret
        exact ⟨⟨rfl, HC.out⟩, K3.out⟩
      · obtain ⟨rfl, v, x, hO, hC, hxr, hnx, hL64⟩ := hp
        have hok := headL_ok HO.out
        have S : Box (Sm L) := box (sm_head hok.small hok.few)
        obtain rfl : st = t := by
          have := HX.out
          exact head_st this (by omega)
        obtain ⟨a, cap, rfl, hF, _⟩ := hO.fs
        have C3 := box hC
        have F3 := box hF
        have ZZ := box hnx
        have XR := box hxr
        clear hO hC hF hok hxr hnx hL64
        go_wp2_with fail
        refine (takeFraming_any g _ _ a cap L _ S F3 C3).mono ?_; rintro e w4 ⟨⟨rfl, hp⟩, hk4⟩
        have D4 := box (D3.out.kept hk4)
        have K4 := box (K3.out.trans hk4.only)
        have P4 := box hp
        have Z4 : Box (w.heap.size ≤ w3.heap.size) := box K3.out.size
        clear hp hk4
        go_wp2
        go_ret
        refine ⟨⟨rfl, fun h0 => ?_⟩, K4.out⟩
        obtain ⟨v, fr, ln, hO, hC, hf⟩ := P4.out h0
        exact ⟨v, x, fr, ln, own_le hO Z4.out, hC, hf, XR.out, ZZ.out, by rw [HQ.out]; exact D4.out⟩
    · have HE : Box (o = .inl e0) := box (by rw [← HO2.out, head_start hN hlt (by rw [hse]; exact he), hse])
      have hne : (e0 != 0) = true := by simpa using he
      have HNE := box he
      clear hN hlt hse hq he
      go_enter Tryz.func45, Tryz.ntmps45
      go_wp2_with fail
      refine (nh_any g s s x1 t _ _ _ _ hs hs hx1 HN C).mono ?_; rintro e w1 ⟨rfl, hc1, hk1⟩; rw [HV.out]
      have D1 := box (HD.out.kept hk1)
      have K1 := box hk1.only
      clear hc1 hk1
      go_wp2_with fail
      refine (rslp_any htl HQ D1).mono ?_; rintro e w2 ⟨rfl, _, _, ho2⟩
      have K2 := box (K1.out.trans ho2)
      clear ho2
      go_wp2
      go_ret
      rw [HE.out]
      exact ⟨⟨rfl, HNE.out⟩, K2.out⟩
end
section
open Go.RowKit
theorem req_minor (l : List UInt8) : (reqL l).2.2.1 = 0 ∨ (reqL l).2.2.1 = 1 := by
  unfold reqL verM
  split
  · exact .inl rfl
  · split
    · exact .inl rfl
    · split
      · exact .inl rfl
      · dsimp only; split
        · exact .inr rfl
        · exact .inl rfl
def hcB (gl : Nat) (n : Int) : Bool := decide (gl = 1 ∨ (gl = 0 ∧ n = 0))
theorem GetL_is {a : Option Addr} {cap gl : Nat} {L : List F} {w : World} (S : Box (Sm L)) (hF : Box (Fs w a L)) (h : Box ((getL hostN L).length = gl)) :
    Calls Tryz.prog 74 #[.slice a L.length cap, .string hostN] w fun e w' => (∃ a2 cap2, e = .returned (.slice a2 gl cap2)) ∧ Below w.heap.size w w' :=
  (Get_any a cap L hostN w S.out.1 S (box (by decide)) hF).mono fun e w' ⟨v, h1, h2, h3⟩ => by
    obtain ⟨a2, cap2, rfl, _, _⟩ := h2.ss
    rw [h.out] at h1
    exact ⟨⟨a2, cap2, h1⟩, h3⟩
theorem isHost_any {g : Nat} {s x f l d5 d6 d8 d9 : Value} {n : Int} {a : Option Addr} {cap gl : Nat} {L : List F} {w : World} (S : Box (Sm L)) (hF : Box (Fs w a L)) (C : Box (C5 g s x (.slice a L.length cap) f l w)) (D : Box (Dq g d5 d6 (.int .i64 n) d8 d9 w)) (HG : Box ((getL hostN L).length = gl)) :
    Calls Tryz.prog 47 #[.pointer (some ⟨g, 0, none⟩)] w fun e w' => e = .returned (.bool (hcB gl n)) ∧ Below w.heap.size w w' := by
  obtain ⟨⟨c0, c1, c2, c3, c4⟩, _⟩ := C.out
  rcases Nat.eq_zero_or_pos gl with rfl | hgl
  · have HB : Box (hcB 0 n = (n == 0)) := box (by unfold hcB; rw [Bool.eq_iff_iff]; simp)
    go_enter Tryz.func47, Tryz.ntmps47
    go_wp2_with fail
    refine (GetL_is S hF HG).mono ?_; rintro e w1 ⟨⟨a2, cap2, rfl⟩, hb1⟩
    have D1 := box (D.out.next hb1)
    have B1 := box hb1
    clear hb1 c0 c1 c2 c3 c4
    obtain ⟨⟨r5, r6, r7, r8, r9⟩, _⟩ := D1.out
    go_wp2
    go_ret
    exact ⟨ret_bool HB.out.symm, B1.out⟩
  · have h0 : ((gl : Int) == 0) = false := by rw [beq_eq_false_iff_ne]; omega
    by_cases h1 : gl = 1
    · subst h1
      have HB : Box (hcB 1 n = true) := box (by unfold hcB; simp)
      go_enter Tryz.func47, Tryz.ntmps47
      go_wp2_with fail
      refine (GetL_is S hF HG).mono ?_; rintro e w1 ⟨⟨a2, cap2, rfl⟩, hb1⟩
      have B1 := box hb1
      clear hb1
      go_wp2
      go_ret
      exact ⟨ret_bool HB.out.symm, B1.out⟩
    · have h1i : ((gl : Int) == 1) = false := by rw [beq_eq_false_iff_ne]; omega
      have HB : Box (hcB gl n = false) := box (by unfold hcB; rw [decide_eq_false_iff_not]; omega)
      go_enter Tryz.func47, Tryz.ntmps47
      go_wp2_with fail
      refine (GetL_is S hF HG).mono ?_; rintro e w1 ⟨⟨a2, cap2, rfl⟩, hb1⟩
      have B1 := box hb1
      clear hb1
      go_wp2
      go_ret
      exact ⟨ret_bool HB.out.symm, B1.out⟩
theorem isHost_is {g : Nat} {s x f l d5 d6 d8 d9 : Value} {n : Int} {a : Option Addr} {cap : Nat} {L : List F} {b : Bool} {w : World} (S : Box (Sm L)) (hF : Box (Fs w a L)) (C : Box (C5 g s x (.slice a L.length cap) f l w)) (D : Box (Dq g d5 d6 (.int .i64 n) d8 d9 w)) (HG : Box (hcB (getL hostN L).length n = b)) :
    Calls Tryz.prog 47 #[.pointer (some ⟨g, 0, none⟩)] w fun e w' => e = .returned (.bool b) ∧ Below w.heap.size w w' :=
  (isHost_any S hF C D (box rfl)).mono fun e w' ⟨h1, h2⟩ => ⟨by rw [h1, HG.out], h2⟩
def rqB (m t : List UInt8) (mi : Int) (L : List F) (n : Int) : Int ⊕ (List UInt8 × Int) → RQ × Int × Int
  | .inl e => (zeroRQ, 0, e)
  | .inr (b, c) => ((m, t, mi, L, b), n + c, 0)
def PqPost (B g : Nat) (s : ByteArray) (o : RQ × Int × Int) (e : Ending) (w' : World) : Prop :=
  e = .returned (.int .i64 o.2.2) ∧ (o.2.2 = 0 → ∃ v x fr ln, C5 g (.string s) (.string x) v fr ln w' ∧ Dq g (.string (bs o.1.1)) (.string (bs o.1.2.1)) (.int .i64 o.1.2.2.1) v (.string (bs o.1.2.2.2.2)) w' ∧ OwnF w' B v o.1.2.2.2.1 ∧ (s.size : Int) - x.size = o.2.1 ∧ x.size ≤ 4000000)
set_option maxHeartbeats 4000000 in
theorem parseq_any {g : Nat} {s : ByteArray} {d5 d6 d7 d8 d9 : Value} {w : World} (hs : s.size ≤ 2000000) (C : Box (C5 g (.string s) (.string s) (.slice none 0 0) (.int .i64 0) (.int .i64 0) w)) (HD : Box (Dq g d5 d6 d7 d8 d9 w)) :
    Calls Tryz.prog 26 #[.pointer (some ⟨g, 0, none⟩)] w fun e w' => PqPost w.heap.size g s (reqM s.data.toList) e w' ∧ Only g w w' := by
  have hmf : ∀ (fn : Fn) (first cap : Array Value) (w : World), (Instr.makeFunc fn first cap).run Tryz.prog w = .ok (.func fn first cap) w := fun _ _ _ _ => rfl
  have hs4 : s.size ≤ 4000000 := by omega
  have hg := C.out.lt
  obtain ⟨o, ho⟩ : ∃ o, headL true s.data.toList = o := ⟨_, rfl⟩
  have HO := box ho
  clear ho
  go_enter Tryz.func26, Tryz.ntmps26
  go_wp2_with fail
  refine (headq_any hs4 C HD o HO).mono ?_; rintro e w1 ⟨hp, hk1⟩
  have K1 := box hk1
  clear hk1
  rcases o with c | ⟨st, L, n, r⟩
  · obtain ⟨rfl, hc0⟩ := hp
    have HE : Box (reqM s.data.toList = (zeroRQ, 0, c)) := box (by unfold reqM; rw [HO.out])
    have hcn : (c != 0) = true := by rw [bne_iff_ne]; exact fun e => hc0 e
    have HC := box hc0
    clear hc0
    go_wp2
    go_ret
    rw [HE.out]
    exact ⟨⟨rfl, fun h => (HC.out h).elim⟩, K1.out⟩
  · obtain ⟨rfl, hp⟩ := hp
    obtain ⟨how, e0, hfr⟩ : ∃ how e0, framedL L = (how, e0) := ⟨_, _, rfl⟩
    rw [hfr] at hp ⊢
    simp only at hp ⊢
    by_cases he : e0 = 0
    · subst he
      obtain ⟨v, x, fr, ln, hO, hC, hf, hxr, hnx, hD⟩ := hp rfl
      have hok := headL_ok HO.out
      have S : Box (Sm (unfrL L)) := box (sm_rem (sm_rem (sm_head hok.small hok.few)))
      obtain ⟨a, cap, rfl, hF, _⟩ := hO.fs
      have C1 := box hC
      have D1 := box hD
      have F1 := box hF
      have O1 := box hO
      have hx : x.size ≤ 2000000 := by omega
      have hmi := req_minor st
      obtain ⟨m, t, mi, e1, hq⟩ : ∃ m t mi e1, reqL st = (m, t, mi, e1) := ⟨_, _, _, _, rfl⟩
      rw [hq] at hmi D1
      simp only at hmi D1
      obtain ⟨hcb, hhc⟩ : ∃ b, hcB (getL hostN (unfrL L)).length mi = b := ⟨_, rfl⟩
      have HCB := box hhc
      have hHE : hostE L mi = !hcb := by
        rw [← hhc, host_un]
        unfold hostE hcB
        generalize (getL hostN L).length = gl
        rw [Bool.eq_iff_iff]
        simp only [decide_eq_true_eq, Bool.not_eq_true', decide_eq_false_iff_not]
        omega
      have HHE := box hHE
      clear hO hC hD hF hok hhc hHE
      go_wp2_with fail
      refine (isHost_is S F1 C1 D1 HCB).mono ?_; rintro e w2 ⟨rfl, hb2⟩
      have C2 := box (C1.out.next hb2)
      have D2 := box (D1.out.next hb2)
      have O2 := box (own_below O1.out hb2)
      have K2 := box (K1.out.trans (Only.of hb2))
      clear hb2
      rcases hcb with _ | _
      · have HE : Box (reqM s.data.toList = (zeroRQ, 0, 6)) := box (by unfold reqM; rw [HO.out]; simp only [hfr, hq]; rw [HHE.out]; simp)
        go_wp2
        go_ret
        rw [HE.out]
        exact ⟨⟨rfl, fun h => absurd h (by decide)⟩, K2.out⟩
      · obtain ⟨bo, hbo⟩ : ∃ bo, bodyL (if how = -2 then 0 else how) x.data.toList = bo := ⟨_, rfl⟩
        have HBO := box hbo
        have HE : Box (reqM s.data.toList = rqB m t mi (unfrL L) n bo) := box (by
          unfold reqM; rw [HO.out]; simp only [hfr, hq]; rw [HHE.out, ← hxr, hbo]; rcases bo with _ | ⟨_, _⟩ <;> simp [rqB])
        have HXN := box hnx
        clear hbo hxr
        go_wp2_with fail
        refine (readBody_any g s x _ how fr ln _ hx hf C2 bo HBO).mono ?_; rintro e w3 ⟨hp3, hk3⟩
        have D3 := box (D2.out.kept hk3)
        have O3 := box (own_only O2.out hk3.only hg)
        have K3 := box (K2.out.trans hk3.only)
        clear hk3
        rcases bo with c | ⟨b, c⟩
        · obtain ⟨rfl, hc0⟩ := hp3
          have hcn : (c != 0) = true := by rw [bne_iff_ne]; exact fun e => hc0 e
          have HC := box hc0
          clear hc0
          unfold hlV
          go_wp2
          go_ret
          rw [HE.out]
          exact ⟨⟨rfl, fun h => (HC.out h).elim⟩, K3.out⟩
        · obtain ⟨rfl, x1, ln1, hC3, hz, hc0⟩ := hp3
          have C3 := box hC3
          have HZ : Box ((s.size : Int) - x1.size = (n : Int) + c ∧ x1.size ≤ 4000000) := box (by have := HXN.out; omega)
          clear hC3 hz hc0
          obtain ⟨⟨c0, c1, c2, c3, c4⟩, _⟩ := C3.out
          obtain ⟨⟨r5, r6, r7, r8, r9⟩, ⟨f5, f6, f7, f8, f9⟩⟩ := D3.out
          unfold hlV
          go_wp2
          go_ret
          rw [HE.out]
          exact ⟨⟨rfl, fun _ => ⟨_, x1, _, _, (C3.out.setD (i := 8) (by omega) _).setD (i := 9) (by omega) _, (D3.out.set8 _).set9 _, own_only O3.out (((Only.refl g w3).setAt 8 _).setAt 9 _) hg, HZ.out.1, HZ.out.2⟩⟩, (K3.out.setAt 8 _).setAt 9 _⟩
    · have HE : Box (reqM s.data.toList = (zeroRQ, 0, e0)) := box (by unfold reqM; rw [HO.out]; simp only [hfr]; rw [if_pos he])
      have hcn : (e0 != 0) = true := by rw [bne_iff_ne]; exact he
      have HC := box he
      clear hp hfr he
      go_wp2
      go_ret
      rw [HE.out]
      exact ⟨⟨rfl, fun h => (HC.out h).elim⟩, K1.out⟩
end
end Go.Proofs.YtjabcfabenobiaaGreat.Asc
