/- Merged texts: MsgRd8 MsgRd9 MsgRd10 MsgRd11. -/
import Derived.Test.YtjabcfabenobiaaGreatM06
import Derived.Test.YtjabcfabenobiaaGreatM10
import Derived.Test.YtjabcfabenobiaaGreatM12
import Derived.Deep.RegionWith
set_option linter.unusedVariables false
set_option linter.unusedSimpArgs false
set_option maxRecDepth 100000
namespace Go.Proofs.YtjabcfabenobiaaGreat.Asc
section
open Go.RowKit
theorem bytesRead_dr (g : Nat) (s x : ByteArray) (v f l : Value) (w : World) (hs : s.size ≤ 4000000) (hx : x.size ≤ 4000000) (C : Box (C5 g (.string s) (.string x) v f l w)) :
    Calls Tryz.prog 27 #[.pointer (some ⟨g, 0, none⟩)] w fun e w' => e = .returned (.int .i64 ((s.size : Int) - (x.size : Int))) ∧ ∃ n, w' = w.drewN n := by
  obtain ⟨⟨c0, c1, c2, c3, c4⟩, _⟩ := C.out
  go_enter Tryz.func27, Tryz.ntmps27
  go_wp2
  go_quiet (fail)
  go_wp2
  go_ret
  exact ⟨rfl, _, rfl⟩
theorem bytesRead_at {g : Nat} {s x : ByteArray} {v f l : Value} {k : Int} {w : World} (hs : s.size ≤ 4000000) (hx : x.size ≤ 4000000) (C : C5 g (.string s) (.string x) v f l w) (hk : Box ((s.size : Int) - (x.size : Int) = k)) :
    Calls Tryz.prog 27 #[.pointer (some ⟨g, 0, none⟩)] w fun e w' => e = .returned (.int .i64 k) ∧ ∃ n, w' = w.drewN n :=
  (bytesRead_dr g s x v f l w hs hx (box C)).mono fun e w' ⟨h1, h2⟩ => ⟨by rw [h1, hk.out], h2⟩
theorem cells_new {cs : Array Value} {t : TypeId} {w : World} {i : Nat} {v : Value} (h : cs[i]? = some v) : (w.alloc (.cells cs t)).cell? ⟨w.heap.size, i, none⟩ = some v := by
  rw [World.cell?_alloc_mark]; exact h
theorem C5.only {g h : Nat} {c0 c1 c2 c3 c4 : Value} {w w' : World} (f : C5 h c0 c1 c2 c3 c4 w) (o : Only g w w') (hh : h ≠ g) : C5 h c0 c1 c2 c3 c4 w' := by
  have hb := o.block h f.lt hh
  have e1 : ∀ i, w'.cell? ⟨h, i, none⟩ = w.cell? ⟨h, i, none⟩ := fun i => World.cell?_of_block (w := w) hb
  have e2 : ∀ i, w'.frozen? ⟨h, i, none⟩ = w.frozen? ⟨h, i, none⟩ := fun i => World.frozen?_of_block (w := w) hb
  obtain ⟨⟨h0, h1, h2, h3, h4⟩, ⟨f0, f1, f2, f3, f4⟩⟩ := f
  exact ⟨⟨(e1 _).trans h0, (e1 _).trans h1, (e1 _).trans h2, (e1 _).trans h3, (e1 _).trans h4⟩, ⟨(e2 _).trans f0, (e2 _).trans f1, (e2 _).trans f2, (e2 _).trans f3, (e2 _).trans f4⟩⟩
theorem own_drewN {w : World} {B k n : Nat} {e : TypeId} {size : Nat} {v : Value} {xs : List Value} (h : w.ownsRow B e size v n xs) : (w.drewN k).ownsRow B e size v n xs := h
theorem req_err (l : List UInt8) : (reqM l).2.2 ≠ 0 → reqM l = (zeroRQ, 0, (reqM l).2.2) := by
  unfold reqM
  split
  · intro _; rfl
  · split
    · intro _; rfl
    · split
      · intro _; rfl
      · split
        · intro _; rfl
        · intro h; exact absurd rfl h
set_option maxHeartbeats 4000000 in
theorem mReq_any (s : ByteArray) (w : World) (hs : s.size ≤ 2000000) :
    Calls Tryz.prog 9 #[.string s] w fun e w' => ReqPost w.heap.size (reqM s.data.toList) e w' ∧ Below w.heap.size w w' := by
  obtain ⟨z, hz⟩ : ∃ z, (Obj.cells #[.string ⟨#[]⟩, .string ⟨#[]⟩, .int .i64 0, .slice none 0 0, .string ⟨#[]⟩] 24) = z := ⟨_, rfl⟩
  have Z := C5.new (.string ⟨#[]⟩) (.string ⟨#[]⟩) (.int .i64 0) (.slice none 0 0) (.string ⟨#[]⟩) w 24
  have C : Box (C5 (w.heap.size + 1) (.string s) (.string s) (.slice none 0 0) (.int .i64 0) (.int .i64 0) ((w.alloc (.cells #[.string ⟨#[]⟩, .string ⟨#[]⟩, .int .i64 0, .slice none 0 0, .string ⟨#[]⟩] 24)).alloc (.cells #[.string s, .string s, .slice none 0 0, .int .i64 0, .int .i64 0, .string ⟨#[]⟩, .string ⟨#[]⟩, .int .i64 0, .slice none 0 0, .string ⟨#[]⟩] 53))) := box (by
    have hsz : (w.alloc (.cells #[.string ⟨#[]⟩, .string ⟨#[]⟩, .int .i64 0, .slice none 0 0, .string ⟨#[]⟩] 24)).heap.size = w.heap.size + 1 := by simp
    rw [← hsz]
    exact ⟨⟨cells_new rfl, cells_new rfl, cells_new rfl, cells_new rfl, cells_new rfl⟩, ⟨World.frozen?_alloc_at _ _ _ _ rfl, World.frozen?_alloc_at _ _ _ _ rfl, World.frozen?_alloc_at _ _ _ _ rfl, World.frozen?_alloc_at _ _ _ _ rfl, World.frozen?_alloc_at _ _ _ _ rfl⟩⟩)
  have D : Box (Dq (w.heap.size + 1) (.string ⟨#[]⟩) (.string ⟨#[]⟩) (.int .i64 0) (.slice none 0 0) (.string ⟨#[]⟩) ((w.alloc (.cells #[.string ⟨#[]⟩, .string ⟨#[]⟩, .int .i64 0, .slice none 0 0, .string ⟨#[]⟩] 24)).alloc (.cells #[.string s, .string s, .slice none 0 0, .int .i64 0, .int .i64 0, .string ⟨#[]⟩, .string ⟨#[]⟩, .int .i64 0, .slice none 0 0, .string ⟨#[]⟩] 53))) := box (by
    have hsz : (w.alloc (.cells #[.string ⟨#[]⟩, .string ⟨#[]⟩, .int .i64 0, .slice none 0 0, .string ⟨#[]⟩] 24)).heap.size = w.heap.size + 1 := by simp
    rw [← hsz]
    exact ⟨⟨cells_new rfl, cells_new rfl, cells_new rfl, cells_new rfl, cells_new rfl⟩, ⟨World.frozen?_alloc_at _ _ _ _ rfl, World.frozen?_alloc_at _ _ _ _ rfl, World.frozen?_alloc_at _ _ _ _ rfl, World.frozen?_alloc_at _ _ _ _ rfl, World.frozen?_alloc_at _ _ _ _ rfl⟩⟩)
  obtain ⟨o, ho⟩ : ∃ o, reqM s.data.toList = o := ⟨_, rfl⟩
  have HO := box ho
  have herr := req_err s.data.toList
  rw [ho] at herr
  have HER := box herr
  have ZB := box (Z.below (below_new _ (.cells #[.string s, .string s, .slice none 0 0, .int .i64 0, .int .i64 0, .string ⟨#[]⟩, .string ⟨#[]⟩, .int .i64 0, .slice none 0 0, .string ⟨#[]⟩] 53)) Z.lt)
  have BB := box ((below_new w (.cells #[.string ⟨#[]⟩, .string ⟨#[]⟩, .int .i64 0, .slice none 0 0, .string ⟨#[]⟩] 24)).alloc (below_new w _).size (.cells #[.string s, .string s, .slice none 0 0, .int .i64 0, .int .i64 0, .string ⟨#[]⟩, .string ⟨#[]⟩, .int .i64 0, .slice none 0 0, .string ⟨#[]⟩] 53))
  clear ho herr hz Z
  clear z
  rw [HO.out]
  go_enter Tryz.func9, Tryz.ntmps9
  go_wp2_with fail
  refine (parseq_any hs C D).mono ?_; rintro e w1 ⟨hp, ho1⟩
  rw [HO.out] at hp
  obtain ⟨rfl, hp⟩ := hp
  have Z1 := ZB.out.only ho1 (by omega)
  have B1 := box (BB.out.trans (ho1.below (by omega) BB.out.size))
  obtain ⟨k0, k1, k2⟩ := o
  simp only at hp HER ⊢
  obtain ⟨⟨z0, z1, z2, z3, z4⟩, ⟨y0, y1, y2, y3, y4⟩⟩ := Z1
  by_cases he : k2 = 0
  · subst he
    obtain ⟨v, x, fr, ln, hC, hD, hO, hz, hx⟩ := hp rfl
    obtain ⟨m, t, mi, L, b⟩ := k0
    simp only at hD hO hz
    obtain ⟨a, cap, rfl, _, _⟩ := hO.fs
    have C1 := box hC
    have D1 := box hD
    have O1 : Box (OwnF w1 (w.heap.size + 1) (.slice a L.length cap) L) := box (own_le hO (by simp))
    have HZ := box hz
    have hs4 : s.size ≤ 4000000 := by omega
    obtain ⟨⟨r5, r6, r7, r8, r9⟩, _⟩ := hD
    clear hC hO hz hp ho1 C D ZB BB
    go_wp2
    go_region_with (go_at_call 27; refine (bytesRead_at (g := w.heap.size + 1) (v := .slice a L.length cap) (f := fr) (l := ln) hs4 hx (by first | exact C5.drewN (n := 1) C1.out | exact C5.only (C5.drewN (n := 1) C1.out) (only5 w.heap.size _ _ _ _ _ _) (by omega)) HZ).mono ?_; rintro e w5 ⟨rfl, n5, rfl⟩)
    all_goals
      go_wp2
      (try simp only [Exit.inBlock, Exit.then])
      refine bodyPost_ret (v := .tuple #[.agg #[.string (bs m), .string (bs t), .int .i64 mi, .slice a L.length cap, .string (bs b)], .int .i64 k1, .int .i64 0]) (by rw [results_cell_tmp2 rfl]; go_simp) rfl ⟨?_, ?_⟩
      · exact ⟨_, rfl, own_le (own_only (own_drewN O1.out) (only5 _ _ _ _ _ _ _) (Nat.lt_succ_self _)) (Nat.le_succ _)⟩
      · exact below5 (B1.out.trans ((below_drewN _ _).mono B1.out.size)) (Nat.le_refl _) _ _ _ _ _
  · have hcn : (k2 != 0) = true := by rw [bne_iff_ne]; exact he
    have HE := box (HER.out he)
    clear hp ho1 he C D ZB BB
    go_wp2
    (try simp only [Exit.inBlock, Exit.then])
    refine bodyPost_ret (v := .tuple #[.agg #[.string ⟨#[]⟩, .string ⟨#[]⟩, .int .i64 0, .slice none 0 0, .string ⟨#[]⟩], .int .i64 0, .int .i64 k2]) (by rw [results_cell_tmp2 rfl]; go_simp) rfl ⟨?_, ?_⟩
    · rw [HE.out]
      exact ⟨_, rfl, OwnF.nil _ _⟩
    · exact below5 B1.out (Nat.le_refl _) _ _ _ _ _
end
section
open Go.RowKit
theorem mBod_eq (n : Int) (m : ByteArray) (w : World) (hm : m.size ≤ 65536) :
    Calls Tryz.prog 22 #[.int .i64 n, .string m] w fun e w' => e = .returned (.bool (bodilessL n m.data.toList)) ∧ w = w' := by
  have HE : Box (bodilessL n m.data.toList = (decide (100 ≤ n ∧ n ≤ 199) || n == 204 || n == 304 || m.toList == [72, 69, 65, 68])) := box (by rw [toList_data]; rfl)
  obtain ⟨b, hb⟩ : ∃ b, (m.toList == [72, 69, 65, 68]) = b := ⟨_, rfl⟩
  rw [hb] at HE
  rcases h4 : (n == 204) with _ | _ <;> rcases h3 : (n == 304) with _ | _ <;> by_cases h1 : 100 ≤ n <;> by_cases h2 : n ≤ 199
  all_goals
    simp only [h4, h3, h1, h2, and_true, true_and, and_false, false_and, decide_true, decide_false, Bool.or_true, Bool.true_or, Bool.false_or, Bool.or_false] at HE
    go_enter Tryz.func22, Tryz.ntmps22
    go_wp2
    go_ret
    exact ⟨ret_bool (by rw [HE.out]), rfl⟩
theorem mBodil_any (n : Int) (m : ByteArray) (w : World) (hm : m.size ≤ 65536) :
    Calls Tryz.prog 22 #[.int .i64 n, .string m] w fun e w' => e = .returned (.bool (bodilessL n m.data.toList)) ∧ Below w.heap.size w w' :=
  (mBod_eq n m w hm).mono fun e w' ⟨h1, h2⟩ => ⟨h1, by rw [← h2]; exact Below.refl _ _⟩
theorem mBod_is {n : Int} {m : ByteArray} {b : Bool} {w : World} (hm : m.size ≤ 65536) (h : Box (bodilessL n m.data.toList = b)) :
    Calls Tryz.prog 22 #[.int .i64 n, .string m] w fun e w' => e = .returned (.bool b) ∧ w = w' :=
  (mBod_eq n m w hm).mono fun e w' ⟨h1, h2⟩ => ⟨by rw [h1, h.out], h2⟩
theorem mBod_q {n : Int} {m : ByteArray} {b : Bool} {w : World} (hm : m.size ≤ 65536) (h : Box (bodilessL n m.data.toList = b)) :
    Calls Tryz.prog 22 #[.int .i64 n, .string m] w fun e w' => e = .returned (.bool b) ∧ w' = w :=
  (mBod_eq n m w hm).mono fun e w' ⟨h1, h2⟩ => ⟨by rw [h1, h.out], h2.symm⟩
def rbL (nb : Bool) (how : Int) (cl : Bool) (l : List UInt8) : Int ⊕ (List UInt8 × Int) :=
  if nb = true then .inr ([], 0) else if how = -2 ∧ cl = false then .inl 2 else bodyL (if how = -2 then (l.length : Int) else how) l
set_option maxHeartbeats 1000000 in
theorem rrb_any {g : Nat} {s x me : ByteArray} {v d7 d9 d10 d11 : Value} {how fr ln sc : Int} {cl nb : Bool} {w : World} (hx : x.size ≤ 2000000) (hm : me.size ≤ 65536) (hf : FrOk how fr ln) (C : Box (C5 g (.string s) (.string x) v (.int .i64 fr) (.int .i64 ln) w)) (D : Box (Dp g (.string me) (.bool cl) d7 (.int .i64 sc) d9 d10 d11 w)) (HB : Box (bodilessL sc me.data.toList = nb)) (o : Int ⊕ (List UInt8 × Int)) (HO : Box (rbL nb how cl x.data.toList = o)) :
    Calls Tryz.prog 58 #[.pointer (some ⟨g, 0, none⟩)] w fun e w' => BodPost g s x v (.int .i64 fr) o e w' ∧ Kept g w w' := by
  have hz : x.data.toList.length = x.size := by simp
  have hg := C.out.lt
  obtain ⟨⟨r0, r1, r2, r3, r4⟩, ⟨f0, f1, f2, f3, f4⟩⟩ := C.out
  obtain ⟨⟨r5, r6, r7, r8, r9, r10, r11⟩, _⟩ := D.out
  rcases nb with _ | _
  · rcases hf with ⟨rfl, rfl, rfl⟩ | ⟨rfl, rfl, rfl⟩ | ⟨h0, h1, rfl, rfl⟩
    · have HO2 : Box (bodyL (if (-1 : Int) = -2 then 0 else -1) x.data.toList = o) := box (by rw [← HO.out]; unfold rbL; rw [if_neg (by simp), if_neg (by simp)]; rfl)
      clear hz
      go_enter Tryz.func58, Tryz.ntmps58
      go_wp2
      go_quiet ((go_at_call 22; exact Calls.quiet_of_same (mBod_q hm HB)))
      go_wp2_with fail
      refine (readBody_any g s x v (-1) 2 0 _ hx (.inl ⟨rfl, rfl, rfl⟩) (box (C5.drewN C.out)) o HO2).mono ?_; rintro e w1 ⟨hp, hk⟩
      obtain ⟨y, c, rfl⟩ := hp.shape
      have P := box hp
      have K := box ((Kept.of (below_drewN _ _) hg).trans hk)
      clear hp hk
      unfold hlV
      go_wp2
      go_ret2
      exact ⟨P.out, K.out⟩
    · rcases cl with _ | _
      · have HE : Box (o = .inl 2) := box (by rw [← HO.out]; unfold rbL; rw [if_neg (by simp), if_pos ⟨rfl, rfl⟩])
        clear hz
        go_enter Tryz.func58, Tryz.ntmps58
        go_wp2
        go_quiet ((go_at_call 22; exact Calls.quiet_of_same (mBod_q hm HB)))
        go_wp2
        go_ret2
        rw [HE.out]
        exact ⟨⟨rfl, by decide⟩, Kept.of (below_drewN _ _) hg⟩
      · have HO2 : Box (bodyL (x.size : Int) x.data.toList = o) := box (by rw [← HO.out]; unfold rbL; rw [if_neg (by simp), if_neg (by simp), if_pos rfl, hz])
        have hx4 : x.size ≤ 4000000 := by omega
        have hxi : (x.size : Int) ≤ 2147483647 := by omega
        clear hz
        go_enter Tryz.func58, Tryz.ntmps58
        go_wp2
        go_quiet ((go_at_call 22; exact Calls.quiet_of_same (mBod_q hm HB)))
        go_wp2_with fail
        refine (counted_any g s x v (.int .i64 0) x.size _ hx4 hxi (box (C5.set4 (C5.drewN C.out) _)) o HO2).mono ?_; rintro e w1 ⟨hp, hk⟩
        obtain ⟨y, c, rfl⟩ := hp.shape
        have P := box hp
        have K := box (((Kept.of (below_drewN _ _) hg).set (i := 4) (by omega) _).trans hk)
        clear hp hk
        unfold hlV
        go_wp2
        go_ret2
        exact ⟨P.out, K.out⟩
    · have hl : ¬ ln = -2 := by omega
      have HO2 : Box (bodyL (if ln = -2 then 0 else ln) x.data.toList = o) := box (by rw [if_neg hl, ← HO.out]; unfold rbL; rw [if_neg (by simp), if_neg (fun h => hl h.1), if_neg hl])
      have hfr : FrOk ln 1 ln := .inr (.inr ⟨h0, h1, rfl, rfl⟩)
      clear hz
      go_enter Tryz.func58, Tryz.ntmps58
      go_wp2
      go_quiet ((go_at_call 22; exact Calls.quiet_of_same (mBod_q hm HB)))
      go_wp2_with fail
      refine (readBody_any g s x v ln 1 ln _ hx hfr (box (C5.drewN C.out)) o HO2).mono ?_; rintro e w1 ⟨hp, hk⟩
      obtain ⟨y, c, rfl⟩ := hp.shape
      have P := box hp
      have K := box ((Kept.of (below_drewN _ _) hg).trans hk)
      clear hp hk
      unfold hlV
      go_wp2
      go_ret2
      exact ⟨P.out, K.out⟩
  · have HE : Box (o = .inr ([], 0)) := box (by rw [← HO.out]; unfold rbL; rw [if_pos rfl])
    clear hz
    go_enter Tryz.func58, Tryz.ntmps58
    go_wp2
    go_quiet ((go_at_call 22; exact Calls.quiet_of_same (mBod_q hm HB)))
    go_wp2
    go_ret2
    rw [HE.out]
    exact ⟨⟨rfl, x, _, C5.drewN C.out, by omega, by omega⟩, Kept.of (below_drewN _ _) hg⟩
def rsB (m t : Int) (rs : List UInt8) (L : List F) (n : Int) : Int ⊕ (List UInt8 × Int) → RS × Int × Int
  | .inl e => (zeroRS, 0, e)
  | .inr (b, c) => ((m, t, rs, L, b), n + c, 0)
def PpPost (B g : Nat) (s : ByteArray) (d5 d6 : Value) (o : RS × Int × Int) (e : Ending) (w' : World) : Prop :=
  e = .returned (.int .i64 o.2.2) ∧ (o.2.2 = 0 → ∃ v x fr ln, C5 g (.string s) (.string x) v fr ln w' ∧ Dp g d5 d6 (.int .i64 o.1.1) (.int .i64 o.1.2.1) (.string (bs o.1.2.2.1)) v (.string (bs o.1.2.2.2.2)) w' ∧ OwnF w' B v o.1.2.2.2.1 ∧ (s.size : Int) - x.size = o.2.1 ∧ x.size ≤ 4000000)
set_option maxHeartbeats 4000000 in
theorem parsep_any {g : Nat} {s me : ByteArray} {cl : Bool} {d7 d8 d9 d10 d11 : Value} {w : World} (hs : s.size ≤ 2000000) (hm : me.size ≤ 65536) (C : Box (C5 g (.string s) (.string s) (.slice none 0 0) (.int .i64 0) (.int .i64 0) w)) (HD : Box (Dp g (.string me) (.bool cl) d7 d8 d9 d10 d11 w)) :
    Calls Tryz.prog 33 #[.pointer (some ⟨g, 0, none⟩)] w fun e w' => PpPost w.heap.size g s (.string me) (.bool cl) (resM s.data.toList me.data.toList cl) e w' ∧ Only g w w' := by
  have hmf : ∀ (fn : Fn) (first cap : Array Value) (w : World), (Instr.makeFunc fn first cap).run Tryz.prog w = .ok (.func fn first cap) w := fun _ _ _ _ => rfl
  have hs4 : s.size ≤ 4000000 := by omega
  have hg := C.out.lt
  obtain ⟨o, ho⟩ : ∃ o, headL false s.data.toList = o := ⟨_, rfl⟩
  have HO := box ho
  clear ho
  go_enter Tryz.func33, Tryz.ntmps33
  go_wp2_with fail
  refine (headp_any hs4 C HD o HO).mono ?_; rintro e w1 ⟨hp, hk1⟩
  have K1 := box hk1
  clear hk1
  rcases o with c | ⟨st, L, n, r⟩
  · obtain ⟨rfl, hc0⟩ := hp
    have HE : Box (resM s.data.toList me.data.toList cl = (zeroRS, 0, c)) := box (by unfold resM; rw [HO.out])
    have hcn : (c != 0) = true := by rw [bne_iff_ne]; exact fun e => hc0 e
    have HC := box hc0
    clear hc0
    go_wp2
    go_ret
    rw [HE.out]
    exact ⟨⟨rfl, fun h => (HC.out h).elim⟩, K1.out⟩
  · obtain ⟨rfl, hp⟩ := hp
    obtain ⟨how, e0, hfr⟩ : ∃ how e0, framedL L = (how, e0) := ⟨_, _, rfl⟩
    rw [hfr] at hp ⊢
    simp only at hp ⊢
    by_cases he : e0 = 0
    · subst he
      obtain ⟨v, x, fr, ln, hO, hC, hf, hxr, hnx, hD⟩ := hp rfl
      obtain ⟨a, cap, rfl, _, _⟩ := hO.fs
      have C1 := box hC
      have O1 := box hO
      have hx : x.size ≤ 2000000 := by omega
      obtain ⟨m, t, rs, e1, hq⟩ : ∃ m t rs e1, staL st = (m, t, rs, e1) := ⟨_, _, _, _, rfl⟩
      rw [hq] at hD
      simp only at hD
      have D1 := box hD
      obtain ⟨nb, hnb⟩ : ∃ b, bodilessL t me.data.toList = b := ⟨_, rfl⟩
      have HNB := box hnb
      obtain ⟨bo, hbo⟩ : ∃ bo, rbL nb how cl x.data.toList = bo := ⟨_, rfl⟩
      have HBO := box hbo
      have HE : Box (resM s.data.toList me.data.toList cl = rsB m t rs (unfrL L) n bo) := box (by
        unfold resM; rw [HO.out]; simp only [hfr, hq]; rw [hnb, ← hxr, ← hbo]
        unfold rbL
        rcases nb with _ | _
        · simp only [Bool.false_eq_true, if_false]
          by_cases h2 : how = -2 ∧ cl = false
          · rw [if_pos h2, if_pos h2]; simp [rsB]
          · rw [if_neg h2, if_neg h2]
            rcases bodyL (if how = -2 then (x.data.toList.length : Int) else how) x.data.toList with _ | ⟨_, _⟩ <;> simp [rsB]
        · simp [rsB])
      have HXN := box hnx
      clear hbo hxr hO hC hD hnb
      go_wp2_with fail
      refine (rrb_any hx hm hf C1 D1 HNB bo HBO).mono ?_; rintro e w3 ⟨hp3, hk3⟩
      have D3 := box (D1.out.kept hk3)
      have O3 := box (own_only O1.out hk3.only hg)
      have K3 := box (K1.out.trans hk3.only)
      clear hk3
      rcases bo with c | ⟨b, c⟩
      · obtain ⟨rfl, hc0⟩ := hp3
        have hcn : (c != 0) = true := by rw [bne_iff_ne]; exact fun e => hc0 e
        have HC := box hc0
        clear hc0
        unfold hlV
        go_wp2
        go_ret
        rw [HE.out]
        exact ⟨⟨rfl, fun h => (HC.out h).elim⟩, K3.out⟩
      · obtain ⟨rfl, x1, ln1, hC3, hz, hc0⟩ := hp3
        have C3 := box hC3
        have HZ : Box ((s.size : Int) - x1.size = (n : Int) + c ∧ x1.size ≤ 4000000) := box (by have := HXN.out; omega)
        clear hC3 hz hc0
        obtain ⟨⟨c0, c1, c2, c3, c4⟩, _⟩ := C3.out
        obtain ⟨⟨r5, r6, r7, r8, r9, r10, r11⟩, ⟨f5, f6, f7, f8, f9, f10, f11⟩⟩ := D3.out
        unfold hlV
        go_wp2
        go_ret
        rw [HE.out]
        exact ⟨⟨rfl, fun _ => ⟨_, x1, _, _, (C3.out.setD (i := 10) (by omega) _).setD (i := 11) (by omega) _, (D3.out.set10 _).set11 _, own_only O3.out (((Only.refl g w3).setAt 10 _).setAt 11 _) hg, HZ.out.1, HZ.out.2⟩⟩, (K3.out.setAt 10 _).setAt 11 _⟩
    · have HE : Box (resM s.data.toList me.data.toList cl = (zeroRS, 0, e0)) := box (by unfold resM; rw [HO.out]; simp only [hfr]; rw [if_pos he])
      have hcn : (e0 != 0) = true := by rw [bne_iff_ne]; exact he
      have HC := box he
      clear hp hfr he
      go_wp2
      go_ret
      rw [HE.out]
      exact ⟨⟨rfl, fun h => (HC.out h).elim⟩, K1.out⟩
end
section
open Go.RowKit
theorem res_err (l m : List UInt8) (cl : Bool) : (resM l m cl).2.2 ≠ 0 → resM l m cl = (zeroRS, 0, (resM l m cl).2.2) := by
  unfold resM
  split
  · intro _; rfl
  · split
    · intro _; rfl
    · split
      · intro h; exact absurd rfl h
      · split
        · intro _; rfl
        · split
          · intro _; rfl
          · intro h; exact absurd rfl h
set_option maxHeartbeats 4000000 in
theorem mRes_any (s me : ByteArray) (cl : Bool) (w : World) (hs : s.size ≤ 2000000) (hm : me.size ≤ 65536) :
    Calls Tryz.prog 13 #[.string s, .string me, .bool cl] w fun e w' => ResPost w.heap.size (resM s.data.toList me.data.toList cl) e w' ∧ Below w.heap.size w w' := by
  obtain ⟨z, hz⟩ : ∃ z, (Obj.cells #[.int .i64 0, .int .i64 0, .string ⟨#[]⟩, .slice none 0 0, .string ⟨#[]⟩] 32) = z := ⟨_, rfl⟩
  have Z := C5.new (.int .i64 0) (.int .i64 0) (.string ⟨#[]⟩) (.slice none 0 0) (.string ⟨#[]⟩) w 32
  have C : Box (C5 (w.heap.size + 1) (.string s) (.string s) (.slice none 0 0) (.int .i64 0) (.int .i64 0) ((w.alloc (.cells #[.int .i64 0, .int .i64 0, .string ⟨#[]⟩, .slice none 0 0, .string ⟨#[]⟩] 32)).alloc (.cells #[.string s, .string s, .slice none 0 0, .int .i64 0, .int .i64 0, .string me, .bool cl, .int .i64 0, .int .i64 0, .string ⟨#[]⟩, .slice none 0 0, .string ⟨#[]⟩] 66))) := box (by
    have hsz : (w.alloc (.cells #[.int .i64 0, .int .i64 0, .string ⟨#[]⟩, .slice none 0 0, .string ⟨#[]⟩] 32)).heap.size = w.heap.size + 1 := by simp
    rw [← hsz]
    exact ⟨⟨cells_new rfl, cells_new rfl, cells_new rfl, cells_new rfl, cells_new rfl⟩, ⟨World.frozen?_alloc_at _ _ _ _ rfl, World.frozen?_alloc_at _ _ _ _ rfl, World.frozen?_alloc_at _ _ _ _ rfl, World.frozen?_alloc_at _ _ _ _ rfl, World.frozen?_alloc_at _ _ _ _ rfl⟩⟩)
  have D : Box (Dp (w.heap.size + 1) (.string me) (.bool cl) (.int .i64 0) (.int .i64 0) (.string ⟨#[]⟩) (.slice none 0 0) (.string ⟨#[]⟩) ((w.alloc (.cells #[.int .i64 0, .int .i64 0, .string ⟨#[]⟩, .slice none 0 0, .string ⟨#[]⟩] 32)).alloc (.cells #[.string s, .string s, .slice none 0 0, .int .i64 0, .int .i64 0, .string me, .bool cl, .int .i64 0, .int .i64 0, .string ⟨#[]⟩, .slice none 0 0, .string ⟨#[]⟩] 66))) := box (by
    have hsz : (w.alloc (.cells #[.int .i64 0, .int .i64 0, .string ⟨#[]⟩, .slice none 0 0, .string ⟨#[]⟩] 32)).heap.size = w.heap.size + 1 := by simp
    rw [← hsz]
    exact ⟨⟨cells_new rfl, cells_new rfl, cells_new rfl, cells_new rfl, cells_new rfl, cells_new rfl, cells_new rfl⟩, ⟨World.frozen?_alloc_at _ _ _ _ rfl, World.frozen?_alloc_at _ _ _ _ rfl, World.frozen?_alloc_at _ _ _ _ rfl, World.frozen?_alloc_at _ _ _ _ rfl, World.frozen?_alloc_at _ _ _ _ rfl, World.frozen?_alloc_at _ _ _ _ rfl, World.frozen?_alloc_at _ _ _ _ rfl⟩⟩)
  obtain ⟨o, ho⟩ : ∃ o, resM s.data.toList me.data.toList cl = o := ⟨_, rfl⟩
  have HO := box ho
  have herr := res_err s.data.toList me.data.toList cl
  rw [ho] at herr
  have HER := box herr
  have ZB := box (Z.below (below_new _ (.cells #[.string s, .string s, .slice none 0 0, .int .i64 0, .int .i64 0, .string me, .bool cl, .int .i64 0, .int .i64 0, .string ⟨#[]⟩, .slice none 0 0, .string ⟨#[]⟩] 66)) Z.lt)
  have BB := box ((below_new w (.cells #[.int .i64 0, .int .i64 0, .string ⟨#[]⟩, .slice none 0 0, .string ⟨#[]⟩] 32)).alloc (below_new w _).size (.cells #[.string s, .string s, .slice none 0 0, .int .i64 0, .int .i64 0, .string me, .bool cl, .int .i64 0, .int .i64 0, .string ⟨#[]⟩, .slice none 0 0, .string ⟨#[]⟩] 66))
  clear ho herr hz Z
  clear z
  rw [HO.out]
  go_enter Tryz.func13, Tryz.ntmps13
  go_wp2_with fail
  refine (parsep_any hs hm C D).mono ?_; rintro e w1 ⟨hp, ho1⟩
  rw [HO.out] at hp
  obtain ⟨rfl, hp⟩ := hp
  have Z1 := ZB.out.only ho1 (by omega)
  have B1 := box (BB.out.trans (ho1.below (by omega) BB.out.size))
  obtain ⟨k0, k1, k2⟩ := o
  simp only at hp HER ⊢
  obtain ⟨⟨z0, z1, z2, z3, z4⟩, ⟨y0, y1, y2, y3, y4⟩⟩ := Z1
  by_cases he : k2 = 0
  · subst he
    obtain ⟨v, x, fr, ln, hC, hD, hO, hz, hx⟩ := hp rfl
    obtain ⟨m, t, rs, L, b⟩ := k0
    simp only at hD hO hz
    obtain ⟨a, cap, rfl, _, _⟩ := hO.fs
    have C1 := box hC
    have D1 := box hD
    have O1 : Box (OwnF w1 (w.heap.size + 1) (.slice a L.length cap) L) := box (own_le hO (by simp))
    have HZ := box hz
    have hs4 : s.size ≤ 4000000 := by omega
    obtain ⟨⟨r5, r6, r7, r8, r9, r10, r11⟩, _⟩ := hD
    clear hC hO hz hp ho1 C D ZB BB
    go_wp2
    go_region_with (go_at_call 27; refine (bytesRead_at (g := w.heap.size + 1) (v := .slice a L.length cap) (f := fr) (l := ln) hs4 hx (by first | exact C5.drewN (n := 1) C1.out | exact C5.only (C5.drewN (n := 1) C1.out) (only5 w.heap.size _ _ _ _ _ _) (by omega)) HZ).mono ?_; rintro e w5 ⟨rfl, n5, rfl⟩)
    all_goals
      go_wp2
      (try simp only [Exit.inBlock, Exit.then])
      refine bodyPost_ret (v := .tuple #[.agg #[.int .i64 m, .int .i64 t, .string (bs rs), .slice a L.length cap, .string (bs b)], .int .i64 k1, .int .i64 0]) (by rw [results_cell_tmp2 rfl]; go_simp) rfl ⟨?_, ?_⟩
      · exact ⟨_, rfl, own_le (own_only (own_drewN O1.out) (only5 _ _ _ _ _ _ _) (Nat.lt_succ_self _)) (Nat.le_succ _)⟩
      · exact below5 (B1.out.trans ((below_drewN _ _).mono B1.out.size)) (Nat.le_refl _) _ _ _ _ _
  · have hcn : (k2 != 0) = true := by rw [bne_iff_ne]; exact he
    have HE := box (HER.out he)
    clear hp ho1 he C D ZB BB
    go_wp2
    (try simp only [Exit.inBlock, Exit.then])
    refine bodyPost_ret (v := .tuple #[.agg #[.int .i64 0, .int .i64 0, .string ⟨#[]⟩, .slice none 0 0, .string ⟨#[]⟩], .int .i64 0, .int .i64 k2]) (by rw [results_cell_tmp2 rfl]; go_simp) rfl ⟨?_, ?_⟩
    · rw [HE.out]
      exact ⟨_, rfl, OwnF.nil _ _⟩
    · exact below5 B1.out (Nat.le_refl _) _ _ _ _ _
end
section
open Go.RowKit
def outF (st : List UInt8) (L : List F) : List UInt8 := st ++ [13, 10] ++ flatL L ++ [13, 10]
def fhV (st : ByteArray) (L : List F) : Value :=
  if L.all validF = true then .tuple #[.string (bs (outF st.data.toList L)), .bool (decide (((outF st.data.toList L).length : Int) ≤ 16000))] else .tuple #[.string ⟨#[]⟩, .bool false]
theorem Format_is {p : F} {x : ByteArray} {w : World} (N : Box (p.1.size ≤ 65536)) (V : Box (p.2.size ≤ 65536)) (h : Box (bs (fmtFL p.1.data.toList p.2.data.toList) = x)) :
    Calls Tryz.prog 86 #[.agg #[.string p.1, .string p.2]] w fun e w' => e = .returned (.string x) ∧ Below w.heap.size w w' :=
  (Format_any p.1 p.2 w N V).mono fun e w' ⟨h1, h2⟩ => ⟨by rw [h1, h.out], h2⟩
def FhRel (st : List UInt8) (L : List F) (w : World) (B : Nat) (v i : Value) (wr : World) : Prop :=
  ∃ k : Nat, i = .int .i64 k ∧ k ≤ L.length ∧ OwnT wr B v (st ++ [13, 10] ++ flatL (L.take k)) ∧ (st ++ [13, 10] ++ flatL (L.take k)).length ≤ 100010 + 131080 * k ∧ (L.take k).all validF = true ∧ Below w.heap.size w wr ∧ B ≤ wr.heap.size
set_option maxHeartbeats 4000000 in
theorem fh_any (st : ByteArray) (a : Option Addr) (cap : Nat) (L : List F) (w : World) (hst : st.size ≤ 100000) (hL : L.length ≤ 64) (S : Box (Sm L)) (hF : Box (Fs w a L)) :
    Calls Tryz.prog 65 #[.string st, .slice a L.length cap] w fun e w' => e = .returned (fhV st L) ∧ Below w.heap.size w w' := by
  have r0 : ∀ w, (Op.stringOp .add st ⟨#[13, 10]⟩).run Tryz.prog w = .ok (.string (st ++ ⟨#[13, 10]⟩)) w := fun w => run_string_add_sum w _ _ (by show st.size + 2 ≤ 9223372036854775807; omega)
  have hsz : (st ++ (⟨#[13, 10]⟩ : ByteArray)).size ≤ 100010 := by rw [ByteArray.size_append]; show st.size + 2 ≤ 100010; omega
  obtain ⟨c0, W, hcv, hO0, hB0⟩ := OwnT.new (st ++ ⟨#[13, 10]⟩) w (by omega)
  have hd0 : (st ++ (⟨#[13, 10]⟩ : ByteArray)).data.toList = st.data.toList ++ [13, 10] := by simp [ByteArray.data_append]
  rw [hd0] at hO0
  have O0 := box hO0
  have B0 := box hB0
  have HS0 : Box ((st.data.toList ++ [13, 10]).length ≤ 100010) := box (by simp; omega)
  clear hO0 hB0 hd0 hsz
  go_enter Tryz.func65, Tryz.ntmps65
  go_wp2
  go_loopw [6, 15] (fun v i wr => FhRel st.data.toList L w w.heap.size v i wr) (fun _ i _ => L.length - (intOf i).toNat)
  case atStart => exact ⟨0, rfl, Nat.zero_le _, by have := O0.out; simp only [ByteArray.size_append] at this; simpa [flatL, show (⟨#[13, 10]⟩ : ByteArray).size = 2 from rfl] using this, by simpa [flatL] using HS0.out, rfl, B0.out, B0.out.size⟩
  case round =>
    obtain ⟨k, rfl, hk, hO, hl, hall, hbel, hBw⟩ := hrel
    have O1 := box hO
    have HL := box hl
    have HA := box hall
    have BL := box hbel
    clear hO hl hall hbel O0 B0 hcv
    by_cases hlt : k < L.length
    · obtain ⟨q, off, rfl, c1, c2⟩ := hF.out.below BL.out k hlt
      have N1 : Box (L[k].1.size ≤ 65536) := box (S.out.2 k hlt).1
      have N2 : Box (L[k].2.size ≤ 65536) := box (S.out.2 k hlt).2
      obtain ⟨x, hx⟩ : ∃ x, bs (fmtFL L[k].1.data.toList L[k].2.data.toList) = x := ⟨_, rfl⟩
      have HX := box hx
      rcases hv : validF L[k] with _ | _
      · have hx0 : x.toList.isEmpty = true := by rw [← hx, fmtF_no hv, toList_bs]; rfl
        have HE : Box (fhV st L = .tuple #[.string ⟨#[]⟩, .bool false]) := box (by unfold fhV; rw [not_all hlt hv, if_neg (by simp)])
        clear hx hv
        go_wp2_with fail
        refine (Format_is N1 N2 HX).mono ?_; rintro e w1 ⟨rfl, hb1⟩
        have B1 := box ((BL.out.alloc BL.out.size _).trans (hb1.mono (BL.out.alloc BL.out.size _).size))
        clear hb1
        go_wp2
        go_ret2
        exact ⟨by rw [HE.out]; rfl, B1.out⟩
      · have hln : lineL L[k].1.data.toList L[k].2.data.toList ≠ [] := (line_next hv []).2.1
        have hxl : x.data.toList = lineL L[k].1.data.toList L[k].2.data.toList := by rw [← hx, fmtF_yes hv, bs_toList]
        have hx0 : x.toList.isEmpty = false := by
          rw [toList_data, hxl]
          cases h : lineL L[k].1.data.toList L[k].2.data.toList with
          | nil => exact absurd h hln
          | cons a b => rfl
        have hxz : x.size ≤ 131074 := by rw [← hx, fmtF_yes hv]; exact line_le _ N1.out N2.out
        have e2 : (⟨#[13, 10]⟩ : ByteArray).size = 2 := rfl
        have hxs : x.data.toList.length = x.size := by simp
        have hll := HL.out
        have HL1 : Box ((st.data.toList ++ [13, 10] ++ flatL (L.take k)).length + x.size < 8589934592) := box (by omega)
        have HL2 : Box ((st.data.toList ++ [13, 10] ++ flatL (L.take k) ++ x.data.toList).length + (⟨#[13, 10]⟩ : ByteArray).size < 8589934592) := box (by rw [List.length_append, e2]; omega)
        have HN : Box (st.data.toList ++ [13, 10] ++ flatL (L.take k) ++ x.data.toList ++ (⟨#[13, 10]⟩ : ByteArray).data.toList = st.data.toList ++ [13, 10] ++ flatL (L.take (k + 1))) := box (by rw [flat_snoc hlt, hxl]; simp)
        have HLN : Box ((st.data.toList ++ [13, 10] ++ flatL (L.take (k + 1))).length ≤ 100010 + 131080 * (k + 1)) := box (by rw [← HN.out, List.length_append, List.length_append]; show _ + _ + 2 ≤ _; omega)
        have HAN : Box ((L.take (k + 1)).all validF = true) := box (by rw [take_next hlt, List.all_append, HA.out]; simp [hv])
        clear hx hv hln hxl e2 hxs hll
        go_wp2_with fail
        refine (Format_is N1 N2 HX).mono ?_; rintro e w1 ⟨rfl, hb1⟩
        have O2 := box ((O1.out.below (below_new _ _)).below hb1)
        have B1 := box ((BL.out.alloc BL.out.size _).trans (hb1.mono (BL.out.alloc BL.out.size _).size))
        have hB1 := B1.out.size
        clear hb1
        go_wp2_with (at_builtin; first | (refine wpList_append_sbT _ rfl (.tmp 23) (.tmp 24) rfl w.heap.size _ _ rfl O2.out x rfl HL1.out hB1 ?_; intro v2 w2 hO2 hb2; have O3 := box hO2; have B2 := box (B1.out.trans hb2); have hB2 := B2.out.size; clear hO2 hb2) | (refine wpList_append_sbT _ rfl (.tmp 26) (.const (.string ⟨#[13, 10]⟩)) rfl w.heap.size _ _ rfl O3.out ⟨#[13, 10]⟩ rfl HL2.out hB2 ?_; intro v3 w3 hO3 hb3; rw [HN.out] at hO3; have O4 := box hO3; have B3 := box (B2.out.trans hb3); have hB3 := B3.out.size; clear hO3 hb3))
        go_roundw
        case rel => exact ⟨k + 1, by go_num, by omega, O4.out, HLN.out, HAN.out, B3.out, hB3⟩
        case measure => simp [intOf]; omega
    · obtain rfl : k = L.length := by omega
      have e2 : (⟨#[13, 10]⟩ : ByteArray).size = 2 := rfl
      have hll := HL.out
      have HL1 : Box ((st.data.toList ++ [13, 10] ++ flatL (L.take L.length)).length + (⟨#[13, 10]⟩ : ByteArray).size < 8589934592) := box (by rw [e2]; omega)
      have HE : Box (fhV st L = .tuple #[.string (bs (outF st.data.toList L)), .bool (decide (((outF st.data.toList L).length : Int) ≤ 16000))]) := box (by unfold fhV; rw [if_pos (by rw [← HA.out, List.take_length])])
      have HOF : Box (st.data.toList ++ [13, 10] ++ flatL (L.take L.length) ++ (⟨#[13, 10]⟩ : ByteArray).data.toList = outF st.data.toList L) := box (by rw [List.take_length]; rfl)
      clear e2 hll
      go_wp2_with (at_builtin; refine wpList_append_sbT _ rfl (.tmp 29) (.const (.string ⟨#[13, 10]⟩)) rfl w.heap.size _ _ rfl O1.out ⟨#[13, 10]⟩ rfl HL1.out hBw ?_; intro v3 w3 hO3 hb3; rw [HOF.out] at hO3; obtain ⟨a5, cap5, rfl⟩ := OwnT.slice hO3; have hst3 := OwnT.str hO3; have B3 := box (BL.out.trans hb3); clear hO3 hb3)
      go_ret2
      exact ⟨by rw [HE.out]; rfl, B3.out⟩
end
end Go.Proofs.YtjabcfabenobiaaGreat.Asc
