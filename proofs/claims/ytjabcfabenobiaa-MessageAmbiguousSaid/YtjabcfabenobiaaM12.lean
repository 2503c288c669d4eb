/- Merged texts: MsgRd7 MsgRd8 LstOpen TarRKey TarOpen MsgOpen. -/
import Derived.Test.YtjabcfabenobiaaM02
import Derived.Test.YtjabcfabenobiaaM03
import Derived.Test.YtjabcfabenobiaaM07
import Derived.Test.YtjabcfabenobiaaM09
import Derived.Test.YtjabcfabenobiaaM11
import Derived.BigQuiet
import Derived.Carry
import Derived.Deep.Fields
import Derived.Deep.QuietTactic
import Derived.Deep.RegionHeld3
import Derived.Deep.RegionWith
import Derived.Deep.SlicePairs
import Derived.ProofKit
set_option linter.unusedVariables false
set_option linter.unusedSimpArgs false
set_option maxRecDepth 100000
namespace Go.Proofs.Ytjabcfabenobiaa.Asc
section
open Go.RowKit
theorem req_minor (l : List UInt8) : (reqL l).2.2.1 = 0 ∨ (reqL l).2.2.1 = 1 := by
  unfold reqL verM
  split
  · exact .inl rfl
  · split
    · exact .inl rfl
    · split
      · exact .inl rfl
      · dsimp only; split
        · exact .inr rfl
        · exact .inl rfl
def hcB (gl : Nat) (n : Int) : Bool := decide (gl = 1 ∨ (gl = 0 ∧ n = 0))
theorem GetL_is {a : Option Addr} {cap gl : Nat} {L : List F} {w : World} (S : Box (Sm L)) (hF : Box (Fs w a L)) (h : Box ((getL hostN L).length = gl)) :
    Calls Try.prog 44 #[.slice a L.length cap, .string hostN] w fun e w' => (∃ a2 cap2, e = .returned (.slice a2 gl cap2)) ∧ Below w.heap.size w w' :=
  (Get_any a cap L hostN w S.out.1 S (box (by decide)) hF).mono fun e w' ⟨v, h1, h2, h3⟩ => by
    obtain ⟨a2, cap2, rfl, _, _⟩ := h2.ss
    rw [h.out] at h1
    exact ⟨⟨a2, cap2, h1⟩, h3⟩
theorem isHost_any {g : Nat} {s x f l d5 d6 d8 d9 : Value} {n : Int} {a : Option Addr} {cap gl : Nat} {L : List F} {w : World} (S : Box (Sm L)) (hF : Box (Fs w a L)) (C : Box (C5 g s x (.slice a L.length cap) f l w)) (D : Box (Dq g d5 d6 (.int .i64 n) d8 d9 w)) (HG : Box ((getL hostN L).length = gl)) :
    Calls Try.prog 31 #[.pointer (some ⟨g, 0, none⟩)] w fun e w' => e = .returned (.bool (hcB gl n)) ∧ Below w.heap.size w w' := by
  obtain ⟨⟨c0, c1, c2, c3, c4⟩, _⟩ := C.out
  rcases Nat.eq_zero_or_pos gl with rfl | hgl
  · have HB : Box (hcB 0 n = (n == 0)) := box (by unfold hcB; rw [Bool.eq_iff_iff]; simp)
    go_enter Try.func31, Try.ntmps31
    go_wp2_with fail
    refine (GetL_is S hF HG).mono ?_; rintro e w1 ⟨⟨a2, cap2, rfl⟩, hb1⟩
    have D1 := box (D.out.next hb1)
    have B1 := box hb1
    clear hb1 c0 c1 c2 c3 c4
    obtain ⟨⟨r5, r6, r7, r8, r9⟩, _⟩ := D1.out
    go_wp2
    go_ret
    exact ⟨ret_bool HB.out.symm, B1.out⟩
  · have h0 : ((gl : Int) == 0) = false := by rw [beq_eq_false_iff_ne]; omega
    by_cases h1 : gl = 1
    · subst h1
      have HB : Box (hcB 1 n = true) := box (by unfold hcB; simp)
      go_enter Try.func31, Try.ntmps31
      go_wp2_with fail
      refine (GetL_is S hF HG).mono ?_; rintro e w1 ⟨⟨a2, cap2, rfl⟩, hb1⟩
      have B1 := box hb1
      clear hb1
      go_wp2
      go_ret
      exact ⟨ret_bool HB.out.symm, B1.out⟩
    · have h1i : ((gl : Int) == 1) = false := by rw [beq_eq_false_iff_ne]; omega
      have HB : Box (hcB gl n = false) := box (by unfold hcB; rw [decide_eq_false_iff_not]; omega)
      go_enter Try.func31, Try.ntmps31
      go_wp2_with fail
      refine (GetL_is S hF HG).mono ?_; rintro e w1 ⟨⟨a2, cap2, rfl⟩, hb1⟩
      have B1 := box hb1
      clear hb1
      go_wp2
      go_ret
      exact ⟨ret_bool HB.out.symm, B1.out⟩
theorem isHost_is {g : Nat} {s x f l d5 d6 d8 d9 : Value} {n : Int} {a : Option Addr} {cap : Nat} {L : List F} {b : Bool} {w : World} (S : Box (Sm L)) (hF : Box (Fs w a L)) (C : Box (C5 g s x (.slice a L.length cap) f l w)) (D : Box (Dq g d5 d6 (.int .i64 n) d8 d9 w)) (HG : Box (hcB (getL hostN L).length n = b)) :
    Calls Try.prog 31 #[.pointer (some ⟨g, 0, none⟩)] w fun e w' => e = .returned (.bool b) ∧ Below w.heap.size w w' :=
  (isHost_any S hF C D (box rfl)).mono fun e w' ⟨h1, h2⟩ => ⟨by rw [h1, HG.out], h2⟩
def rqB (m t : List UInt8) (mi : Int) (L : List F) (n : Int) : Int ⊕ (List UInt8 × Int) → RQ × Int × Int
  | .inl e => (zeroRQ, 0, e)
  | .inr (b, c) => ((m, t, mi, L, b), n + c, 0)
def PqPost (B g : Nat) (s : ByteArray) (o : RQ × Int × Int) (e : Ending) (w' : World) : Prop :=
  e = .returned (.int .i64 o.2.2) ∧ (o.2.2 = 0 → ∃ v x fr ln, C5 g (.string s) (.string x) v fr ln w' ∧ Dq g (.string (bs o.1.1)) (.string (bs o.1.2.1)) (.int .i64 o.1.2.2.1) v (.string (bs o.1.2.2.2.2)) w' ∧ OwnF w' B v o.1.2.2.2.1 ∧ (s.size : Int) - x.size = o.2.1 ∧ x.size ≤ 4000000)
set_option maxHeartbeats 4000000 in
theorem parseq_any {g : Nat} {s : ByteArray} {d5 d6 d7 d8 d9 : Value} {w : World} (hs : s.size ≤ 2000000) (C : Box (C5 g (.string s) (.string s) (.slice none 0 0) (.int .i64 0) (.int .i64 0) w)) (HD : Box (Dq g d5 d6 d7 d8 d9 w)) :
    Calls Try.prog 19 #[.pointer (some ⟨g, 0, none⟩)] w fun e w' => PqPost w.heap.size g s (reqM s.data.toList) e w' ∧ Only g w w' := by
  have hmf : ∀ (fn : Fn) (first cap : Array Value) (w : World), (Instr.makeFunc fn first cap).run Try.prog w = .ok (.func fn first cap) w := fun _ _ _ _ => rfl
  have hs4 : s.size ≤ 4000000 := by omega
  have hg := C.out.lt
  obtain ⟨o, ho⟩ : ∃ o, headL true s.data.toList = o := ⟨_, rfl⟩
  have HO := box ho
  clear ho
  go_enter Try.func19, Try.ntmps19
  go_wp2_with fail
  refine (headq_any hs4 C HD o HO).mono ?_; rintro e w1 ⟨hp, hk1⟩
  have K1 := box hk1
  clear hk1
  rcases o with c | ⟨st, L, n, r⟩
  · obtain ⟨rfl, hc0⟩ := hp
    have HE : Box (reqM s.data.toList = (zeroRQ, 0, c)) := box (by unfold reqM; rw [HO.out])
    have hcn : (c != 0) = true := by rw [bne_iff_ne]; exact fun e => hc0 e
    have HC := box hc0
    clear hc0
    go_wp2
    go_ret
    rw [HE.out]
    exact ⟨⟨rfl, fun h => (HC.out h).elim⟩, K1.out⟩
  · obtain ⟨rfl, hp⟩ := hp
    obtain ⟨how, e0, hfr⟩ : ∃ how e0, framedL L = (how, e0) := ⟨_, _, rfl⟩
    rw [hfr] at hp ⊢
    simp only at hp ⊢
    by_cases he : e0 = 0
    · subst he
      obtain ⟨v, x, fr, ln, hO, hC, hf, hxr, hnx, hD⟩ := hp rfl
      have hok := headL_ok HO.out
      have S : Box (Sm (unfrL L)) := box (sm_rem (sm_rem (sm_head hok.small hok.few)))
      obtain ⟨a, cap, rfl, hF, _⟩ := hO.fs
      have C1 := box hC
      have D1 := box hD
      have F1 := box hF
      have O1 := box hO
      have hx : x.size ≤ 2000000 := by omega
      have hmi := req_minor st
      obtain ⟨m, t, mi, e1, hq⟩ : ∃ m t mi e1, reqL st = (m, t, mi, e1) := ⟨_, _, _, _, rfl⟩
      rw [hq] at hmi D1
      simp only at hmi D1
      obtain ⟨hcb, hhc⟩ : ∃ b, hcB (getL hostN (unfrL L)).length mi = b := ⟨_, rfl⟩
      have HCB := box hhc
      have hHE : hostE L mi = !hcb := by
        rw [← hhc, host_un]
        unfold hostE hcB
        generalize (getL hostN L).length = gl
        rw [Bool.eq_iff_iff]
        simp only [decide_eq_true_eq, Bool.not_eq_true', decide_eq_false_iff_not]
        omega
      have HHE := box hHE
      clear hO hC hD hF hok hhc hHE
      go_wp2_with fail
      refine (isHost_is S F1 C1 D1 HCB).mono ?_; rintro e w2 ⟨rfl, hb2⟩
      have C2 := box (C1.out.next hb2)
      have D2 := box (D1.out.next hb2)
      have O2 := box (own_below O1.out hb2)
      have K2 := box (K1.out.trans (Only.of hb2))
      clear hb2
      rcases hcb with _ | _
      · have HE : Box (reqM s.data.toList = (zeroRQ, 0, 6)) := box (by unfold reqM; rw [HO.out]; simp only [hfr, hq]; rw [HHE.out]; simp)
        go_wp2
        go_ret
        rw [HE.out]
        exact ⟨⟨rfl, fun h => absurd h (by decide)⟩, K2.out⟩
      · obtain ⟨bo, hbo⟩ : ∃ bo, bodyL (if how = -2 then 0 else how) x.data.toList = bo := ⟨_, rfl⟩
        have HBO := box hbo
        have HE : Box (reqM s.data.toList = rqB m t mi (unfrL L) n bo) := box (by
          unfold reqM; rw [HO.out]; simp only [hfr, hq]; rw [HHE.out, ← hxr, hbo]; rcases bo with _ | ⟨_, _⟩ <;> simp [rqB])
        have HXN := box hnx
        clear hbo hxr
        go_wp2_with fail
        refine (readBody_any g s x _ how fr ln _ hx hf C2 bo HBO).mono ?_; rintro e w3 ⟨hp3, hk3⟩
        have D3 := box (D2.out.kept hk3)
        have O3 := box (own_only O2.out hk3.only hg)
        have K3 := box (K2.out.trans hk3.only)
        clear hk3
        rcases bo with c | ⟨b, c⟩
        · obtain ⟨rfl, hc0⟩ := hp3
          have hcn : (c != 0) = true := by rw [bne_iff_ne]; exact fun e => hc0 e
          have HC := box hc0
          clear hc0
          unfold hlV
          go_wp2
          go_ret
          rw [HE.out]
          exact ⟨⟨rfl, fun h => (HC.out h).elim⟩, K3.out⟩
        · obtain ⟨rfl, x1, ln1, hC3, hz, hc0⟩ := hp3
          have C3 := box hC3
          have HZ : Box ((s.size : Int) - x1.size = (n : Int) + c ∧ x1.size ≤ 4000000) := box (by have := HXN.out; omega)
          clear hC3 hz hc0
          obtain ⟨⟨c0, c1, c2, c3, c4⟩, _⟩ := C3.out
          obtain ⟨⟨r5, r6, r7, r8, r9⟩, ⟨f5, f6, f7, f8, f9⟩⟩ := D3.out
          unfold hlV
          go_wp2
          go_ret
          rw [HE.out]
          exact ⟨⟨rfl, fun _ => ⟨_, x1, _, _, (C3.out.setD (i := 8) (by omega) _).setD (i := 9) (by omega) _, (D3.out.set8 _).set9 _, own_only O3.out (((Only.refl g w3).setAt 8 _).setAt 9 _) hg, HZ.out.1, HZ.out.2⟩⟩, (K3.out.setAt 8 _).setAt 9 _⟩
    · have HE : Box (reqM s.data.toList = (zeroRQ, 0, e0)) := box (by unfold reqM; rw [HO.out]; simp only [hfr]; rw [if_pos he])
      have hcn : (e0 != 0) = true := by rw [bne_iff_ne]; exact he
      have HC := box he
      clear hp hfr he
      go_wp2
      go_ret
      rw [HE.out]
      exact ⟨⟨rfl, fun h => (HC.out h).elim⟩, K1.out⟩
end
section
open Go.RowKit
theorem bytesRead_dr (g : Nat) (s x : ByteArray) (v f l : Value) (w : World) (hs : s.size ≤ 4000000) (hx : x.size ≤ 4000000) (C : Box (C5 g (.string s) (.string x) v f l w)) :
    Calls Try.prog 20 #[.pointer (some ⟨g, 0, none⟩)] w fun e w' => e = .returned (.int .i64 ((s.size : Int) - (x.size : Int))) ∧ ∃ n, w' = w.drewN n := by
  obtain ⟨⟨c0, c1, c2, c3, c4⟩, _⟩ := C.out
  go_enter Try.func20, Try.ntmps20
  go_wp2
  go_quiet (fail)
  go_wp2
  go_ret
  exact ⟨rfl, _, rfl⟩
theorem bytesRead_at {g : Nat} {s x : ByteArray} {v f l : Value} {k : Int} {w : World} (hs : s.size ≤ 4000000) (hx : x.size ≤ 4000000) (C : C5 g (.string s) (.string x) v f l w) (hk : Box ((s.size : Int) - (x.size : Int) = k)) :
    Calls Try.prog 20 #[.pointer (some ⟨g, 0, none⟩)] w fun e w' => e = .returned (.int .i64 k) ∧ ∃ n, w' = w.drewN n :=
  (bytesRead_dr g s x v f l w hs hx (box C)).mono fun e w' ⟨h1, h2⟩ => ⟨by rw [h1, hk.out], h2⟩
theorem cells_new {cs : Array Value} {t : TypeId} {w : World} {i : Nat} {v : Value} (h : cs[i]? = some v) : (w.alloc (.cells cs t)).cell? ⟨w.heap.size, i, none⟩ = some v := by
  rw [World.cell?_alloc_mark]; exact h
theorem C5.only {g h : Nat} {c0 c1 c2 c3 c4 : Value} {w w' : World} (f : C5 h c0 c1 c2 c3 c4 w) (o : Only g w w') (hh : h ≠ g) : C5 h c0 c1 c2 c3 c4 w' := by
  have hb := o.block h f.lt hh
  have e1 : ∀ i, w'.cell? ⟨h, i, none⟩ = w.cell? ⟨h, i, none⟩ := fun i => World.cell?_of_block (w := w) hb
  have e2 : ∀ i, w'.frozen? ⟨h, i, none⟩ = w.frozen? ⟨h, i, none⟩ := fun i => World.frozen?_of_block (w := w) hb
  obtain ⟨⟨h0, h1, h2, h3, h4⟩, ⟨f0, f1, f2, f3, f4⟩⟩ := f
  exact ⟨⟨(e1 _).trans h0, (e1 _).trans h1, (e1 _).trans h2, (e1 _).trans h3, (e1 _).trans h4⟩, ⟨(e2 _).trans f0, (e2 _).trans f1, (e2 _).trans f2, (e2 _).trans f3, (e2 _).trans f4⟩⟩
theorem own_drewN {w : World} {B k n : Nat} {e : TypeId} {size : Nat} {v : Value} {xs : List Value} (h : w.ownsRow B e size v n xs) : (w.drewN k).ownsRow B e size v n xs := h
theorem req_err (l : List UInt8) : (reqM l).2.2 ≠ 0 → reqM l = (zeroRQ, 0, (reqM l).2.2) := by
  unfold reqM
  split
  · intro _; rfl
  · split
    · intro _; rfl
    · split
      · intro _; rfl
      · split
        · intro _; rfl
        · intro h; exact absurd rfl h
set_option maxHeartbeats 4000000 in
theorem mReq_any (s : ByteArray) (w : World) (hs : s.size ≤ 2000000) :
    Calls Try.prog 9 #[.string s] w fun e w' => ReqPost w.heap.size (reqM s.data.toList) e w' ∧ Below w.heap.size w w' := by
  obtain ⟨z, hz⟩ : ∃ z, (Obj.cells #[.string ⟨#[]⟩, .string ⟨#[]⟩, .int .i64 0, .slice none 0 0, .string ⟨#[]⟩] 24) = z := ⟨_, rfl⟩
  have Z := C5.new (.string ⟨#[]⟩) (.string ⟨#[]⟩) (.int .i64 0) (.slice none 0 0) (.string ⟨#[]⟩) w 24
  have C : Box (C5 (w.heap.size + 1) (.string s) (.string s) (.slice none 0 0) (.int .i64 0) (.int .i64 0) ((w.alloc (.cells #[.string ⟨#[]⟩, .string ⟨#[]⟩, .int .i64 0, .slice none 0 0, .string ⟨#[]⟩] 24)).alloc (.cells #[.string s, .string s, .slice none 0 0, .int .i64 0, .int .i64 0, .string ⟨#[]⟩, .string ⟨#[]⟩, .int .i64 0, .slice none 0 0, .string ⟨#[]⟩] 50))) := box (by
    have hsz : (w.alloc (.cells #[.string ⟨#[]⟩, .string ⟨#[]⟩, .int .i64 0, .slice none 0 0, .string ⟨#[]⟩] 24)).heap.size = w.heap.size + 1 := by simp
    rw [← hsz]
    exact ⟨⟨cells_new rfl, cells_new rfl, cells_new rfl, cells_new rfl, cells_new rfl⟩, ⟨World.frozen?_alloc_at _ _ _ _ rfl, World.frozen?_alloc_at _ _ _ _ rfl, World.frozen?_alloc_at _ _ _ _ rfl, World.frozen?_alloc_at _ _ _ _ rfl, World.frozen?_alloc_at _ _ _ _ rfl⟩⟩)
  have D : Box (Dq (w.heap.size + 1) (.string ⟨#[]⟩) (.string ⟨#[]⟩) (.int .i64 0) (.slice none 0 0) (.string ⟨#[]⟩) ((w.alloc (.cells #[.string ⟨#[]⟩, .string ⟨#[]⟩, .int .i64 0, .slice none 0 0, .string ⟨#[]⟩] 24)).alloc (.cells #[.string s, .string s, .slice none 0 0, .int .i64 0, .int .i64 0, .string ⟨#[]⟩, .string ⟨#[]⟩, .int .i64 0, .slice none 0 0, .string ⟨#[]⟩] 50))) := box (by
    have hsz : (w.alloc (.cells #[.string ⟨#[]⟩, .string ⟨#[]⟩, .int .i64 0, .slice none 0 0, .string ⟨#[]⟩] 24)).heap.size = w.heap.size + 1 := by simp
    rw [← hsz]
    exact ⟨⟨cells_new rfl, cells_new rfl, cells_new rfl, cells_new rfl, cells_new rfl⟩, ⟨World.frozen?_alloc_at _ _ _ _ rfl, World.frozen?_alloc_at _ _ _ _ rfl, World.frozen?_alloc_at _ _ _ _ rfl, World.frozen?_alloc_at _ _ _ _ rfl, World.frozen?_alloc_at _ _ _ _ rfl⟩⟩)
  obtain ⟨o, ho⟩ : ∃ o, reqM s.data.toList = o := ⟨_, rfl⟩
  have HO := box ho
  have herr := req_err s.data.toList
  rw [ho] at herr
  have HER := box herr
  have ZB := box (Z.below (below_new _ (.cells #[.string s, .string s, .slice none 0 0, .int .i64 0, .int .i64 0, .string ⟨#[]⟩, .string ⟨#[]⟩, .int .i64 0, .slice none 0 0, .string ⟨#[]⟩] 50)) Z.lt)
  have BB := box ((below_new w (.cells #[.string ⟨#[]⟩, .string ⟨#[]⟩, .int .i64 0, .slice none 0 0, .string ⟨#[]⟩] 24)).alloc (below_new w _).size (.cells #[.string s, .string s, .slice none 0 0, .int .i64 0, .int .i64 0, .string ⟨#[]⟩, .string ⟨#[]⟩, .int .i64 0, .slice none 0 0, .string ⟨#[]⟩] 50))
  clear ho herr hz Z
  clear z
  rw [HO.out]
  go_enter Try.func9, Try.ntmps9
  go_wp2_with fail
  refine (parseq_any hs C D).mono ?_; rintro e w1 ⟨hp, ho1⟩
  rw [HO.out] at hp
  obtain ⟨rfl, hp⟩ := hp
  have Z1 := ZB.out.only ho1 (by omega)
  have B1 := box (BB.out.trans (ho1.below (by omega) BB.out.size))
  obtain ⟨k0, k1, k2⟩ := o
  simp only at hp HER ⊢
  obtain ⟨⟨z0, z1, z2, z3, z4⟩, ⟨y0, y1, y2, y3, y4⟩⟩ := Z1
  by_cases he : k2 = 0
  · subst he
    obtain ⟨v, x, fr, ln, hC, hD, hO, hz, hx⟩ := hp rfl
    obtain ⟨m, t, mi, L, b⟩ := k0
    simp only at hD hO hz
    obtain ⟨a, cap, rfl, _, _⟩ := hO.fs
    have C1 := box hC
    have D1 := box hD
    have O1 : Box (OwnF w1 (w.heap.size + 1) (.slice a L.length cap) L) := box (own_le hO (by simp))
    have HZ := box hz
    have hs4 : s.size ≤ 4000000 := by omega
    obtain ⟨⟨r5, r6, r7, r8, r9⟩, _⟩ := hD
    clear hC hO hz hp ho1 C D ZB BB
    go_wp2
    go_region_with (go_at_call 20; refine (bytesRead_at (g := w.heap.size + 1) (v := .slice a L.length cap) (f := fr) (l := ln) hs4 hx (by first | exact C5.drewN (n := 1) C1.out | exact C5.only (C5.drewN (n := 1) C1.out) (only5 w.heap.size _ _ _ _ _ _) (by omega)) HZ).mono ?_; rintro e w5 ⟨rfl, n5, rfl⟩)
    all_goals
      go_wp2
      (try simp only [Exit.inBlock, Exit.then])
      refine bodyPost_ret (v := .tuple #[.agg #[.string (bs m), .string (bs t), .int .i64 mi, .slice a L.length cap, .string (bs b)], .int .i64 k1, .int .i64 0]) (by rw [results_cell_tmp2 rfl]; go_simp) rfl ⟨?_, ?_⟩
      · exact ⟨_, rfl, own_le (own_only (own_drewN O1.out) (only5 _ _ _ _ _ _ _) (Nat.lt_succ_self _)) (Nat.le_succ _)⟩
      · exact below5 (B1.out.trans ((below_drewN _ _).mono B1.out.size)) (Nat.le_refl _) _ _ _ _ _
  · have hcn : (k2 != 0) = true := by rw [bne_iff_ne]; exact he
    have HE := box (HER.out he)
    clear hp ho1 he C D ZB BB
    go_wp2
    (try simp only [Exit.inBlock, Exit.then])
    refine bodyPost_ret (v := .tuple #[.agg #[.string ⟨#[]⟩, .string ⟨#[]⟩, .int .i64 0, .slice none 0 0, .string ⟨#[]⟩], .int .i64 0, .int .i64 k2]) (by rw [results_cell_tmp2 rfl]; go_simp) rfl ⟨?_, ?_⟩
    · rw [HE.out]
      exact ⟨_, rfl, OwnF.nil _ _⟩
    · exact below5 B1.out (Nat.le_refl _) _ _ _ _ _
end
section
open Go.RowKit Go.ChangeShapes Go.WideShapes Go.Deep
def strOf : Value → ByteArray
  | .string s => s
  | _ => ByteArray.empty
end
section
open Go.RowKit
/-- a URI lies at the block's start, and may be written -/
def UF (g : Nat) (h : ByteArray) (n : Int) (p q : ByteArray) (b : Bool) (w : World) : Prop :=
  (w.cell? ⟨g, 0, none⟩ = some (.string h) ∧ w.cell? ⟨g, 1, none⟩ = some (.int .i64 n) ∧ w.cell? ⟨g, 2, none⟩ = some (.string p) ∧ w.cell? ⟨g, 3, none⟩ = some (.string q) ∧ w.cell? ⟨g, 4, none⟩ = some (.bool b)) ∧
  (w.frozen? ⟨g, 0, none⟩ = false ∧ w.frozen? ⟨g, 1, none⟩ = false ∧ w.frozen? ⟨g, 2, none⟩ = false ∧ w.frozen? ⟨g, 3, none⟩ = false ∧ w.frozen? ⟨g, 4, none⟩ = false)
section
variable {g B : Nat} {h p q : ByteArray} {n : Int} {b : Bool} {w w' : World}
theorem UF.new (h : ByteArray) (n : Int) (p q : ByteArray) (b : Bool) (w : World) (t : TypeId) : UF w.heap.size h n p q b (w.alloc (.cells #[.string h, .int .i64 n, .string p, .string q, .bool b] t)) := by
  refine ⟨⟨?_, ?_, ?_, ?_, ?_⟩, ⟨?_, ?_, ?_, ?_, ?_⟩⟩
  all_goals first
    | (rw [World.cell?_alloc_mark]; rfl)
    | exact World.frozen?_alloc_at _ _ _ _ rfl
theorem UF.below (f : UF g h n p q b w) (hb : Below B w w') (hg : g < B) : UF g h n p q b w' := by
  obtain ⟨⟨h0, h1, h2, h3, h4⟩, ⟨f0, f1, f2, f3, f4⟩⟩ := f
  exact ⟨⟨(hb.cell hg).trans h0, (hb.cell hg).trans h1, (hb.cell hg).trans h2, (hb.cell hg).trans h3, (hb.cell hg).trans h4⟩,
    ⟨(hb.frozen hg).trans f0, (hb.frozen hg).trans f1, (hb.frozen hg).trans f2, (hb.frozen hg).trans f3, (hb.frozen hg).trans f4⟩⟩
theorem UF.lt (f : UF g h n p q b w) : g < w.heap.size := by
  have h1 := f.1.1
  rcases Nat.lt_or_ge g w.heap.size with k | k
  · exact k
  · simp [World.cell?, Array.getElem?_eq_none k] at h1
end
end
section
open Go.RowKit Go.ChangeShapes Go.WideShapes Go.Deep
theorem laidT : laidOutB Try.prog = true := by kernel_rfl
theorem five {α : Type} {cs : Array α} (h : cs.size = 5) : ∃ c0 c1 c2 c3 c4, cs = #[c0, c1, c2, c3, c4] := by
  obtain ⟨l⟩ := cs
  match l, h with
  | [c0, c1, c2, c3, c4], _ => exact ⟨c0, c1, c2, c3, c4, rfl⟩
end
section
open Go.RowKit Go.ChangeShapes Go.WideShapes Go.Deep
def rqV (m t : ByteArray) (n : Int) (a : Option Addr) (cap : Nat) (L : List F) (b : ByteArray) : Value := .agg #[.string m, .string t, .int .i64 n, .slice a L.length cap, .string b]
theorem fields_trod {H : Type} {enc : TypeId × Value → H} {W : World} {base fuel : Nat} {sp : Nat → Bool} {held : Bool} {cs : List Value} {x : DataW H × List MemPlace}
    (h : DataW.trod enc Try.prog W base sp held fuel 22 cs = some x) :
    ∃ (a : Option Addr) (cap : Nat) (L : List F), cs = [.slice a L.length cap] ∧ L.length ≤ maxLen ∧ Fs W a L ∧ L.length ≤ cap := by
  rcases open_slice_pairs Try.underlying22 Try.underlying39 (by kernel_rfl) rfl rfl (by kernel_rfl) (by kernel_rfl) h with ⟨hcs, hx⟩ | ⟨a, len, cap, m, n, V0, V1, D0, D1, P0, P1, hcs, _, hl, hm, hmm, hx, hi⟩
  · exact ⟨none, 0, [], hcs, Nat.zero_le _, fun i hi => absurd hi (by simp), Nat.le_refl _⟩
  · have hlm : len ≤ m := by rw [hmm]; split <;> omega
    refine ⟨some a, cap, (List.range len).map fun i => (strOf (V0 i), strOf (V1 i)), by simpa using hcs, by simp; omega, fun i hi2 => ?_, by simp; omega⟩
    have hil : i < len := by simpa using hi2
    obtain ⟨g, off, spot⟩ := a
    obtain ⟨z0, _, _, _⟩ := hi 0 (by omega)
    have hspot : spot = none := by simpa [Addr.add] using World.cell?_spot z0
    subst hspot
    obtain ⟨k0, k1, t0, t1⟩ := hi i (by omega)
    obtain ⟨s0, e0, _, _⟩ := DataW.trod_string Try.underlying9 t0
    obtain ⟨s1, e1, _, _⟩ := DataW.trod_string Try.underlying9 t1
    rw [add_plain] at k0 k1
    simp at e0 e1
    refine ⟨g, off, rfl, ?_, ?_⟩
    · rw [k0, e0]; simp [strOf, e0]
    · rw [← Nat.add_assoc] at k1
      rw [k1, e1]; simp [strOf, e1]
theorem open_request {H : Type} {enc : TypeId × Value → H} {W : World} {base : Nat} {sp : Nat → Bool} {held : Bool} {r : Reach} {b0 : Nat} {v : Value} {d : DataW H} {ps : List MemPlace}
    (hval : Value.okWide Try.prog W r b0 24 v) (h : DataW.Trod enc Try.prog W base sp held 24 v d ps) :
    ∃ (m t : ByteArray) (n : Int) (a : Option Addr) (cap : Nat) (L : List F) (b : ByteArray), v = rqV m t n a cap L b ∧ m.size ≤ maxLen ∧ t.size ≤ maxLen ∧ (Lit.int .i64 n).wf = true ∧ L.length ≤ maxLen ∧ Fs W a L ∧ b.size ≤ maxLen := by
  obtain ⟨cs, rfl, hsz⟩ := okWide_struct Try.underlying24 hval
  rw [show Try.prog.cellsOf 24 = 5 from by kernel_rfl] at hsz
  obtain ⟨c0, c1, c2, c3, c4, rfl⟩ := five hsz
  obtain ⟨fuel, hf⟩ := h
  obtain ⟨xs, m, _, _, _, hlen, hg⟩ := DataW.trod_struct Try.underlying24 hf
  have cS : Try.prog.cellsOf 9 = 1 := by kernel_rfl
  have cI : Try.prog.cellsOf 3 = 1 := by kernel_rfl
  have cF : Try.prog.cellsOf 22 = 1 := by kernel_rfl
  have g0 := hg 0 _ rfl
  have g1 := hg 1 _ rfl
  have g2 := hg 2 _ rfl
  have g3 := hg 3 _ rfl
  have g4 := hg 4 _ rfl
  have hl : xs.length = 5 := hlen
  match xs, hl with
  | [y0, y1, y2, y3, y4], _ =>
    simp [Value.cells, cS, cI, cF] at g0 g1 g2 g3 g4
    obtain ⟨x, e0, _, w0⟩ := DataW.trod_string Try.underlying9 g0
    obtain ⟨y, e1, _, w1⟩ := DataW.trod_string Try.underlying9 g1
    obtain ⟨n, e2, _, w2⟩ := DataW.trod_int Try.underlying3 g2
    obtain ⟨a, cap, L, e3, l3, f3, _⟩ := fields_trod g3
    obtain ⟨q, e4, _, w4⟩ := DataW.trod_string Try.underlying9 g4
    simp at e0 e1 e2 e3 e4
    subst e0 e1 e2 e3 e4
    exact ⟨x, y, n, a, cap, L, q, rfl, w0, w1, w2, l3, f3, w4⟩
end
end Go.Proofs.Ytjabcfabenobiaa.Asc
