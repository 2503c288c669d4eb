/- Merged texts: TarRKey TarOpen MsgOpen MsgKeep VrySpec4 VryRef VrySrc. -/
import Derived.Test.YtiogngfemelifaaGreatDoorZs03
import Derived.Test.YtiogngfemelifaaGreatDoorZs04
import Derived.Test.YtiogngfemelifaaGreatDoorZs05
import Derived.Test.YtiogngfemelifaaGreatDoorZs06
import Derived.Test.YtiogngfemelifaaGreatDoorZs08
import Derived.Test.YtiogngfemelifaaGreatDoorZs09
import Derived.Test.YtiogngfemelifaaGreatDoorZs13
import Derived.BigQuiet
import Derived.Carry
import Derived.Deep.Fields
import Derived.Deep.QuietTactic
import Derived.Deep.RegionHeld3
import Derived.Laws.OwnMore
import Derived.ProofKit
set_option linter.unusedVariables false
set_option linter.unusedSimpArgs false
set_option maxRecDepth 100000
namespace Go.Proofs.YtiogngfemelifaaGreatDoor.Asc
section
open Go.RowKit
/-- a URI lies at the block's start, and may be written -/
def UF (g : Nat) (h : ByteArray) (n : Int) (p q : ByteArray) (b : Bool) (w : World) : Prop :=
  (w.cell? ⟨g, 0, none⟩ = some (.string h) ∧ w.cell? ⟨g, 1, none⟩ = some (.int .i64 n) ∧ w.cell? ⟨g, 2, none⟩ = some (.string p) ∧ w.cell? ⟨g, 3, none⟩ = some (.string q) ∧ w.cell? ⟨g, 4, none⟩ = some (.bool b)) ∧
  (w.frozen? ⟨g, 0, none⟩ = false ∧ w.frozen? ⟨g, 1, none⟩ = false ∧ w.frozen? ⟨g, 2, none⟩ = false ∧ w.frozen? ⟨g, 3, none⟩ = false ∧ w.frozen? ⟨g, 4, none⟩ = false)
section
variable {g B : Nat} {h p q : ByteArray} {n : Int} {b : Bool} {w w' : World}
theorem UF.new (h : ByteArray) (n : Int) (p q : ByteArray) (b : Bool) (w : World) (t : TypeId) : UF w.heap.size h n p q b (w.alloc (.cells #[.string h, .int .i64 n, .string p, .string q, .bool b] t)) := by
  refine ⟨⟨?_, ?_, ?_, ?_, ?_⟩, ⟨?_, ?_, ?_, ?_, ?_⟩⟩
  all_goals first
    | (rw [World.cell?_alloc_mark]; rfl)
    | exact World.frozen?_alloc_at _ _ _ _ rfl
theorem UF.below (f : UF g h n p q b w) (hb : Below B w w') (hg : g < B) : UF g h n p q b w' := by
  obtain ⟨⟨h0, h1, h2, h3, h4⟩, ⟨f0, f1, f2, f3, f4⟩⟩ := f
  exact ⟨⟨(hb.cell hg).trans h0, (hb.cell hg).trans h1, (hb.cell hg).trans h2, (hb.cell hg).trans h3, (hb.cell hg).trans h4⟩,
    ⟨(hb.frozen hg).trans f0, (hb.frozen hg).trans f1, (hb.frozen hg).trans f2, (hb.frozen hg).trans f3, (hb.frozen hg).trans f4⟩⟩
theorem UF.lt (f : UF g h n p q b w) : g < w.heap.size := by
  have h1 := f.1.1
  rcases Nat.lt_or_ge g w.heap.size with k | k
  · exact k
  · simp [World.cell?, Array.getElem?_eq_none k] at h1
end
end
section
open Go.RowKit Go.ChangeShapes Go.WideShapes Go.Deep
theorem laidT : laidOutB Tryz.prog = true := by kernel_rfl
theorem five {α : Type} {cs : Array α} (h : cs.size = 5) : ∃ c0 c1 c2 c3 c4, cs = #[c0, c1, c2, c3, c4] := by
  obtain ⟨l⟩ := cs
  match l, h with
  | [c0, c1, c2, c3, c4], _ => exact ⟨c0, c1, c2, c3, c4, rfl⟩
end
section
open Go.RowKit Go.ChangeShapes Go.WideShapes Go.Deep
def rqV (m t : ByteArray) (n : Int) (a : Option Addr) (cap : Nat) (L : List F) (b : ByteArray) : Value := .agg #[.string m, .string t, .int .i64 n, .slice a L.length cap, .string b]
def rsV (n s : Int) (r : ByteArray) (a : Option Addr) (cap : Nat) (L : List F) (b : ByteArray) : Value := .agg #[.int .i64 n, .int .i64 s, .string r, .slice a L.length cap, .string b]
theorem fields_trod {H : Type} {enc : TypeId × Value → H} {W : World} {base fuel : Nat} {sp : Nat → Bool} {held : Bool} {cs : List Value} {x : DataW H × List MemPlace}
    (h : DataW.trod enc Tryz.prog W base sp held fuel 22 cs = some x) :
    ∃ (a : Option Addr) (cap : Nat) (L : List F), cs = [.slice a L.length cap] ∧ L.length ≤ maxLen ∧ Fs W a L ∧ L.length ≤ cap := by
  rcases open_slice_pairs Tryz.underlying22 Tryz.underlying43 (by kernel_rfl) rfl rfl (by kernel_rfl) (by kernel_rfl) h with ⟨hcs, hx⟩ | ⟨a, len, cap, m, n, V0, V1, D0, D1, P0, P1, hcs, _, hl, hm, hmm, hx, hi⟩
  · exact ⟨none, 0, [], hcs, Nat.zero_le _, fun i hi => absurd hi (by simp), Nat.le_refl _⟩
  · have hlm : len ≤ m := by rw [hmm]; split <;> omega
    refine ⟨some a, cap, (List.range len).map fun i => (strOf (V0 i), strOf (V1 i)), by simpa using hcs, by simp; omega, fun i hi2 => ?_, by simp; omega⟩
    have hil : i < len := by simpa using hi2
    obtain ⟨g, off, spot⟩ := a
    obtain ⟨z0, _, _, _⟩ := hi 0 (by omega)
    have hspot : spot = none := by simpa [Addr.add] using World.cell?_spot z0
    subst hspot
    obtain ⟨k0, k1, t0, t1⟩ := hi i (by omega)
    obtain ⟨s0, e0, _, _⟩ := DataW.trod_string Tryz.underlying9 t0
    obtain ⟨s1, e1, _, _⟩ := DataW.trod_string Tryz.underlying9 t1
    rw [add_plain] at k0 k1
    simp at e0 e1
    refine ⟨g, off, rfl, ?_, ?_⟩
    · rw [k0, e0]; simp [strOf, e0]
    · rw [← Nat.add_assoc] at k1
      rw [k1, e1]; simp [strOf, e1]
theorem open_request {H : Type} {enc : TypeId × Value → H} {W : World} {base : Nat} {sp : Nat → Bool} {held : Bool} {r : Reach} {b0 : Nat} {v : Value} {d : DataW H} {ps : List MemPlace}
    (hval : Value.okWide Tryz.prog W r b0 24 v) (h : DataW.Trod enc Tryz.prog W base sp held 24 v d ps) :
    ∃ (m t : ByteArray) (n : Int) (a : Option Addr) (cap : Nat) (L : List F) (b : ByteArray), v = rqV m t n a cap L b ∧ m.size ≤ maxLen ∧ t.size ≤ maxLen ∧ (Lit.int .i64 n).wf = true ∧ L.length ≤ maxLen ∧ Fs W a L ∧ b.size ≤ maxLen := by
  obtain ⟨cs, rfl, hsz⟩ := okWide_struct Tryz.underlying24 hval
  rw [show Tryz.prog.cellsOf 24 = 5 from by kernel_rfl] at hsz
  obtain ⟨c0, c1, c2, c3, c4, rfl⟩ := five hsz
  obtain ⟨fuel, hf⟩ := h
  obtain ⟨xs, m, _, _, _, hlen, hg⟩ := DataW.trod_struct Tryz.underlying24 hf
  have cS : Tryz.prog.cellsOf 9 = 1 := by kernel_rfl
  have cI : Tryz.prog.cellsOf 3 = 1 := by kernel_rfl
  have cF : Tryz.prog.cellsOf 22 = 1 := by kernel_rfl
  have g0 := hg 0 _ rfl
  have g1 := hg 1 _ rfl
  have g2 := hg 2 _ rfl
  have g3 := hg 3 _ rfl
  have g4 := hg 4 _ rfl
  have hl : xs.length = 5 := hlen
  match xs, hl with
  | [y0, y1, y2, y3, y4], _ =>
    simp [Value.cells, cS, cI, cF] at g0 g1 g2 g3 g4
    obtain ⟨x, e0, _, w0⟩ := DataW.trod_string Tryz.underlying9 g0
    obtain ⟨y, e1, _, w1⟩ := DataW.trod_string Tryz.underlying9 g1
    obtain ⟨n, e2, _, w2⟩ := DataW.trod_int Tryz.underlying3 g2
    obtain ⟨a, cap, L, e3, l3, f3, _⟩ := fields_trod g3
    obtain ⟨q, e4, _, w4⟩ := DataW.trod_string Tryz.underlying9 g4
    simp at e0 e1 e2 e3 e4
    subst e0 e1 e2 e3 e4
    exact ⟨x, y, n, a, cap, L, q, rfl, w0, w1, w2, l3, f3, w4⟩
theorem open_response {H : Type} {enc : TypeId × Value → H} {W : World} {base : Nat} {sp : Nat → Bool} {held : Bool} {r : Reach} {b0 : Nat} {v : Value} {d : DataW H} {ps : List MemPlace}
    (hval : Value.okWide Tryz.prog W r b0 26 v) (h : DataW.Trod enc Tryz.prog W base sp held 26 v d ps) :
    ∃ (n s : Int) (t : ByteArray) (a : Option Addr) (cap : Nat) (L : List F) (b : ByteArray), v = rsV n s t a cap L b ∧ (Lit.int .i64 n).wf = true ∧ (Lit.int .i64 s).wf = true ∧ t.size ≤ maxLen ∧ L.length ≤ maxLen ∧ Fs W a L ∧ b.size ≤ maxLen := by
  obtain ⟨cs, rfl, hsz⟩ := okWide_struct Tryz.underlying26 hval
  rw [show Tryz.prog.cellsOf 26 = 5 from by kernel_rfl] at hsz
  obtain ⟨c0, c1, c2, c3, c4, rfl⟩ := five hsz
  obtain ⟨fuel, hf⟩ := h
  obtain ⟨xs, m, _, _, _, hlen, hg⟩ := DataW.trod_struct Tryz.underlying26 hf
  have cS : Tryz.prog.cellsOf 9 = 1 := by kernel_rfl
  have cI : Tryz.prog.cellsOf 3 = 1 := by kernel_rfl
  have cF : Tryz.prog.cellsOf 22 = 1 := by kernel_rfl
  have g0 := hg 0 _ rfl
  have g1 := hg 1 _ rfl
  have g2 := hg 2 _ rfl
  have g3 := hg 3 _ rfl
  have g4 := hg 4 _ rfl
  have hl : xs.length = 5 := hlen
  match xs, hl with
  | [y0, y1, y2, y3, y4], _ =>
    simp [Value.cells, cS, cI, cF] at g0 g1 g2 g3 g4
    obtain ⟨x, e0, _, w0⟩ := DataW.trod_int Tryz.underlying3 g0
    obtain ⟨y, e1, _, w1⟩ := DataW.trod_int Tryz.underlying3 g1
    obtain ⟨n, e2, _, w2⟩ := DataW.trod_string Tryz.underlying9 g2
    obtain ⟨a, cap, L, e3, l3, f3, _⟩ := fields_trod g3
    obtain ⟨q, e4, _, w4⟩ := DataW.trod_string Tryz.underlying9 g4
    simp at e0 e1 e2 e3 e4
    subst e0 e1 e2 e3 e4
    exact ⟨x, y, n, a, cap, L, q, rfl, w0, w1, w2, l3, f3, w4⟩
end
section
open Go.RowKit
theorem keepF_is {a : Option Addr} {cap : Nat} {L : List F} {q : Bool} {w : World} (hl : Box (L.length ≤ maxLen)) (hF : Box (Fs w a L)) (h : Box (keepF L = q)) :
    Calls Tryz.prog 11 #[.slice a L.length cap] w fun e w' => e = .returned (.bool q) ∧ w = w' :=
  (keepFields_any a cap L w hl.out hF).mono fun e w' ⟨h1, h2⟩ => ⟨by rw [h1, h.out], h2⟩
/-- what a keep function answers -/
def KeepPost (P : Prop) (e : Ending) : Prop := ∃ q : Bool, e = .returned (.bool q) ∧ (q = true → P)
def okRq (m t : ByteArray) (L : List F) (b : ByteArray) : Prop := m.size ≤ 100 ∧ t.size ≤ 2100 ∧ keepF L = true ∧ b.size ≤ 2000
def okRs (r : ByteArray) (L : List F) (b : ByteArray) : Prop := r.size ≤ 2100 ∧ keepF L = true ∧ b.size ≤ 2000
theorem kReq_any (m t : ByteArray) (n : Int) (a : Option Addr) (cap : Nat) (L : List F) (b : ByteArray) (w : World) (hm : m.size ≤ maxLen) (ht : t.size ≤ maxLen) (hb : b.size ≤ maxLen) (hl : Box (L.length ≤ maxLen)) (hF : Box (Fs w a L)) :
    Calls Tryz.prog 6 #[rqV m t n a cap L b] w fun e w' => KeepPost (okRq m t L b) e ∧ Below w.heap.size w w' := by
  unfold rqV maxLen at *
  have F1 := box (hF.out.below (below_new w (.cells #[.string m, .string t, .int .i64 n, .slice a L.length cap, .string b] 24)))
  by_cases h1 : m.size ≤ 100
  · have i1 : (m.size : Int) ≤ 100 := by omega
    by_cases h2 : t.size ≤ 2100
    · have i2 : (t.size : Int) ≤ 2100 := by omega
      rcases hk : keepF L with _ | _
      · have HK := box hk
        clear hk
        go_enter Tryz.func6, Tryz.ntmps6
        go_wp2_with fail
        refine (keepF_is hl F1 HK).mono ?_; rintro e w1 ⟨rfl, rfl⟩
        go_wp2
        go_ret
        exact ⟨⟨_, rfl, fun h => by cases h⟩, below_new _ _⟩
      · have HK := box hk
        clear hk
        by_cases h3 : b.size ≤ 2000
        · have i3 : (b.size : Int) ≤ 2000 := by omega
          go_enter Tryz.func6, Tryz.ntmps6
          go_wp2_with fail
          refine (keepF_is hl F1 HK).mono ?_; rintro e w1 ⟨rfl, rfl⟩
          go_wp2
          go_ret
          exact ⟨⟨_, rfl, fun _ => ⟨h1, h2, HK.out, h3⟩⟩, below_new _ _⟩
        · have i3 : ¬ (b.size : Int) ≤ 2000 := by omega
          go_enter Tryz.func6, Tryz.ntmps6
          go_wp2_with fail
          refine (keepF_is hl F1 HK).mono ?_; rintro e w1 ⟨rfl, rfl⟩
          go_wp2
          go_ret
          refine ⟨⟨_, rfl, fun h => ?_⟩, below_new _ _⟩
          exact absurd (of_decide_eq_true h) (by omega)
    · have i2 : ¬ (t.size : Int) ≤ 2100 := by omega
      go_enter Tryz.func6, Tryz.ntmps6
      go_wp2
      go_ret
      exact ⟨⟨_, rfl, fun h => by first | cases h | exact absurd (of_decide_eq_true h) (by omega)⟩, below_new _ _⟩
  · have i1 : ¬ (m.size : Int) ≤ 100 := by omega
    go_enter Tryz.func6, Tryz.ntmps6
    go_wp2
    go_ret
    exact ⟨⟨_, rfl, fun h => by first | cases h | exact absurd (of_decide_eq_true h) (by omega)⟩, below_new _ _⟩
theorem kRes_any (n s : Int) (r : ByteArray) (a : Option Addr) (cap : Nat) (L : List F) (b : ByteArray) (w : World) (hr : r.size ≤ maxLen) (hb : b.size ≤ maxLen) (hl : Box (L.length ≤ maxLen)) (hF : Box (Fs w a L)) :
    Calls Tryz.prog 7 #[rsV n s r a cap L b] w fun e w' => KeepPost (okRs r L b) e ∧ Below w.heap.size w w' := by
  unfold rsV maxLen at *
  have F1 := box (hF.out.below (below_new w (.cells #[.int .i64 n, .int .i64 s, .string r, .slice a L.length cap, .string b] 26)))
  by_cases h1 : r.size ≤ 2100
  · have i1 : (r.size : Int) ≤ 2100 := by omega
    rcases hk : keepF L with _ | _
    · have HK := box hk
      clear hk
      go_enter Tryz.func7, Tryz.ntmps7
      go_wp2_with fail
      refine (keepF_is hl F1 HK).mono ?_; rintro e w1 ⟨rfl, rfl⟩
      go_wp2
      go_ret
      exact ⟨⟨_, rfl, fun h => by cases h⟩, below_new _ _⟩
    · have HK := box hk
      clear hk
      by_cases h3 : b.size ≤ 2000
      · have i3 : (b.size : Int) ≤ 2000 := by omega
        go_enter Tryz.func7, Tryz.ntmps7
        go_wp2_with fail
        refine (keepF_is hl F1 HK).mono ?_; rintro e w1 ⟨rfl, rfl⟩
        go_wp2
        go_ret
        exact ⟨⟨_, rfl, fun _ => ⟨h1, HK.out, h3⟩⟩, below_new _ _⟩
      · have i3 : ¬ (b.size : Int) ≤ 2000 := by omega
        go_enter Tryz.func7, Tryz.ntmps7
        go_wp2_with fail
        refine (keepF_is hl F1 HK).mono ?_; rintro e w1 ⟨rfl, rfl⟩
        go_wp2
        go_ret
        refine ⟨⟨_, rfl, fun h => ?_⟩, below_new _ _⟩
        exact absurd (of_decide_eq_true h) (by omega)
  · have i1 : ¬ (r.size : Int) ≤ 2100 := by omega
    go_enter Tryz.func7, Tryz.ntmps7
    go_wp2
    go_ret
    exact ⟨⟨_, rfl, fun h => by first | cases h | exact absurd (of_decide_eq_true h) (by omega)⟩, below_new _ _⟩
end
section
theorem allB_mem19 {n : ByteArray} {L : List F} {k : Nat} (hv : ∀ x ∈ getL n L, x.size ≤ k) : ∀ x ∈ allB n L, x.size ≤ k := fun x hx => by
  unfold allB at hx
  obtain ⟨m, hm, rfl⟩ := List.mem_map.1 hx
  obtain ⟨y, hy, hle⟩ := all_mem hm
  have := hv y hy
  rw [bs_size]; omega
end
section
open Go.RowKit
theorem rAll19_is {a : Option Addr} {cap n : Nat} {L : List F} {nm : ByteArray} {w : World} (S : Box (Sm L)) (hv : Box (∀ x ∈ getL nm L, x.size ≤ 65000)) (M : nm.size ≤ 65536) (hF : Fs w a L) (h : Box ((allB nm L).length = n)) :
    Calls Tryz.prog 43 #[.slice a L.length cap, .string nm] w fun e w' => ∃ p c, e = .returned (.slice p n c) ∧ Ss w' p (allB nm L) ∧ Below w.heap.size w w' :=
  (rAll_any a cap L nm w S hv (box M) (box hF)).mono fun e w' ⟨v, h1, h2, h3⟩ => by
    obtain ⟨p, c, rfl, h4, _⟩ := h2.ss
    rw [h.out] at h1
    exact ⟨p, c, h1, h4, h3⟩
theorem rLow19_is {s x : ByteArray} {w : World} (hs : s.size ≤ 4260000000) (h : Box (bs (lowL s.data.toList) = x)) :
    Calls Tryz.prog 48 #[.string s] w fun e w' => e = .returned (.string x) ∧ Below w.heap.size w w' :=
  (rLower_any s w (by omega)).mono fun e w' ⟨h1, h2⟩ => ⟨by rw [h1, ← h.out]; rfl, h2⟩
end
section
open Go.RowKit
def SrcS (w : World) (u : Value) (M : List ByteArray) : Prop := (u = .slice none 0 0 ∧ M = []) ∨ ∃ p c, u = .slice (some p) M.length c ∧ Ss w (some p) M
theorem SrcS.below {w w' : World} {u : Value} {M : List ByteArray} (h : SrcS w u M) (hb : Below w.heap.size w w') : SrcS w' u M := by
  rcases h with h | ⟨p, c, e, h⟩
  · exact .inl h
  · exact .inr ⟨p, c, e, h.below hb⟩
theorem src_hi {w : World} {B n cap k : Nat} {a : Option Addr} {L : List ByteArray} (h : OwnS w B (.slice a n cap) L) (hn : L.length = n) (hk : k ≤ n) : SrcS w (.slice a k cap) (L.take k) := by
  obtain ⟨a2, c2, e, hs, _⟩ := h.ss
  injection e with e1 e2 e3
  subst e1; subst e3
  rcases h.2 with ⟨hv, h0⟩ | ⟨g, cap2, cur, hv, _⟩
  · injection hv with e1 e2 e3
    subst e1; subst e3
    have : k = 0 := by omega
    subst this
    exact .inl ⟨rfl, rfl⟩
  · injection hv with e1 e2 e3
    subst e1
    refine .inr ⟨_, cap, by rw [List.length_take, Nat.min_eq_left (by omega)], fun i hi => ?_⟩
    rw [List.length_take] at hi
    obtain ⟨g2, off, e, c0⟩ := hs i (by omega)
    exact ⟨g2, off, e, by rw [List.getElem_take]; exact c0⟩
theorem src_lo {w : World} {B n cap k : Nat} {a : Option Addr} {L : List ByteArray} (h : OwnS w B (.slice a n cap) L) (hn : L.length = n) (hk : k ≤ n) :
    SrcS w (.slice (if cap = k then a else a.map (·.add k)) (n - k) (cap - k)) (L.drop k) := by
  obtain ⟨a2, c2, e, hs, hc⟩ := h.ss
  injection e with e1 e2 e3
  subst e1; subst e3
  rcases h.2 with ⟨hv, h0⟩ | ⟨g, cap2, cur, hv, _⟩
  · injection hv with e1 e2 e3
    subst e1; subst e3
    have : k = 0 := by omega
    subst this
    have hL : L = [] := List.length_eq_zero_iff.1 (by omega)
    exact .inl ⟨by simp; omega, by rw [hL]; rfl⟩
  · injection hv with e1 e2 e3
    subst e1
    by_cases h1 : cap = k
    · have hL : L.drop k = [] := List.drop_eq_nil_of_le (by omega)
      rw [if_pos h1, hL]
      exact .inr ⟨_, _, by rw [show n - k = 0 by omega]; rfl, fun i hi => absurd hi (Nat.not_lt_zero _)⟩
    · rw [if_neg h1]
      refine .inr ⟨⟨g, 0 + k, none⟩, cap - k, ?_, ?_⟩
      · rw [List.length_drop, hn, Option.map_some, Addr.add_lit]
      · intro i hi
        rw [List.length_drop] at hi
        obtain ⟨g2, off, e, c0⟩ := hs (k + i) (by omega)
        injection e with e
        injection e with e4 e5 e6
        subst e4; subst e5
        refine ⟨g, 0 + k, rfl, ?_⟩
        rw [List.getElem_drop, Nat.add_assoc]; exact c0
section
variable {ops : Array Oper} {rest : List Oper} {o : Oper} {a : Act} {K : Act → World → Prop} {Q : Exit → Act → World → Prop} {E : Prop}
theorem wp_append_src (w : World) (s x : Operand)
    (ho : o.op = .call { callee := .builtin .append, args := #[s, x], argTypes := #[38, 38] })
    (B : Nat) (v : Value) (L : List ByteArray) (hs : a.eval s = v) (hown : OwnS w B v L)
    (u : Value) (M : List ByteArray) (hx : a.eval x = u) (hM : SrcS w u M) (hl : L.length ≤ 65536) (hl2 : M.length ≤ 65536) (hB : B ≤ w.heap.size)
    (h : ∀ v' w', OwnS w' B v' (L ++ M) → Below B w w' → K (a.put o.dst v') w') : o.wp Tryz.prog a w K Q := by
  obtain ⟨i0, hi0, hz0, hz1, hz2⟩ := info_parts info_str
  rcases hM with ⟨rfl, hM0⟩ | ⟨p, c, rfl, hss⟩
  · have hrun := run_append_owned_none (P := Tryz.prog) (w := w) B 38 o.type 9 i0 1 Tryz.underlying38 hi0 v L.length (L.map Value.string) hown
    have hK := h v w (by rw [hM0, List.append_nil]; exact hown) (Below.refl _ _)
    unfold Oper.wp
    simp [execOp, ho, resolve, invoke, builtin, hs, hx, hrun, Result.andThen]
    exact hK
  · refine wp_append_own (P := Tryz.prog) w s x 38 ho B 9 i0 _ 1 16 Tryz.underlying38 hi0 hz0 hz1 hz2 rfl (by decide) v L.length (L.map Value.string) hs hown p M.length c (M.map Value.string) hx (by simp) ?_ ?_ (by unfold maxLen; omega) (by omega) hB ?_
    · intro j y hj
      have hjl : j < M.length := by
        rcases Nat.lt_or_ge j M.length with q | q
        · exact q
        · rw [List.getElem?_eq_none (by simpa using q)] at hj; cases hj
      obtain ⟨g2, off, e, c0⟩ := hss j hjl
      cases e
      simp [hjl] at hj
      subst hj
      rw [Addr.add_lit]; exact c0
    · intro y hy
      obtain ⟨z, _, rfl⟩ := List.mem_map.1 hy
      rfl
    · intro v' w' q1 q2 _
      exact h v' w' (by simpa [OwnS] using q1) ((Below.refl _ _).grown q2 hB (fun k hk => own_block hown k hk))
theorem wpList_append_src (w : World) (hgd : o.guard = none) (s x : Operand)
    (ho : o.op = .call { callee := .builtin .append, args := #[s, x], argTypes := #[38, 38] })
    (B : Nat) (v : Value) (L : List ByteArray) (hs : a.eval s = v) (hown : OwnS w B v L)
    (u : Value) (M : List ByteArray) (hx : a.eval x = u) (hM : SrcS w u M) (hl : L.length ≤ 65536) (hl2 : M.length ≤ 65536) (hB : B ≤ w.heap.size)
    (h : ∀ v' w', OwnS w' B v' (L ++ M) → Below B w w' → wpList Tryz.prog ops Q rest (a.put o.dst v') w') : wpList Tryz.prog ops Q (o :: rest) a w :=
  wpList_plain hgd fun _ hK => wp_append_src w s x ho B v L hs hown u M hx hM hl hl2 hB fun v' w' h1 h2 => hK _ _ (h v' w' h1 h2)
theorem step_append_src (w : World) (hgd : o.guard = none) (s x : Operand)
    (ho : o.op = .call { callee := .builtin .append, args := #[s, x], argTypes := #[38, 38] })
    (B : Nat) (v : Value) (L : List ByteArray) (hs : a.eval s = v) (hown : OwnS w B v L)
    (u : Value) (M : List ByteArray) (hx : a.eval x = u) (hM : SrcS w u M) (hl : L.length ≤ 65536) (hl2 : M.length ≤ 65536) (hB : B ≤ w.heap.size)
    (h : ∀ v' w', OwnS w' B v' (L ++ M) → Below B w w' → K (a.put o.dst v') w') :
    if Region.wanted o (yielded ops a.tmps) = true then Oper.wp Tryz.prog o a w K Q else E := by
  have hw : Region.wanted o (yielded ops a.tmps) = true := by simp [Region.wanted, hgd]
  rw [if_pos hw]
  exact wp_append_src w s x ho B v L hs hown u M hx hM hl hl2 hB h
end
/-- s[:k] -/
theorem run_hi19 {a : Option Addr} {n cap k : Nat} (hk : k ≤ cap) (w : World) : (Instr.slice 38 (.slice a n cap) none (some (.int .i64 (k : Int))) none).run Tryz.prog w = .ok (.slice a k cap) w := by
  obtain ⟨i0, hi0, hz0, hz1, hz2⟩ := info_parts info_str
  have hk0 : (0 : Int) ≤ (k : Int) := by omega
  have hk1 : (k : Int) ≤ (cap : Int) := by omega
  have hm : a.map (fun x => x.add 0) = a := by cases a <;> simp [Addr.add]
  simp [Instr.slice, Instr.sliceBounds, Instr.sliceBound, run_underlying Tryz.underlying38, sizeOf, typeInfo, hi0, hz1, asIntOf, hk, Result.andThen, hm]
/-- s[k:] -/
theorem run_lo19 {a : Option Addr} {n cap k : Nat} (hk : k ≤ n) (w : World) : (Instr.slice 38 (.slice a n cap) (some (.int .i64 (k : Int))) none none).run Tryz.prog w = .ok (.slice (if cap = k then a else a.map (·.add k)) (n - k) (cap - k)) w := by
  obtain ⟨i0, hi0, hz0, hz1, hz2⟩ := info_parts info_str
  have hk0 : (0 : Int) ≤ (k : Int) := by omega
  have hk1 : (k : Int) ≤ (n : Int) := by omega
  simp [Instr.slice, Instr.sliceBounds, Instr.sliceBound, run_underlying Tryz.underlying38, sizeOf, typeInfo, hi0, hz1, asIntOf, hk, Result.andThen]
end
end Go.Proofs.YtiogngfemelifaaGreatDoor.Asc
