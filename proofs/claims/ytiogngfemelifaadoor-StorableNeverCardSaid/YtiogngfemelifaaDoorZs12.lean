/- Merged texts: MsgMem TarRKey TarOpen MsgOpen MsgKeep VrySpec4 VrySrc. -/
import Derived.Test.YtiogngfemelifaaDoorZs01
import Derived.Test.YtiogngfemelifaaDoorZs02
import Derived.Test.YtiogngfemelifaaDoorZs03
import Derived.Test.YtiogngfemelifaaDoorZs04
import Derived.Test.YtiogngfemelifaaDoorZs05
import Derived.Test.YtiogngfemelifaaDoorZs06
import Derived.Test.YtiogngfemelifaaDoorZs07
import Derived.Test.YtiogngfemelifaaDoorZs08
import Derived.Test.YtiogngfemelifaaDoorZs11
import Derived.BigQuiet
import Derived.Carry
import Derived.Deep.Fields
import Derived.Deep.LoopGhost
import Derived.Deep.QuietTactic
import Derived.Deep.RegionHeld3
import Derived.Deep.WholeRow
import Derived.IntWalk
import Derived.Laws.OwnMore
import Derived.Laws.RangeAny
import Derived.Laws.ResultCell
import Derived.Laws.Runes
import Derived.Laws.Strings3
import Derived.Laws.Tables
import Derived.Lib.AppendStr
import Derived.Lib.AsciiSet
import Derived.Lib.DecodeN
import Derived.Lib.IndexAny
import Derived.Lib.Strings
import Derived.OwnWalk
import Derived.ProofKit
import Derived.WalkMore
set_option linter.unusedVariables false
set_option linter.unusedSimpArgs false
set_option maxRecDepth 100000
namespace Go.Proofs.YtiogngfemelifaaDoor.Asc
section
open Go.RowKit
/-- five values lie at the block's start, and may be written -/
def C5 (g : Nat) (c0 c1 c2 c3 c4 : Value) (w : World) : Prop :=
  (w.cell? ⟨g, 0, none⟩ = some c0 ∧ w.cell? ⟨g, 1, none⟩ = some c1 ∧ w.cell? ⟨g, 2, none⟩ = some c2 ∧ w.cell? ⟨g, 3, none⟩ = some c3 ∧ w.cell? ⟨g, 4, none⟩ = some c4) ∧
  (w.frozen? ⟨g, 0, none⟩ = false ∧ w.frozen? ⟨g, 1, none⟩ = false ∧ w.frozen? ⟨g, 2, none⟩ = false ∧ w.frozen? ⟨g, 3, none⟩ = false ∧ w.frozen? ⟨g, 4, none⟩ = false)
section
variable {g B : Nat} {c0 c1 c2 c3 c4 : Value} {w w' : World}
theorem C5.new (c0 c1 c2 c3 c4 : Value) (w : World) (t : TypeId) : C5 w.heap.size c0 c1 c2 c3 c4 (w.alloc (.cells #[c0, c1, c2, c3, c4] t)) := by
  refine ⟨⟨?_, ?_, ?_, ?_, ?_⟩, ⟨?_, ?_, ?_, ?_, ?_⟩⟩
  all_goals first
    | (rw [World.cell?_alloc_mark]; rfl)
    | exact World.frozen?_alloc_at _ _ _ _ rfl
theorem C5.below (f : C5 g c0 c1 c2 c3 c4 w) (hb : Below B w w') (hg : g < B) : C5 g c0 c1 c2 c3 c4 w' := by
  obtain ⟨⟨h0, h1, h2, h3, h4⟩, ⟨f0, f1, f2, f3, f4⟩⟩ := f
  exact ⟨⟨(hb.cell hg).trans h0, (hb.cell hg).trans h1, (hb.cell hg).trans h2, (hb.cell hg).trans h3, (hb.cell hg).trans h4⟩,
    ⟨(hb.frozen hg).trans f0, (hb.frozen hg).trans f1, (hb.frozen hg).trans f2, (hb.frozen hg).trans f3, (hb.frozen hg).trans f4⟩⟩
theorem C5.lt (f : C5 g c0 c1 c2 c3 c4 w) : g < w.heap.size := cell_lt (p := ⟨g, 0, none⟩) f.1.1
theorem C5.next (f : C5 g c0 c1 c2 c3 c4 w) (hb : Below w.heap.size w w') : C5 g c0 c1 c2 c3 c4 w' := f.below hb f.lt
end
end
section
open Go.RowKit
/-- a URI lies at the block's start, and may be written -/
def UF (g : Nat) (h : ByteArray) (n : Int) (p q : ByteArray) (b : Bool) (w : World) : Prop :=
  (w.cell? ⟨g, 0, none⟩ = some (.string h) ∧ w.cell? ⟨g, 1, none⟩ = some (.int .i64 n) ∧ w.cell? ⟨g, 2, none⟩ = some (.string p) ∧ w.cell? ⟨g, 3, none⟩ = some (.string q) ∧ w.cell? ⟨g, 4, none⟩ = some (.bool b)) ∧
  (w.frozen? ⟨g, 0, none⟩ = false ∧ w.frozen? ⟨g, 1, none⟩ = false ∧ w.frozen? ⟨g, 2, none⟩ = false ∧ w.frozen? ⟨g, 3, none⟩ = false ∧ w.frozen? ⟨g, 4, none⟩ = false)
section
variable {g B : Nat} {h p q : ByteArray} {n : Int} {b : Bool} {w w' : World}
theorem UF.new (h : ByteArray) (n : Int) (p q : ByteArray) (b : Bool) (w : World) (t : TypeId) : UF w.heap.size h n p q b (w.alloc (.cells #[.string h, .int .i64 n, .string p, .string q, .bool b] t)) := by
  refine ⟨⟨?_, ?_, ?_, ?_, ?_⟩, ⟨?_, ?_, ?_, ?_, ?_⟩⟩
  all_goals first
    | (rw [World.cell?_alloc_mark]; rfl)
    | exact World.frozen?_alloc_at _ _ _ _ rfl
theorem UF.below (f : UF g h n p q b w) (hb : Below B w w') (hg : g < B) : UF g h n p q b w' := by
  obtain ⟨⟨h0, h1, h2, h3, h4⟩, ⟨f0, f1, f2, f3, f4⟩⟩ := f
  exact ⟨⟨(hb.cell hg).trans h0, (hb.cell hg).trans h1, (hb.cell hg).trans h2, (hb.cell hg).trans h3, (hb.cell hg).trans h4⟩,
    ⟨(hb.frozen hg).trans f0, (hb.frozen hg).trans f1, (hb.frozen hg).trans f2, (hb.frozen hg).trans f3, (hb.frozen hg).trans f4⟩⟩
theorem UF.lt (f : UF g h n p q b w) : g < w.heap.size := by
  have h1 := f.1.1
  rcases Nat.lt_or_ge g w.heap.size with k | k
  · exact k
  · simp [World.cell?, Array.getElem?_eq_none k] at h1
end
end
section
open Go.RowKit Go.ChangeShapes Go.WideShapes Go.Deep
theorem laidT : laidOutB Tryd.prog = true := by kernel_rfl
theorem five {α : Type} {cs : Array α} (h : cs.size = 5) : ∃ c0 c1 c2 c3 c4, cs = #[c0, c1, c2, c3, c4] := by
  obtain ⟨l⟩ := cs
  match l, h with
  | [c0, c1, c2, c3, c4], _ => exact ⟨c0, c1, c2, c3, c4, rfl⟩
end
section
open Go.RowKit Go.ChangeShapes Go.WideShapes Go.Deep
def rqV (m t : ByteArray) (n : Int) (a : Option Addr) (cap : Nat) (L : List F) (b : ByteArray) : Value := .agg #[.string m, .string t, .int .i64 n, .slice a L.length cap, .string b]
def rsV (n s : Int) (r : ByteArray) (a : Option Addr) (cap : Nat) (L : List F) (b : ByteArray) : Value := .agg #[.int .i64 n, .int .i64 s, .string r, .slice a L.length cap, .string b]
end
section
open Go.RowKit
theorem keepF_is {a : Option Addr} {cap : Nat} {L : List F} {q : Bool} {w : World} (hl : Box (L.length ≤ maxLen)) (hF : Box (Fs w a L)) (h : Box (keepF L = q)) :
    Calls Tryd.prog 8 #[.slice a L.length cap] w fun e w' => e = .returned (.bool q) ∧ w = w' :=
  (keepFields_any a cap L w hl.out hF).mono fun e w' ⟨h1, h2⟩ => ⟨by rw [h1, h.out], h2⟩
/-- what a keep function answers -/
def KeepPost (P : Prop) (e : Ending) : Prop := ∃ q : Bool, e = .returned (.bool q) ∧ (q = true → P)
def okRq (m t : ByteArray) (L : List F) (b : ByteArray) : Prop := m.size ≤ 100 ∧ t.size ≤ 2100 ∧ keepF L = true ∧ b.size ≤ 2000
def okRs (r : ByteArray) (L : List F) (b : ByteArray) : Prop := r.size ≤ 2100 ∧ keepF L = true ∧ b.size ≤ 2000
theorem kReq_any (m t : ByteArray) (n : Int) (a : Option Addr) (cap : Nat) (L : List F) (b : ByteArray) (w : World) (hm : m.size ≤ maxLen) (ht : t.size ≤ maxLen) (hb : b.size ≤ maxLen) (hl : Box (L.length ≤ maxLen)) (hF : Box (Fs w a L)) :
    Calls Tryd.prog 4 #[rqV m t n a cap L b] w fun e w' => KeepPost (okRq m t L b) e ∧ Below w.heap.size w w' := by
  unfold rqV maxLen at *
  have F1 := box (hF.out.below (below_new w (.cells #[.string m, .string t, .int .i64 n, .slice a L.length cap, .string b] 24)))
  by_cases h1 : m.size ≤ 100
  · have i1 : (m.size : Int) ≤ 100 := by omega
    by_cases h2 : t.size ≤ 2100
    · have i2 : (t.size : Int) ≤ 2100 := by omega
      rcases hk : keepF L with _ | _
      · have HK := box hk
        clear hk
        go_enter Tryd.func4, Tryd.ntmps4
        go_wp2_with fail
        refine (keepF_is hl F1 HK).mono ?_; rintro e w1 ⟨rfl, rfl⟩
        go_wp2
        go_ret
        exact ⟨⟨_, rfl, fun h => by cases h⟩, below_new _ _⟩
      · have HK := box hk
        clear hk
        by_cases h3 : b.size ≤ 2000
        · have i3 : (b.size : Int) ≤ 2000 := by omega
          go_enter Tryd.func4, Tryd.ntmps4
          go_wp2_with fail
          refine (keepF_is hl F1 HK).mono ?_; rintro e w1 ⟨rfl, rfl⟩
          go_wp2
          go_ret
          exact ⟨⟨_, rfl, fun _ => ⟨h1, h2, HK.out, h3⟩⟩, below_new _ _⟩
        · have i3 : ¬ (b.size : Int) ≤ 2000 := by omega
          go_enter Tryd.func4, Tryd.ntmps4
          go_wp2_with fail
          refine (keepF_is hl F1 HK).mono ?_; rintro e w1 ⟨rfl, rfl⟩
          go_wp2
          go_ret
          refine ⟨⟨_, rfl, fun h => ?_⟩, below_new _ _⟩
          exact absurd (of_decide_eq_true h) (by omega)
    · have i2 : ¬ (t.size : Int) ≤ 2100 := by omega
      go_enter Tryd.func4, Tryd.ntmps4
      go_wp2
      go_ret
      exact ⟨⟨_, rfl, fun h => by first | cases h | exact absurd (of_decide_eq_true h) (by omega)⟩, below_new _ _⟩
  · have i1 : ¬ (m.size : Int) ≤ 100 := by omega
    go_enter Tryd.func4, Tryd.ntmps4
    go_wp2
    go_ret
    exact ⟨⟨_, rfl, fun h => by first | cases h | exact absurd (of_decide_eq_true h) (by omega)⟩, below_new _ _⟩
theorem kRes_any (n s : Int) (r : ByteArray) (a : Option Addr) (cap : Nat) (L : List F) (b : ByteArray) (w : World) (hr : r.size ≤ maxLen) (hb : b.size ≤ maxLen) (hl : Box (L.length ≤ maxLen)) (hF : Box (Fs w a L)) :
    Calls Tryd.prog 5 #[rsV n s r a cap L b] w fun e w' => KeepPost (okRs r L b) e ∧ Below w.heap.size w w' := by
  unfold rsV maxLen at *
  have F1 := box (hF.out.below (below_new w (.cells #[.int .i64 n, .int .i64 s, .string r, .slice a L.length cap, .string b] 26)))
  by_cases h1 : r.size ≤ 2100
  · have i1 : (r.size : Int) ≤ 2100 := by omega
    rcases hk : keepF L with _ | _
    · have HK := box hk
      clear hk
      go_enter Tryd.func5, Tryd.ntmps5
      go_wp2_with fail
      refine (keepF_is hl F1 HK).mono ?_; rintro e w1 ⟨rfl, rfl⟩
      go_wp2
      go_ret
      exact ⟨⟨_, rfl, fun h => by cases h⟩, below_new _ _⟩
    · have HK := box hk
      clear hk
      by_cases h3 : b.size ≤ 2000
      · have i3 : (b.size : Int) ≤ 2000 := by omega
        go_enter Tryd.func5, Tryd.ntmps5
        go_wp2_with fail
        refine (keepF_is hl F1 HK).mono ?_; rintro e w1 ⟨rfl, rfl⟩
        go_wp2
        go_ret
        exact ⟨⟨_, rfl, fun _ => ⟨h1, HK.out, h3⟩⟩, below_new _ _⟩
      · have i3 : ¬ (b.size : Int) ≤ 2000 := by omega
        go_enter Tryd.func5, Tryd.ntmps5
        go_wp2_with fail
        refine (keepF_is hl F1 HK).mono ?_; rintro e w1 ⟨rfl, rfl⟩
        go_wp2
        go_ret
        refine ⟨⟨_, rfl, fun h => ?_⟩, below_new _ _⟩
        exact absurd (of_decide_eq_true h) (by omega)
  · have i1 : ¬ (r.size : Int) ≤ 2100 := by omega
    go_enter Tryd.func5, Tryd.ntmps5
    go_wp2
    go_ret
    exact ⟨⟨_, rfl, fun h => by first | cases h | exact absurd (of_decide_eq_true h) (by omega)⟩, below_new _ _⟩
end
section
theorem allB_mem19 {n : ByteArray} {L : List F} {k : Nat} (hv : ∀ x ∈ getL n L, x.size ≤ k) : ∀ x ∈ allB n L, x.size ≤ k := fun x hx => by
  unfold allB at hx
  obtain ⟨m, hm, rfl⟩ := List.mem_map.1 hx
  obtain ⟨y, hy, hle⟩ := all_mem hm
  have := hv y hy
  rw [bs_size]; omega
end
section
open Go.RowKit
def SrcS (w : World) (u : Value) (M : List ByteArray) : Prop := (u = .slice none 0 0 ∧ M = []) ∨ ∃ p c, u = .slice (some p) M.length c ∧ Ss w (some p) M
theorem SrcS.below {w w' : World} {u : Value} {M : List ByteArray} (h : SrcS w u M) (hb : Below w.heap.size w w') : SrcS w' u M := by
  rcases h with h | ⟨p, c, e, h⟩
  · exact .inl h
  · exact .inr ⟨p, c, e, h.below hb⟩
section
variable {ops : Array Oper} {rest : List Oper} {o : Oper} {a : Act} {K : Act → World → Prop} {Q : Exit → Act → World → Prop} {E : Prop}
end
end
end Go.Proofs.YtiogngfemelifaaDoor.Asc
