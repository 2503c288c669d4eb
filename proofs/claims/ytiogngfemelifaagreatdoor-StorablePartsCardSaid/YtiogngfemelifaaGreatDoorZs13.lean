/- Merged texts: StoRef StoStep TarSpec TarSeg TarUri TarNorm TarRSeg MsgMem. -/
import Derived.Test.YtiogngfemelifaaGreatDoorZs01
import Derived.Test.YtiogngfemelifaaGreatDoorZs02
import Derived.Test.YtiogngfemelifaaGreatDoorZs03
import Derived.Test.YtiogngfemelifaaGreatDoorZs04
import Derived.Test.YtiogngfemelifaaGreatDoorZs05
import Derived.Test.YtiogngfemelifaaGreatDoorZs06
import Derived.Test.YtiogngfemelifaaGreatDoorZs07
import Derived.Test.YtiogngfemelifaaGreatDoorZs08
import Derived.Test.YtiogngfemelifaaGreatDoorZs10
import Derived.Test.YtiogngfemelifaaGreatDoorZs11
import Derived.Test.YtiogngfemelifaaGreatDoorZs12
import Derived.BigQuiet
import Derived.Deep.AppendLies
import Derived.Deep.LoopGhost
import Derived.Deep.QuietTactic
import Derived.Deep.RegionHeld3
import Derived.Deep.WholeRow
import Derived.IntWalk
import Derived.Laws.RangeAny
import Derived.Laws.ResultCell
import Derived.Laws.Runes
import Derived.Laws.Strings3
import Derived.Laws.Tables
import Derived.Lib.AppendStr
import Derived.Lib.AsciiSet
import Derived.Lib.DecodeN
import Derived.Lib.IndexAny
import Derived.Lib.Strings
import Derived.OwnWalk
import Derived.WalkMore
set_option linter.unusedVariables false
set_option linter.unusedSimpArgs false
set_option maxRecDepth 100000
namespace Go.Proofs.YtiogngfemelifaaGreatDoor.Asc
section
open Go.RowKit
theorem rOf24_is {a : Option Addr} {cap : Nat} {L : List F} {b q : Bool} {t : ByteArray} {w : World} (S : Box (Sm L)) (hv : Box (∀ nm, ∀ x ∈ getL nm L, x.size ≤ 65000)) (hF : Box (Fs w a L)) (h : Box (tgV (ofM21 L) = .tuple #[.agg #[.bool b, .string t], .bool q])) :
    Calls Tryz.prog 30 #[.slice a L.length cap] w fun e w' => e = .returned (.tuple #[.agg #[.bool b, .string t], .bool q]) ∧ Below w.heap.size w w' :=
  (rOfE_any a cap L w S (box (hv.out etN)) hF).mono fun e w' ⟨h1, h2⟩ => ⟨by rw [h1, h.out], h2⟩
theorem rVal_any (a : Option Addr) (cap : Nat) (L : List F) (v : Bool) (w : World) (S : Box (Sm L)) (hv : Box (∀ nm, ∀ x ∈ getL nm L, x.size ≤ 65000)) (hF : Box (Fs w a L)) (HV : Box (valT L = v)) :
    Calls Tryz.prog 13 #[.slice a L.length cap] w fun e w' => e = .returned (.bool v) ∧ Below w.heap.size w w' := by
  obtain ⟨b, t, ht⟩ := tg_some (ofM21 L)
  obtain ⟨n, hn⟩ := num_some (fdtD lmN L)
  obtain ⟨o, ho⟩ : ∃ o, (ofM21 L).isSome = o := ⟨_, rfl⟩
  obtain ⟨p, hp⟩ : ∃ p, (fdtD lmN L).isSome = p := ⟨_, rfl⟩
  have hval := HV.out
  unfold valT at hval
  rw [ho] at ht hval
  rw [hp] at hn hval
  have HT := box ht
  have HN := box hn
  have M : Box (lmN.size ≤ 65536) := box (by decide)
  have HL := box (hv.out lmN)
  clear ht hn ho hp
  cases o <;> cases p
  all_goals
    subst hval
    go_enter Tryz.func13, Tryz.ntmps13
    go_wp2_with fail
    refine (rOf24_is S hv hF HT).mono ?_; rintro e w1 ⟨rfl, hb1⟩
    have B1 := box ((hb1).alloc hb1.size (.cells #[.bool b, .string t] 45))
    have F1 := box (hF.out.below B1.out)
    clear hb1
    go_wp2_with fail
    refine (rFdt_is (nm := lmN) S M HL F1 HN).mono ?_; rintro e w2 ⟨rfl, hb2⟩
    have B2 := box (B1.out.trans (hb2.mono B1.out.size))
    clear hb2
    go_wp2
    go_ret
    exact ⟨rfl, B2.out⟩
theorem rUns_any (m : ByteArray) (w : World) :
    Calls Tryz.prog 15 #[.string m] w fun e w' => e = .returned (.bool (unsB m.data.toList)) ∧ w = w' := by
  have HE : Box (unsB m.data.toList = !(m.toList == [71, 69, 84] || m.toList == [72, 69, 65, 68] || m.toList == [79, 80, 84, 73, 79, 78, 83] || m.toList == [84, 82, 65, 67, 69])) := box (by rw [toList_data]; rfl)
  rcases h1 : (m.toList == [71, 69, 84]) with _ | _ <;> rcases h2 : (m.toList == [72, 69, 65, 68]) with _ | _ <;> rcases h3 : (m.toList == [79, 80, 84, 73, 79, 78, 83]) with _ | _ <;> rcases h4 : (m.toList == [84, 82, 65, 67, 69]) with _ | _
  all_goals
    simp only [h1, h2, h3, h4, Bool.or_true, Bool.true_or, Bool.false_or, Bool.or_false, Bool.not_true, Bool.not_false] at HE
    go_enter Tryz.func15, Tryz.ntmps15
    go_wp2
    go_ret
    exact ⟨ret_bool (by rw [HE.out]), rfl⟩
end
section
open Go.RowKit
theorem info_ctl : (Tryz.prog.info? 36).map (fun i => (i.zero, i.size, i.bytes)) = some (some (ctV ct0), 11, 40) := by kernel_rfl
section
variable {ops : Array Oper} {o : Oper} {a : Act} {K : Act → World → Prop} {Q : Exit → Act → World → Prop} {E : Prop}
theorem step_alloc24 (w : World) (hgd : o.guard = none) (ho : o.op = .alloc 36)
    (h : ∀ w', Ct w.heap.size ct0 w' → Below w.heap.size w w' → K (a.put o.dst (.pointer (some ⟨w.heap.size, 0, none⟩))) w') :
    if Region.wanted o (yielded ops a.tmps) = true then Oper.wp Tryz.prog o a w K Q else E := by
  have hw : Region.wanted o (yielded ops a.tmps) = true := by simp [Region.wanted, hgd]
  rw [if_pos hw]
  obtain ⟨i0, hi0, hz0, hz1, hz2⟩ := info_parts info_ctl
  have hrun : (execOp a.eval o).run Tryz.prog w = .ok (.value (.pointer (some ⟨w.heap.size, 0, none⟩))) (w.alloc (.cells (ctA ct0) 36)) := by
    simp only [execOp, ho]
    go_simp
    rfl
  unfold Oper.wp
  rw [hrun, Oper.upon_value]
  exact h _ (Ct.new _ _ _) (below_new _ _)
theorem step_store24 (w : World) (hgd : o.guard = none) (p x : Operand) (ho : o.op = .store 36 p x) (g : Nat) (c0 c : CT) (hp : a.eval p = .pointer (some ⟨g, 0, none⟩)) (hx : a.eval x = ctV c) (hC : Ct g c0 w)
    (h : ∀ v w', Ct g c w' → Only g w w' → K (a.put o.dst v) w') :
    if Region.wanted o (yielded ops a.tmps) = true then Oper.wp Tryz.prog o a w K Q else E := by
  have hw : Region.wanted o (yielded ops a.tmps) = true := by simp [Region.wanted, hgd]
  rw [if_pos hw]
  have hC0 := hC
  obtain ⟨⟨c0, c1, c2, c3, c4, c5, c6, c7, c8, c9, c10⟩, ⟨f0, f1, f2, f3, f4, f5, f6, f7, f8, f9, f10⟩⟩ := hC
  unfold Oper.wp
  simp only [execOp, ho, hp, hx, ctV, ctA]
  go_simp
  exact h undef (ctPut g c w) (hC0.put c) (ct_put_only g c w)
end
end
section
def alnumI (b : Int) : Bool := letterI b || digitI b
def hexI (b : Int) : Int := if digitI b = true then b - 48 else if 97 ≤ b ∧ b ≤ 102 then b - 87 else if 65 ≤ b ∧ b ≤ 70 then b - 55 else -1
def hexB (c : UInt8) : Bool := decide (0 ≤ hexI c.toNat)
def unresI (b : Int) : Bool := alnumI b || b == 45 || b == 46 || b == 95 || b == 126
def okI (b : Int) : Bool := decide (33 ≤ b ∧ b ≤ 126) && !(b == 35)
def okB (c : UInt8) : Bool := okI c.toNat
def hexD : List UInt8 := [48, 49, 50, 51, 52, 53, 54, 55, 56, 57, 65, 66, 67, 68, 69, 70]
/-- the byte of a triplet, and what is written for it -/
def tripN (a b : UInt8) : Nat := (hexI a.toNat * 16 + hexI b.toNat).toNat
def tripL (x : Nat) : List UInt8 := if unresI x = true then [UInt8.ofNat x] else [37, hexD.getD (x / 16) 0, hexD.getD (x % 16) 0]
def normL : List UInt8 → Option (List UInt8)
  | [] => some []
  | c :: r =>
    if okB c = false then none
    else if c ≠ 37 then (normL r).map (c :: ·)
    else match r with
      | a :: b :: r2 => if (hexB a && hexB b) = true then (normL r2).map (tripL (tripN a b) ++ ·) else none
      | _ => none
theorem norm_bad {c : UInt8} {r : List UInt8} (h : okB c = false) : normL (c :: r) = none := by
  unfold normL; rw [if_pos h]
theorem norm_plain {c : UInt8} {r : List UInt8} (h : okB c = true) (h2 : c ≠ 37) : normL (c :: r) = (normL r).map (c :: ·) := by
  conv => lhs; unfold normL
  rw [if_neg (by rw [h]; simp), if_pos h2]
end
section
/-- the pieces between the slashes; what is joined again -/
def piecesL (l : List UInt8) : List (List UInt8) := match l with
  | [] => [[]]
  | c :: r => if c = 47 then [] :: piecesL r else match piecesL r with
    | [] => [[c]]
    | p :: ps => (c :: p) :: ps
def joinL (ps : List (List UInt8)) : List UInt8 := ps.flatMap (47 :: ·)
def dot1 : List UInt8 := [46]
def dot2 : List UInt8 := [46, 46]
/-- the pieces that are left: out are those that have been left so far -/
def dotsL (out : List (List UInt8)) : List (List UInt8) → List (List UInt8)
  | [] => out
  | x :: r =>
    if x = dot2 then (if r = [] then out.dropLast ++ [[]] else dotsL out.dropLast r)
    else if x = dot1 then (if r = [] then out ++ [[]] else dotsL out r)
    else dotsL (out ++ [x]) r
end
section
/-- host, port, path, query, whether there is a query -/
abbrev U := List UInt8 × Int × List UInt8 × List UInt8 × Bool
end
section
open Go.RowKit
/-- acc has been written for the first k bytes -/
def NmAt (l : List UInt8) (k : Nat) (acc : List UInt8) : Prop := acc.length ≤ k ∧ normL l = (normL (l.drop k)).map (acc ++ ·)
theorem NmAt.start (l : List UInt8) : NmAt l 0 [] := ⟨by simp, by simp⟩
theorem NmAt.fin {l : List UInt8} {k : Nat} {acc : List UInt8} (h : NmAt l k acc) (hk : l.length ≤ k) : normL l = some acc := by
  rw [h.2, List.drop_of_length_le hk]; simp [normL]
theorem NmAt.bad {s : ByteArray} {k : Nat} {acc : List UInt8} (h : NmAt s.data.toList k acc) (hk : k < s.size) (hc : okB s[k] = false) : normL s.data.toList = none := by
  rw [h.2, drop_cons s k hk, norm_bad hc]; rfl
theorem NmAt.plain {s : ByteArray} {k : Nat} {acc : List UInt8} (h : NmAt s.data.toList k acc) (hk : k < s.size) (hc : okB s[k] = true) (h37 : s[k] ≠ 37) : NmAt s.data.toList (k + 1) (acc ++ [s[k]]) := by
  refine ⟨by have := h.1; simp; omega, ?_⟩
  rw [h.2, drop_cons s k hk, norm_plain hc h37, Option.map_map]; congr 1; funext x; simp
theorem Own.drewN {w : World} {B n : Nat} {v : Value} {l : List UInt8} (h : Own w B v l) : Own (w.drewN n) B v l := h
theorem size_more (w : World) (o : Obj) : w.heap.size ≤ (w.alloc o).heap.size := ((Below.refl w.heap.size w).alloc (Nat.le_refl _) o).size
end
section
open Go.RowKit
def outL (ob : List ByteArray) : List (List UInt8) := ob.map (·.data.toList)
/-- out has been left of the pieces of r0; rest is to come -/
def SegAt (r0 : List UInt8) (ob : List ByteArray) (rest : List UInt8) : Bool → Prop
  | true => dotsL [] (piecesL r0) = dotsL (outL ob) (piecesL rest) ∧ (joinL (outL ob)).length + rest.length ≤ r0.length
  | false => dotsL [] (piecesL r0) = outL ob ∧ (joinL (outL ob)).length ≤ r0.length + 1
theorem SegAt.start (r0 : List UInt8) : SegAt r0 [] r0 true := ⟨rfl, by simp [outL, joinL]⟩
theorem len_join (a : List (List UInt8)) : a.length ≤ (joinL a).length := by
  induction a with
  | nil => simp [joinL]
  | cons x a ih => simp only [joinL, List.flatMap_cons, List.length_append, List.length_cons] at *; omega
theorem SegAt.len {r0 rest : List UInt8} {ob : List ByteArray} {m : Bool} (h : SegAt r0 ob rest m) : ob.length ≤ r0.length + 1 := by
  have h1 := len_join (outL ob)
  have h2 : (outL ob).length = ob.length := by simp [outL]
  cases m
  · have := h.2; omega
  · have := h.2; omega
end
section
open Go.RowKit
/-- five values lie at the block's start, and may be written -/
def C5 (g : Nat) (c0 c1 c2 c3 c4 : Value) (w : World) : Prop :=
  (w.cell? ⟨g, 0, none⟩ = some c0 ∧ w.cell? ⟨g, 1, none⟩ = some c1 ∧ w.cell? ⟨g, 2, none⟩ = some c2 ∧ w.cell? ⟨g, 3, none⟩ = some c3 ∧ w.cell? ⟨g, 4, none⟩ = some c4) ∧
  (w.frozen? ⟨g, 0, none⟩ = false ∧ w.frozen? ⟨g, 1, none⟩ = false ∧ w.frozen? ⟨g, 2, none⟩ = false ∧ w.frozen? ⟨g, 3, none⟩ = false ∧ w.frozen? ⟨g, 4, none⟩ = false)
section
variable {g B : Nat} {c0 c1 c2 c3 c4 : Value} {w w' : World}
theorem C5.new (c0 c1 c2 c3 c4 : Value) (w : World) (t : TypeId) : C5 w.heap.size c0 c1 c2 c3 c4 (w.alloc (.cells #[c0, c1, c2, c3, c4] t)) := by
  refine ⟨⟨?_, ?_, ?_, ?_, ?_⟩, ⟨?_, ?_, ?_, ?_, ?_⟩⟩
  all_goals first
    | (rw [World.cell?_alloc_mark]; rfl)
    | exact World.frozen?_alloc_at _ _ _ _ rfl
theorem C5.below (f : C5 g c0 c1 c2 c3 c4 w) (hb : Below B w w') (hg : g < B) : C5 g c0 c1 c2 c3 c4 w' := by
  obtain ⟨⟨h0, h1, h2, h3, h4⟩, ⟨f0, f1, f2, f3, f4⟩⟩ := f
  exact ⟨⟨(hb.cell hg).trans h0, (hb.cell hg).trans h1, (hb.cell hg).trans h2, (hb.cell hg).trans h3, (hb.cell hg).trans h4⟩,
    ⟨(hb.frozen hg).trans f0, (hb.frozen hg).trans f1, (hb.frozen hg).trans f2, (hb.frozen hg).trans f3, (hb.frozen hg).trans f4⟩⟩
theorem C5.lt (f : C5 g c0 c1 c2 c3 c4 w) : g < w.heap.size := cell_lt (p := ⟨g, 0, none⟩) f.1.1
theorem C5.next (f : C5 g c0 c1 c2 c3 c4 w) (hb : Below w.heap.size w w') : C5 g c0 c1 c2 c3 c4 w' := f.below hb f.lt
end
end
end Go.Proofs.YtiogngfemelifaaGreatDoor.Asc
