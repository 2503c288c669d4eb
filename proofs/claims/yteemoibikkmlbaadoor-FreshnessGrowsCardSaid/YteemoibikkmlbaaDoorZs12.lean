/- Merged texts: LisLaws LstOpen FrsLaws DatLaid. -/
import Derived.Test.YteemoibikkmlbaaDoorZs03
import Derived.Test.YteemoibikkmlbaaDoorZs04
import Derived.Test.YteemoibikkmlbaaDoorZs05
import Derived.Test.YteemoibikkmlbaaDoorZs06
import Derived.Test.YteemoibikkmlbaaDoorZs07
import Derived.Test.YteemoibikkmlbaaDoorZs10
import Derived.Test.YteemoibikkmlbaaDoorZs11
import Derived.BigQuiet
import Derived.Carry
import Derived.Deep.QuietTactic
import Derived.Deep.RegionHeld3
import Derived.Deep.SlicePairs
import Derived.LaidMore
import Derived.Laws.Externs
import Derived.Laws.IdiomCopy
import Derived.Lib.AppendStr
import Derived.Lib.Builder
import Derived.Lib.LaidTab
import Derived.Lib.MakeNoZero
import Derived.Lib.UnsafeStr
import Derived.ProofKit
set_option linter.unusedVariables false
set_option linter.unusedSimpArgs false
set_option maxRecDepth 100000
namespace Go.Proofs.YteemoibikkmlbaaDoor.Asc
section
open Go.RowKit
theorem keep_get {L : List F} (h : keepF L = true) (nm : ByteArray) : ∀ x ∈ getL nm L, x.size ≤ 65000 := by
  intro x hx
  obtain ⟨_, h2⟩ := keep_parts h
  unfold getL at hx
  obtain ⟨p, hp, rfl⟩ := List.mem_map.mp hx
  obtain ⟨i, hi, e⟩ := List.getElem_of_mem (List.mem_filter.mp hp).1
  rw [← e]; have := (h2 i hi).2; omega
theorem keep_sm7 {L : List F} (h : keepF L = true) : Sm L := by
  obtain ⟨h1, h2⟩ := keep_parts h
  exact ⟨by omega, fun i hi => by have := h2 i hi; omega⟩
end
section
open Go.RowKit Go.ChangeShapes Go.WideShapes Go.Deep
def strOf : Value → ByteArray
  | .string s => s
  | _ => ByteArray.empty
theorem laid : laidOutB Tryd.prog = true := by kernel_rfl
theorem open_fields {H : Type} {enc : TypeId × Value → H} {W : World} {base : Nat} {sp : Nat → Bool} {held : Bool} {r : Reach} {b0 : Nat} {v : Value} {d : DataW H} {p : List MemPlace}
    (hval : Value.okWide Tryd.prog W r b0 22 v) (h : DataW.Trod enc Tryd.prog W base sp held 22 v d p) :
    ∃ (a : Option Addr) (cap : Nat) (L : List F), v = .slice a L.length cap ∧ L.length ≤ maxLen ∧ Fs W a L ∧ L.length ≤ cap := by
  obtain ⟨a0, len, cap, rfl⟩ := okWide_slice Tryd.underlying22 hval
  obtain ⟨fuel, hf⟩ := h
  rcases open_slice_pairs Tryd.underlying22 Tryd.underlying36 (by kernel_rfl) rfl rfl (by kernel_rfl) (by kernel_rfl) hf with ⟨hcs, hx⟩ | ⟨a, len', cap', m, n, V0, V1, D0, D1, P0, P1, hcs, _, hl, hm, hmm, hx, hi⟩
  · simp [Value.cells] at hcs
    obtain ⟨rfl, rfl, rfl⟩ := hcs
    exact ⟨none, 0, [], rfl, Nat.zero_le _, fun i hi => absurd hi (by simp), Nat.le_refl _⟩
  · simp [Value.cells] at hcs
    obtain ⟨rfl, rfl, rfl⟩ := hcs
    have hlm : len ≤ m := by rw [hmm]; split <;> omega
    refine ⟨some a, cap, (List.range len).map fun i => (strOf (V0 i), strOf (V1 i)), by simp, by simp; omega, fun i hi2 => ?_, by simp; omega⟩
    have hil : i < len := by simpa using hi2
    obtain ⟨g, off, spot⟩ := a
    obtain ⟨z0, _, _, _⟩ := hi 0 (by omega)
    have hspot : spot = none := by simpa [Addr.add] using World.cell?_spot z0
    subst hspot
    obtain ⟨k0, k1, t0, t1⟩ := hi i (by omega)
    obtain ⟨s0, e0, _, _⟩ := DataW.trod_string Tryd.underlying9 t0
    obtain ⟨s1, e1, _, _⟩ := DataW.trod_string Tryd.underlying9 t1
    rw [add_plain] at k0 k1
    simp at e0 e1
    refine ⟨g, off, rfl, ?_, ?_⟩
    · rw [k0, e0]; simp [strOf, e0]
    · rw [← Nat.add_assoc] at k1
      rw [k1, e1]; simp [strOf, e1]
end
section
open Go.RowKit
def mx23 : ByteArray := ⟨#[109, 97, 120, 45, 97, 103, 101, 61, 54, 48]⟩
def te23 : ByteArray := ⟨#[49, 48]⟩
def aw23L : List F := [(ccN, mx23), (agN, te23)]
def aw23C : CT := ⟨false, false, false, false, false, false, false, 60, -1, -1, -1⟩
def noC : CT := ⟨false, false, false, false, false, false, false, -1, -1, -1, -1⟩
theorem fs_two23 (a b c d : ByteArray) (w : World) (t : TypeId) : Fs (w.alloc (.cells #[.string a, .string b, .string c, .string d] t)) (some ⟨w.heap.size, 0, none⟩) [(a, b), (c, d)] := by
  intro i hi
  match i, hi with
  | 0, _ => exact ⟨_, _, rfl, by rw [World.cell?_alloc_mark]; rfl, by rw [World.cell?_alloc_mark]; rfl⟩
  | 1, _ => exact ⟨_, _, rfl, by rw [World.cell?_alloc_mark]; rfl, by rw [World.cell?_alloc_mark]; rfl⟩
theorem aw_sm23 : Sm aw23L := ⟨by decide, fun i hi => by
  match i, hi with
  | 0, _ => exact (show ccN.size ≤ 65536 ∧ mx23.size ≤ 65536 by decide)
  | 1, _ => exact (show agN.size ≤ 65536 ∧ te23.size ≤ 65536 by decide)⟩
theorem aw_get23 (nm : ByteArray) : ∀ x ∈ getL nm aw23L, x.size ≤ 65000 := by
  intro x hx
  unfold getL at hx
  obtain ⟨p, hp, rfl⟩ := List.mem_map.1 hx
  have h2 := (List.mem_filter.1 hp).1
  unfold aw23L at h2
  simp only [List.mem_cons, List.not_mem_nil, or_false] at h2
  rcases h2 with rfl | rfl <;> decide
theorem aw_resp23 : respC (allL ccN aw23L) = aw23C := by
  have h : allL ccN aw23L = [[109, 97, 120, 45, 97, 103, 101, 61, 54, 48]] := by decide +kernel
  rw [h]
  decide +kernel
theorem aw_life23 : lifeV (respC (allL ccN aw23L)) (fdtD exN aw23L) (fdtD daN aw23L) = 60 := by
  rw [aw_resp23]
  unfold lifeV
  rw [if_neg (by decide), if_pos (by decide)]
  rfl
theorem aw_age23 : ageV (fdtD daN aw23L) (statD aw23L) 5 7 10 = 15 := by
  rw [fdt_none (by decide +kernel), show statD aw23L = 10 from by decide +kernel]
  decide
theorem none23_any (w : World) : Calls Tryd.prog 24 #[] w fun e w' => e = .returned (.agg #[.bool false, .bool false, .bool false, .bool false, .bool false, .bool false, .bool false, .int .i64 (-1), .int .i64 (-1), .int .i64 (-1), .int .i64 (-1)]) ∧ Below w.heap.size w w' := by
  go_enter Tryd.func24, Tryd.ntmps24
  go_wp2
  (try simp only [Exit.inBlock, Exit.then])
  refine bodyPost_ret (v := ctV noC) (by rw [results_cell22 rfl]; go_simp; rfl) rfl ?_
  exact ⟨rfl, below_new w _⟩
theorem mFresh_is {f a : Int} {q r : CT} {v : Bool} {w : World} (h : Box (freshV f a q r = v)) :
    Calls Tryd.prog 17 #[.int .i64 f, .int .i64 a, .agg #[.bool q.ns, .bool q.nc, .bool q.mr, .bool q.pr, .bool q.pv, .bool q.pb, .bool q.oc, .int .i64 q.ma, .int .i64 q.sm, .int .i64 q.mf, .int .i64 q.ms], .agg #[.bool r.ns, .bool r.nc, .bool r.mr, .bool r.pr, .bool r.pv, .bool r.pb, .bool r.oc, .int .i64 r.ma, .int .i64 r.sm, .int .i64 r.mf, .int .i64 r.ms]] w fun e w' => e = .returned (.bool v) ∧ Below w.heap.size w w' :=
  (mFresh_any f a q r w).mono fun e w' ⟨h1, h2⟩ => ⟨by rw [h1, h.out], h2⟩
theorem fresh_no23 {f a : Int} {v : Bool} {w : World} (h : Box (freshV f a noC noC = v)) :
    Calls Tryd.prog 17 #[.int .i64 f, .int .i64 a, .agg #[.bool false, .bool false, .bool false, .bool false, .bool false, .bool false, .bool false, .int .i64 (-1), .int .i64 (-1), .int .i64 (-1), .int .i64 (-1)], .agg #[.bool false, .bool false, .bool false, .bool false, .bool false, .bool false, .bool false, .int .i64 (-1), .int .i64 (-1), .int .i64 (-1), .int .i64 (-1)]] w fun e w' => e = .returned (.bool v) ∧ Below w.heap.size w w' :=
  mFresh_is (q := noC) (r := noC) h
theorem awake23_any (w : World) (hW : Tabs w) : Calls Tryd.prog 14 #[] w fun e w' => e = .returned (.bool true) ∧ Below w.heap.size w w' := by
  have S : Box (Sm aw23L) := box aw_sm23
  have hv : Box (∀ nm, ∀ x ∈ getL nm aw23L, x.size ≤ 65000) := box aw_get23
  have F0 : Box (Fs (w.alloc (.cells #[.string ccN, .string mx23, .string agN, .string te23] 36)) (some ⟨w.heap.size, 0, none⟩) aw23L) := box (fs_two23 ccN mx23 agN te23 w 36)
  have B0 := box (below_new w (.cells #[.string ccN, .string mx23, .string agN, .string te23] 36))
  have W0 := box (hW.below B0.out)
  have H1 : Box (freshV 60 59 noC noC = true) := box (by decide)
  have H2 : Box (freshV 60 60 noC noC = false) := box (by decide)
  have HL := box aw_life23
  have HA := box aw_age23
  clear hW
  go_enter Tryd.func14, Tryd.ntmps14
  go_wp2_with fail
  refine (mLife_any _ _ aw23L 60 _ S hv F0 W0 HL).mono ?_; rintro e w1 ⟨rfl, hb1⟩
  have B1 := box (B0.out.trans (hb1.mono B0.out.size))
  have F1 := box (F0.out.below hb1)
  have W1 := box (W0.out.below hb1)
  clear hb1
  go_wp2_with fail
  refine (mAge_any _ _ aw23L 5 7 10 15 _ S hv F1 W1 HA).mono ?_; rintro e w2 ⟨rfl, hb2⟩
  have B2 := box (B1.out.trans (hb2.mono B1.out.size))
  clear hb2
  go_wp2_with fail
  refine (none23_any _).mono ?_; rintro e w3 ⟨rfl, hb3⟩
  have B3 := box (B2.out.trans (hb3.mono B2.out.size))
  clear hb3
  go_wp2_with fail
  refine (none23_any _).mono ?_; rintro e w4 ⟨rfl, hb4⟩
  have B4 := box (B3.out.trans (hb4.mono B3.out.size))
  clear hb4
  go_wp2_with fail
  refine (fresh_no23 H1).mono ?_; rintro e w5 ⟨rfl, hb5⟩
  have B5 := box (B4.out.trans (hb5.mono B4.out.size))
  clear hb5
  go_wp2_with fail
  refine (none23_any _).mono ?_; rintro e w6 ⟨rfl, hb6⟩
  have B6 := box (B5.out.trans (hb6.mono B5.out.size))
  clear hb6
  go_wp2_with fail
  refine (none23_any _).mono ?_; rintro e w7 ⟨rfl, hb7⟩
  have B7 := box (B6.out.trans (hb7.mono B6.out.size))
  clear hb7
  go_wp2_with fail
  refine (fresh_no23 H2).mono ?_; rintro e w8 ⟨rfl, hb8⟩
  have B8 := box (B7.out.trans (hb8.mono B7.out.size))
  clear hb8
  go_wp2
  go_ret
  exact ⟨rfl, B8.out⟩
theorem lifetimes23_walk (a : Option Addr) (cap : Nat) (L : List F) (r : Int) (w : World) (hl : L.length ≤ maxLen) (hF : Fs w a L) (hc : L.length ≤ cap) (hr : (Lit.int .i64 r).wf = true) (hW : Tabs w) :
    Calls Tryd.prog 3 #[.slice a L.length cap, .int .i64 r] w fun e w' => e = .returned (.bool true) ∧ Below w.heap.size w w' := by
  have F0 := box hF
  have W0 := box hW
  have HL := hl
  clear hF hl hr hW
  rcases hk : keepF L with _ | _
  · have HK := box hk
    clear hk
    go_enter Tryd.func3, Tryd.ntmps3
    go_wp2_with fail
    refine (keepFields_any a cap L _ HL F0).mono ?_; rintro e w1 ⟨rfl, rfl⟩; rw [HK.out]
    go_wp2
    go_ret
    exact ⟨rfl, Below.refl _ _⟩
  · have HK := box hk
    have SM := box (keep_sm7 hk)
    have HV := box (keep_get hk)
    obtain ⟨x, hx⟩ : ∃ x, lifeV (respC (allL ccN L)) (fdtD exN L) (fdtD daN L) = x := ⟨_, rfl⟩
    obtain ⟨y, hy⟩ : ∃ y, dateV (fdtD daN L) r = y := ⟨_, rfl⟩
    have HX := box hx
    have HY := box hy
    clear hk hx hy
    go_enter Tryd.func3, Tryd.ntmps3
    go_wp2_with fail
    refine (keepFields_any a cap L _ HL F0).mono ?_; rintro e w1 ⟨rfl, rfl⟩; rw [HK.out]
    go_wp2_with fail
    refine (mLife_any a cap L x _ SM HV F0 W0 HX).mono ?_; rintro e w2 ⟨rfl, hb2⟩
    have B2 := box hb2
    have F2 := box (F0.out.below hb2)
    have W2 := box (W0.out.below hb2)
    clear hb2
    go_wp2_with fail
    refine (rLife_any a cap L x _ SM HV F2 HX).mono ?_; rintro e w3 ⟨rfl, hb3⟩
    have B3 := box (B2.out.trans (hb3.mono B2.out.size))
    have F3 := box (F2.out.below hb3)
    have W3 := box (W2.out.below hb3)
    clear hb3
    go_wp2_with fail
    refine (mDate_any a cap L r y _ SM HV F3 W3 HY).mono ?_; rintro e w4 ⟨rfl, hb4⟩
    have B4 := box (B3.out.trans (hb4.mono B3.out.size))
    have F4 := box (F3.out.below hb4)
    have W4 := box (W3.out.below hb4)
    clear hb4
    go_wp2_with fail
    refine (rDate_any a cap L r y _ SM HV F4 HY).mono ?_; rintro e w5 ⟨rfl, hb5⟩
    have B5 := box (B4.out.trans (hb5.mono B4.out.size))
    have W5 := box (W4.out.below hb5)
    clear hb5
    go_wp2_with fail
    refine (awake23_any _ W5.out).mono ?_; rintro e w6 ⟨rfl, hb6⟩
    have B6 := box (B5.out.trans (hb6.mono B5.out.size))
    clear hb6
    go_wp2
    go_ret
    exact ⟨rfl, B6.out⟩
theorem ages23_walk (a : Option Addr) (cap : Nat) (L : List F) (q r t : Int) (w : World) (hl : L.length ≤ maxLen) (hF : Fs w a L) (hc : L.length ≤ cap) (hq : (Lit.int .i64 q).wf = true) (hr : (Lit.int .i64 r).wf = true) (ht : (Lit.int .i64 t).wf = true) (hW : Tabs w) :
    Calls Tryd.prog 4 #[.slice a L.length cap, .int .i64 q, .int .i64 r, .int .i64 t] w fun e w' => e = .returned (.bool true) ∧ Below w.heap.size w w' := by
  have F0 := box hF
  have W0 := box hW
  have HL := hl
  clear hF hl hq hr ht hW
  rcases hk : keepF L with _ | _
  · have HK := box hk
    clear hk
    go_enter Tryd.func4, Tryd.ntmps4
    go_wp2_with fail
    refine (keepFields_any a cap L _ HL F0).mono ?_; rintro e w1 ⟨rfl, rfl⟩; rw [HK.out]
    go_wp2
    go_ret
    exact ⟨rfl, Below.refl _ _⟩
  · have HK := box hk
    have SM := box (keep_sm7 hk)
    have HV := box (keep_get hk)
    obtain ⟨x, hx⟩ : ∃ x, ageV (fdtD daN L) (statD L) q r t = x := ⟨_, rfl⟩
    have HX := box hx
    clear hk hx
    go_enter Tryd.func4, Tryd.ntmps4
    go_wp2_with fail
    refine (keepFields_any a cap L _ HL F0).mono ?_; rintro e w1 ⟨rfl, rfl⟩; rw [HK.out]
    go_wp2_with fail
    refine (mAge_any a cap L q r t x _ SM HV F0 W0 HX).mono ?_; rintro e w2 ⟨rfl, hb2⟩
    have B2 := box hb2
    have F2 := box (F0.out.below hb2)
    have W2 := box (W0.out.below hb2)
    clear hb2
    go_wp2_with fail
    refine (rAge_any a cap L q r t x _ SM HV F2 HX).mono ?_; rintro e w3 ⟨rfl, hb3⟩
    have B3 := box (B2.out.trans (hb3.mono B2.out.size))
    have W3 := box (W2.out.below hb3)
    clear hb3
    go_wp2_with fail
    refine (awake23_any _ W3.out).mono ?_; rintro e w6 ⟨rfl, hb6⟩
    have B6 := box (B3.out.trans (hb6.mono B3.out.size))
    clear hb6
    go_wp2
    go_ret
    exact ⟨rfl, B6.out⟩
end
section
open Go.RowKit
theorem cell_size20 {w : World} {a : Addr} {v : Value} (h : w.cell? a = some v) : a.block < w.heap.size := by
  refine Nat.lt_of_not_le fun hle => ?_
  unfold World.cell? at h
  rw [Array.getElem?_eq_none hle] at h
  cases h
/-- an array of strings that reads as the table holds these strings, cell for cell -/
theorem cells_of_strs {H : Type} {enc : TypeId × Value → H} {w : World} {base : Nat} {sp : Nat → Bool} {held : Bool} {fuel : Nat} {t e : TypeId} {n : Nat} {cs : List Value} {zs : List (List UInt8)} {p : List MemPlace}
    (ht : Tryd.prog.underlying t = some (.array n e)) (he : Tryd.prog.underlying e = some .string) (hce : Tryd.prog.cellsOf e = 1) (hct : Tryd.prog.cellsOf t = n)
    (h : DataW.trod enc Tryd.prog w base sp held fuel t cs = some (.agg (zs.map fun z => .lit (.string z)), p)) : cs = zs.map fun z => Value.string (bs z) := by
  cases fuel with
  | zero => simp [DataW.trod] at h
  | succ fuel =>
    simp only [DataW.trod, ht, hce, hct, Nat.mul_one] at h
    split at h
    · rename_i hl
      obtain ⟨xs, hm, hx⟩ := Option.map_eq_some_iff.1 h
      have hxs : xs.map (·.1) = zs.map fun z => (DataW.lit (.string z) : DataW H) := by
        have := congrArg Prod.fst hx
        simpa using this
      have hxl : xs.length = n := by simpa using Lib.mapM_length hm
      have hzl : zs.length = n := by
        have := congrArg List.length hxs
        simp at this
        omega
      apply List.ext_getElem?
      intro i
      by_cases hi : i < n
      · obtain ⟨b, hb, hf⟩ := Lib.mapM_at hm i i (by simp [hi])
        obtain ⟨z, hc, rfl, _⟩ := DataW.trod_string he hf
        have h1 : cs[i]? = some (.string z) := by
          have := congrArg (·[0]?) hc
          simpa [List.getElem?_take, List.getElem?_drop] using this
        have h2 : (xs.map (·.1))[i]? = some (DataW.lit (.string z.data.toList) : DataW H) := by simp [hb]
        rw [hxs] at h2
        simp only [List.getElem?_map, Option.map_eq_some_iff, DataW.lit.injEq, Lit.string.injEq] at h2
        obtain ⟨z', hz', hzz⟩ := h2
        rw [h1, List.getElem?_map, hz', Option.map_some, hzz]; rfl
      · rw [List.getElem?_eq_none (by omega), List.getElem?_eq_none (by simp; omega)]
    · cases h
theorem gWk : Tryd.prog.globalNamed "variantproxy/date.weekdays" = some 1 := by kernel_rfl
theorem gMo : Tryd.prog.globalNamed "variantproxy/date.months" = some 0 := by kernel_rfl
theorem gLn : Tryd.prog.globalNamed "variantproxy/date.monthLengths" = some 2 := by kernel_rfl
theorem tWk : (Tryd.prog.globals[1]?).map (·.type) = some 84 := by kernel_rfl
theorem tMo : (Tryd.prog.globals[0]?).map (·.type) = some 81 := by kernel_rfl
theorem tLn : (Tryd.prog.globals[2]?).map (·.type) = some 92 := by kernel_rfl
def wkT : List (List UInt8) := [[84, 104, 117], [70, 114, 105], [83, 97, 116], [83, 117, 110], [77, 111, 110], [84, 117, 101], [87, 101, 100]]
def moT : List (List UInt8) := [[74, 97, 110], [70, 101, 98], [77, 97, 114], [65, 112, 114], [77, 97, 121], [74, 117, 110], [74, 117, 108], [65, 117, 103], [83, 101, 112], [79, 99, 116], [78, 111, 118], [68, 101, 99]]
def lnT : List Int := [31, 28, 31, 30, 31, 30, 31, 31, 30, 31, 30, 31]
theorem tabs_of_laid {W : World} (h : laidMet Tryd.prog [("variantproxy/date.weekdays", .agg (wkT.map fun z => .lit (.string z))), ("variantproxy/date.months", .agg (moT.map fun z => .lit (.string z))), ("variantproxy/date.monthLengths", Lib.tabData .i64 lnT)] W) : Tabs W := by
  obtain ⟨ps, ⟨g1, t1, c1, f1, p1, q1, hg1, ht1, hv1, hd1, ⟨g2, t2, c2, f2, p2, q2, hg2, ht2, hv2, hd2, ⟨g3, t3, c3, f3, p3, q3, hg3, ht3, hv3, hd3, _, _⟩, _⟩, _⟩, _⟩ := h
  obtain rfl := Option.some.inj (gWk.symm.trans hg1)
  obtain rfl := Option.some.inj (tWk.symm.trans ht1)
  obtain rfl := Option.some.inj (gMo.symm.trans hg2)
  obtain rfl := Option.some.inj (tMo.symm.trans ht2)
  obtain rfl := Option.some.inj (gLn.symm.trans hg3)
  obtain rfl := Option.some.inj (tLn.symm.trans ht3)
  have e1 := cells_of_strs Tryd.underlying84 Tryd.underlying9 (by kernel_rfl) (by kernel_rfl) hd1
  have e2 := cells_of_strs Tryd.underlying81 Tryd.underlying9 (by kernel_rfl) (by kernel_rfl) hd2
  have e3 := Lib.cells_of_tab Tryd.underlying92 Tryd.underlying3 (by kernel_rfl) (by kernel_rfl) hd3
  have a1 : ∀ k, k < 7 → W.cell? ⟨1, k, none⟩ = some (.string (bs (wkL k))) := fun k hk => by
    have h1 := World.var?_cell gWk hv1 k
    have h2 : c1[k]? = some (.string (bs (wkL k))) := by
      rw [← Array.getElem?_toList, e1]
      have key : ∀ k : Fin 7, wkT[k.1]? = some (wkL k.1) := by decide
      rw [List.getElem?_map, key ⟨k, hk⟩]; rfl
    rw [h1, h2]
  have a2 : ∀ k, k < 12 → W.cell? ⟨0, k, none⟩ = some (.string (bs (monL (k + 1)))) := fun k hk => by
    have h1 := World.var?_cell gMo hv2 k
    have h2 : c2[k]? = some (.string (bs (monL (k + 1)))) := by
      rw [← Array.getElem?_toList, e2]
      have key : ∀ k : Fin 12, moT[k.1]? = some (monL (k.1 + 1)) := by decide
      rw [List.getElem?_map, key ⟨k, hk⟩]; rfl
    rw [h1, h2]
  have a3 : ∀ k, k < 12 → W.cell? ⟨2, k, none⟩ = some (.int .i64 (lenM false (k + 1) : Nat)) := fun k hk => by
    have h1 := World.var?_cell gLn hv3 k
    have h2 : c3[k]? = some (.int .i64 (lenM false (k + 1) : Nat)) := by
      rw [← Array.getElem?_toList, e3]
      have key : ∀ k : Fin 12, lnT[k.1]? = some ((lenM false (k.1 + 1) : Nat) : Int) := by decide
      rw [List.getElem?_map, key ⟨k, hk⟩]; rfl
    rw [h1, h2]
  exact ⟨a1, a2, a3, cell_size20 (a1 0 (by omega)), cell_size20 (a2 0 (by omega)), cell_size20 (a3 0 (by omega))⟩
end
end Go.Proofs.YteemoibikkmlbaaDoor.Asc
