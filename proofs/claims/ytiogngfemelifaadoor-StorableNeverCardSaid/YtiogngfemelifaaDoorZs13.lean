/- Merged texts: VrySpec5 VryRef3 CtlFld VarSpec VarMem VryMine VryLay. -/
import Derived.Test.YtiogngfemelifaaDoorZs01
import Derived.Test.YtiogngfemelifaaDoorZs02
import Derived.Test.YtiogngfemelifaaDoorZs03
import Derived.Test.YtiogngfemelifaaDoorZs04
import Derived.Test.YtiogngfemelifaaDoorZs05
import Derived.Test.YtiogngfemelifaaDoorZs06
import Derived.Test.YtiogngfemelifaaDoorZs07
import Derived.Test.YtiogngfemelifaaDoorZs08
import Derived.Test.YtiogngfemelifaaDoorZs09
import Derived.Test.YtiogngfemelifaaDoorZs12
import Derived.BigQuiet
import Derived.Deep.QuietTactic
import Derived.Deep.RegionHeld3
import Derived.Deep.Slices
import Derived.Laws.Externs
import Derived.Laws.IdiomCopy
import Derived.Lib.AppendStr
import Derived.Lib.Builder
import Derived.Lib.MakeNoZero
import Derived.Lib.UnsafeStr
import Derived.OwnWalk
import Derived.Shelf.Slices.In.CompactS
import Derived.Shelf.Slices.In.SortNone
import Derived.Sort.Walk0
set_option linter.unusedVariables false
set_option linter.unusedSimpArgs false
set_option maxRecDepth 100000
namespace Go.Proofs.YtiogngfemelifaaDoor.Asc
section
def okM (m : BL) : Bool := tokL m && decide (m ≠ [42])
theorem okU_no {ms : List BL} {k : Nat} (h : k < ms.length) (e : okM ms[k] = false) : okU ms = false := by
  unfold okU
  have : (ms.all fun m => tokL m && decide (m ≠ [42])) = false := by
    rw [List.all_eq_false]
    exact ⟨ms[k], List.getElem_mem h, by have e' : (tokL ms[k] && decide (ms[k] ≠ [42])) = false := e; rw [e']; simp⟩
  rw [this, Bool.and_false]
theorem okU_long {ms : List BL} (h : ¬ ms.length < 64) : okU ms = false := by unfold okU; rw [decide_eq_false h, Bool.false_and]
theorem okM_more {ms : List BL} {k : Nat} (h : k < ms.length) (ha : (ms.take k).all okM = true) (e : okM ms[k] = true) : (ms.take (k + 1)).all okM = true := by
  rw [List.take_succ_eq_append_getElem h, List.all_append, ha, List.all_cons, e]; rfl
theorem okU_yes {ms : List BL} {k : Nat} (h : ms.length < 64) (hk : ms.length ≤ k) (ha : (ms.take k).all okM = true) : okU ms = true := by
  rw [List.take_of_length_le hk] at ha
  unfold okU
  rw [decide_eq_true h, Bool.true_and]; exact ha
/-- the names as strings -/
def namB (ms : List BL) : List ByteArray := (namesU ms).map bs
/-- 19.1: what is returned -/
def nmsB (L : List F) : List ByteArray := (namesV L).map bs
theorem nmsB_no {L : List F} (h : okU (allL nmVry L) = false) : nmsB L = [] := by unfold nmsB namesV; rw [h]; rfl
theorem nmsB_yes {L : List F} (h : okU (allL nmVry L) = true) : nmsB L = namB (allL nmVry L) := by unfold nmsB namesV namB; rw [h]; rfl
theorem namB_len (ms : List BL) : (namB ms).length ≤ ms.length := by unfold namB; rw [List.length_map]; exact namesU_len ms
end
section
open Go.RowKit
theorem star19_is (x : ByteArray) (b : Bool) (h : decide (x.data.toList = [42]) = b) : (x.toList == [42]) = b := by
  rw [← h, toList_data, Bool.eq_iff_iff, beq_iff_eq, decide_eq_true_eq]
def NamesY (w : World) (L : List F) (e : Ending) (w' : World) : Prop := ∃ v, e = .returned (.tuple #[v, .bool (namesO L)]) ∧ OwnS w' w.heap.size v (nmsB L) ∧ Below w.heap.size w w'
end
section
open Go.RowKit
theorem run_field_ns (b0 b1 b2 b3 b4 b5 b6 : Bool) (n0 n1 n2 n3 : Int) (w : World) :
    (Instr.field 36 (.agg #[.bool b0, .bool b1, .bool b2, .bool b3, .bool b4, .bool b5, .bool b6, .int .i64 n0, .int .i64 n1, .int .i64 n2, .int .i64 n3]) 0).run Tryd.prog w = .ok (.bool b0) w := by
  simp [Instr.field, Sem.run_bind, run_underlying Tryd.underlying36, asAgg, part, isAgg, run_underlying Tryd.underlying4, Result.andThen]
end
section
abbrev AX := ByteArray × List ByteArray
end
section
open Go.RowKit Go.ChangeShapes Go.WideShapes Go.Deep
/-- a value that is the list of strings V -/
def SsV (w : World) (v : Value) (V : List ByteArray) : Prop := ∃ b c, v = .slice b V.length c ∧ Ss w b V ∧ V.length ≤ c
theorem SsV.below {w w' : World} {v : Value} {V : List ByteArray} (h : SsV w v V) (hb : Below w.heap.size w w') : SsV w' v V := by
  obtain ⟨b, c, e, hs, hc⟩ := h
  exact ⟨b, c, e, hs.below hb, hc⟩
def Axs (w : World) (a : Option Addr) (L : List AX) : Prop :=
  ∀ i (h : i < L.length), ∃ g off v, a = some ⟨g, off, none⟩ ∧ w.cell? ⟨g, off + i * 2, none⟩ = some (.string L[i].1) ∧ w.cell? ⟨g, off + i * 2 + 1, none⟩ = some v ∧ SsV w v L[i].2
theorem Axs.below {w w' : World} {a : Option Addr} {L : List AX} (h : Axs w a L) (hb : Below w.heap.size w w') : Axs w' a L := fun i hi => by
  obtain ⟨g, off, v, e, c0, c1, hs⟩ := h i hi
  exact ⟨g, off, v, e, (hb.cell (cell_lt c0)).trans c0, (hb.cell (cell_lt c1)).trans c1, hs.below hb⟩
end
section
open Go.RowKit
theorem mAll19_is {a : Option Addr} {cap n : Nat} {L : List F} {nm : ByteArray} {w : World} (S : Box (Sm L)) (hv : Box (∀ x ∈ getL nm L, x.size ≤ 65000)) (M : nm.size ≤ 65536) (hF : Fs w a L) (h : Box ((allB nm L).length = n)) :
    Calls Tryd.prog 16 #[.slice a L.length cap, .string nm] w fun e w' => ∃ p c, e = .returned (.slice p n c) ∧ n ≤ c ∧ Ss w' p (allB nm L) ∧ Below w.heap.size w w' :=
  (mAll_any a cap L nm w S hv (box M) (box hF)).mono fun e w' ⟨v, h1, h2, h3⟩ => by
    obtain ⟨p, c, rfl, h4, h5⟩ := h2.ss
    rw [h.out] at h1 h5
    exact ⟨p, c, h1, h5, h4, h3⟩
theorem mLow19_is {s x : ByteArray} {w : World} (hs : s.size ≤ 4260000000) (h : Box (bs (lowL s.data.toList) = x)) :
    Calls Tryd.prog 21 #[.string s] w fun e w' => e = .returned (.string x) ∧ Below w.heap.size w w' :=
  (Lower_any s w (by omega)).mono fun e w' ⟨h1, h2⟩ => ⟨by rw [h1, ← h.out]; rfl, h2⟩
theorem complete_yes {a : Option Addr} {cap n : Nat} {w : World} (h : n < 64) :
    Calls Tryd.prog 19 #[.slice a n cap] w fun e w' => e = .returned (.bool true) ∧ w = w' := by
  have hmi : (n : Int) < 64 := by omega
  go_enter Tryd.func19, Tryd.ntmps19
  go_wp2
  go_ret
  exact ⟨ret_bool (by simp), rfl⟩
theorem complete_no {a : Option Addr} {cap n : Nat} {w : World} (h : ¬ n < 64) :
    Calls Tryd.prog 19 #[.slice a n cap] w fun e w' => e = .returned (.bool false) ∧ w = w' := by
  have hmi : ¬ (n : Int) < 64 := by omega
  go_enter Tryd.func19, Tryd.ntmps19
  go_wp2
  go_ret
  exact ⟨ret_bool (by simp), rfl⟩
end
section
open Go.Shelf
def laysSort_ren19 : Go.Shelf.Ren := ⟨fun | 190 => 22 | 125 => 37 | 258 => 36 | 128 => 61 | 129 => 62 | 302 => 52 | 303 => 53 | 304 => 54 | 305 => 55 | 306 => 56 | 307 => 57 | 308 => 58 | 309 => 59 | 310 => 60 | 333 => 73 | 329 => 74 | 330 => 75 | 334 => 76 | 335 => 77 | 336 => 78 | 344 => 91 | n => n, fun | 31 => 38 | 9 => 9 | 3 => 3 | 46 => 67 | 0 => 0 | 51 => 92 | 53 => 94 | 4 => 4 | 183 => 86 | 182 => 85 | 131 => 82 | 5 => 5 | 218 => 104 | 222 => 59 | 228 => 116 | 229 => 117 | n => n, fun | n => n⟩
theorem laysSort19 : Go.Proofs.Lays.n190 Tryd.prog laysSort_ren19 := {
  mixed := by kernel_rfl
  f125 := Tryd.func37.trans (congrArg some (by kernel_rfl))
  f128 := Tryd.func61.trans (congrArg some (by kernel_rfl))
  f129 := Tryd.func62.trans (congrArg some (by kernel_rfl))
  f190 := Tryd.func22.trans (congrArg some (by kernel_rfl))
  f258 := Tryd.func36.trans (congrArg some (by kernel_rfl))
  f302 := Tryd.func52.trans (congrArg some (by kernel_rfl))
  f303 := Tryd.func53.trans (congrArg some (by kernel_rfl))
  f304 := Tryd.func54.trans (congrArg some (by kernel_rfl))
  f305 := Tryd.func55.trans (congrArg some (by kernel_rfl))
  f306 := Tryd.func56.trans (congrArg some (by kernel_rfl))
  f307 := Tryd.func57.trans (congrArg some (by kernel_rfl))
  f308 := Tryd.func58.trans (congrArg some (by kernel_rfl))
  f309 := Tryd.func59.trans (congrArg some (by kernel_rfl))
  f310 := Tryd.func60.trans (congrArg some (by kernel_rfl))
  f329 := Tryd.func74.trans (congrArg some (by kernel_rfl))
  f330 := Tryd.func75.trans (congrArg some (by kernel_rfl))
  f333 := Tryd.func73.trans (congrArg some (by kernel_rfl))
  f334 := Tryd.func76.trans (congrArg some (by kernel_rfl))
  f335 := Tryd.func77.trans (congrArg some (by kernel_rfl))
  f336 := Tryd.func78.trans (congrArg some (by kernel_rfl))
  f344 := Tryd.func91.trans (congrArg some (by kernel_rfl))
  t0 := Tryd.underlying0
  a0 := Tryd.isAgg0
  z0 := Tryd.sizeOf0
  v0 := Tryd.zeroValue0
  t3 := Tryd.underlying3
  a3 := Tryd.isAgg3
  z3 := Tryd.sizeOf3
  v3 := Tryd.zeroValue3
  t4 := Tryd.underlying4
  a4 := Tryd.isAgg4
  z4 := Tryd.sizeOf4
  v4 := Tryd.zeroValue4
  t5 := Tryd.underlying5
  a5 := Tryd.isAgg5
  z5 := Tryd.sizeOf5
  v5 := Tryd.zeroValue5
  t9 := Tryd.underlying9
  a9 := Tryd.isAgg9
  z9 := Tryd.sizeOf9
  v9 := Tryd.zeroValue9
  t31 := Tryd.underlying38
  a31 := Tryd.isAgg38
  z31 := Tryd.sizeOf38
  v31 := Tryd.zeroValue38
  t46 := Tryd.underlying67
  a46 := Tryd.isAgg67
  z46 := Tryd.sizeOf67
  v46 := Tryd.zeroValue67
  t51 := Tryd.underlying92
  a51 := Tryd.isAgg92
  z51 := Tryd.sizeOf92
  v51 := Tryd.zeroValue92
  t53 := Tryd.underlying94
  a53 := Tryd.isAgg94
  z53 := Tryd.sizeOf94
  v53 := Tryd.zeroValue94
  t131 := Tryd.underlying82
  a131 := Tryd.isAgg82
  z131 := Tryd.sizeOf82
  v131 := Tryd.zeroValue82
  t182 := Tryd.underlying85
  a182 := Tryd.isAgg85
  z182 := Tryd.sizeOf85
  v182 := Tryd.zeroValue85
  t183 := Tryd.underlying86
  a183 := Tryd.isAgg86
  z183 := Tryd.sizeOf86
  v183 := Tryd.zeroValue86
  t218 := Tryd.underlying104
  a218 := Tryd.isAgg104
  z218 := Tryd.sizeOf104
  v218 := Tryd.zeroValue104
  t222 := Tryd.underlying59
  a222 := Tryd.isAgg59
  z222 := Tryd.sizeOf59
  v222 := Tryd.zeroValue59
  t228 := Tryd.underlying116
  a228 := Tryd.isAgg116
  z228 := Tryd.sizeOf116
  v228 := Tryd.zeroValue116
  t229 := Tryd.underlying117
  a229 := Tryd.isAgg117
  z229 := Tryd.sizeOf117
  v229 := Tryd.zeroValue117 }
def laysCompact_ren19 : Go.Shelf.Ren := ⟨fun | 194 => 23 | n => n, fun | 31 => 38 | 9 => 9 | 3 => 3 | 4 => 4 | 0 => 0 | n => n, fun | n => n⟩
theorem laysCompact19 : Go.Proofs.Lays.n194 Tryd.prog laysCompact_ren19 := {
  mixed := by kernel_rfl
  f194 := Tryd.func23.trans (congrArg some (by kernel_rfl))
  t0 := Tryd.underlying0
  a0 := Tryd.isAgg0
  z0 := Tryd.sizeOf0
  v0 := Tryd.zeroValue0
  t3 := Tryd.underlying3
  a3 := Tryd.isAgg3
  z3 := Tryd.sizeOf3
  v3 := Tryd.zeroValue3
  t4 := Tryd.underlying4
  a4 := Tryd.isAgg4
  z4 := Tryd.sizeOf4
  v4 := Tryd.zeroValue4
  t9 := Tryd.underlying9
  a9 := Tryd.isAgg9
  z9 := Tryd.sizeOf9
  v9 := Tryd.zeroValue9
  t31 := Tryd.underlying38
  a31 := Tryd.isAgg38
  z31 := Tryd.sizeOf38
  v31 := Tryd.zeroValue38 }
/-- slices.Sort at []string -/
theorem sort19_any (blk off cap : Nat) (ss : List (List UInt8)) (w : World) (hH : Go.Sort.Holds encStr w blk off ss.toArray) (hblk : blk < w.heap.size) (hsz : ss.length < 4611686018427387904) :
    Calls Tryd.prog 22 #[.slice (some ⟨blk, off, none⟩) ss.length cap] w fun e w' =>
      e = .returned (.tuple #[]) ∧ ∃ n os, w' = Go.Sort.grow (Go.Sort.putRow encStr (Go.Sort.ahead w n) blk off (ss.mergeSort fun x y => decide (x ≤ y)).toArray) os :=
  calls_of_every_depth fun D => AnyS.slices_Sort_string_alone laysSort19 D blk off cap ss w hH hblk hsz
theorem sort19_none (a : Option Addr) (cap : Nat) (w : World) :
    Calls Tryd.prog 22 #[.slice a 0 cap] w fun e w' => e = .returned (.tuple #[]) ∧ w' = w := Any.slices_Sort_string_none laysSort19 a cap w
/-- slices.Compact at []string -/
theorem compact19_any (blk off cap : Nat) (ss : List (List UInt8)) (w : World) (hH : Go.Sort.Holds encStr w blk off ss.toArray) (hsz : ss.length ≤ 9223372036854775807) (hcap : ss.length ≤ cap) :
    Calls Tryd.prog 23 #[.slice (some ⟨blk, off, none⟩) ss.length cap] w fun e w' =>
      e = .returned (.slice (some ⟨blk, off, none⟩) (Lib.compact ss).length cap) ∧ ∃ q, w' = Go.Sort.putRow encStr (Go.Sort.ahead w q) blk off (Lib.compact ss ++ List.replicate (ss.length - (Lib.compact ss).length) []).toArray :=
  calls_of_every_depth fun D => AnyS.slices_Compact_string_in laysCompact19 D blk off cap ss w hH hsz hcap
theorem compact19_none (a : Option Addr) (cap : Nat) (w : World) :
    Calls Tryd.prog 23 #[.slice a 0 cap] w fun e w' => e = .returned (.slice a 0 cap) ∧ w' = w :=
  calls_of_every_depth fun D => AnyS.slices_Compact_string_empty_in laysCompact19 D a cap w
end
end Go.Proofs.YtiogngfemelifaaDoor.Asc
