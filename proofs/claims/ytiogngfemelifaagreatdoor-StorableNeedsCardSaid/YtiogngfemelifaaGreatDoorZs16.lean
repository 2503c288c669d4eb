/- Merged texts: CtlFld VarSpec VarMem VryMine VryLay VrySpec3 VrySort. -/
import Derived.Test.YtiogngfemelifaaGreatDoorZs01
import Derived.Test.YtiogngfemelifaaGreatDoorZs02
import Derived.Test.YtiogngfemelifaaGreatDoorZs03
import Derived.Test.YtiogngfemelifaaGreatDoorZs04
import Derived.Test.YtiogngfemelifaaGreatDoorZs05
import Derived.Test.YtiogngfemelifaaGreatDoorZs06
import Derived.Test.YtiogngfemelifaaGreatDoorZs07
import Derived.Test.YtiogngfemelifaaGreatDoorZs08
import Derived.Test.YtiogngfemelifaaGreatDoorZs09
import Derived.Test.YtiogngfemelifaaGreatDoorZs10
import Derived.Test.YtiogngfemelifaaGreatDoorZs14
import Derived.Test.YtiogngfemelifaaGreatDoorZs15
import Derived.BigQuiet
import Derived.Deep.QuietTactic
import Derived.Deep.RegionHeld3
import Derived.Deep.Slices
import Derived.Laws.Externs
import Derived.Laws.IdiomCopy
import Derived.Lib.AppendStr
import Derived.Lib.Builder
import Derived.Lib.MakeNoZero
import Derived.Lib.OwnBridge
import Derived.Lib.SlicesCompact
import Derived.Lib.UnsafeStr
import Derived.OwnWalk
import Derived.Shelf.Slices.In.CompactS
import Derived.Shelf.Slices.In.SortNone
import Derived.Sort.OwnSorted
set_option linter.unusedVariables false
set_option linter.unusedSimpArgs false
set_option maxRecDepth 100000
namespace Go.Proofs.YtiogngfemelifaaGreatDoor.Asc
section
open Go.RowKit
theorem run_field_ns (b0 b1 b2 b3 b4 b5 b6 : Bool) (n0 n1 n2 n3 : Int) (w : World) :
    (Instr.field 36 (.agg #[.bool b0, .bool b1, .bool b2, .bool b3, .bool b4, .bool b5, .bool b6, .int .i64 n0, .int .i64 n1, .int .i64 n2, .int .i64 n3]) 0).run Tryz.prog w = .ok (.bool b0) w := by
  simp [Instr.field, Sem.run_bind, run_underlying Tryz.underlying36, asAgg, part, isAgg, run_underlying Tryz.underlying4, Result.andThen]
end
section
abbrev AX := ByteArray × List ByteArray
end
section
open Go.RowKit Go.ChangeShapes Go.WideShapes Go.Deep
/-- a value that is the list of strings V -/
def SsV (w : World) (v : Value) (V : List ByteArray) : Prop := ∃ b c, v = .slice b V.length c ∧ Ss w b V ∧ V.length ≤ c
theorem SsV.below {w w' : World} {v : Value} {V : List ByteArray} (h : SsV w v V) (hb : Below w.heap.size w w') : SsV w' v V := by
  obtain ⟨b, c, e, hs, hc⟩ := h
  exact ⟨b, c, e, hs.below hb, hc⟩
def Axs (w : World) (a : Option Addr) (L : List AX) : Prop :=
  ∀ i (h : i < L.length), ∃ g off v, a = some ⟨g, off, none⟩ ∧ w.cell? ⟨g, off + i * 2, none⟩ = some (.string L[i].1) ∧ w.cell? ⟨g, off + i * 2 + 1, none⟩ = some v ∧ SsV w v L[i].2
theorem Axs.below {w w' : World} {a : Option Addr} {L : List AX} (h : Axs w a L) (hb : Below w.heap.size w w') : Axs w' a L := fun i hi => by
  obtain ⟨g, off, v, e, c0, c1, hs⟩ := h i hi
  exact ⟨g, off, v, e, (hb.cell (cell_lt c0)).trans c0, (hb.cell (cell_lt c1)).trans c1, hs.below hb⟩
end
section
open Go.RowKit
theorem mAll19_is {a : Option Addr} {cap n : Nat} {L : List F} {nm : ByteArray} {w : World} (S : Box (Sm L)) (hv : Box (∀ x ∈ getL nm L, x.size ≤ 65000)) (M : nm.size ≤ 65536) (hF : Fs w a L) (h : Box ((allB nm L).length = n)) :
    Calls Tryz.prog 32 #[.slice a L.length cap, .string nm] w fun e w' => ∃ p c, e = .returned (.slice p n c) ∧ n ≤ c ∧ Ss w' p (allB nm L) ∧ Below w.heap.size w w' :=
  (mAll_any a cap L nm w S hv (box M) (box hF)).mono fun e w' ⟨v, h1, h2, h3⟩ => by
    obtain ⟨p, c, rfl, h4, h5⟩ := h2.ss
    rw [h.out] at h1 h5
    exact ⟨p, c, h1, h5, h4, h3⟩
theorem mLow19_is {s x : ByteArray} {w : World} (hs : s.size ≤ 4260000000) (h : Box (bs (lowL s.data.toList) = x)) :
    Calls Tryz.prog 37 #[.string s] w fun e w' => e = .returned (.string x) ∧ Below w.heap.size w w' :=
  (Lower_any s w (by omega)).mono fun e w' ⟨h1, h2⟩ => ⟨by rw [h1, ← h.out]; rfl, h2⟩
theorem complete_yes {a : Option Addr} {cap n : Nat} {w : World} (h : n < 64) :
    Calls Tryz.prog 35 #[.slice a n cap] w fun e w' => e = .returned (.bool true) ∧ w = w' := by
  have hmi : (n : Int) < 64 := by omega
  go_enter Tryz.func35, Tryz.ntmps35
  go_wp2
  go_ret
  exact ⟨ret_bool (by simp), rfl⟩
theorem complete_no {a : Option Addr} {cap n : Nat} {w : World} (h : ¬ n < 64) :
    Calls Tryz.prog 35 #[.slice a n cap] w fun e w' => e = .returned (.bool false) ∧ w = w' := by
  have hmi : ¬ (n : Int) < 64 := by omega
  go_enter Tryz.func35, Tryz.ntmps35
  go_wp2
  go_ret
  exact ⟨ret_bool (by simp), rfl⟩
end
section
open Go.Shelf
def laysSort_ren19 : Go.Shelf.Ren := ⟨fun | 190 => 38 | 125 => 68 | 258 => 67 | 128 => 105 | 129 => 106 | 302 => 96 | 303 => 97 | 304 => 98 | 305 => 99 | 306 => 100 | 307 => 101 | 308 => 102 | 309 => 103 | 310 => 104 | 333 => 122 | 329 => 123 | 330 => 124 | 334 => 125 | 335 => 126 | 336 => 127 | 344 => 134 | n => n, fun | 31 => 38 | 9 => 9 | 3 => 3 | 46 => 82 | 0 => 0 | 51 => 109 | 53 => 111 | 4 => 4 | 183 => 103 | 182 => 102 | 131 => 86 | 5 => 5 | 218 => 118 | 222 => 75 | 228 => 123 | 229 => 124 | n => n, fun | n => n⟩
theorem laysSort19 : Go.Proofs.Lays.n190 Tryz.prog laysSort_ren19 := {
  mixed := by kernel_rfl
  f125 := Tryz.func68.trans (congrArg some (by kernel_rfl))
  f128 := Tryz.func105.trans (congrArg some (by kernel_rfl))
  f129 := Tryz.func106.trans (congrArg some (by kernel_rfl))
  f190 := Tryz.func38.trans (congrArg some (by kernel_rfl))
  f258 := Tryz.func67.trans (congrArg some (by kernel_rfl))
  f302 := Tryz.func96.trans (congrArg some (by kernel_rfl))
  f303 := Tryz.func97.trans (congrArg some (by kernel_rfl))
  f304 := Tryz.func98.trans (congrArg some (by kernel_rfl))
  f305 := Tryz.func99.trans (congrArg some (by kernel_rfl))
  f306 := Tryz.func100.trans (congrArg some (by kernel_rfl))
  f307 := Tryz.func101.trans (congrArg some (by kernel_rfl))
  f308 := Tryz.func102.trans (congrArg some (by kernel_rfl))
  f309 := Tryz.func103.trans (congrArg some (by kernel_rfl))
  f310 := Tryz.func104.trans (congrArg some (by kernel_rfl))
  f329 := Tryz.func123.trans (congrArg some (by kernel_rfl))
  f330 := Tryz.func124.trans (congrArg some (by kernel_rfl))
  f333 := Tryz.func122.trans (congrArg some (by kernel_rfl))
  f334 := Tryz.func125.trans (congrArg some (by kernel_rfl))
  f335 := Tryz.func126.trans (congrArg some (by kernel_rfl))
  f336 := Tryz.func127.trans (congrArg some (by kernel_rfl))
  f344 := Tryz.func134.trans (congrArg some (by kernel_rfl))
  t0 := Tryz.underlying0
  a0 := Tryz.isAgg0
  z0 := Tryz.sizeOf0
  v0 := Tryz.zeroValue0
  t3 := Tryz.underlying3
  a3 := Tryz.isAgg3
  z3 := Tryz.sizeOf3
  v3 := Tryz.zeroValue3
  t4 := Tryz.underlying4
  a4 := Tryz.isAgg4
  z4 := Tryz.sizeOf4
  v4 := Tryz.zeroValue4
  t5 := Tryz.underlying5
  a5 := Tryz.isAgg5
  z5 := Tryz.sizeOf5
  v5 := Tryz.zeroValue5
  t9 := Tryz.underlying9
  a9 := Tryz.isAgg9
  z9 := Tryz.sizeOf9
  v9 := Tryz.zeroValue9
  t31 := Tryz.underlying38
  a31 := Tryz.isAgg38
  z31 := Tryz.sizeOf38
  v31 := Tryz.zeroValue38
  t46 := Tryz.underlying82
  a46 := Tryz.isAgg82
  z46 := Tryz.sizeOf82
  v46 := Tryz.zeroValue82
  t51 := Tryz.underlying109
  a51 := Tryz.isAgg109
  z51 := Tryz.sizeOf109
  v51 := Tryz.zeroValue109
  t53 := Tryz.underlying111
  a53 := Tryz.isAgg111
  z53 := Tryz.sizeOf111
  v53 := Tryz.zeroValue111
  t131 := Tryz.underlying86
  a131 := Tryz.isAgg86
  z131 := Tryz.sizeOf86
  v131 := Tryz.zeroValue86
  t182 := Tryz.underlying102
  a182 := Tryz.isAgg102
  z182 := Tryz.sizeOf102
  v182 := Tryz.zeroValue102
  t183 := Tryz.underlying103
  a183 := Tryz.isAgg103
  z183 := Tryz.sizeOf103
  v183 := Tryz.zeroValue103
  t218 := Tryz.underlying118
  a218 := Tryz.isAgg118
  z218 := Tryz.sizeOf118
  v218 := Tryz.zeroValue118
  t222 := Tryz.underlying75
  a222 := Tryz.isAgg75
  z222 := Tryz.sizeOf75
  v222 := Tryz.zeroValue75
  t228 := Tryz.underlying123
  a228 := Tryz.isAgg123
  z228 := Tryz.sizeOf123
  v228 := Tryz.zeroValue123
  t229 := Tryz.underlying124
  a229 := Tryz.isAgg124
  z229 := Tryz.sizeOf124
  v229 := Tryz.zeroValue124 }
def laysCompact_ren19 : Go.Shelf.Ren := ⟨fun | 194 => 39 | n => n, fun | 31 => 38 | 9 => 9 | 3 => 3 | 4 => 4 | 0 => 0 | n => n, fun | n => n⟩
theorem laysCompact19 : Go.Proofs.Lays.n194 Tryz.prog laysCompact_ren19 := {
  mixed := by kernel_rfl
  f194 := Tryz.func39.trans (congrArg some (by kernel_rfl))
  t0 := Tryz.underlying0
  a0 := Tryz.isAgg0
  z0 := Tryz.sizeOf0
  v0 := Tryz.zeroValue0
  t3 := Tryz.underlying3
  a3 := Tryz.isAgg3
  z3 := Tryz.sizeOf3
  v3 := Tryz.zeroValue3
  t4 := Tryz.underlying4
  a4 := Tryz.isAgg4
  z4 := Tryz.sizeOf4
  v4 := Tryz.zeroValue4
  t9 := Tryz.underlying9
  a9 := Tryz.isAgg9
  z9 := Tryz.sizeOf9
  v9 := Tryz.zeroValue9
  t31 := Tryz.underlying38
  a31 := Tryz.isAgg38
  z31 := Tryz.sizeOf38
  v31 := Tryz.zeroValue38 }
/-- slices.Sort at []string -/
theorem sort19_any (blk off cap : Nat) (ss : List (List UInt8)) (w : World) (hH : Go.Sort.Holds encStr w blk off ss.toArray) (hblk : blk < w.heap.size) (hsz : ss.length < 4611686018427387904) :
    Calls Tryz.prog 38 #[.slice (some ⟨blk, off, none⟩) ss.length cap] w fun e w' =>
      e = .returned (.tuple #[]) ∧ ∃ n os, w' = Go.Sort.grow (Go.Sort.putRow encStr (Go.Sort.ahead w n) blk off (ss.mergeSort fun x y => decide (x ≤ y)).toArray) os :=
  calls_of_every_depth fun D => AnyS.slices_Sort_string_alone laysSort19 D blk off cap ss w hH hblk hsz
theorem sort19_none (a : Option Addr) (cap : Nat) (w : World) :
    Calls Tryz.prog 38 #[.slice a 0 cap] w fun e w' => e = .returned (.tuple #[]) ∧ w' = w := Any.slices_Sort_string_none laysSort19 a cap w
/-- slices.Compact at []string -/
theorem compact19_any (blk off cap : Nat) (ss : List (List UInt8)) (w : World) (hH : Go.Sort.Holds encStr w blk off ss.toArray) (hsz : ss.length ≤ 9223372036854775807) (hcap : ss.length ≤ cap) :
    Calls Tryz.prog 39 #[.slice (some ⟨blk, off, none⟩) ss.length cap] w fun e w' =>
      e = .returned (.slice (some ⟨blk, off, none⟩) (Lib.compact ss).length cap) ∧ ∃ q, w' = Go.Sort.putRow encStr (Go.Sort.ahead w q) blk off (Lib.compact ss ++ List.replicate (ss.length - (Lib.compact ss).length) []).toArray :=
  calls_of_every_depth fun D => AnyS.slices_Compact_string_in laysCompact19 D blk off cap ss w hH hsz hcap
theorem compact19_none (a : Option Addr) (cap : Nat) (w : World) :
    Calls Tryz.prog 39 #[.slice a 0 cap] w fun e w' => e = .returned (.slice a 0 cap) ∧ w' = w :=
  calls_of_every_depth fun D => AnyS.slices_Compact_string_empty_in laysCompact19 D a cap w
end
section
/-- what is kept of the first m places of an ascending row -/
theorem comp_inv {d : Array BL} (hs : ∀ i j : Nat, i ≤ j → j < d.size → d[i]! ≤ d[j]!) : ∀ m : Nat, m ≤ d.size →
    AscU (Lib.compactUpTo d m) ∧ (∀ z, z ∈ Lib.compactUpTo d m ↔ ∃ j, j < m ∧ d[j]! = z) ∧ (∀ z ∈ Lib.compactUpTo d m, ∀ j, m ≤ j + 1 → j < d.size → z ≤ d[j]!)
  | 0, _ => ⟨List.Pairwise.nil, fun z => ⟨fun h => (by cases h), fun ⟨j, hj, _⟩ => (by omega)⟩, fun z h => (by cases h)⟩
  | m + 1, h => by
    obtain ⟨i1, i2, i3⟩ := comp_inv hs m (by omega)
    rw [Lib.compactUpTo_succ]
    by_cases hk : Lib.keeps d m = true
    · rw [if_pos hk]
      have hlt : ∀ z ∈ Lib.compactUpTo d m, z < d[m]! := fun z hz => by
        rcases Nat.eq_zero_or_pos m with rfl | hm
        · cases hz
        · unfold Lib.keeps at hk
          rw [decide_eq_true_eq] at hk
          have hne : d[m]! ≠ d[m - 1]! := hk.resolve_left (by omega)
          have h1 := i3 z hz (m - 1) (by omega) (by omega)
          have h2 := hs (m - 1) m (by omega) (by omega)
          rcases ltB_tri (d[m - 1]!) (d[m]!) with q | q | q
          · rcases ltB_tri z (d[m - 1]!) with p | p | p
            · exact ltB_trans p q
            · rw [p]; exact q
            · exact absurd p (List.not_lt.2 h1)
          · exact absurd q.symm hne
          · exact absurd q (List.not_lt.2 h2)
      refine ⟨?_, fun z => ?_, fun z hz j hj hj2 => ?_⟩
      · unfold AscU
        rw [List.pairwise_append]
        exact ⟨i1, List.pairwise_singleton _ _, fun a ha b hb => by rw [List.mem_singleton.1 hb]; exact hlt a ha⟩
      · rw [List.mem_append, i2, List.mem_singleton]
        constructor
        · rintro (⟨j, hj, e⟩ | rfl)
          · exact ⟨j, by omega, e⟩
          · exact ⟨m, by omega, rfl⟩
        · rintro ⟨j, hj, e⟩
          rcases Nat.lt_or_ge j m with q | q
          · exact .inl ⟨j, q, e⟩
          · have : j = m := by omega
            subst this; exact .inr e.symm
      · rcases List.mem_append.1 hz with q | q
        · exact List.le_trans (i3 z q m (by omega) (by omega)) (hs m j (by omega) hj2)
        · rw [List.mem_singleton.1 q]; exact hs m j (by omega) hj2
    · rw [if_neg hk, List.append_nil]
      have hm : 0 < m := by
        rcases Nat.eq_zero_or_pos m with rfl | hm
        · exact absurd (by unfold Lib.keeps; simp) hk
        · exact hm
      have he : d[m]! = d[m - 1]! := by
        unfold Lib.keeps at hk
        rw [decide_eq_true_eq] at hk
        exact Classical.byContradiction fun e => hk (.inr e)
      refine ⟨i1, fun z => ?_, fun z hz j hj hj2 => i3 z hz j (by omega) hj2⟩
      rw [i2]
      constructor
      · rintro ⟨j, hj, e⟩; exact ⟨j, by omega, e⟩
      · rintro ⟨j, hj, e⟩
        rcases Nat.lt_or_ge j m with q | q
        · exact ⟨j, q, e⟩
        · have : j = m := by omega
          subst this; exact ⟨j - 1, by omega, by rw [← he]; exact e⟩
/-- sorted, then compacted -/
theorem comp_sort (ls : List BL) : AscU (Lib.compact (ls.mergeSort fun x y => decide (x ≤ y))) ∧ ∀ z, z ∈ Lib.compact (ls.mergeSort fun x y => decide (x ≤ y)) ↔ z ∈ ls := by
  have hsort : (ls.mergeSort fun x y => decide (x ≤ y)).Pairwise (fun x y => decide (x ≤ y) = true) :=
    List.pairwise_mergeSort (fun a b c h1 h2 => by simp only [decide_eq_true_eq] at *; exact List.le_trans h1 h2)
      (fun a b => by
        rw [Bool.or_eq_true, decide_eq_true_eq, decide_eq_true_eq]
        exact List.le_total a b) ls
  obtain ⟨ss, hss⟩ : ∃ ss, (ls.mergeSort fun x y => decide (x ≤ y)) = ss := ⟨_, rfl⟩
  have hmem : ∀ z, z ∈ ss ↔ z ∈ ls := fun z => by rw [← hss]; exact (List.mergeSort_perm ls _).mem_iff
  rw [hss] at hsort ⊢
  have hget : ∀ j (hj : j < ss.length), ss.toArray[j]! = ss[j] := fun j hj => by simp [hj]
  have hs : ∀ i j : Nat, i ≤ j → j < ss.toArray.size → ss.toArray[i]! ≤ ss.toArray[j]! := fun i j hij hj => by
    have hj' : j < ss.length := by simpa using hj
    rw [hget i (by omega), hget j hj']
    rcases Nat.lt_or_ge i j with q | q
    · have := List.pairwise_iff_getElem.1 hsort i j (by omega) hj' q
      simpa using this
    · have : i = j := by omega
      subst this; exact List.le_refl _
  obtain ⟨h1, h2, _⟩ := comp_inv hs ss.length (by simp)
  refine ⟨h1, fun z => ?_⟩
  unfold Lib.compact
  rw [h2, ← hmem, List.mem_iff_getElem]
  constructor
  · rintro ⟨j, hj, e⟩; exact ⟨j, hj, by rw [← hget j hj]; exact e⟩
  · rintro ⟨j, hj, e⟩; exact ⟨j, hj, by rw [hget j hj]; exact e⟩
/-- the names in lower case, sorted and compacted, are the names -/
theorem comp_names (ms : List BL) : Lib.compact ((ms.map lowL).mergeSort fun x y => decide (x ≤ y)) = namesU ms := by
  obtain ⟨h1, h2⟩ := comp_sort (ms.map lowL)
  refine ascU_ext h1 (namesU_asc ms) (fun z => ?_)
  rw [h2, namesU_mem, List.mem_map]
end
section
open Go.RowKit Go.Sort
def lowY (ms : List BL) : List ByteArray := ms.map fun m => bs (lowL m)
def srt (ms : List BL) : List BL := (ms.map lowL).mergeSort fun x y => decide (x ≤ y)
theorem lowY_len (ms : List BL) : (lowY ms).length = ms.length := by unfold lowY; rw [List.length_map]
theorem lowY_more {ms : List BL} {k : Nat} (h : k < ms.length) : lowY (ms.take (k + 1)) = lowY (ms.take k) ++ [bs (lowL ms[k])] := by
  unfold lowY
  rw [List.take_succ_eq_append_getElem h, List.map_append]; rfl
theorem lowY_enc (ms : List BL) : (lowY ms).map Value.string = (ms.map lowL).map encStr := by
  unfold lowY
  rw [List.map_map, List.map_map]; rfl
theorem namB_enc (ms : List BL) : (namB ms).map Value.string = (namesU ms).map encStr := by
  unfold namB
  rw [List.map_map]; rfl
theorem srt_len (ms : List BL) : (srt ms).length = ms.length := by unfold srt; rw [List.length_mergeSort, List.length_map]
/-- the list is sorted where it lies -/
def Srt (w : World) (B g m cap : Nat) (ms : List BL) (w' : World) : Prop :=
  Holds encStr w' g 0 (srt ms).toArray ∧ w'.ownsRow B 9 1 (.slice (some ⟨g, 0, none⟩) m cap) m ((srt ms).map encStr) ∧ B ≤ g ∧ m ≤ cap ∧ B ≤ w'.heap.size ∧ Below B w w'
theorem sort19_is {B g cap m : Nat} {ms : List BL} {w : World} (hO : OwnS w B (.slice (some ⟨g, 0, none⟩) m cap) (lowY ms)) (hm : Box (ms.length = m)) (h6 : m ≤ 64) :
    Calls Tryz.prog 38 #[.slice (some ⟨g, 0, none⟩) m cap] w fun e w' => e = .returned (.tuple #[]) ∧ Srt w B g m cap ms w' := by
  have hl : (ms.map lowL).length = m := by rw [List.length_map]; exact hm.out
  have ho : w.ownsRow B 9 1 (.slice (some ⟨g, 0, none⟩) m cap) m ((ms.map lowL).map encStr) := by
    have := hO
    unfold OwnS at this
    rw [lowY_len, hm.out, lowY_enc] at this; exact this
  obtain ⟨g2, cap2, e, hB, hg, hc, hcm, _, hH⟩ := Lib.holds_of_ownsRow ho (by intro e; cases e)
  injection e with e1 e2 e3
  injection e1 with e1
  injection e1 with e1
  subst e1; subst e3
  have h := sort19_any g 0 cap (ms.map lowL) w hH hg (by omega)
  rw [hl] at h
  refine h.mono ?_
  rintro e w' ⟨rfl, nn, os, rfl⟩
  have hsl : (srt ms).length = (ms.map lowL).length := by rw [srt_len, List.length_map]
  rcases ho.2 with ⟨h0, _⟩ | ⟨g', cap', cur, hv, hbase, hb, h1, h2, h3, h4⟩
  · cases h0
  cases hv
  refine ⟨rfl, ?_, ?_, hB, hc, by simp [grow, putRow, mapBlock, Sort.ahead]; omega, ?_⟩
  · exact holds_grow encStr _ os g 0 _ (by simpa [putRow, mapBlock, Sort.ahead] using hg) (holds_putRow encStr _ g 0 _ _ (holds_ahead encStr w nn g 0 _ hH) (by simp))
  · have := ownsRow_sorted (n := nn) (os := os) (ss := ms.map lowL) (ts := srt ms) hsl hbase hb (by rw [hl]; exact h1) h2 h3
    rw [hl] at this; exact this
  · exact (Below.refl _ _).grown (grownBy_sorted _) (by omega) (fun j hj => by cases hj; exact hbase)
theorem compact19_is {B g cap m : Nat} {ms : List BL} {w0 w : World} (hS : Srt w0 B g m cap ms w) (hm : Box (ms.length = m)) (h6 : m ≤ 64) :
    Calls Tryz.prog 39 #[.slice (some ⟨g, 0, none⟩) m cap] w fun e w' => ∃ v, e = .returned v ∧ OwnS w' B v (namB ms) ∧ Below B w0 w' := by
  obtain ⟨hH, ho, hB, hc, hsz, hbel⟩ := hS
  have hl : (srt ms).length = m := by rw [srt_len]; exact hm.out
  have h := compact19_any g 0 cap (srt ms) w hH (by omega) (by omega)
  rw [hl] at h
  refine h.mono ?_
  rintro e w' ⟨rfl, q, rfl⟩
  have hcn : Lib.compact (srt ms) = namesU ms := comp_names ms
  have hle : (namesU ms).length ≤ m := by rw [← hm.out]; exact namesU_len ms
  rw [hcn]
  refine ⟨_, rfl, ?_, Lib.below_putRow hbel hB⟩
  have := Lib.ownsRow_putRow (q := q) (k := (namesU ms).length) (ys := namesU ms ++ List.replicate (m - (namesU ms).length) []) ho (by simp; omega) hle
  rw [List.take_left] at this
  unfold OwnS
  rw [namB_enc]
  have hnl : (namB ms).length = (namesU ms).length := by unfold namB; rw [List.length_map]
  rw [hnl]; exact this
end
end Go.Proofs.YtiogngfemelifaaGreatDoor.Asc
