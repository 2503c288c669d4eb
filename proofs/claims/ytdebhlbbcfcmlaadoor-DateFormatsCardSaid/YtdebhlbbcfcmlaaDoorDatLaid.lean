/- What a row that lists the three tables of package date gives the walks. -/
import Derived.Test.YtdebhlbbcfcmlaaDoorDatMine
import Derived.Lib.LaidTab
import Derived.LaidMore
set_option linter.unusedVariables false
set_option linter.unusedSimpArgs false
set_option maxRecDepth 100000
namespace Go.Proofs.YtdebhlbbcfcmlaaDoor.Asc
open Go.RowKit

theorem cell_size20 {w : World} {a : Addr} {v : Value} (h : w.cell? a = some v) : a.block < w.heap.size := by
  refine Nat.lt_of_not_le fun hle => ?_
  unfold World.cell? at h
  rw [Array.getElem?_eq_none hle] at h
  cases h
/-- an array of strings that reads as the table holds these strings, cell for cell -/
theorem cells_of_strs {H : Type} {enc : TypeId × Value → H} {w : World} {base : Nat} {sp : Nat → Bool} {held : Bool} {fuel : Nat} {t e : TypeId} {n : Nat} {cs : List Value} {zs : List (List UInt8)} {p : List MemPlace}
    (ht : Tryd.prog.underlying t = some (.array n e)) (he : Tryd.prog.underlying e = some .string) (hce : Tryd.prog.cellsOf e = 1) (hct : Tryd.prog.cellsOf t = n)
    (h : DataW.trod enc Tryd.prog w base sp held fuel t cs = some (.agg (zs.map fun z => .lit (.string z)), p)) : cs = zs.map fun z => Value.string (bs z) := by
  cases fuel with
  | zero => simp [DataW.trod] at h
  | succ fuel =>
    simp only [DataW.trod, ht, hce, hct, Nat.mul_one] at h
    split at h
    · rename_i hl
      obtain ⟨xs, hm, hx⟩ := Option.map_eq_some_iff.1 h
      have hxs : xs.map (·.1) = zs.map fun z => (DataW.lit (.string z) : DataW H) := by
        have := congrArg Prod.fst hx
        simpa using this
      have hxl : xs.length = n := by simpa using Lib.mapM_length hm
      have hzl : zs.length = n := by
        have := congrArg List.length hxs
        simp at this
        omega
      apply List.ext_getElem?
      intro i
      by_cases hi : i < n
      · obtain ⟨b, hb, hf⟩ := Lib.mapM_at hm i i (by simp [hi])
        obtain ⟨z, hc, rfl, _⟩ := DataW.trod_string he hf
        have h1 : cs[i]? = some (.string z) := by
          have := congrArg (·[0]?) hc
          simpa [List.getElem?_take, List.getElem?_drop] using this
        have h2 : (xs.map (·.1))[i]? = some (DataW.lit (.string z.data.toList) : DataW H) := by simp [hb]
        rw [hxs] at h2
        simp only [List.getElem?_map, Option.map_eq_some_iff, DataW.lit.injEq, Lit.string.injEq] at h2
        obtain ⟨z', hz', hzz⟩ := h2
        rw [h1, List.getElem?_map, hz', Option.map_some, hzz]; rfl
      · rw [List.getElem?_eq_none (by omega), List.getElem?_eq_none (by simp; omega)]
    · cases h
theorem gWk : Tryd.prog.globalNamed "variantproxy/date.weekdays" = some 0 := by kernel_rfl
theorem gMo : Tryd.prog.globalNamed "variantproxy/date.months" = some 1 := by kernel_rfl
theorem gLn : Tryd.prog.globalNamed "variantproxy/date.monthLengths" = some 2 := by kernel_rfl
theorem tWk : (Tryd.prog.globals[0]?).map (·.type) = some 35 := by kernel_rfl
theorem tMo : (Tryd.prog.globals[1]?).map (·.type) = some 37 := by kernel_rfl
theorem tLn : (Tryd.prog.globals[2]?).map (·.type) = some 46 := by kernel_rfl
def wkT : List (List UInt8) := [[84, 104, 117], [70, 114, 105], [83, 97, 116], [83, 117, 110], [77, 111, 110], [84, 117, 101], [87, 101, 100]]
def moT : List (List UInt8) := [[74, 97, 110], [70, 101, 98], [77, 97, 114], [65, 112, 114], [77, 97, 121], [74, 117, 110], [74, 117, 108], [65, 117, 103], [83, 101, 112], [79, 99, 116], [78, 111, 118], [68, 101, 99]]
def lnT : List Int := [31, 28, 31, 30, 31, 30, 31, 31, 30, 31, 30, 31]
theorem tabs_of_laid {W : World} (h : laidMet Tryd.prog [("variantproxy/date.weekdays", .agg (wkT.map fun z => .lit (.string z))), ("variantproxy/date.months", .agg (moT.map fun z => .lit (.string z))), ("variantproxy/date.monthLengths", Lib.tabData .i64 lnT)] W) : Tabs W := by
  obtain ⟨ps, ⟨g1, t1, c1, f1, p1, q1, hg1, ht1, hv1, hd1, ⟨g2, t2, c2, f2, p2, q2, hg2, ht2, hv2, hd2, ⟨g3, t3, c3, f3, p3, q3, hg3, ht3, hv3, hd3, _, _⟩, _⟩, _⟩, _⟩ := h
  obtain rfl := Option.some.inj (gWk.symm.trans hg1)
  obtain rfl := Option.some.inj (tWk.symm.trans ht1)
  obtain rfl := Option.some.inj (gMo.symm.trans hg2)
  obtain rfl := Option.some.inj (tMo.symm.trans ht2)
  obtain rfl := Option.some.inj (gLn.symm.trans hg3)
  obtain rfl := Option.some.inj (tLn.symm.trans ht3)
  have e1 := cells_of_strs Tryd.underlying35 Tryd.underlying9 (by kernel_rfl) (by kernel_rfl) hd1
  have e2 := cells_of_strs Tryd.underlying37 Tryd.underlying9 (by kernel_rfl) (by kernel_rfl) hd2
  have e3 := Lib.cells_of_tab Tryd.underlying46 Tryd.underlying3 (by kernel_rfl) (by kernel_rfl) hd3
  have a1 : ∀ k, k < 7 → W.cell? ⟨0, k, none⟩ = some (.string (bs (wkL k))) := fun k hk => by
    have h1 := World.var?_cell gWk hv1 k
    have h2 : c1[k]? = some (.string (bs (wkL k))) := by
      rw [← Array.getElem?_toList, e1]
      have key : ∀ k : Fin 7, wkT[k.1]? = some (wkL k.1) := by decide
      rw [List.getElem?_map, key ⟨k, hk⟩]; rfl
    rw [h1, h2]
  have a2 : ∀ k, k < 12 → W.cell? ⟨1, k, none⟩ = some (.string (bs (monL (k + 1)))) := fun k hk => by
    have h1 := World.var?_cell gMo hv2 k
    have h2 : c2[k]? = some (.string (bs (monL (k + 1)))) := by
      rw [← Array.getElem?_toList, e2]
      have key : ∀ k : Fin 12, moT[k.1]? = some (monL (k.1 + 1)) := by decide
      rw [List.getElem?_map, key ⟨k, hk⟩]; rfl
    rw [h1, h2]
  have a3 : ∀ k, k < 12 → W.cell? ⟨2, k, none⟩ = some (.int .i64 (lenM false (k + 1) : Nat)) := fun k hk => by
    have h1 := World.var?_cell gLn hv3 k
    have h2 : c3[k]? = some (.int .i64 (lenM false (k + 1) : Nat)) := by
      rw [← Array.getElem?_toList, e3]
      have key : ∀ k : Fin 12, lnT[k.1]? = some ((lenM false (k.1 + 1) : Nat) : Int) := by decide
      rw [List.getElem?_map, key ⟨k, hk⟩]; rfl
    rw [h1, h2]
  exact ⟨a1, a2, a3, cell_size20 (a1 0 (by omega)), cell_size20 (a2 0 (by omega)), cell_size20 (a3 0 (by omega))⟩

end Go.Proofs.YtdebhlbbcfcmlaaDoor.Asc
