/- Merged texts: AscUn AscUnq ParRef MedRef AscQuo AscNum StaVer AscDec AscRDec ParRef2. -/
import Derived.Test.YtklfpkaemnhdhaaGreatDoorZa01
import Derived.Test.YtklfpkaemnhdhaaGreatDoorZa02
import Derived.Test.YtklfpkaemnhdhaaGreatDoorZa03
import Derived.Test.YtklfpkaemnhdhaaGreatDoorZa04
import Derived.Deep.RegionHeld3
import Derived.Laws.AppendOwnNone
import Derived.Lib.Hide
import Derived.LoopTactic
import Derived.OwnWalk
set_option linter.unusedVariables false
set_option linter.unusedSimpArgs false
set_option maxRecDepth 100000
namespace Go.Proofs.YtklfpkaemnhdhaaGreatDoor.Asc
section
open Go.RowKit
/-- the two results of a function that returns a string and whether there is one -/
def optV : Option (List UInt8) → Value
  | none => .tuple #[.string ⟨#[]⟩, .bool false]
  | some l => .tuple #[.string ⟨l.toArray⟩, .bool true]
theorem unescape_any (s : ByteArray) (w : World) (hs : s.size ≤ 4294967296) :
    Calls Tryz.prog 189 #[.string s] w fun e w' => e = .returned (optV (unescL s.data.toList)) ∧ Below w.heap.size w w' := by
  obtain ⟨i0, hi0, hz0, hz1, hz2⟩ := info_parts info_u8
  have hmk := fun (w : World) => run_make (P := Tryz.prog) w 59 5 i0 _ Tryz.underlying59 hi0 hz0 .i64 .i64 0 s.size (by omega) (by omega) (by rw [hz2]; omega) (by omega)
  simp only [Int.toNat_natCast, hz1, Nat.mul_one] at hmk
  go_enter Tryz.func189, Tryz.ntmps189
  go_wp2
  have hO0 : Own (w.alloc (.cells (madeCells #[.int .u8 0] s.size) 5)) w.heap.size (.slice (some ⟨w.heap.size, 0, none⟩) 0 s.size) [] :=
    ⟨rfl, .inr ⟨_, _, _, rfl, Nat.le_refl _, heap_alloc_new w _, Nat.zero_le _, by unfold maxLen; omega, by simp [size_madeCells], rfl⟩⟩
  go_loopw [4, 5] (fun v i wr => ∃ (k : Nat) (acc : List UInt8), k ≤ s.size ∧ i = .int .i64 k ∧ Own wr w.heap.size v acc ∧ UnAt s.data.toList k acc ∧ Below w.heap.size w wr) (fun _ i _ => s.size - (intOf i).toNat)
  case atStart => exact ⟨0, [], Nat.zero_le _, rfl, hO0, UnAt.start _, (Below.refl _ _).alloc (Nat.le_refl _) _⟩
  case round =>
    obtain ⟨k, acc, hk, rfl, hO, hU, hbel⟩ := hrel
    clear hO0 hmk
    have ha := hU.1
    by_cases hlt : k < s.size
    · rcases h1 : ((s[k].toNat : Int) == 34) with _ | _
      · rcases h2 : ((s[k].toNat : Int) == 92) with _ | _
        · go_wp2_with (at_builtin; refine wpList_append_byte _ rfl (.tmp 28) (.tmp 32) rfl w.heap.size _ acc rfl (hO.alloc _) _ rfl _ s[k] rfl (by go_simp) (by omega) (by have := hbel.size; simp; omega) ?_; intro v' w1 hO1 hb1)
          go_roundw
          case rel => exact ⟨k + 1, _, by omega, by go_num, hO1, hU.plain hlt h1 h2, hbel.alloc hbel.size _ |>.trans hb1⟩
          case measure => simp [intOf]; omega
        · by_cases he : k + 1 < s.size
          · go_wp2_with (at_builtin; refine wpList_append_byte _ rfl (.tmp 28) (.tmp 32) rfl w.heap.size _ acc rfl (hO.alloc _) _ rfl _ s[k + 1] rfl (by go_simp) (by omega) (by have := hbel.size; simp; omega) ?_; intro v' w1 hO1 hb1)
            go_roundw
            case rel => exact ⟨k + 1 + 1, _, by omega, by go_num, hO1, hU.esc hlt h2 he, hbel.alloc hbel.size _ |>.trans hb1⟩
            case measure => simp [intOf]; omega
          · go_wp2
            go_ret2
            exact ⟨by rw [hU.last hlt h2 (by omega)]; rfl, hbel⟩
      · go_wp2
        go_ret2
        exact ⟨by rw [hU.quote hlt h1]; rfl, hbel⟩
    · have hst := hO.str
      go_wp2
      go_ret2
      exact ⟨by rw [hU.fin (by simp; omega)]; rfl, hbel⟩
end
section
open Go.RowKit
theorem unescape_none {s : ByteArray} {w : World} (hs : s.size ≤ 4294967296) (h : unescL s.data.toList = none) :
    Calls Tryz.prog 189 #[.string s] w fun e w' => e = .returned (.tuple #[.string ⟨#[]⟩, .bool false]) ∧ Below w.heap.size w w' :=
  (unescape_any s w hs).mono fun e w' ⟨he, hb⟩ => ⟨by rw [he, h]; rfl, hb⟩
theorem unescape_some {s : ByteArray} {w : World} {r : List UInt8} (hs : s.size ≤ 4294967296) (h : unescL s.data.toList = some r) :
    Calls Tryz.prog 189 #[.string s] w fun e w' => e = .returned (.tuple #[.string ⟨r.toArray⟩, .bool true]) ∧ Below w.heap.size w w' :=
  (unescape_any s w hs).mono fun e w' ⟨he, hb⟩ => ⟨by rw [he, h]; rfl, hb⟩
set_option maxHeartbeats 800000 in
theorem Unquote_any (s : ByteArray) (w : World) (hs : s.size ≤ 4294967296) :
    Calls Tryz.prog 178 #[.string s] w fun e w' => e = .returned (optV (unqL s.data.toList)) ∧ Below w.heap.size w w' := by
  by_cases h2 : s.size < 2
  · go_enter Tryz.func178, Tryz.ntmps178
    go_wp2
    go_ret2
    exact ⟨by rw [unq_short h2]; rfl, Below.refl _ _⟩
  · have hp : 0 < s.size := by omega
    have hq : s.size - 1 < s.size := by omega
    by_cases h0 : ((s[0]'hp).toNat : Int) = 34
    · rcases h1 : (((s[s.size - 1]'hq).toNat : Int) != 34) with _ | _
      · have hu := unq_in h2 hp h0 hq h1
        have HI : Hid ((s.extract 1 (s.size - 1)).size ≤ 4294967296) := Lib.hid (by rw [ByteArray.size_extract]; omega)
        have HM : Hid ((s.extract 1 (s.size - 1)).size ≤ maxLen) := Lib.hid (by have := HI.out; unfold maxLen; omega)
        have HU := Lib.hid hu
        clear hu
        go_enter Tryz.func178, Tryz.ntmps178
        go_wp2_with fail
        refine (Text_any _ _ HM.out).mono ?_; rintro e w' ⟨rfl, rfl⟩
        rcases ht : textL (s.extract 1 (s.size - 1)).data.toList with _ | _
        · have HT := Lib.hid (unqIn_not ht)
          clear ht
          go_wp2
          go_ret2
          exact ⟨by rw [HU.out, HT.out]; rfl, Below.refl _ _⟩
        · have HT := Lib.hid (unqIn_text ht)
          clear ht
          go_wp2_with fail
          rcases hr : unescL (s.extract 1 (s.size - 1)).data.toList with _ | r
          · have HR := Lib.hid hr
            clear hr
            refine (unescape_none HI.out HR.out).mono ?_; rintro e w' ⟨rfl, hb⟩
            go_wp2
            go_ret2
            exact ⟨by rw [HU.out, HT.out, HR.out]; rfl, hb⟩
          · have HR := Lib.hid hr
            clear hr
            refine (unescape_some HI.out HR.out).mono ?_; rintro e w' ⟨rfl, hb⟩
            go_wp2
            go_ret2
            exact ⟨by rw [HU.out, HT.out, HR.out]; rfl, hb⟩
      · go_enter Tryz.func178, Tryz.ntmps178
        go_wp2
        go_ret2
        exact ⟨by rw [unq_last hq h1]; rfl, Below.refl _ _⟩
    · go_enter Tryz.func178, Tryz.ntmps178
      go_wp2
      go_ret2
      exact ⟨by rw [unq_head hp h0]; rfl, Below.refl _ _⟩
set_option maxHeartbeats 800000 in
theorem rUnquote_any (s : ByteArray) (w : World) (hs : s.size ≤ 4294967296) :
    Calls Tryz.prog 128 #[.string s] w fun e w' => e = .returned (optV (unqL s.data.toList)) ∧ Below w.heap.size w w' := by
  by_cases h2 : s.size < 2
  · go_enter Tryz.func128, Tryz.ntmps128
    go_wp2
    go_ret2
    exact ⟨by rw [unq_short h2]; rfl, Below.refl _ _⟩
  · have hp : 0 < s.size := by omega
    have hq : s.size - 1 < s.size := by omega
    by_cases h0 : ((s[0]'hp).toNat : Int) = 34
    · rcases h1 : (((s[s.size - 1]'hq).toNat : Int) != 34) with _ | _
      · have hu := unq_in h2 hp h0 hq h1
        have hin : (s.extract 1 (s.size - 1)).size ≤ 4294967296 := by rw [ByteArray.size_extract]; omega
        have HU := Lib.hid hu
        clear hu
        go_enter Tryz.func128, Tryz.ntmps128
        go_wp2_with fail
        clear h0 h1 h2 hp hq
        generalize hg : s.extract 1 (s.size - 1) = t at *
        have HG := Lib.hid hg
        clear hg
        go_loopw [4, 5] (fun v i wr => ∃ (k : Nat) (acc : List UInt8), k ≤ t.size ∧ i = .int .i64 k ∧ Own wr w.heap.size v acc ∧ UnAt t.data.toList k acc ∧ allI textI (t.data.toList.take k) = true ∧ Below w.heap.size w wr) (fun _ i _ => t.size - (intOf i).toNat)
        case atStart => exact ⟨0, [], Nat.zero_le _, rfl, Own.nil _ _, UnAt.start _, rfl, Below.refl _ _⟩
        case round =>
          obtain ⟨k, acc, hk, rfl, hO, hU, hT, hbel⟩ := hrel
          have ha := hU.1
          by_cases hlt : k < t.size
          · rcases h1 : ((t[k].toNat : Int) == 34) with _ | _
            · rcases h2 : ((t[k].toNat : Int) == 92) with _ | _
              · have hb := byte_bd t k hlt
                rcases hp : textI (t[k].toNat) with _ | _
                · go_wp2_with (go_at_call 157; refine (textByte_any _ _ hb.1 hb.2).mono ?_; rintro e w' ⟨rfl, rfl⟩)
                  go_ret2
                  exact ⟨by rw [HU.out, unqIn_not (textL_not hlt hp)]; rfl, hbel⟩
                · go_wp2_with (first | (go_at_call 157; refine (textByte_any _ _ hb.1 hb.2).mono ?_; rintro e w' ⟨rfl, rfl⟩) | (at_builtin; refine wpList_append_byte _ rfl _ _ rfl w.heap.size _ acc rfl (hO.alloc _) _ rfl _ t[k] rfl (by go_simp) (by omega) (by have := hbel.size; simp; omega) ?_; intro v' w1 hO1 hb1))
                  go_roundw
                  case rel => exact ⟨k + 1, _, by omega, by go_num, hO1, hU.plain hlt h1 h2, all_more hT hlt hp, hbel.alloc hbel.size _ |>.trans hb1⟩
                  case measure => simp [intOf]; omega
              · by_cases he : k + 1 < t.size
                · have hb := byte_bd t (k + 1) he
                  rcases hp : textI (t[k + 1].toNat) with _ | _
                  · go_wp2_with (go_at_call 157; refine (textByte_any _ _ hb.1 hb.2).mono ?_; rintro e w' ⟨rfl, rfl⟩)
                    go_ret2
                    exact ⟨by rw [HU.out, unqIn_not (textL_not he hp)]; rfl, hbel⟩
                  · have h92 : textI (t[k].toNat) = true := by have := eq_of_beq h2; rw [this]; rfl
                    have HA := Lib.hid (all_more (all_more hT hlt h92) he hp)
                    clear h92
                    go_wp2_with (first | (go_at_call 157; refine (textByte_any _ _ hb.1 hb.2).mono ?_; rintro e w' ⟨rfl, rfl⟩) | (at_builtin; refine wpList_append_byte _ rfl _ _ rfl w.heap.size _ acc rfl (hO.alloc _) _ rfl _ t[k + 1] rfl (by go_simp) (by omega) (by have := hbel.size; simp; omega) ?_; intro v' w1 hO1 hb1))
                    go_roundw
                    case rel => exact ⟨k + 1 + 1, _, by omega, by go_num, hO1, hU.esc hlt h2 he, HA.out, hbel.alloc hbel.size _ |>.trans hb1⟩
                    case measure => simp [intOf]; omega
                · go_wp2
                  go_ret2
                  exact ⟨by rw [HU.out, unqIn_none (hU.last hlt h2 (by omega))]; rfl, hbel⟩
            · go_wp2
              go_ret2
              exact ⟨by rw [HU.out, unqIn_none (hU.quote hlt h1)]; rfl, hbel⟩
          · have hst := hO.str
            go_wp2
            go_ret2
            exact ⟨by rw [HU.out, unqIn_text (textL_end hT (by omega)), hU.fin (by simp; omega)]; rfl, hbel⟩
      · go_enter Tryz.func128, Tryz.ntmps128
        go_wp2
        go_ret2
        exact ⟨by rw [unq_last hq h1]; rfl, Below.refl _ _⟩
    · go_enter Tryz.func128, Tryz.ntmps128
      go_wp2
      go_ret2
      exact ⟨by rw [unq_head hp h0]; rfl, Below.refl _ _⟩
end
section
open Go.RowKit
theorem rIndex61_is {s : ByteArray} {n : Int} {w : World} (hs : s.size ≤ maxLen) (h : Box (idxF s.data.toList 61 0 = n)) :
    Calls Tryz.prog 99 #[.string s, .int .u8 61, .int .i64 0] w fun e w' => e = .returned (.int .i64 n) ∧ w = w' :=
  (rIndex_any s 61 61 0 w hs (Nat.zero_le _) rfl).mono fun e w' ⟨h1, h2⟩ => ⟨by rw [h1, h.out], h2⟩
theorem rToken_is {s : ByteArray} {b : Bool} {w : World} (hs : s.size ≤ maxLen) (h : Box (tokL s.data.toList = b)) :
    Calls Tryz.prog 48 #[.string s] w fun e w' => e = .returned (.bool b) ∧ w = w' :=
  (rToken_any s w hs).mono fun e w' ⟨h1, h2⟩ => ⟨by rw [h1, h.out], h2⟩
theorem rUnq_is {s : ByteArray} {o : Option (List UInt8)} {w : World} (hs : s.size ≤ 4294967296) (h : Box (unqL s.data.toList = o)) :
    Calls Tryz.prog 128 #[.string s] w fun e w' => e = .returned (optV o) ∧ Below w.heap.size w w' :=
  (rUnquote_any s w hs).mono fun e w' ⟨h1, h2⟩ => ⟨by rw [h1, h.out], h2⟩
theorem rLower9_is {s x : ByteArray} {w : World} (hs : s.size ≤ 4294967296) (h : Box (bs (lowL s.data.toList) = x)) :
    Calls Tryz.prog 28 #[.string s] w fun e w' => e = .returned (.string x) ∧ Below w.heap.size w w' :=
  (rLower_any s w hs).mono fun e w' ⟨h1, h2⟩ => ⟨by rw [h1, ← h.out]; rfl, h2⟩
theorem idx_none {l : List UInt8} {c : UInt8} (h : Lib.indexByte l c = -1) : idxF l c 0 = -1 := by unfold idxF; rw [List.drop_zero, if_pos h]
theorem idx_some {l : List UInt8} {c : UInt8} {o : Nat} (h : Lib.indexByte l c = (o : Int)) : idxF l c 0 = (o : Int) := by
  unfold idxF; rw [List.drop_zero, if_neg (by omega), h]; simp
theorem idx_cases (l : List UInt8) (c : UInt8) : Lib.indexByte l c = -1 ∨ ∃ o : Nat, Lib.indexByte l c = (o : Int) ∧ o < l.length := by
  have hg := Lib.indexByte_ge l c
  by_cases h : Lib.indexByte l c = -1
  · exact .inl h
  · refine .inr ⟨(Lib.indexByte l c).toNat, by omega, ?_⟩
    exact (cut_at (l := l) (c := c) (k := (Lib.indexByte l c).toNat) (by omega)).1
theorem ext_take (x : ByteArray) (o : Nat) : (x.extract 0 o).data.toList = x.data.toList.take o := by rw [ext_bs, bs_toList, List.drop_zero]
theorem ext_drop (x : ByteArray) (o : Nat) : (x.extract o x.size).data.toList = x.data.toList.drop o := by rw [ext_bs, bs_toList, List.take_of_length_le (by simp)]
def ParRel (qs : List (List UInt8)) (B : Nat) (w : World) (v i : Value) (wr : World) : Prop :=
  ∃ (k : Nat) (acc : List F), i = .int .i64 k ∧ 1 ≤ k ∧ k ≤ qs.length ∧ acc.length ≤ k ∧ parF (qs.drop 1) [] = parF (qs.drop k) acc ∧ OwnP wr B v acc ∧ Below B w wr
def parW (w w' : World) (l : List UInt8) (e : Ending) : Prop := ∃ v, e = .returned (.tuple #[.string (parA l), v, .bool (parO l)]) ∧ OwnP w' w.heap.size v (parB l) ∧ Below w.heap.size w w'
theorem parW_none {w w' : World} {l : List UInt8} (h : parA l = ⟨#[]⟩ ∧ parB l = [] ∧ parO l = false) (hb : Below w.heap.size w w') : parW w w' l (.returned (.tuple #[.string ⟨#[]⟩, .slice none 0 0, .bool false])) := by
  obtain ⟨h1, h2, h3⟩ := h
  exact ⟨_, by rw [h1, h3], by rw [h2]; exact OwnP.nil _ _, hb⟩
set_option maxHeartbeats 4000000 in
theorem rPar_any (s : ByteArray) (w : World) (hs : s.size ≤ 65000) :
    Calls Tryz.prog 94 #[.string s] w fun e w' => parW w w' s.data.toList e := by
  have hz : s.data.toList.length = s.size := by simp
  obtain ⟨v0, ps, hqs⟩ := cut_first 59 s.data.toList
  obtain ⟨qs, hq⟩ : ∃ qs, qs = v0 :: ps := ⟨_, rfl⟩
  have hqs0 : 0 < qs.length := by rw [hq]; simp
  have hq0 : qs[0] = v0 := by subst hq; rfl
  have hq1 : qs.drop 1 = ps := by subst hq; rfl
  have HQ := box hqs
  rw [← hq] at hqs
  have hcnt : qs.length ≤ 65536 := by
    have := cut_count (sep := 59) s.data.toList.length false s.data.toList []
    rw [← hqs]; unfold cutL; omega
  have hsm : Box (∀ p ∈ qs, p.length ≤ 65000) := box (fun p hp => by
    rw [← hqs] at hp
    have := cut_small _ _ _ _ p hp
    simp at this; omega)
  have HCB : Box (cutsB 59 s.data.toList = qs.map bs) := box (by unfold cutsB; rw [hqs])
  have HQ0 := box hq0
  have HQ1 := box hq1
  clear hqs hz hq0 hq1 hq
  have hz0 : (bs qs[0]).size ≤ maxLen := by rw [bs_size]; have := hsm.out qs[0] (List.getElem_mem hqs0); unfold maxLen; omega
  by_cases ht : trimL v0 = []
  · have HT : Box (bs (trimL (bs qs[0]).data.toList) = ⟨#[]⟩) := box (by rw [bs_toList, HQ0.out, ht]; rfl)
    have HN := box (par_none0 HQ.out ht)
    clear ht
    go_enter Tryz.func94, Tryz.ntmps94
    go_wp2_with fail
    refine (rCut_any s 59 _ hs).mono ?_; rintro e w1 ⟨v1, rfl, hO1, hb1⟩
    rw [HCB.out] at hO1
    obtain ⟨a1, cap1, rfl, hS1, hc1⟩ := hO1.ss
    rw [List.length_map] at hc1 ⊢
    obtain ⟨q, off, rfl, c0⟩ := hS1 0 (by rw [List.length_map]; exact hqs0)
    rw [List.getElem_map, Nat.add_zero] at c0
    have B1 := box hb1
    clear hO1 hS1 hb1
    go_wp2_with fail
    refine (rTrim_is hz0 HT).mono ?_; rintro e w2 ⟨rfl, rfl⟩
    go_wp2
    go_ret3
    exact parW_none HN.out B1.out
  · obtain ⟨x0, hx0⟩ : ∃ x0, bs (trimL v0) = x0 := ⟨_, rfl⟩
    have HT : Box (bs (trimL (bs qs[0]).data.toList) = x0) := box (by rw [bs_toList, HQ0.out, hx0])
    have hxe : x0.toList.isEmpty = false := by
      rw [← hx0, toList_bs]
      cases h : trimL v0 with
      | nil => exact absurd h ht
      | cons c r => rfl
    have HX0 := box hx0
    have HNE := box ht
    clear hx0 ht
    go_enter Tryz.func94, Tryz.ntmps94
    go_wp2_with fail
    refine (rCut_any s 59 _ hs).mono ?_; rintro e w1 ⟨v1, rfl, hO1, hb1⟩
    rw [HCB.out] at hO1
    obtain ⟨a1, cap1, rfl, hS1, hc1⟩ := hO1.ss
    rw [List.length_map] at hc1 ⊢
    obtain ⟨q, off, rfl, c0⟩ := hS1 0 (by rw [List.length_map]; exact hqs0)
    rw [List.getElem_map, Nat.add_zero] at c0
    have S1 := box hS1
    have B1 := box hb1
    have hB1 := hb1.size
    clear hO1 hS1 hb1
    go_wp2_with fail
    refine (rTrim_is hz0 HT).mono ?_; rintro e w2 ⟨rfl, rfl⟩
    clear c0
    go_wp2
    go_loopw [7, 8] (fun v i wr => ParRel qs w1.heap.size w1 v i wr) (fun _ i _ => qs.length - (intOf i).toNat)
    case atStart => exact ⟨1, [], rfl, Nat.le_refl _, hqs0, Nat.zero_le _, rfl, OwnP.nil _ _, Below.refl _ _⟩
    case round =>
      obtain ⟨k, acc, rfl, hk1, hk, hak, hP, hO, hbel⟩ := hrel
      rw [HQ1.out] at hP
      have HP := box hP
      obtain ⟨av, cv, rfl, _, _⟩ := hO.fs
      have O0 := box hO
      have BL := box hbel
      have hBw := hbel.size
      clear hO hbel hP
      by_cases hlt : k < qs.length
      · have hmem := List.getElem_mem hlt
        obtain ⟨q', off', e, c1⟩ := (S1.out.below BL.out) k (by rw [List.length_map]; exact hlt)
        rw [List.getElem_map] at c1
        cases e
        have hpz : (bs qs[k]).size ≤ maxLen := by rw [bs_size]; have := hsm.out qs[k] hmem; unfold maxLen; omega
        have hdr : qs.drop k = qs[k] :: qs.drop (k + 1) := List.drop_eq_getElem_cons hlt
        by_cases ht : trimL qs[k] = []
        · have HTk : Box (bs (trimL (bs qs[k]).data.toList) = ⟨#[]⟩) := box (by rw [bs_toList, ht]; rfl)
          have HN : Box (parF ps [] = parF (qs.drop (k + 1)) acc) := box (by rw [HP.out, hdr, parF_skip ht])
          clear hdr ht
          go_wp2_with fail
          refine (rTrim_is hpz HTk).mono ?_; rintro e w2 ⟨rfl, rfl⟩
          go_wp2
          go_roundw
          case rel => exact ⟨k + 1, acc, by go_num, by omega, by omega, by omega, by rw [HQ1.out]; exact HN.out, O0.out, BL.out⟩
          case measure => simp [intOf]; omega
        · obtain ⟨X, hX⟩ : ∃ X, trimL qs[k] = X := ⟨_, rfl⟩
          obtain ⟨x, hx⟩ : ∃ x, bs X = x := ⟨_, rfl⟩
          have hxd : x.data.toList = X := by rw [← hx]; rfl
          have HTk : Box (bs (trimL (bs qs[k]).data.toList) = x) := box (by rw [bs_toList, hX, hx])
          have hxe : x.toList.isEmpty = false := by
            rw [← hx, toList_bs]
            cases h : X with
            | nil => exact absurd (hX.trans h) ht
            | cons c r => rfl
          have hxz : x.size ≤ 65000 := by
            rw [← hx, bs_size, ← hX]
            have := hsm.out qs[k] hmem
            have := trim_le qs[k]
            omega
          have hxm : x.size ≤ maxLen := by unfold maxLen; omega
          have hlx : x.data.toList.length = x.size := by simp
          clear hx
          have HNone : paramL x.data.toList = none → Box (parF ps [] = none) := fun h => box (by rw [HP.out, hdr, parF_bad ht (by rw [hX, ← hxd]; exact h)])
          have HSome : ∀ f, paramL x.data.toList = some f → Box (parF ps [] = parF (qs.drop (k + 1)) (acc ++ [f])) := fun f h => box (by rw [HP.out, hdr, parF_step ht (by rw [hX, ← hxd]; exact h)])
          have HSM := box HSome
          have HNO := box HNone
          clear HSome HNone hdr ht hX hxd
          rcases idx_cases x.data.toList 61 with hi | ⟨o, hi, ho⟩
          · have HI := box (idx_none hi)
            have HB := box (par_none1 HQ.out HNE.out (HNO.out (param_no hi)).out)
            clear hi hlx
            go_wp2_with fail
            refine (rTrim_is hpz HTk).mono ?_; rintro e w2 ⟨rfl, rfl⟩
            go_wp2_with fail
            refine (rIndex61_is hxm HI).mono ?_; rintro e w2 ⟨rfl, rfl⟩
            go_wp2
            go_ret3
            exact parW_none HB.out (B1.out.trans (BL.out.mono hB1))
          · rw [hlx] at ho
            have HI := box (idx_some hi)
            have hoz : (x.extract 0 o).size ≤ maxLen := by rw [ByteArray.size_extract]; unfold maxLen; omega
            have hoz4 : (x.extract 0 o).size ≤ 4294967296 := by rw [ByteArray.size_extract]; omega
            have hvz : (x.extract (o + 1) x.size).size ≤ maxLen := by rw [ByteArray.size_extract]; unfold maxLen; omega
            have hvz4 : (x.extract (o + 1) x.size).size ≤ 4294967296 := by rw [ByteArray.size_extract]; omega
            have e1 := ext_take x o
            have e2 := ext_drop x (o + 1)
            have HZ1 := box hoz
            have HZ2 := box hvz
            have HZ4 := box hvz4
            have HZ3 := box hoz4
            clear hlx hoz hvz hoz4 hvz4
            rcases htk : tokL (x.data.toList.take o) with _ | _
            · have HTK : Box (tokL (x.extract 0 o).data.toList = false) := box (by rw [e1]; exact htk)
              have HB := box (par_none1 HQ.out HNE.out (HNO.out (param_name hi htk)).out)
              clear hi htk e1 e2
              go_wp2_with fail
              refine (rTrim_is hpz HTk).mono ?_; rintro e w2 ⟨rfl, rfl⟩
              go_wp2_with fail
              refine (rIndex61_is hxm HI).mono ?_; rintro e w2 ⟨rfl, rfl⟩
              go_wp2_with fail
              refine (rToken_is HZ1.out HTK).mono ?_; rintro e w2 ⟨rfl, rfl⟩
              go_wp2
              go_ret3
              exact parW_none HB.out (B1.out.trans (BL.out.mono hB1))
            · have HTK : Box (tokL (x.extract 0 o).data.toList = true) := box (by rw [e1]; exact htk)
              obtain ⟨nm, hnm⟩ : ∃ nm, bs (lowL (x.data.toList.take o)) = nm := ⟨_, rfl⟩
              have HLW : Box (bs (lowL (x.extract 0 o).data.toList) = nm) := box (by rw [e1]; exact hnm)
              rcases hvk : tokL (x.data.toList.drop (o + 1)) with _ | _
              · have HVK : Box (tokL (x.extract (o + 1) x.size).data.toList = false) := box (by rw [e2]; exact hvk)
                rcases hu : unqL (x.data.toList.drop (o + 1)) with _ | u
                · have HU : Box (unqL (x.extract (o + 1) x.size).data.toList = none) := box (by rw [e2]; exact hu)
                  have HB := box (par_none1 HQ.out HNE.out (HNO.out (param_bad hi htk hvk hu)).out)
                  clear hi htk hvk hu e1 e2 hnm
                  go_wp2_with fail
                  refine (rTrim_is hpz HTk).mono ?_; rintro e w2 ⟨rfl, rfl⟩
                  go_wp2_with fail
                  refine (rIndex61_is hxm HI).mono ?_; rintro e w2 ⟨rfl, rfl⟩
                  go_wp2_with fail
                  refine (rToken_is HZ1.out HTK).mono ?_; rintro e w2 ⟨rfl, rfl⟩
                  go_wp2_with fail
                  refine (rToken_is HZ2.out HVK).mono ?_; rintro e w2 ⟨rfl, rfl⟩
                  go_wp2_with fail
                  refine (rUnq_is HZ4.out HU).mono ?_; rintro e w3 ⟨rfl, hb3⟩
                  have B3 := box (BL.out.trans (hb3.mono BL.out.size))
                  unfold optV
                  clear hb3
                  go_wp2
                  go_ret3
                  exact parW_none HB.out (B1.out.trans (B3.out.mono hB1))
                · obtain ⟨ub, hub⟩ : ∃ ub, bs u = ub := ⟨_, rfl⟩
                  have HU : Box (unqL (x.extract (o + 1) x.size).data.toList = some u) := box (by rw [e2]; exact hu)
                  have HN : Box (parF ps [] = parF (qs.drop (k + 1)) (acc ++ [(nm, ub)])) := box (by have := (HSM.out _ (param_quo hi htk hvk hu)).out; rw [hnm, hub] at this; exact this)
                  have HUB := box hub
                  clear hi htk hvk hu e1 e2 hnm hub
                  go_wp2_with fail
                  refine (rTrim_is hpz HTk).mono ?_; rintro e w2 ⟨rfl, rfl⟩
                  go_wp2_with fail
                  refine (rIndex61_is hxm HI).mono ?_; rintro e w2 ⟨rfl, rfl⟩
                  go_wp2_with fail
                  refine (rToken_is HZ1.out HTK).mono ?_; rintro e w2 ⟨rfl, rfl⟩
                  go_wp2_with fail
                  refine (rToken_is HZ2.out HVK).mono ?_; rintro e w2 ⟨rfl, rfl⟩
                  go_wp2_with fail
                  refine (rUnq_is HZ4.out HU).mono ?_; rintro e w3 ⟨rfl, hb3⟩
                  rw [show optV (some u) = .tuple #[.string (bs u), .bool true] from rfl, HUB.out]
                  have O3 := box (own_below O0.out hb3)
                  have B3 := box (BL.out.trans (hb3.mono BL.out.size))
                  clear hb3
                  go_wp2_with fail
                  refine (rLower9_is (x := nm) HZ3.out HLW).mono ?_; rintro e w4 ⟨rfl, hb4⟩
                  have O4 := box (own_below O3.out hb4)
                  have B4 := box (B3.out.trans (hb4.mono B3.out.size))
                  clear hb4
                  go_wp2_with (at_builtin; refine wpList_append_prm _ rfl (.tmp 61) (.tmp 68) rfl w1.heap.size _ acc rfl ?a1 _ _ rfl nm ub ?b1 ?b2 ?c1 ?d1 ?_)
                  case a1 => exact own_below O4.out (below_new _ _)
                  case b1 => go_simp
                  case b2 => go_simp
                  case c1 => omega
                  case d1 => have := B4.out.size; simp; omega
                  intro v5 w5 hO5 hb5
                  have O5 := box hO5
                  have B5 := box ((B4.out.alloc B4.out.size _).trans hb5)
                  clear hO5 hb5
                  go_wp2
                  go_roundw
                  case rel => exact ⟨k + 1, acc ++ [(nm, ub)], by go_num, by omega, by omega, by rw [List.length_append]; simp; omega, by rw [HQ1.out]; exact HN.out, O5.out, B5.out⟩
                  case measure => simp [intOf]; omega
              · have HVK : Box (tokL (x.extract (o + 1) x.size).data.toList = true) := box (by rw [e2]; exact hvk)
                obtain ⟨vb, hvb⟩ : ∃ vb, bs (x.data.toList.drop (o + 1)) = vb := ⟨_, rfl⟩
                have hve : x.extract (o + 1) x.size = vb := by rw [← hvb, ← e2]; rfl
                have HN : Box (parF ps [] = parF (qs.drop (k + 1)) (acc ++ [(nm, x.extract (o + 1) x.size)])) := box (by have := (HSM.out _ (param_tok hi htk hvk)).out; rw [hnm, hvb] at this; rw [hve]; exact this)
                clear hi htk hvk e1 e2 hnm hvb hve
                go_wp2_with fail
                refine (rTrim_is hpz HTk).mono ?_; rintro e w2 ⟨rfl, rfl⟩
                go_wp2_with fail
                refine (rIndex61_is hxm HI).mono ?_; rintro e w2 ⟨rfl, rfl⟩
                go_wp2_with fail
                refine (rToken_is HZ1.out HTK).mono ?_; rintro e w2 ⟨rfl, rfl⟩
                go_wp2_with fail
                refine (rToken_is HZ2.out HVK).mono ?_; rintro e w2 ⟨rfl, rfl⟩
                go_wp2_with fail
                refine (rLower9_is (x := nm) HZ3.out HLW).mono ?_; rintro e w4 ⟨rfl, hb4⟩
                have O4 := box (own_below O0.out hb4)
                have B4 := box (BL.out.trans (hb4.mono BL.out.size))
                clear hb4
                go_wp2_with (at_builtin; refine wpList_append_prm _ rfl (.tmp 61) (.tmp 68) rfl w1.heap.size _ acc rfl ?a1 _ _ rfl nm (x.extract (o + 1) x.size) ?b1 ?b2 ?c1 ?d1 ?_)
                case a1 => exact own_below O4.out (below_new _ _)
                case b1 => go_simp
                case b2 => go_simp
                case c1 => omega
                case d1 => have := B4.out.size; simp; omega
                intro v5 w5 hO5 hb5
                have O5 := box hO5
                have B5 := box ((B4.out.alloc B4.out.size _).trans hb5)
                clear hO5 hb5
                go_wp2
                go_roundw
                case rel => exact ⟨k + 1, acc ++ [(nm, x.extract (o + 1) x.size)], by go_num, by omega, by omega, by rw [List.length_append]; simp; omega, by rw [HQ1.out]; exact HN.out, O5.out, B5.out⟩
                case measure => simp [intOf]; omega
      · have HD : Box (parA s.data.toList = x0 ∧ parB s.data.toList = acc ∧ parO s.data.toList = true) := box (by
          have := par_some HQ.out HNE.out (HP.out.trans (by rw [List.drop_of_length_le (by omega)]; rfl))
          rwa [HX0.out] at this)
        go_wp2
        go_ret3
        obtain ⟨d1, d2, d3⟩ := HD.out
        exact ⟨_, by rw [d1, d3]; rfl, by rw [d2]; exact Go.Joins.ownsRow_le O0.out hB1, B1.out.trans (BL.out.mono hB1)⟩
end
section
open Go.RowKit
def medW (w w' : World) (o : Option M) (e : Ending) : Prop := ∃ v, e = .returned (.tuple #[.agg #[.string (ofM o).1, .string (ofM o).2.1, v], .bool o.isSome]) ∧ OwnP w' w.heap.size v (ofM o).2.2 ∧ Below w.heap.size w w'
theorem medW_none {w w' : World} {o : Option M} (h : Box (o = none)) (hb : Below w.heap.size w w') : medW w w' o (.returned (.tuple #[.agg #[.string ⟨#[]⟩, .string ⟨#[]⟩, .slice none 0 0], .bool false])) := by
  rw [h.out]
  exact ⟨_, rfl, OwnP.nil _ _, hb⟩
theorem medW_some {w w' : World} {o : Option M} {a b : ByteArray} {L : List F} {v : Value} (h : Box (o = some (a, b, L))) (hO : OwnP w' w.heap.size v L) (hb : Below w.heap.size w w') : medW w w' o (.returned (.tuple #[.agg #[.string a, .string b, v], .bool true])) := by
  rw [h.out]
  exact ⟨_, rfl, hO, hb⟩
theorem rIndex47_is {s : ByteArray} {n : Int} {w : World} (hs : s.size ≤ maxLen) (h : Box (idxF s.data.toList 47 0 = n)) :
    Calls Tryz.prog 99 #[.string s, .int .u8 47, .int .i64 0] w fun e w' => e = .returned (.int .i64 n) ∧ w = w' :=
  (rIndex_any s 47 47 0 w hs (Nat.zero_le _) rfl).mono fun e w' ⟨h1, h2⟩ => ⟨by rw [h1, h.out], h2⟩
/-- ParseParams with its results as letters -/
theorem rParO_is {s x : ByteArray} {K : List F} {b : Bool} {w : World} (hs : s.size ≤ 65000) (h : Box (parA s.data.toList = x ∧ parB s.data.toList = K ∧ parO s.data.toList = b)) :
    Calls Tryz.prog 94 #[.string s] w fun e w' => ∃ a cap, e = .returned (.tuple #[.string x, .slice a K.length cap, .bool b]) ∧ OwnP w' w.heap.size (.slice a K.length cap) K ∧ Below w.heap.size w w' :=
  (rPar_any s w hs).mono fun e w' ⟨v, h1, h2, h3⟩ => by
    obtain ⟨rfl, rfl, rfl⟩ := h.out
    obtain ⟨a, cap, rfl, hS, hc⟩ := h2.fs
    exact ⟨a, cap, h1, h2, h3⟩
theorem star_is {x : ByteArray} {b : Bool} (h : (x.toList == [42]) = b) : (x.data.toList = [42]) ↔ b = true := by
  rw [toList_data] at h
  subst h; simp
theorem parA_size (s : ByteArray) : (parA s.data.toList).size ≤ s.size := by
  obtain ⟨v, ps, hq⟩ := cut_first 59 s.data.toList
  have hsm := cut_small (sep := 59) s.data.toList.length false s.data.toList [] v (by rw [show cutF 59 s.data.toList.length false s.data.toList [] = v :: ps from hq]; simp)
  have hz : s.data.toList.length = s.size := by simp
  simp only [List.length_nil, Nat.zero_add] at hsm
  by_cases ht : trimL v = []
  · rw [(par_none0 hq ht).1]; exact Nat.zero_le _
  · cases hp : parF ps [] with
    | none => rw [(par_none1 hq ht hp).1]; exact Nat.zero_le _
    | some L =>
      rw [(par_some hq ht hp).1, bs_size]
      have := trim_le v
      omega
set_option maxHeartbeats 1000000 in
theorem rRange_ok (s x : ByteArray) (K : List F) (o : Nat) (nm sb : ByteArray) (w : World) (hs : s.size ≤ 65000) (hxz : x.size ≤ 65000) (ho : o < x.size)
    (H : Box (parA s.data.toList = x ∧ parB s.data.toList = K ∧ parO s.data.toList = true)) (HI : Box (idxF x.data.toList 47 0 = (o : Int))) (HK1 : Box (tokL (x.extract 0 o).data.toList = true)) (HK2 : Box (tokL (x.extract (o + 1) x.size).data.toList = true))
    (b1 b2 : Bool) (q1 : ((x.extract 0 o).toList == [42]) = b1) (q2 : ((x.extract (o + 1) x.size).toList == [42]) = b2) (q3 : b1 = true → b2 = true)
    (HL1 : Box (bs (lowL (x.extract 0 o).data.toList) = nm)) (HL2 : Box (bs (lowL (x.extract (o + 1) x.size).data.toList) = sb)) :
    Calls Tryz.prog 62 #[.string s] w fun e w' => ∃ v, e = .returned (.tuple #[.agg #[.string nm, .string sb, v], .bool true]) ∧ OwnP w' w.heap.size v K ∧ Below w.heap.size w w' := by
  have hxm : x.size ≤ maxLen := by unfold maxLen; omega
  have hoz : (x.extract 0 o).size ≤ maxLen := by rw [ByteArray.size_extract]; unfold maxLen; omega
  have hoz4 : (x.extract 0 o).size ≤ 4294967296 := by rw [ByteArray.size_extract]; omega
  have hvz : (x.extract (o + 1) x.size).size ≤ maxLen := by rw [ByteArray.size_extract]; unfold maxLen; omega
  have hvz4 : (x.extract (o + 1) x.size).size ≤ 4294967296 := by rw [ByteArray.size_extract]; omega
  have HZ1 := box hoz
  have HZ2 := box hvz
  have HZ4 := box hvz4
  have HZ3 := box hoz4
  have i1 : (o : Int) ≤ (x.size : Int) := by omega
  have i2 : (0 : Int) ≤ (o : Int) + 1 := by omega
  have i3 : (o : Int) + 1 ≤ (x.size : Int) := by omega
  have i4 : IntKind.i64.wrap ((o : Int) + 1) = (o : Int) + 1 := by simp [IntKind.wrap, IntKind.bits, IntKind.signed]; omega
  obtain ⟨p1, hp1⟩ : ∃ p, x.extract 0 o = p := ⟨_, rfl⟩
  obtain ⟨p2, hp2⟩ : ∃ p, x.extract (o + 1) x.size = p := ⟨_, rfl⟩
  have HP1 := box hp1
  have HP2 := box hp2
  have HM1 : Box (bs (lowL p1.data.toList) = nm) := box (by rw [← hp1]; exact HL1.out)
  have HM2 : Box (bs (lowL p2.data.toList) = sb) := box (by rw [← hp2]; exact HL2.out)
  have hy1 : p1.size ≤ 4294967296 := by rw [← hp1]; exact hoz4
  have hy2 : p2.size ≤ 4294967296 := by rw [← hp2]; exact hvz4
  clear hoz hvz hoz4 hvz4 hp1 hp2
  have hq : b1 = false ∨ (b1 = true ∧ b2 = true) := by cases b1 <;> simp_all
  rcases hq with rfl | ⟨rfl, rfl⟩
  · go_enter Tryz.func62, Tryz.ntmps62
    go_wp2_with fail
    refine (rParO_is hs H).mono ?_; rintro e w1 ⟨a1, cap1, rfl, hO1, hb1⟩
    have O1 := box hO1
    have C1 := box ((C3.new (.string ⟨#[]⟩) (.string ⟨#[]⟩) (.slice none 0 0) w 77).next hb1)
    have B1 := box ((below_new w _).trans (hb1.mono (below_new w _).size))
    clear hO1 hb1
    go_wp2_with fail
    refine (rIndex47_is hxm HI).mono ?_; rintro e w2 ⟨rfl, rfl⟩
    go_wp2_with fail
    refine (rToken_is HZ1.out HK1).mono ?_; rintro e w2 ⟨rfl, rfl⟩
    go_wp2_with fail
    refine (rToken_is HZ2.out HK2).mono ?_; rintro e w2 ⟨rfl, rfl⟩
    go_wp2
    go_region_held3 (fun w' => True) (first | trivial)
      (first
        | (go_at_call 28; rw [HP1.out]; refine (rLower9_is (s := p1) hy1 HM1).mono ?_; rintro e w3 ⟨rfl, hb3⟩)
        | (go_at_call 28; rw [HP2.out]; refine (rLower9_is (s := p2) hy2 HM2).mono ?_; rintro e w4 ⟨rfl, hb4⟩; obtain ⟨⟨r0, r1, r2⟩, ⟨f0, f1, f2⟩⟩ := ((C1.out.next (Below.refl _ _).drew).next hb3).next hb4))
    all_goals
      have O4 := own_below (own_below O1.out (Below.refl _ _).drew) (hb3.trans (hb4.mono hb3.size))
      have B4 := (B1.out.drew).trans ((hb3.trans (hb4.mono hb3.size)).mono B1.out.size)
      clear hb3 hb4
      go_wp2
      (try simp only [Exit.inBlock, Exit.then])
      refine bodyPost_ret (v := .tuple #[.agg #[.string nm, .string sb, .slice a1 K.length cap1], .bool true]) (by rw [results_cell_tmp rfl]; go_simp) rfl ?_
      exact ⟨_, rfl, own_le (own_only O4 (only3 _ _ _ _ _) (by simp)) (by simp), below3 B4 (Nat.le_refl _) _ _ _⟩
  · go_enter Tryz.func62, Tryz.ntmps62
    go_wp2_with fail
    refine (rParO_is hs H).mono ?_; rintro e w1 ⟨a1, cap1, rfl, hO1, hb1⟩
    have O1 := box hO1
    have C1 := box ((C3.new (.string ⟨#[]⟩) (.string ⟨#[]⟩) (.slice none 0 0) w 77).next hb1)
    have B1 := box ((below_new w _).trans (hb1.mono (below_new w _).size))
    clear hO1 hb1
    go_wp2_with fail
    refine (rIndex47_is hxm HI).mono ?_; rintro e w2 ⟨rfl, rfl⟩
    go_wp2_with fail
    refine (rToken_is HZ1.out HK1).mono ?_; rintro e w2 ⟨rfl, rfl⟩
    go_wp2_with fail
    refine (rToken_is HZ2.out HK2).mono ?_; rintro e w2 ⟨rfl, rfl⟩
    go_wp2
    go_region_held3 (fun w' => True) (first | trivial)
      (first
        | (go_at_call 28; rw [HP1.out]; refine (rLower9_is (s := p1) hy1 HM1).mono ?_; rintro e w3 ⟨rfl, hb3⟩)
        | (go_at_call 28; rw [HP2.out]; refine (rLower9_is (s := p2) hy2 HM2).mono ?_; rintro e w4 ⟨rfl, hb4⟩; obtain ⟨⟨r0, r1, r2⟩, ⟨f0, f1, f2⟩⟩ := ((C1.out.next (Below.refl _ _).drew).next hb3).next hb4))
    all_goals
      have O4 := own_below (own_below O1.out (Below.refl _ _).drew) (hb3.trans (hb4.mono hb3.size))
      have B4 := (B1.out.drew).trans ((hb3.trans (hb4.mono hb3.size)).mono B1.out.size)
      clear hb3 hb4
      go_wp2
      (try simp only [Exit.inBlock, Exit.then])
      refine bodyPost_ret (v := .tuple #[.agg #[.string nm, .string sb, .slice a1 K.length cap1], .bool true]) (by rw [results_cell_tmp rfl]; go_simp) rfl ?_
      exact ⟨_, rfl, own_le (own_only O4 (only3 _ _ _ _ _) (by simp)) (by simp), below3 B4 (Nat.le_refl _) _ _ _⟩
set_option maxHeartbeats 4000000 in
theorem rRange_any (s : ByteArray) (w : World) (hs : s.size ≤ 65000) :
    Calls Tryz.prog 62 #[.string s] w fun e w' => medW w w' (rangeL s.data.toList) e := by
  obtain ⟨x, hx⟩ : ∃ x, parA s.data.toList = x := ⟨_, rfl⟩
  obtain ⟨K, hK⟩ : ∃ K, parB s.data.toList = K := ⟨_, rfl⟩
  have hxz : x.size ≤ 65000 := by rw [← hx]; exact Nat.le_trans (parA_size s) hs
  rcases hb : parO s.data.toList with _ | _
  · have H := box (And.intro hx (And.intro hK hb))
    have HR := box (range_par hb)
    clear hx hK hb
    go_enter Tryz.func62, Tryz.ntmps62
    go_wp2_with fail
    refine (rParO_is hs H).mono ?_; rintro e w1 ⟨a1, cap1, rfl, hO1, hb1⟩
    have O1 := box hO1
    have C1 := box ((C3.new (.string ⟨#[]⟩) (.string ⟨#[]⟩) (.slice none 0 0) w 77).next hb1)
    have B1 := box ((below_new w _).trans (hb1.mono (below_new w _).size))
    clear hO1 hb1
    obtain ⟨⟨r0, r1, r2⟩, ⟨f0, f1, f2⟩⟩ := C1.out
    go_wp2
    (try simp only [Exit.inBlock, Exit.then])
    refine bodyPost_ret (v := .tuple #[.agg #[.string ⟨#[]⟩, .string ⟨#[]⟩, .slice none 0 0], .bool false]) (by rw [results_cell_tmp rfl]; go_simp) rfl ?_
    exact medW_none HR (below3 B1.out (Nat.le_refl _) _ _ _)
  · have H := box (And.intro hx (And.intro hK hb))
    have HT := range_type hb hx
    rw [hK] at HT
    have hxm : x.size ≤ maxLen := by unfold maxLen; omega
    have hlx : x.data.toList.length = x.size := by simp
    clear hx hK hb
    rcases idx_cases x.data.toList 47 with hi | ⟨o, hi, ho⟩
    · have HI := box (idx_none hi)
      have HR : Box (rangeL s.data.toList = none) := box (by rw [HT, type_no hi]; rfl)
      clear hi hlx HT
      go_enter Tryz.func62, Tryz.ntmps62
      go_wp2_with fail
      refine (rParO_is hs H).mono ?_; rintro e w1 ⟨a1, cap1, rfl, hO1, hb1⟩
      have O1 := box hO1
      have C1 := box ((C3.new (.string ⟨#[]⟩) (.string ⟨#[]⟩) (.slice none 0 0) w 77).next hb1)
      have B1 := box ((below_new w _).trans (hb1.mono (below_new w _).size))
      clear hO1 hb1
      go_wp2_with fail
      refine (rIndex47_is hxm HI).mono ?_; rintro e w2 ⟨rfl, rfl⟩
      obtain ⟨⟨r0, r1, r2⟩, ⟨f0, f1, f2⟩⟩ := C1.out
      go_wp2
      (try simp only [Exit.inBlock, Exit.then])
      refine bodyPost_ret (v := .tuple #[.agg #[.string ⟨#[]⟩, .string ⟨#[]⟩, .slice none 0 0], .bool false]) (by rw [results_cell_tmp rfl]; go_simp) rfl ?_
      exact medW_none HR (below3 B1.out (Nat.le_refl _) _ _ _)
    · rw [hlx] at ho
      have HI := box (idx_some hi)
      have hoz : (x.extract 0 o).size ≤ maxLen := by rw [ByteArray.size_extract]; unfold maxLen; omega
      have hoz4 : (x.extract 0 o).size ≤ 4294967296 := by rw [ByteArray.size_extract]; omega
      have hvz : (x.extract (o + 1) x.size).size ≤ maxLen := by rw [ByteArray.size_extract]; unfold maxLen; omega
      have hvz4 : (x.extract (o + 1) x.size).size ≤ 4294967296 := by rw [ByteArray.size_extract]; omega
      have e1 := ext_take x o
      have e2 := ext_drop x (o + 1)
      have HZ1 := box hoz
      have HZ2 := box hvz
      have HZ4 := box hvz4
      have HZ3 := box hoz4
      clear hlx hoz hvz hoz4 hvz4
      rcases htk : tokL (x.data.toList.take o) with _ | _
      · have HK1 : Box (tokL (x.extract 0 o).data.toList = false) := box (by rw [e1]; exact htk)
        have HR : Box (rangeL s.data.toList = none) := box (by rw [HT, type_tok1 hi htk]; rfl)
        clear hi htk e1 e2 HT
        go_enter Tryz.func62, Tryz.ntmps62
        go_wp2_with fail
        refine (rParO_is hs H).mono ?_; rintro e w1 ⟨a1, cap1, rfl, hO1, hb1⟩
        have O1 := box hO1
        have C1 := box ((C3.new (.string ⟨#[]⟩) (.string ⟨#[]⟩) (.slice none 0 0) w 77).next hb1)
        have B1 := box ((below_new w _).trans (hb1.mono (below_new w _).size))
        clear hO1 hb1
        go_wp2_with fail
        refine (rIndex47_is hxm HI).mono ?_; rintro e w2 ⟨rfl, rfl⟩
        go_wp2_with fail
        refine (rToken_is HZ1.out HK1).mono ?_; rintro e w2 ⟨rfl, rfl⟩
        obtain ⟨⟨r0, r1, r2⟩, ⟨f0, f1, f2⟩⟩ := C1.out
        go_wp2
        (try simp only [Exit.inBlock, Exit.then])
        refine bodyPost_ret (v := .tuple #[.agg #[.string ⟨#[]⟩, .string ⟨#[]⟩, .slice none 0 0], .bool false]) (by rw [results_cell_tmp rfl]; go_simp) rfl ?_
        exact medW_none HR (below3 B1.out (Nat.le_refl _) _ _ _)
      · have HK1 : Box (tokL (x.extract 0 o).data.toList = true) := box (by rw [e1]; exact htk)
        rcases hvk : tokL (x.data.toList.drop (o + 1)) with _ | _
        · have HK2 : Box (tokL (x.extract (o + 1) x.size).data.toList = false) := box (by rw [e2]; exact hvk)
          have HR : Box (rangeL s.data.toList = none) := box (by rw [HT, type_tok2 hi htk hvk]; rfl)
          clear hi htk hvk e1 e2 HT
          go_enter Tryz.func62, Tryz.ntmps62
          go_wp2_with fail
          refine (rParO_is hs H).mono ?_; rintro e w1 ⟨a1, cap1, rfl, hO1, hb1⟩
          have O1 := box hO1
          have C1 := box ((C3.new (.string ⟨#[]⟩) (.string ⟨#[]⟩) (.slice none 0 0) w 77).next hb1)
          have B1 := box ((below_new w _).trans (hb1.mono (below_new w _).size))
          clear hO1 hb1
          go_wp2_with fail
          refine (rIndex47_is hxm HI).mono ?_; rintro e w2 ⟨rfl, rfl⟩
          go_wp2_with fail
          refine (rToken_is HZ1.out HK1).mono ?_; rintro e w2 ⟨rfl, rfl⟩
          go_wp2_with fail
          refine (rToken_is HZ2.out HK2).mono ?_; rintro e w2 ⟨rfl, rfl⟩
          obtain ⟨⟨r0, r1, r2⟩, ⟨f0, f1, f2⟩⟩ := C1.out
          go_wp2
          (try simp only [Exit.inBlock, Exit.then])
          refine bodyPost_ret (v := .tuple #[.agg #[.string ⟨#[]⟩, .string ⟨#[]⟩, .slice none 0 0], .bool false]) (by rw [results_cell_tmp rfl]; go_simp) rfl ?_
          exact medW_none HR (below3 B1.out (Nat.le_refl _) _ _ _)
        · have HK2 : Box (tokL (x.extract (o + 1) x.size).data.toList = true) := box (by rw [e2]; exact hvk)
          rcases hs1 : ((x.extract 0 o).toList == [42]) with _ | _
          · have hn : ¬ (x.data.toList.take o = [42] ∧ x.data.toList.drop (o + 1) ≠ [42]) := by
              rw [← e1, star_is hs1]; simp
            obtain ⟨nm, hnm⟩ : ∃ nm, bs (lowL (x.data.toList.take o)) = nm := ⟨_, rfl⟩
            obtain ⟨sb, hsb⟩ : ∃ sb, bs (lowL (x.data.toList.drop (o + 1))) = sb := ⟨_, rfl⟩
            have HL1 : Box (bs (lowL (x.extract 0 o).data.toList) = nm) := box (by rw [e1]; exact hnm)
            have HL2 : Box (bs (lowL (x.extract (o + 1) x.size).data.toList) = sb) := box (by rw [e2]; exact hsb)
            have HR : Box (rangeL s.data.toList = some (nm, sb, K)) := box (by rw [HT, type_ok hi htk hvk hn, hnm, hsb]; rfl)
            clear hi htk hvk e1 e2 HT hn hnm hsb
            refine (rRange_ok s x K o nm sb w hs hxz ho H HI HK1 HK2 false _ hs1 rfl (by simp) HL1 HL2).mono ?_
            rintro e w' ⟨v, rfl, hO, hb⟩
            exact medW_some HR hO hb
          · rcases hs2 : ((x.extract (o + 1) x.size).toList == [42]) with _ | _
            · have hst : x.data.toList.take o = [42] ∧ x.data.toList.drop (o + 1) ≠ [42] := by
                rw [← e1, ← e2, star_is hs1]
                refine ⟨rfl, fun h => ?_⟩
                have := (star_is hs2).mp h
                simp at this
              have HR : Box (rangeL s.data.toList = none) := box (by rw [HT, type_star hi htk hvk hst]; rfl)
              clear hi htk hvk e1 e2 HT hst
              go_enter Tryz.func62, Tryz.ntmps62
              go_wp2_with fail
              refine (rParO_is hs H).mono ?_; rintro e w1 ⟨a1, cap1, rfl, hO1, hb1⟩
              have O1 := box hO1
              have C1 := box ((C3.new (.string ⟨#[]⟩) (.string ⟨#[]⟩) (.slice none 0 0) w 77).next hb1)
              have B1 := box ((below_new w _).trans (hb1.mono (below_new w _).size))
              clear hO1 hb1
              go_wp2_with fail
              refine (rIndex47_is hxm HI).mono ?_; rintro e w2 ⟨rfl, rfl⟩
              go_wp2_with fail
              refine (rToken_is HZ1.out HK1).mono ?_; rintro e w2 ⟨rfl, rfl⟩
              go_wp2_with fail
              refine (rToken_is HZ2.out HK2).mono ?_; rintro e w2 ⟨rfl, rfl⟩
              obtain ⟨⟨r0, r1, r2⟩, ⟨f0, f1, f2⟩⟩ := C1.out
              go_wp2
              (try simp only [Exit.inBlock, Exit.then])
              refine bodyPost_ret (v := .tuple #[.agg #[.string ⟨#[]⟩, .string ⟨#[]⟩, .slice none 0 0], .bool false]) (by rw [results_cell_tmp rfl]; go_simp) rfl ?_
              exact medW_none HR (below3 B1.out (Nat.le_refl _) _ _ _)
            · have hn : ¬ (x.data.toList.take o = [42] ∧ x.data.toList.drop (o + 1) ≠ [42]) := by
                rw [← e2, not_and]
                intro _ h
                exact h ((star_is hs2).mpr rfl)
              obtain ⟨nm, hnm⟩ : ∃ nm, bs (lowL (x.data.toList.take o)) = nm := ⟨_, rfl⟩
              obtain ⟨sb, hsb⟩ : ∃ sb, bs (lowL (x.data.toList.drop (o + 1))) = sb := ⟨_, rfl⟩
              have HL1 : Box (bs (lowL (x.extract 0 o).data.toList) = nm) := box (by rw [e1]; exact hnm)
              have HL2 : Box (bs (lowL (x.extract (o + 1) x.size).data.toList) = sb) := box (by rw [e2]; exact hsb)
              have HR : Box (rangeL s.data.toList = some (nm, sb, K)) := box (by rw [HT, type_ok hi htk hvk hn, hnm, hsb]; rfl)
              clear hi htk hvk e1 e2 HT hn hnm hsb
              refine (rRange_ok s x K o nm sb w hs hxz ho H HI HK1 HK2 true true hs1 hs2 (by simp) HL1 HL2).mono ?_
              rintro e w' ⟨v, rfl, hO, hb⟩
              exact medW_some HR hO hb
end
section
open Go.RowKit
set_option maxHeartbeats 400000 in
theorem Quote_any (s : ByteArray) (w : World) (hs : s.size ≤ 1073741824) :
    Calls Tryz.prog 105 #[.string s] w fun e w' => e = .returned (.string ⟨(quoteL s.data.toList).toArray⟩) ∧ Below w.heap.size w w' := by
  obtain ⟨i0, hi0, hz0, hz1, hz2⟩ := info_parts info_u8
  have hmk := fun (w : World) => run_make (P := Tryz.prog) w 59 5 i0 _ Tryz.underlying59 hi0 hz0 .i64 .i64 0 (s.size + 2) (by omega) (by omega) (by rw [hz2]; omega) (by omega)
  have e2 : ((s.size : Int) + 2).toNat = s.size + 2 := by omega
  simp only [hz1, Nat.mul_one, e2] at hmk
  clear e2 hz0 hz1 hz2 hi0
  have hO0 : Own (w.alloc (.cells (madeCells #[.int .u8 0] (s.size + 2)) 5)) w.heap.size (.slice (some ⟨w.heap.size, 0, none⟩) 0 (s.size + 2)) [] :=
    ⟨rfl, .inr ⟨_, _, _, rfl, Nat.le_refl _, heap_alloc_new w _, Nat.zero_le _, by unfold maxLen; omega, by simp [size_madeCells], rfl⟩⟩
  have hbel0 : Below w.heap.size w (w.alloc (.cells (madeCells #[.int .u8 0] (s.size + 2)) 5)) := (Below.refl _ _).alloc (Nat.le_refl _) _
  go_enter Tryz.func105, Tryz.ntmps105
  go_wp2_with (at_builtin; refine wpList_append_byte _ rfl (.tmp 9) (.tmp 10) rfl w.heap.size _ _ rfl (hO0.alloc _) _ rfl 34 34 (by decide) (by go_simp) (by simp) (by have := (hbel0).size; simp; omega) ?_; intro v0 w0 hO00 hb00; have hb00' := hbel0 |>.alloc (hbel0).size _ |>.trans hb00)
  clear hO0 hmk
  go_loopw [3, 4, 14] (fun v _ i wr => ∃ k : Nat, k ≤ s.size ∧ i = .int .i64 k ∧ Own wr w.heap.size v ([34] ++ escL (s.data.toList.take k)) ∧ Below w.heap.size w wr) (fun _ _ i _ => s.size - (intOf i).toNat)
  case atStart => exact ⟨0, Nat.zero_le _, rfl, by simpa [escL] using hO00, hb00'⟩
  case round =>
    obtain ⟨k, hk, rfl, hO, hbel⟩ := hrel
    have hle := escL_le' s k
    have hl0 : ([34] ++ escL (s.data.toList.take k)).length < 4294967296 := by simp; omega
    clear hle
    by_cases hlt : k < s.size
    · rcases h1 : ((s[k].toNat : Int) == 34) with _ | _
      · rcases h2 : ((s[k].toNat : Int) == 92) with _ | _
        · have HE := Lib.hid (esc_plain hlt h1 h2)
          go_wp2_with (at_builtin; refine wpList_append_byte _ rfl (.tmp 26) (.tmp 30) rfl w.heap.size _ _ rfl (hO.alloc _) _ rfl _ s[k] rfl (by go_simp) (by omega) (by have := (hbel).size; simp; omega) ?_; intro v1 w1 hO1 hb1; have hb1' := hbel |>.alloc (hbel).size _ |>.trans hb1)
          go_roundw
          case rel => exact ⟨k + 1, by omega, by go_num, by rw [HE.out]; simpa using hO1, hb1'⟩
          case measure => simp [intOf]; omega
        ·
          have HE := Lib.hid (esc_b hlt h2)
          go_wp2_with (first | (at_builtin; refine wpList_append_byte _ rfl (.tmp 23) (.tmp 24) rfl w.heap.size _ _ rfl (hO.alloc _) _ rfl 92 92 (by decide) (by go_simp) (by omega) (by have := (hbel).size; simp; omega) ?_; intro v1 w1 hO1 hb1; have hb1' := hbel |>.alloc (hbel).size _ |>.trans hb1) | (at_builtin; refine wpList_append_byte _ rfl (.tmp 26) (.tmp 30) rfl w.heap.size _ _ rfl (hO1.alloc _) _ rfl _ s[k] rfl (by go_simp) (by simp at hl0 ⊢; omega) (by have := (hb1').size; simp; omega) ?_; intro v2 w2 hO2 hb2; have hb2' := hb1' |>.alloc (hb1').size _ |>.trans hb2))
          go_roundw
          case rel => exact ⟨k + 1, by omega, by go_num, by rw [HE.out]; simpa using hO2, hb2'⟩
          case measure => simp [intOf]; omega
      ·
        have HE := Lib.hid (esc_q hlt h1)
        go_wp2_with (first | (at_builtin; refine wpList_append_byte _ rfl (.tmp 23) (.tmp 24) rfl w.heap.size _ _ rfl (hO.alloc _) _ rfl 92 92 (by decide) (by go_simp) (by omega) (by have := (hbel).size; simp; omega) ?_; intro v1 w1 hO1 hb1; have hb1' := hbel |>.alloc (hbel).size _ |>.trans hb1) | (at_builtin; refine wpList_append_byte _ rfl (.tmp 26) (.tmp 30) rfl w.heap.size _ _ rfl (hO1.alloc _) _ rfl _ s[k] rfl (by go_simp) (by simp at hl0 ⊢; omega) (by have := (hb1').size; simp; omega) ?_; intro v2 w2 hO2 hb2; have hb2' := hb1' |>.alloc (hb1').size _ |>.trans hb2))
        go_roundw
        case rel => exact ⟨k + 1, by omega, by go_num, by rw [HE.out]; simpa using hO2, hb2'⟩
        case measure => simp [intOf]; omega
    · go_wp2_with (at_builtin; refine wpList_append_byte _ rfl (.tmp 33) (.tmp 34) rfl w.heap.size _ _ rfl (hO.alloc _) _ rfl 34 34 (by decide) (by go_simp) (by omega) (by have := (hbel).size; simp; omega) ?_; intro v1 w1 hO1 hb1; have hb1' := hbel |>.alloc (hbel).size _ |>.trans hb1; have hst := hO1.str; rw [List.take_of_length_le (by simp; omega)] at hst)
      go_ret
      exact ⟨rfl, hb1'⟩
set_option maxHeartbeats 400000 in
theorem rQuote_any (s : ByteArray) (w : World) (hs : s.size ≤ 1073741824) :
    Calls Tryz.prog 112 #[.string s] w fun e w' => e = .returned (.string ⟨(quoteL s.data.toList).toArray⟩) ∧ Below w.heap.size w w' := by
  go_enter Tryz.func112, Tryz.ntmps112
  go_wp2
  have hO0 : Own (w.alloc (.cells #[.int .u8 34] 5)) w.heap.size (.slice (some ⟨w.heap.size, 0, none⟩) 1 1) [34] :=
    ⟨rfl, .inr ⟨_, _, _, rfl, Nat.le_refl _, heap_alloc_new w _, Nat.le_refl _, by unfold maxLen; omega, rfl, rfl⟩⟩
  go_loopw [3, 4] (fun v i wr => ∃ k : Nat, k ≤ s.size ∧ i = .int .i64 k ∧ Own wr w.heap.size v ([34] ++ escL (s.data.toList.take k)) ∧ Below w.heap.size w wr) (fun _ i _ => s.size - (intOf i).toNat)
  case atStart => exact ⟨0, Nat.zero_le _, rfl, by simpa [escL] using hO0, (Below.refl _ _).alloc (Nat.le_refl _) _⟩
  case round =>
    obtain ⟨k, hk, rfl, hO, hbel⟩ := hrel
    have hle := escL_le' s k
    have hl0 : ([34] ++ escL (s.data.toList.take k)).length < 4294967296 := by simp; omega
    clear hle
    by_cases hlt : k < s.size
    · rcases h1 : ((s[k].toNat : Int) == 34) with _ | _
      · rcases h2 : ((s[k].toNat : Int) == 92) with _ | _
        · have HE := Lib.hid (esc_plain hlt h1 h2)
          go_wp2_with (at_builtin; refine wpList_append_byte _ rfl (.tmp 25) (.tmp 29) rfl w.heap.size _ _ rfl (hO.alloc _) _ rfl _ s[k] rfl (by go_simp) (by omega) (by have := (hbel).size; simp; omega) ?_; intro v1 w1 hO1 hb1; have hb1' := hbel |>.alloc (hbel).size _ |>.trans hb1)
          go_roundw
          case rel => exact ⟨k + 1, by omega, by go_num, by rw [HE.out]; simpa using hO1, hb1'⟩
          case measure => simp [intOf]; omega
        ·
          have HE := Lib.hid (esc_b hlt h2)
          go_wp2_with (first | (at_builtin; refine wpList_append_byte _ rfl (.tmp 22) (.tmp 23) rfl w.heap.size _ _ rfl (hO.alloc _) _ rfl 92 92 (by decide) (by go_simp) (by omega) (by have := (hbel).size; simp; omega) ?_; intro v1 w1 hO1 hb1; have hb1' := hbel |>.alloc (hbel).size _ |>.trans hb1) | (at_builtin; refine wpList_append_byte _ rfl (.tmp 25) (.tmp 29) rfl w.heap.size _ _ rfl (hO1.alloc _) _ rfl _ s[k] rfl (by go_simp) (by simp at hl0 ⊢; omega) (by have := (hb1').size; simp; omega) ?_; intro v2 w2 hO2 hb2; have hb2' := hb1' |>.alloc (hb1').size _ |>.trans hb2))
          go_roundw
          case rel => exact ⟨k + 1, by omega, by go_num, by rw [HE.out]; simpa using hO2, hb2'⟩
          case measure => simp [intOf]; omega
      ·
        have HE := Lib.hid (esc_q hlt h1)
        go_wp2_with (first | (at_builtin; refine wpList_append_byte _ rfl (.tmp 22) (.tmp 23) rfl w.heap.size _ _ rfl (hO.alloc _) _ rfl 92 92 (by decide) (by go_simp) (by omega) (by have := (hbel).size; simp; omega) ?_; intro v1 w1 hO1 hb1; have hb1' := hbel |>.alloc (hbel).size _ |>.trans hb1) | (at_builtin; refine wpList_append_byte _ rfl (.tmp 25) (.tmp 29) rfl w.heap.size _ _ rfl (hO1.alloc _) _ rfl _ s[k] rfl (by go_simp) (by simp at hl0 ⊢; omega) (by have := (hb1').size; simp; omega) ?_; intro v2 w2 hO2 hb2; have hb2' := hb1' |>.alloc (hb1').size _ |>.trans hb2))
        go_roundw
        case rel => exact ⟨k + 1, by omega, by go_num, by rw [HE.out]; simpa using hO2, hb2'⟩
        case measure => simp [intOf]; omega
    · go_wp2_with (at_builtin; refine wpList_append_byte _ rfl (.tmp 31) (.tmp 32) rfl w.heap.size _ _ rfl (hO.alloc _) _ rfl 34 34 (by decide) (by go_simp) (by omega) (by have := (hbel).size; simp; omega) ?_; intro v1 w1 hO1 hb1; have hb1' := hbel |>.alloc (hbel).size _ |>.trans hb1; have hst := hO1.str; rw [List.take_of_length_le (by simp; omega)] at hst)
      go_ret
      exact ⟨rfl, hb1'⟩
end
section
open Go.RowKit
def numT (o : Option Int) : Value := .tuple #[.int .i64 (numV o).1, .bool (numV o).2]
theorem numT_of {o : Option Int} {a : Int} {b : Bool} (h : numV o = (a, b)) : Ending.returned (.tuple #[.int .i64 a, .bool b]) = .returned (numT o) := by
  unfold numT; rw [h]
theorem appendDigit_any (v d : Int) (w : World) (h0 : 0 ≤ v) (h1 : v ≤ 2147483647) (h2 : 0 ≤ d) (h3 : d ≤ 9) :
    Calls Tryz.prog 190 #[.int .i64 v, .int .i64 d] w fun e w' => e = .returned (.int .i64 (satI v d)) ∧ w = w' := by
  go_enter Tryz.func190, Tryz.ntmps190
  go_wp2
  all_goals (go_ret; exact ⟨ret_int (by unfold satI; split <;> omega), rfl⟩)
theorem Number_any (s : ByteArray) (w : World) (hs : s.size ≤ maxLen) :
    Calls Tryz.prog 179 #[.string s] w fun e w' => e = .returned (numT (numL s.data.toList)) ∧ w = w' := by
  unfold maxLen at hs
  go_enter Tryz.func179, Tryz.ntmps179
  go_wp2
  go_loop [4, 5, 8] (fun v _ i => ∃ k : Nat, k ≤ s.size ∧ i = .int .i64 k ∧ v = .int .i64 (numF (s.data.toList.take k)) ∧ 0 ≤ numF (s.data.toList.take k) ∧ numF (s.data.toList.take k) ≤ 2147483647 ∧ allI digitI (s.data.toList.take k) = true) (fun _ _ i => s.size - (intOf i).toNat)
  case atStart => exact ⟨0, Nat.zero_le _, rfl, rfl, by simp [numF], by simp [numF], rfl⟩
  case round =>
    obtain ⟨k, hk, rfl, rfl, hn0, hn1, hall⟩ := hrel
    by_cases hlt : k < s.size
    · have hb := byte_bd s k hlt
      rcases hp : digitI (s[k].toNat) with _ | _
      · go_wp2_with (go_at_call 170; refine (isDigit_any _ _ hb.1 hb.2).mono ?_; rintro e w' ⟨rfl, rfl⟩)
        go_ret2
        exact ⟨numT_of (by rw [num_not hlt hp]; rfl), rfl⟩
      · have hd := digitI_bd hp
        have HM := Lib.hid (numF_more hlt)
        have HB := satI_bd (v := numF (s.data.toList.take k)) (d := (s[k].toNat : Int) - 48) hn0 (by omega)
        rw [← HM.out] at HB
        have HBB := Lib.hid HB
        have HA := Lib.hid (all_more hall hlt hp)
        have HH := Lib.hid hall
        clear HB hall
        go_wp2_with (first | (go_at_call 170; refine (isDigit_any _ _ hb.1 hb.2).mono ?_; rintro e w' ⟨rfl, rfl⟩) | (go_at_call 190; refine (appendDigit_any _ _ _ hn0 hn1 (by omega) (by omega)).mono ?_; rintro e w' ⟨rfl, rfl⟩))
        go_round
        case rel => exact ⟨k + 1, by omega, by go_num, by rw [HM.out], HBB.out.1, HBB.out.2, HA.out⟩
        case measure => simp [intOf]; omega
    · go_wp2
      go_ret2
      exact ⟨numT_of (num_end hall (by omega)), rfl⟩
end
section
open Go.RowKit
theorem c_bd (c : UInt8) : (0 : Int) ≤ (c.toNat : Int) ∧ (c.toNat : Int) ≤ 255 := by have := c.toNat_lt; omega
theorem rDigit_c (c : UInt8) (w : World) :
    Calls Tryz.prog 88 #[.int .u8 (c.toNat : Int)] w fun e w' => e = .returned (.bool (digitI (c.toNat : Int))) ∧ w = w' := rDigit_any _ w (c_bd c).1 (c_bd c).2
theorem visL_not {s : ByteArray} {k : Nat} (hk : k < s.size) (hp : visI (s[k].toNat) = false) : visL s.data.toList = false := by
  simp [visL, all_not hk hp]
theorem visL_end {s : ByteArray} {k : Nat} (h : allI visI (s.data.toList.take k) = true) (hk : s.size ≤ k) : visL s.data.toList = !s.toList.isEmpty := by
  rw [ByteArray.toList_eq]; simp [visL, all_end h hk]
theorem rVisible_any (s : ByteArray) (w : World) (hs : s.size ≤ maxLen) :
    Calls Tryz.prog 110 #[.string s] w fun e w' => e = .returned (.bool (visL s.data.toList)) ∧ w = w' := by
  unfold maxLen at hs
  go_enter Tryz.func110, Tryz.ntmps110
  go_wp2
  go_loop [3] (fun i => ∃ k : Nat, k ≤ s.size ∧ i = .int .i64 k ∧ allI visI (s.data.toList.take k) = true) (fun i => s.size - (intOf i).toNat)
  case atStart => exact ⟨0, Nat.zero_le _, rfl, rfl⟩
  case round =>
    obtain ⟨k, hk, rfl, hall⟩ := hrel
    by_cases hlt : k < s.size
    · have hb := byte_bd s k hlt
      rcases hp : visI (s[k].toNat) with _ | _
      · have HP := Lib.hid hp
        have hq : ¬ (33 ≤ (s[k].toNat : Int) ∧ (s[k].toNat : Int) ≤ 126) := by simpa [visI] using hp
        have HA := Lib.hid hall
        clear hp hall
        by_cases h33 : (s[k].toNat : Int) < 33
        · clear hq
          go_wp2
          go_ret
          exact ⟨ret_bool (visL_not hlt HP.out).symm, rfl⟩
        · have h126 : 126 < (s[k].toNat : Int) := by omega
          clear hq
          go_wp2
          go_ret
          exact ⟨ret_bool (visL_not hlt HP.out).symm, rfl⟩
      · have hq : 33 ≤ (s[k].toNat : Int) ∧ (s[k].toNat : Int) ≤ 126 := by simpa [visI] using hp
        have HA := Lib.hid (all_more hall hlt hp)
        obtain ⟨q1, q2⟩ := hq
        clear hp hall
        go_wp2
        go_round
        case rel => exact ⟨k + 1, by omega, by go_num, HA.out⟩
        case measure => simp [intOf]; omega
    · go_wp2
      go_ret
      exact ⟨ret_bool (by rw [visL_end hall (by omega)]), rfl⟩
end
section
open Go.RowKit
def InI64 (n : Int) : Prop := -9223372036854775808 ≤ n ∧ n ≤ 9223372036854775807
end
section
open Go.RowKit
/-- how far the digits have come -/
def RDec (N m : Nat) (acc : List UInt8) : Prop := DecAt N m acc ∨ (m = 0 ∧ 1 ≤ acc.length ∧ acc.length ≤ 19 ∧ decF 20 N [] = acc)
theorem RDec.next {N m : Nat} {acc : List UInt8} (h : DecAt N m acc) : RDec N (m / 10) (digB m :: acc) := by
  by_cases hm : m / 10 = 0
  · have := h.len
    exact .inr ⟨hm, by simp, by simp; omega, h.fin hm⟩
  · exact .inl (h.step hm)
theorem Own.fresh (w : World) (B : Nat) (d : UInt8) (b : Int) (hb : b = (d.toNat : Int)) (hB : B ≤ w.heap.size) : Own (w.alloc (.cells #[.int .u8 b] 5)) B (.slice (some ⟨w.heap.size, 0, none⟩) 1 1) [d] := by
  subst hb
  exact ⟨rfl, .inr ⟨_, _, _, rfl, hB, heap_alloc_new w _, Nat.le_refl _, by unfold maxLen; omega, rfl, rfl⟩⟩
theorem RDec.step {N m : Nat} {acc : List UInt8} (h : DecAt N m acc) : Hid (RDec N (m / 10) (digB m :: acc)) := Lib.hid (RDec.next h)
end
section
open Go.RowKit
theorem escL_len : ∀ l : List UInt8, (escL l).length ≤ 2 * l.length
  | [] => by simp [escL]
  | c :: r => by
    have ih := escL_len r
    have e : escL (c :: r) = escB c ++ escL r := rfl
    have h1 : (escB c).length ≤ 2 := by unfold escB; split <;> simp
    rw [e, List.length_append, List.length_cons]; omega
theorem val_len (l : List UInt8) : (valP l).length ≤ 2 * l.length + 2 := by
  unfold valP quoteL
  have := escL_len l
  split
  · omega
  · rw [List.length_cons, List.length_append]; simp only [List.length_cons, List.length_nil]; omega
theorem fmt_more {v : List UInt8} {L : List F} {k : Nat} (h : k < L.length) : fmtPL v (L.take (k + 1)) = fmtPL v (L.take k) ++ 59 :: oneP L[k] := by
  unfold fmtPL; rw [take_next h, List.flatMap_append, ← List.append_assoc]; simp
def fmtPB (v : ByteArray) (L : List F) : ByteArray := bs (fmtPL v.data.toList L)
theorem fmt_add {x nm vv : ByteArray} {l : List UInt8} {p : F} (hx : x.data.toList = l) (hn : p.1 = nm) (hv : vv.data.toList = valP p.2.data.toList) : (x ++ (⟨#[59]⟩ ++ nm ++ ⟨#[61]⟩ ++ vv)).data.toList = l ++ 59 :: oneP p := by
  subst hn
  simp [ByteArray.data_append, hx, hv, oneP]
theorem rQuote_is {s x : ByteArray} {w : World} (hs : s.size ≤ 1073741824) (h : Box (bs (quoteL s.data.toList) = x)) :
    Calls Tryz.prog 112 #[.string s] w fun e w' => e = .returned (.string x) ∧ Below w.heap.size w w' :=
  (rQuote_any s w hs).mono fun e w' ⟨h1, h2⟩ => ⟨by rw [h1, ← h.out]; rfl, h2⟩
def FmtRel (v : ByteArray) (L : List F) (w : World) (x i : Value) (wr : World) : Prop :=
  ∃ (k : Nat) (t : ByteArray), i = .int .i64 k ∧ x = .string t ∧ k ≤ L.length ∧ t.data.toList = fmtPL v.data.toList (L.take k) ∧ t.size ≤ 65536 + 200000 * k ∧ Below w.heap.size w wr
set_option maxHeartbeats 4000000 in
theorem rFmt_any (v : ByteArray) (a : Option Addr) (cap : Nat) (L : List F) (w : World) (hv : v.size ≤ 65536) (hl : L.length ≤ 65536) (hz : Box (∀ i (hi : i < L.length), L[i].1.size ≤ 65536 ∧ L[i].2.size ≤ 65536)) (hF : Box (Fs w a L)) :
    Calls Tryz.prog 129 #[.string v, .slice a L.length cap] w fun e w' => e = .returned (.string (fmtPB v L)) ∧ Below w.heap.size w w' := by
  go_enter Tryz.func129, Tryz.ntmps129
  go_wp2
  go_loopw [0, 5] (fun x i wr => FmtRel v L w x i wr) (fun _ i _ => L.length - (intOf i).toNat)
  case atStart => exact ⟨0, v, rfl, rfl, Nat.zero_le _, by simp [fmtPL], by omega, Below.refl _ _⟩
  case round =>
    obtain ⟨k, x, rfl, rfl, hk, hx, hxz, hbel⟩ := hrel
    have HX := box hx
    have BL := box hbel
    clear hx hbel
    by_cases hlt : k < L.length
    · obtain ⟨q, off, rfl, c0, c1⟩ := (hF.out.below BL.out) k hlt
      obtain ⟨z1, z2⟩ := hz.out k hlt
      obtain ⟨nm, hnm⟩ : ∃ nm, L[k].1 = nm := ⟨_, rfl⟩
      obtain ⟨u, hu⟩ : ∃ u, L[k].2 = u := ⟨_, rfl⟩
      obtain ⟨vv, hvv⟩ : ∃ vv, bs (valP L[k].2.data.toList) = vv := ⟨_, rfl⟩
      have hvz : vv.size ≤ 131074 := by
        rw [← hvv, bs_size]
        have h2 := val_len L[k].2.data.toList
        have e : L[k].2.data.toList.length = L[k].2.size := by simp
        omega
      have HN : Box ((x ++ (⟨#[59]⟩ ++ nm ++ ⟨#[61]⟩ ++ vv)).data.toList = fmtPL v.data.toList (L.take (k + 1))) := box (by rw [fmt_more hlt, fmt_add HX.out hnm (by rw [← hvv]; rfl)])
      have s1 : (⟨#[59]⟩ ++ nm : ByteArray).size ≤ 65537 := by rw [ByteArray.size_append]; show 1 + _ ≤ _; rw [hnm] at z1; omega
      have s2 : (⟨#[59]⟩ ++ nm ++ ⟨#[61]⟩ : ByteArray).size ≤ 65538 := by rw [ByteArray.size_append]; show _ + 1 ≤ _; omega
      have s3 : (⟨#[59]⟩ ++ nm ++ ⟨#[61]⟩ ++ vv : ByteArray).size ≤ 200000 := by rw [ByteArray.size_append]; omega
      have HS : Box ((x ++ (⟨#[59]⟩ ++ nm ++ ⟨#[61]⟩ ++ vv)).size ≤ 65536 + 200000 * (k + 1)) := box (by rw [ByteArray.size_append]; omega)
      have r1 : ∀ w, (Op.stringOp .add ⟨#[59]⟩ nm).run Tryz.prog w = .ok (.string (⟨#[59]⟩ ++ nm)) w := fun w => run_string_add_sum w _ _ (by show 1 + nm.size ≤ 9223372036854775807; rw [hnm] at z1; omega)
      have r2 : ∀ w, (Op.stringOp .add (⟨#[59]⟩ ++ nm) ⟨#[61]⟩).run Tryz.prog w = .ok (.string (⟨#[59]⟩ ++ nm ++ ⟨#[61]⟩)) w := fun w => run_string_add_sum w _ _ (by show _ + 1 ≤ 9223372036854775807; omega)
      have r3 : ∀ w, (Op.stringOp .add (⟨#[59]⟩ ++ nm ++ ⟨#[61]⟩) vv).run Tryz.prog w = .ok (.string (⟨#[59]⟩ ++ nm ++ ⟨#[61]⟩ ++ vv)) w := fun w => run_string_add_sum w _ _ (by show _ + vv.size ≤ 9223372036854775807; omega)
      have r4 : ∀ w, (Op.stringOp .add x (⟨#[59]⟩ ++ nm ++ ⟨#[61]⟩ ++ vv)).run Tryz.prog w = .ok (.string (x ++ (⟨#[59]⟩ ++ nm ++ ⟨#[61]⟩ ++ vv))) w := fun w => run_string_add_sum w _ _ (by show x.size + _ ≤ 9223372036854775807; omega)
      have huz : u.size ≤ maxLen := by rw [← hu]; unfold maxLen; omega
      have huz2 : u.size ≤ 1073741824 := by rw [← hu]; omega
      rw [hnm] at c0
      rw [hu] at c1 hvv
      have HUZ := box huz
      clear hnm hu s1 s2 s3 z1 z2 HX huz
      rcases htk : tokL u.data.toList with _ | _
      · have HT := box htk
        have HQ : Box (bs (quoteL u.data.toList) = vv) := box (by rw [← hvv, val_not htk])
        clear htk hvv
        go_wp2_with fail
        refine (rToken_is HUZ.out HT).mono ?_; rintro e w1 ⟨rfl, rfl⟩
        go_wp2_with fail
        refine (rQuote_is huz2 HQ).mono ?_; rintro e w2 ⟨rfl, hb2⟩
        have d0 := hb2.cell (p := ⟨q, off + k * 2, none⟩) (cell_lt c0)
        rw [c0] at d0
        have B2 := box (BL.out.trans (hb2.mono BL.out.size))
        clear hb2
        go_wp2
        go_roundw
        case rel => exact ⟨k + 1, _, by go_num, rfl, by omega, HN.out, HS.out, B2.out⟩
        case measure => simp [intOf]; omega
      · have HT := box htk
        have hvu : u = vv := by rw [← hvv, val_tok htk]; rfl
        subst hvu
        clear htk hvv
        go_wp2_with fail
        refine (rToken_is HUZ.out HT).mono ?_; rintro e w1 ⟨rfl, rfl⟩
        go_wp2
        go_roundw
        case rel => exact ⟨k + 1, _, by go_num, rfl, by omega, HN.out, HS.out, BL.out⟩
        case measure => simp [intOf]; omega
    · have e : k = L.length := by omega
      have HE : Box (x = fmtPB v L) := box (by
        subst e
        have := HX.out
        rw [List.take_length] at this
        unfold fmtPB; rw [← this]; rfl)
      go_wp2
      go_ret
      exact ⟨by rw [HE.out]; rfl, BL.out⟩
end
end Go.Proofs.YtklfpkaemnhdhaaGreatDoor.Asc
