/- Merged texts: LisLaws Only EtaRef3 MedSpec MedMem AscUn AscUnq. -/
import Derived.Test.YtiogngfemelifaaGreatDoorZs02
import Derived.Test.YtiogngfemelifaaGreatDoorZs03
import Derived.Test.YtiogngfemelifaaGreatDoorZs04
import Derived.Test.YtiogngfemelifaaGreatDoorZs05
import Derived.Test.YtiogngfemelifaaGreatDoorZs06
import Derived.BigQuiet
import Derived.Deep.QuietTactic
import Derived.Deep.RegionHeld3
import Derived.Laws.Externs
import Derived.Laws.IdiomCopy
import Derived.Laws.ResultCell
import Derived.Lib.AppendStr
import Derived.Lib.Builder
import Derived.Lib.MakeNoZero
import Derived.Lib.UnsafeStr
import Derived.OwnWalk
set_option linter.unusedVariables false
set_option linter.unusedSimpArgs false
set_option maxRecDepth 100000
namespace Go.Proofs.YtiogngfemelifaaGreatDoor.Asc
section
open Go.RowKit
theorem keep_get {L : List F} (h : keepF L = true) (nm : ByteArray) : ∀ x ∈ getL nm L, x.size ≤ 65000 := by
  intro x hx
  obtain ⟨_, h2⟩ := keep_parts h
  unfold getL at hx
  obtain ⟨p, hp, rfl⟩ := List.mem_map.mp hx
  obtain ⟨i, hi, e⟩ := List.getElem_of_mem (List.mem_filter.mp hp).1
  rw [← e]; have := (h2 i hi).2; omega
theorem keep_sm7 {L : List F} (h : keepF L = true) : Sm L := by
  obtain ⟨h1, h2⟩ := keep_parts h
  exact ⟨by omega, fun i hi => by have := h2 i hi; omega⟩
end
section
open Go.RowKit
/-- block k holds the string x, and may be written -/
def StrAt (k : Nat) (x : ByteArray) (w : World) : Prop := w.cell? ⟨k, 0, none⟩ = some (.string x) ∧ w.frozen? ⟨k, 0, none⟩ = false
theorem StrAt.new (x : ByteArray) (w : World) (t : TypeId) : StrAt w.heap.size x (w.alloc (.cells #[.string x] t)) :=
  ⟨by rw [World.cell?_alloc_mark]; rfl, by rw [World.frozen?_alloc_at _ _ _ _ rfl]⟩
theorem StrAt.lt {k : Nat} {x : ByteArray} {w : World} (h : StrAt k x w) : k < w.heap.size := cell_lt (p := ⟨k, 0, none⟩) h.1
theorem StrAt.below {k B : Nat} {x : ByteArray} {w w' : World} (h : StrAt k x w) (hb : Below B w w') (hk : k < B) : StrAt k x w' :=
  ⟨by rw [hb.cell hk]; exact h.1, by rw [hb.frozen hk]; exact h.2⟩
theorem StrAt.set {k : Nat} {x : ByteArray} {w : World} (h : StrAt k x w) (y : ByteArray) : StrAt k y (w.setCell ⟨k, 0, none⟩ (.string y)) :=
  ⟨by rw [World.cell?_setCell_same (h := h.1)], by rw [World.frozen?_setCell]; exact h.2⟩
/-- all that there was is as it was, but for block k -/
structure Only (k : Nat) (w w' : World) : Prop where
  os : w'.os = w.os
  tape : w'.tape = w.tape
  output : w'.output = w.output
  size : w.heap.size ≤ w'.heap.size
  block : ∀ j, j < w.heap.size → j ≠ k → w'.heap[j]? = w.heap[j]?
theorem Only.refl (k : Nat) (w : World) : Only k w w := ⟨rfl, rfl, rfl, Nat.le_refl _, fun _ _ _ => rfl⟩
theorem Only.trans {k : Nat} {a b c : World} (h : Only k a b) (g : Only k b c) : Only k a c :=
  ⟨g.os.trans h.os, g.tape.trans h.tape, g.output.trans h.output, Nat.le_trans h.size g.size, fun j hj hk => (g.block j (Nat.lt_of_lt_of_le hj h.size) hk).trans (h.block j hj hk)⟩
theorem Only.of {k : Nat} {w w' : World} (h : Below w.heap.size w w') : Only k w w' := ⟨h.os, h.tape, h.output, h.size, fun j hj _ => h.block j hj⟩
theorem Only.set {k : Nat} {w w' : World} (h : Only k w w') (v : Value) : Only k w (w'.setCell ⟨k, 0, none⟩ v) :=
  ⟨h.os, h.tape, h.output, by simpa using h.size, fun j hj hk => (Below.heap_setCell w' ⟨k, 0, none⟩ v j hk).trans (h.block j hj hk)⟩
theorem Only.below {k B : Nat} {w w' : World} (h : Only k w w') (hk : B ≤ k) (hB : B ≤ w.heap.size) : Below B w w' :=
  ⟨h.os, h.tape, h.output, h.size, fun j hj => h.block j (Nat.lt_of_lt_of_le hj hB) (by omega)⟩
theorem own_only {w w' : World} {k B : Nat} {e : TypeId} {size n : Nat} {v : Value} {xs : List Value} (h : w.ownsRow B e size v n xs) (hb : Only k w w') (hk : k < B) : w'.ownsRow B e size v n xs := by
  refine ⟨h.1, ?_⟩
  rcases h.2 with q | ⟨g, cap, cur, hv, hB, hg, r⟩
  · exact .inl q
  · refine .inr ⟨g, cap, cur, hv, hB, ?_, r⟩
    have : g < w.heap.size := by
      rcases Nat.lt_or_ge g w.heap.size with q | q
      · exact q
      · rw [Array.getElem?_eq_none q] at hg; cases hg
    rw [hb.block g this (by omega)]; exact hg
theorem Only.setAt {k : Nat} {w w' : World} (h : Only k w w') (i : Nat) (v : Value) : Only k w (w'.setCell ⟨k, i, none⟩ v) :=
  ⟨h.os, h.tape, h.output, by simpa using h.size, fun j hj hk => (Below.heap_setCell w' ⟨k, i, none⟩ v j hk).trans (h.block j hj hk)⟩
end
section
open Go.RowKit
def etN : ByteArray := ⟨#[69, 84, 97, 103]⟩
/-- 21.1: the tag of the first field named ETag -/
def ofM21 (L : List F) : Option ET := match getL etN L with | [] => none | v :: _ => parE v.data.toList
theorem rFirst21_is {a : Option Addr} {cap : Nat} {L : List F} {x : ByteArray} {q : Bool} {w : World} (hl : L.length ≤ 65536) (S : Box (Sm L)) (hF : Box (Fs w a L)) (h : Box (firstV etN L = .tuple #[.string x, .bool q])) :
    Calls Tryz.prog 56 #[.slice a L.length cap, .string etN] w fun e w' => e = .returned (.tuple #[.string x, .bool q]) ∧ Below w.heap.size w w' :=
  (rFirst_any a cap L etN w hl S (box (by decide)) hF).mono fun e w' ⟨h1, h2⟩ => ⟨by rw [h1, h.out], h2⟩
theorem tgV_cases (o : Option ET) : ∃ b t q, tgV o = .tuple #[.agg #[.bool b, .string t], .bool q] := by
  cases o with
  | none => exact ⟨_, _, _, rfl⟩
  | some e => exact ⟨_, _, _, rfl⟩
theorem rOfE_any (a : Option Addr) (cap : Nat) (L : List F) (w : World) (S : Box (Sm L)) (hv : Box (∀ x ∈ getL etN L, x.size ≤ 65000)) (hF : Box (Fs w a L)) :
    Calls Tryz.prog 30 #[.slice a L.length cap] w fun e w' => e = .returned (tgV (ofM21 L)) ∧ Below w.heap.size w w' := by
  have hl := S.out.1
  have B0 := box (below_new w (.cells #[.bool false, .string ⟨#[]⟩] 45))
  have hF1 := box (hF.out.below B0.out)
  cases hg : getL etN L with
  | nil =>
    have HO : Box (ofM21 L = none) := box (by unfold ofM21; rw [hg])
    have HF : Box (firstV etN L = .tuple #[.string ⟨#[]⟩, .bool false]) := box (by unfold firstV; rw [hg])
    clear hg
    go_enter Tryz.func30, Tryz.ntmps30
    go_wp2_with fail
    refine (rFirst21_is hl S hF1 HF).mono ?_; rintro e w1 ⟨rfl, hb1⟩
    have B1 := box (B0.out.trans (hb1.mono B0.out.size))
    obtain ⟨⟨r0, r1⟩, ⟨f0, f1⟩⟩ := (T2.new (.bool false) (.string ⟨#[]⟩) w 45).next hb1
    clear hb1
    go_wp2
    (try simp only [Exit.inBlock, Exit.then])
    refine bodyPost_ret (v := tgV none) (by rw [results_cell_tmp rfl]; go_simp; rfl) rfl ?_
    exact ⟨by rw [HO.out], by first | exact B1.out | exact set2_below B1.out (Nat.le_refl _) _ _⟩
  | cons v r =>
    have hvz : v.size ≤ 65000 := hv.out v (by rw [hg]; simp)
    have HO : Box (ofM21 L = parE v.data.toList) := box (by unfold ofM21; rw [hg])
    have HF : Box (firstV etN L = .tuple #[.string v, .bool true]) := box (by unfold firstV; rw [hg])
    obtain ⟨b, t, q, hq⟩ := tgV_cases (parE v.data.toList)
    have HQ := box hq
    clear hg hq hv
    go_enter Tryz.func30, Tryz.ntmps30
    go_wp2_with fail
    refine (rFirst21_is hl S hF1 HF).mono ?_; rintro e w1 ⟨rfl, hb1⟩
    have B1 := box (B0.out.trans (hb1.mono B0.out.size))
    have C1 := box ((T2.new (.bool false) (.string ⟨#[]⟩) w 45).next hb1)
    clear hb1
    go_wp2_with fail
    refine (rParE_is hvz HQ).mono ?_; rintro e w2 ⟨rfl, hb2⟩
    have B2 := box (B1.out.trans (hb2.mono B1.out.size))
    obtain ⟨⟨r0, r1⟩, ⟨f0, f1⟩⟩ := C1.out.next hb2
    clear hb2
    go_wp2
    (try simp only [Exit.inBlock, Exit.then])
    refine bodyPost_ret (v := .tuple #[.agg #[.bool b, .string t], .bool q]) (by rw [results_cell_tmp rfl]; go_simp) rfl ?_
    exact ⟨by rw [HO.out, HQ.out], by first | exact set2_below B2.out (Nat.le_refl _) _ _ | exact B2.out⟩
end
section
/-- type, sub, parameters -/
abbrev M := ByteArray × ByteArray × List F
end
section
open Go.RowKit
/-- three values lie at the block's start, and may be written -/
def C3 (g : Nat) (c0 c1 c2 : Value) (w : World) : Prop :=
  (w.cell? ⟨g, 0, none⟩ = some c0 ∧ w.cell? ⟨g, 1, none⟩ = some c1 ∧ w.cell? ⟨g, 2, none⟩ = some c2) ∧
  (w.frozen? ⟨g, 0, none⟩ = false ∧ w.frozen? ⟨g, 1, none⟩ = false ∧ w.frozen? ⟨g, 2, none⟩ = false)
section
variable {g B : Nat} {c0 c1 c2 : Value} {w w' : World}
theorem C3.new (c0 c1 c2 : Value) (w : World) (t : TypeId) : C3 w.heap.size c0 c1 c2 (w.alloc (.cells #[c0, c1, c2] t)) := by
  refine ⟨⟨?_, ?_, ?_⟩, ⟨?_, ?_, ?_⟩⟩
  all_goals first
    | (rw [World.cell?_alloc_mark]; rfl)
    | exact World.frozen?_alloc_at _ _ _ _ rfl
theorem C3.below (f : C3 g c0 c1 c2 w) (hb : Below B w w') (hg : g < B) : C3 g c0 c1 c2 w' := by
  obtain ⟨⟨h0, h1, h2⟩, ⟨f0, f1, f2⟩⟩ := f
  exact ⟨⟨(hb.cell hg).trans h0, (hb.cell hg).trans h1, (hb.cell hg).trans h2⟩, ⟨(hb.frozen hg).trans f0, (hb.frozen hg).trans f1, (hb.frozen hg).trans f2⟩⟩
theorem C3.lt (f : C3 g c0 c1 c2 w) : g < w.heap.size := cell_lt (p := ⟨g, 0, none⟩) f.1.1
theorem C3.next (f : C3 g c0 c1 c2 w) (hb : Below w.heap.size w w') : C3 g c0 c1 c2 w' := f.below hb f.lt
end
end
section
open Go.RowKit
/-- the two results of a function that returns a string and whether there is one -/
def optV : Option (List UInt8) → Value
  | none => .tuple #[.string ⟨#[]⟩, .bool false]
  | some l => .tuple #[.string ⟨l.toArray⟩, .bool true]
theorem unescape_any (s : ByteArray) (w : World) (hs : s.size ≤ 4294967296) :
    Calls Tryz.prog 133 #[.string s] w fun e w' => e = .returned (optV (unescL s.data.toList)) ∧ Below w.heap.size w w' := by
  obtain ⟨i0, hi0, hz0, hz1, hz2⟩ := info_parts info_u8
  have hmk := fun (w : World) => run_make (P := Tryz.prog) w 78 5 i0 _ Tryz.underlying78 hi0 hz0 .i64 .i64 0 s.size (by omega) (by omega) (by rw [hz2]; omega) (by omega)
  simp only [Int.toNat_natCast, hz1, Nat.mul_one] at hmk
  go_enter Tryz.func133, Tryz.ntmps133
  go_wp2
  have hO0 : Own (w.alloc (.cells (madeCells #[.int .u8 0] s.size) 5)) w.heap.size (.slice (some ⟨w.heap.size, 0, none⟩) 0 s.size) [] :=
    ⟨rfl, .inr ⟨_, _, _, rfl, Nat.le_refl _, heap_alloc_new w _, Nat.zero_le _, by unfold maxLen; omega, by simp [size_madeCells], rfl⟩⟩
  go_loopw [4, 5] (fun v i wr => ∃ (k : Nat) (acc : List UInt8), k ≤ s.size ∧ i = .int .i64 k ∧ Own wr w.heap.size v acc ∧ UnAt s.data.toList k acc ∧ Below w.heap.size w wr) (fun _ i _ => s.size - (intOf i).toNat)
  case atStart => exact ⟨0, [], Nat.zero_le _, rfl, hO0, UnAt.start _, (Below.refl _ _).alloc (Nat.le_refl _) _⟩
  case round =>
    obtain ⟨k, acc, hk, rfl, hO, hU, hbel⟩ := hrel
    clear hO0 hmk
    have ha := hU.1
    by_cases hlt : k < s.size
    · rcases h1 : ((s[k].toNat : Int) == 34) with _ | _
      · rcases h2 : ((s[k].toNat : Int) == 92) with _ | _
        · go_wp2_with (at_builtin; refine wpList_append_byte _ rfl (.tmp 28) (.tmp 32) rfl w.heap.size _ acc rfl (hO.alloc _) _ rfl _ s[k] rfl (by go_simp) (by omega) (by have := hbel.size; simp; omega) ?_; intro v' w1 hO1 hb1)
          go_roundw
          case rel => exact ⟨k + 1, _, by omega, by go_num, hO1, hU.plain hlt h1 h2, hbel.alloc hbel.size _ |>.trans hb1⟩
          case measure => simp [intOf]; omega
        · by_cases he : k + 1 < s.size
          · go_wp2_with (at_builtin; refine wpList_append_byte _ rfl (.tmp 28) (.tmp 32) rfl w.heap.size _ acc rfl (hO.alloc _) _ rfl _ s[k + 1] rfl (by go_simp) (by omega) (by have := hbel.size; simp; omega) ?_; intro v' w1 hO1 hb1)
            go_roundw
            case rel => exact ⟨k + 1 + 1, _, by omega, by go_num, hO1, hU.esc hlt h2 he, hbel.alloc hbel.size _ |>.trans hb1⟩
            case measure => simp [intOf]; omega
          · go_wp2
            go_ret2
            exact ⟨by rw [hU.last hlt h2 (by omega)]; rfl, hbel⟩
      · go_wp2
        go_ret2
        exact ⟨by rw [hU.quote hlt h1]; rfl, hbel⟩
    · have hst := hO.str
      go_wp2
      go_ret2
      exact ⟨by rw [hU.fin (by simp; omega)]; rfl, hbel⟩
end
section
open Go.RowKit
theorem unescape_none {s : ByteArray} {w : World} (hs : s.size ≤ 4294967296) (h : unescL s.data.toList = none) :
    Calls Tryz.prog 133 #[.string s] w fun e w' => e = .returned (.tuple #[.string ⟨#[]⟩, .bool false]) ∧ Below w.heap.size w w' :=
  (unescape_any s w hs).mono fun e w' ⟨he, hb⟩ => ⟨by rw [he, h]; rfl, hb⟩
theorem unescape_some {s : ByteArray} {w : World} {r : List UInt8} (hs : s.size ≤ 4294967296) (h : unescL s.data.toList = some r) :
    Calls Tryz.prog 133 #[.string s] w fun e w' => e = .returned (.tuple #[.string ⟨r.toArray⟩, .bool true]) ∧ Below w.heap.size w w' :=
  (unescape_any s w hs).mono fun e w' ⟨he, hb⟩ => ⟨by rw [he, h]; rfl, hb⟩
set_option maxHeartbeats 800000 in
theorem Unquote_any (s : ByteArray) (w : World) (hs : s.size ≤ 4294967296) :
    Calls Tryz.prog 121 #[.string s] w fun e w' => e = .returned (optV (unqL s.data.toList)) ∧ Below w.heap.size w w' := by
  by_cases h2 : s.size < 2
  · go_enter Tryz.func121, Tryz.ntmps121
    go_wp2
    go_ret2
    exact ⟨by rw [unq_short h2]; rfl, Below.refl _ _⟩
  · have hp : 0 < s.size := by omega
    have hq : s.size - 1 < s.size := by omega
    by_cases h0 : ((s[0]'hp).toNat : Int) = 34
    · rcases h1 : (((s[s.size - 1]'hq).toNat : Int) != 34) with _ | _
      · have hu := unq_in h2 hp h0 hq h1
        have HI : Hid ((s.extract 1 (s.size - 1)).size ≤ 4294967296) := Lib.hid (by rw [ByteArray.size_extract]; omega)
        have HM : Hid ((s.extract 1 (s.size - 1)).size ≤ maxLen) := Lib.hid (by have := HI.out; unfold maxLen; omega)
        have HU := Lib.hid hu
        clear hu
        go_enter Tryz.func121, Tryz.ntmps121
        go_wp2_with fail
        refine (Text_any _ _ HM.out).mono ?_; rintro e w' ⟨rfl, rfl⟩
        rcases ht : textL (s.extract 1 (s.size - 1)).data.toList with _ | _
        · have HT := Lib.hid (unqIn_not ht)
          clear ht
          go_wp2
          go_ret2
          exact ⟨by rw [HU.out, HT.out]; rfl, Below.refl _ _⟩
        · have HT := Lib.hid (unqIn_text ht)
          clear ht
          go_wp2_with fail
          rcases hr : unescL (s.extract 1 (s.size - 1)).data.toList with _ | r
          · have HR := Lib.hid hr
            clear hr
            refine (unescape_none HI.out HR.out).mono ?_; rintro e w' ⟨rfl, hb⟩
            go_wp2
            go_ret2
            exact ⟨by rw [HU.out, HT.out, HR.out]; rfl, hb⟩
          · have HR := Lib.hid hr
            clear hr
            refine (unescape_some HI.out HR.out).mono ?_; rintro e w' ⟨rfl, hb⟩
            go_wp2
            go_ret2
            exact ⟨by rw [HU.out, HT.out, HR.out]; rfl, hb⟩
      · go_enter Tryz.func121, Tryz.ntmps121
        go_wp2
        go_ret2
        exact ⟨by rw [unq_last hq h1]; rfl, Below.refl _ _⟩
    · go_enter Tryz.func121, Tryz.ntmps121
      go_wp2
      go_ret2
      exact ⟨by rw [unq_head hp h0]; rfl, Below.refl _ _⟩
set_option maxHeartbeats 800000 in
theorem rUnquote_any (s : ByteArray) (w : World) (hs : s.size ≤ 4294967296) :
    Calls Tryz.prog 109 #[.string s] w fun e w' => e = .returned (optV (unqL s.data.toList)) ∧ Below w.heap.size w w' := by
  by_cases h2 : s.size < 2
  · go_enter Tryz.func109, Tryz.ntmps109
    go_wp2
    go_ret2
    exact ⟨by rw [unq_short h2]; rfl, Below.refl _ _⟩
  · have hp : 0 < s.size := by omega
    have hq : s.size - 1 < s.size := by omega
    by_cases h0 : ((s[0]'hp).toNat : Int) = 34
    · rcases h1 : (((s[s.size - 1]'hq).toNat : Int) != 34) with _ | _
      · have hu := unq_in h2 hp h0 hq h1
        have hin : (s.extract 1 (s.size - 1)).size ≤ 4294967296 := by rw [ByteArray.size_extract]; omega
        have HU := Lib.hid hu
        clear hu
        go_enter Tryz.func109, Tryz.ntmps109
        go_wp2_with fail
        clear h0 h1 h2 hp hq
        generalize hg : s.extract 1 (s.size - 1) = t at *
        have HG := Lib.hid hg
        clear hg
        go_loopw [4, 5] (fun v i wr => ∃ (k : Nat) (acc : List UInt8), k ≤ t.size ∧ i = .int .i64 k ∧ Own wr w.heap.size v acc ∧ UnAt t.data.toList k acc ∧ allI textI (t.data.toList.take k) = true ∧ Below w.heap.size w wr) (fun _ i _ => t.size - (intOf i).toNat)
        case atStart => exact ⟨0, [], Nat.zero_le _, rfl, Own.nil _ _, UnAt.start _, rfl, Below.refl _ _⟩
        case round =>
          obtain ⟨k, acc, hk, rfl, hO, hU, hT, hbel⟩ := hrel
          have ha := hU.1
          by_cases hlt : k < t.size
          · rcases h1 : ((t[k].toNat : Int) == 34) with _ | _
            · rcases h2 : ((t[k].toNat : Int) == 92) with _ | _
              · have hb := byte_bd t k hlt
                rcases hp : textI (t[k].toNat) with _ | _
                · go_wp2_with (go_at_call 129; refine (textByte_any _ _ hb.1 hb.2).mono ?_; rintro e w' ⟨rfl, rfl⟩)
                  go_ret2
                  exact ⟨by rw [HU.out, unqIn_not (textL_not hlt hp)]; rfl, hbel⟩
                · go_wp2_with (first | (go_at_call 129; refine (textByte_any _ _ hb.1 hb.2).mono ?_; rintro e w' ⟨rfl, rfl⟩) | (at_builtin; refine wpList_append_byte _ rfl _ _ rfl w.heap.size _ acc rfl (hO.alloc _) _ rfl _ t[k] rfl (by go_simp) (by omega) (by have := hbel.size; simp; omega) ?_; intro v' w1 hO1 hb1))
                  go_roundw
                  case rel => exact ⟨k + 1, _, by omega, by go_num, hO1, hU.plain hlt h1 h2, all_more hT hlt hp, hbel.alloc hbel.size _ |>.trans hb1⟩
                  case measure => simp [intOf]; omega
              · by_cases he : k + 1 < t.size
                · have hb := byte_bd t (k + 1) he
                  rcases hp : textI (t[k + 1].toNat) with _ | _
                  · go_wp2_with (go_at_call 129; refine (textByte_any _ _ hb.1 hb.2).mono ?_; rintro e w' ⟨rfl, rfl⟩)
                    go_ret2
                    exact ⟨by rw [HU.out, unqIn_not (textL_not he hp)]; rfl, hbel⟩
                  · have h92 : textI (t[k].toNat) = true := by have := eq_of_beq h2; rw [this]; rfl
                    have HA := Lib.hid (all_more (all_more hT hlt h92) he hp)
                    clear h92
                    go_wp2_with (first | (go_at_call 129; refine (textByte_any _ _ hb.1 hb.2).mono ?_; rintro e w' ⟨rfl, rfl⟩) | (at_builtin; refine wpList_append_byte _ rfl _ _ rfl w.heap.size _ acc rfl (hO.alloc _) _ rfl _ t[k + 1] rfl (by go_simp) (by omega) (by have := hbel.size; simp; omega) ?_; intro v' w1 hO1 hb1))
                    go_roundw
                    case rel => exact ⟨k + 1 + 1, _, by omega, by go_num, hO1, hU.esc hlt h2 he, HA.out, hbel.alloc hbel.size _ |>.trans hb1⟩
                    case measure => simp [intOf]; omega
                · go_wp2
                  go_ret2
                  exact ⟨by rw [HU.out, unqIn_none (hU.last hlt h2 (by omega))]; rfl, hbel⟩
            · go_wp2
              go_ret2
              exact ⟨by rw [HU.out, unqIn_none (hU.quote hlt h1)]; rfl, hbel⟩
          · have hst := hO.str
            go_wp2
            go_ret2
            exact ⟨by rw [HU.out, unqIn_text (textL_end hT (by omega)), hU.fin (by simp; omega)]; rfl, hbel⟩
      · go_enter Tryz.func109, Tryz.ntmps109
        go_wp2
        go_ret2
        exact ⟨by rw [unq_last hq h1]; rfl, Below.refl _ _⟩
    · go_enter Tryz.func109, Tryz.ntmps109
      go_wp2
      go_ret2
      exact ⟨by rw [unq_head hp h0]; rfl, Below.refl _ _⟩
end
end Go.Proofs.YtiogngfemelifaaGreatDoor.Asc
