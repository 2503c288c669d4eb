/- Merged texts: AscQuo AscRDec ParRef2 BldMore ParMine ParLaws. -/
import Derived.Test.YtfpeaakdjihajaaM01
import Derived.Test.YtfpeaakdjihajaaM02
import Derived.Test.YtfpeaakdjihajaaM03
import Derived.Test.YtfpeaakdjihajaaM05
import Derived.Test.YtfpeaakdjihajaaM07
import Derived.Laws.AppendOwnNone
import Derived.Lib.Hide
import Derived.LoopTactic
import Derived.OwnWalk
set_option linter.unusedVariables false
set_option linter.unusedSimpArgs false
set_option maxRecDepth 100000
namespace Go.Proofs.Ytfpeaakdjihajaa.Asc
section
open Go.RowKit
set_option maxHeartbeats 400000 in
theorem Quote_any (s : ByteArray) (w : World) (hs : s.size ≤ 1073741824) :
    Calls Try.prog 63 #[.string s] w fun e w' => e = .returned (.string ⟨(quoteL s.data.toList).toArray⟩) ∧ Below w.heap.size w w' := by
  obtain ⟨i0, hi0, hz0, hz1, hz2⟩ := info_parts info_u8
  have hmk := fun (w : World) => run_make (P := Try.prog) w 53 5 i0 _ Try.underlying53 hi0 hz0 .i64 .i64 0 (s.size + 2) (by omega) (by omega) (by rw [hz2]; omega) (by omega)
  have e2 : ((s.size : Int) + 2).toNat = s.size + 2 := by omega
  simp only [hz1, Nat.mul_one, e2] at hmk
  clear e2 hz0 hz1 hz2 hi0
  have hO0 : Own (w.alloc (.cells (madeCells #[.int .u8 0] (s.size + 2)) 5)) w.heap.size (.slice (some ⟨w.heap.size, 0, none⟩) 0 (s.size + 2)) [] :=
    ⟨rfl, .inr ⟨_, _, _, rfl, Nat.le_refl _, heap_alloc_new w _, Nat.zero_le _, by unfold maxLen; omega, by simp [size_madeCells], rfl⟩⟩
  have hbel0 : Below w.heap.size w (w.alloc (.cells (madeCells #[.int .u8 0] (s.size + 2)) 5)) := (Below.refl _ _).alloc (Nat.le_refl _) _
  go_enter Try.func63, Try.ntmps63
  go_wp2_with (at_builtin; refine wpList_append_byte _ rfl (.tmp 9) (.tmp 10) rfl w.heap.size _ _ rfl (hO0.alloc _) _ rfl 34 34 (by decide) (by go_simp) (by simp) (by have := (hbel0).size; simp; omega) ?_; intro v0 w0 hO00 hb00; have hb00' := hbel0 |>.alloc (hbel0).size _ |>.trans hb00)
  clear hO0 hmk
  go_loopw [3, 4, 14] (fun v _ i wr => ∃ k : Nat, k ≤ s.size ∧ i = .int .i64 k ∧ Own wr w.heap.size v ([34] ++ escL (s.data.toList.take k)) ∧ Below w.heap.size w wr) (fun _ _ i _ => s.size - (intOf i).toNat)
  case atStart => exact ⟨0, Nat.zero_le _, rfl, by simpa [escL] using hO00, hb00'⟩
  case round =>
    obtain ⟨k, hk, rfl, hO, hbel⟩ := hrel
    have hle := escL_le' s k
    have hl0 : ([34] ++ escL (s.data.toList.take k)).length < 4294967296 := by simp; omega
    clear hle
    by_cases hlt : k < s.size
    · rcases h1 : ((s[k].toNat : Int) == 34) with _ | _
      · rcases h2 : ((s[k].toNat : Int) == 92) with _ | _
        · have HE := Lib.hid (esc_plain hlt h1 h2)
          go_wp2_with (at_builtin; refine wpList_append_byte _ rfl (.tmp 26) (.tmp 30) rfl w.heap.size _ _ rfl (hO.alloc _) _ rfl _ s[k] rfl (by go_simp) (by omega) (by have := (hbel).size; simp; omega) ?_; intro v1 w1 hO1 hb1; have hb1' := hbel |>.alloc (hbel).size _ |>.trans hb1)
          go_roundw
          case rel => exact ⟨k + 1, by omega, by go_num, by rw [HE.out]; simpa using hO1, hb1'⟩
          case measure => simp [intOf]; omega
        ·
          have HE := Lib.hid (esc_b hlt h2)
          go_wp2_with (first | (at_builtin; refine wpList_append_byte _ rfl (.tmp 23) (.tmp 24) rfl w.heap.size _ _ rfl (hO.alloc _) _ rfl 92 92 (by decide) (by go_simp) (by omega) (by have := (hbel).size; simp; omega) ?_; intro v1 w1 hO1 hb1; have hb1' := hbel |>.alloc (hbel).size _ |>.trans hb1) | (at_builtin; refine wpList_append_byte _ rfl (.tmp 26) (.tmp 30) rfl w.heap.size _ _ rfl (hO1.alloc _) _ rfl _ s[k] rfl (by go_simp) (by simp at hl0 ⊢; omega) (by have := (hb1').size; simp; omega) ?_; intro v2 w2 hO2 hb2; have hb2' := hb1' |>.alloc (hb1').size _ |>.trans hb2))
          go_roundw
          case rel => exact ⟨k + 1, by omega, by go_num, by rw [HE.out]; simpa using hO2, hb2'⟩
          case measure => simp [intOf]; omega
      ·
        have HE := Lib.hid (esc_q hlt h1)
        go_wp2_with (first | (at_builtin; refine wpList_append_byte _ rfl (.tmp 23) (.tmp 24) rfl w.heap.size _ _ rfl (hO.alloc _) _ rfl 92 92 (by decide) (by go_simp) (by omega) (by have := (hbel).size; simp; omega) ?_; intro v1 w1 hO1 hb1; have hb1' := hbel |>.alloc (hbel).size _ |>.trans hb1) | (at_builtin; refine wpList_append_byte _ rfl (.tmp 26) (.tmp 30) rfl w.heap.size _ _ rfl (hO1.alloc _) _ rfl _ s[k] rfl (by go_simp) (by simp at hl0 ⊢; omega) (by have := (hb1').size; simp; omega) ?_; intro v2 w2 hO2 hb2; have hb2' := hb1' |>.alloc (hb1').size _ |>.trans hb2))
        go_roundw
        case rel => exact ⟨k + 1, by omega, by go_num, by rw [HE.out]; simpa using hO2, hb2'⟩
        case measure => simp [intOf]; omega
    · go_wp2_with (at_builtin; refine wpList_append_byte _ rfl (.tmp 33) (.tmp 34) rfl w.heap.size _ _ rfl (hO.alloc _) _ rfl 34 34 (by decide) (by go_simp) (by omega) (by have := (hbel).size; simp; omega) ?_; intro v1 w1 hO1 hb1; have hb1' := hbel |>.alloc (hbel).size _ |>.trans hb1; have hst := hO1.str; rw [List.take_of_length_le (by simp; omega)] at hst)
      go_ret
      exact ⟨rfl, hb1'⟩
set_option maxHeartbeats 400000 in
theorem rQuote_any (s : ByteArray) (w : World) (hs : s.size ≤ 1073741824) :
    Calls Try.prog 34 #[.string s] w fun e w' => e = .returned (.string ⟨(quoteL s.data.toList).toArray⟩) ∧ Below w.heap.size w w' := by
  go_enter Try.func34, Try.ntmps34
  go_wp2
  have hO0 : Own (w.alloc (.cells #[.int .u8 34] 5)) w.heap.size (.slice (some ⟨w.heap.size, 0, none⟩) 1 1) [34] :=
    ⟨rfl, .inr ⟨_, _, _, rfl, Nat.le_refl _, heap_alloc_new w _, Nat.le_refl _, by unfold maxLen; omega, rfl, rfl⟩⟩
  go_loopw [3, 4] (fun v i wr => ∃ k : Nat, k ≤ s.size ∧ i = .int .i64 k ∧ Own wr w.heap.size v ([34] ++ escL (s.data.toList.take k)) ∧ Below w.heap.size w wr) (fun _ i _ => s.size - (intOf i).toNat)
  case atStart => exact ⟨0, Nat.zero_le _, rfl, by simpa [escL] using hO0, (Below.refl _ _).alloc (Nat.le_refl _) _⟩
  case round =>
    obtain ⟨k, hk, rfl, hO, hbel⟩ := hrel
    have hle := escL_le' s k
    have hl0 : ([34] ++ escL (s.data.toList.take k)).length < 4294967296 := by simp; omega
    clear hle
    by_cases hlt : k < s.size
    · rcases h1 : ((s[k].toNat : Int) == 34) with _ | _
      · rcases h2 : ((s[k].toNat : Int) == 92) with _ | _
        · have HE := Lib.hid (esc_plain hlt h1 h2)
          go_wp2_with (at_builtin; refine wpList_append_byte _ rfl (.tmp 25) (.tmp 29) rfl w.heap.size _ _ rfl (hO.alloc _) _ rfl _ s[k] rfl (by go_simp) (by omega) (by have := (hbel).size; simp; omega) ?_; intro v1 w1 hO1 hb1; have hb1' := hbel |>.alloc (hbel).size _ |>.trans hb1)
          go_roundw
          case rel => exact ⟨k + 1, by omega, by go_num, by rw [HE.out]; simpa using hO1, hb1'⟩
          case measure => simp [intOf]; omega
        ·
          have HE := Lib.hid (esc_b hlt h2)
          go_wp2_with (first | (at_builtin; refine wpList_append_byte _ rfl (.tmp 22) (.tmp 23) rfl w.heap.size _ _ rfl (hO.alloc _) _ rfl 92 92 (by decide) (by go_simp) (by omega) (by have := (hbel).size; simp; omega) ?_; intro v1 w1 hO1 hb1; have hb1' := hbel |>.alloc (hbel).size _ |>.trans hb1) | (at_builtin; refine wpList_append_byte _ rfl (.tmp 25) (.tmp 29) rfl w.heap.size _ _ rfl (hO1.alloc _) _ rfl _ s[k] rfl (by go_simp) (by simp at hl0 ⊢; omega) (by have := (hb1').size; simp; omega) ?_; intro v2 w2 hO2 hb2; have hb2' := hb1' |>.alloc (hb1').size _ |>.trans hb2))
          go_roundw
          case rel => exact ⟨k + 1, by omega, by go_num, by rw [HE.out]; simpa using hO2, hb2'⟩
          case measure => simp [intOf]; omega
      ·
        have HE := Lib.hid (esc_q hlt h1)
        go_wp2_with (first | (at_builtin; refine wpList_append_byte _ rfl (.tmp 22) (.tmp 23) rfl w.heap.size _ _ rfl (hO.alloc _) _ rfl 92 92 (by decide) (by go_simp) (by omega) (by have := (hbel).size; simp; omega) ?_; intro v1 w1 hO1 hb1; have hb1' := hbel |>.alloc (hbel).size _ |>.trans hb1) | (at_builtin; refine wpList_append_byte _ rfl (.tmp 25) (.tmp 29) rfl w.heap.size _ _ rfl (hO1.alloc _) _ rfl _ s[k] rfl (by go_simp) (by simp at hl0 ⊢; omega) (by have := (hb1').size; simp; omega) ?_; intro v2 w2 hO2 hb2; have hb2' := hb1' |>.alloc (hb1').size _ |>.trans hb2))
        go_roundw
        case rel => exact ⟨k + 1, by omega, by go_num, by rw [HE.out]; simpa using hO2, hb2'⟩
        case measure => simp [intOf]; omega
    · go_wp2_with (at_builtin; refine wpList_append_byte _ rfl (.tmp 31) (.tmp 32) rfl w.heap.size _ _ rfl (hO.alloc _) _ rfl 34 34 (by decide) (by go_simp) (by omega) (by have := (hbel).size; simp; omega) ?_; intro v1 w1 hO1 hb1; have hb1' := hbel |>.alloc (hbel).size _ |>.trans hb1; have hst := hO1.str; rw [List.take_of_length_le (by simp; omega)] at hst)
      go_ret
      exact ⟨rfl, hb1'⟩
end
section
open Go.RowKit
/-- how far the digits have come -/
def RDec (N m : Nat) (acc : List UInt8) : Prop := DecAt N m acc ∨ (m = 0 ∧ 1 ≤ acc.length ∧ acc.length ≤ 19 ∧ decF 20 N [] = acc)
theorem RDec.next {N m : Nat} {acc : List UInt8} (h : DecAt N m acc) : RDec N (m / 10) (digB m :: acc) := by
  by_cases hm : m / 10 = 0
  · have := h.len
    exact .inr ⟨hm, by simp, by simp; omega, h.fin hm⟩
  · exact .inl (h.step hm)
theorem Own.fresh (w : World) (B : Nat) (d : UInt8) (b : Int) (hb : b = (d.toNat : Int)) (hB : B ≤ w.heap.size) : Own (w.alloc (.cells #[.int .u8 b] 5)) B (.slice (some ⟨w.heap.size, 0, none⟩) 1 1) [d] := by
  subst hb
  exact ⟨rfl, .inr ⟨_, _, _, rfl, hB, heap_alloc_new w _, Nat.le_refl _, by unfold maxLen; omega, rfl, rfl⟩⟩
theorem RDec.step {N m : Nat} {acc : List UInt8} (h : DecAt N m acc) : Hid (RDec N (m / 10) (digB m :: acc)) := Lib.hid (RDec.next h)
end
section
open Go.RowKit
def findV (nm : ByteArray) (L : List F) : Value := match findP nm L with | some v => .tuple #[.string v, .bool true] | none => .tuple #[.string ⟨#[]⟩, .bool false]
theorem find_hit {nm : ByteArray} {L : List F} {k : Nat} (h : k < L.length) (hb : ∀ i (hi : i < L.length), i < k → L[i].1 ≠ nm) (he : L[k].1 = nm) : findP nm L = some L[k].2 := by
  unfold findP
  have e := split_at h
  have h1 : (L.take k).find? (fun p => decide (p.1 = nm)) = none := by
    rw [List.find?_eq_none]
    intro x hx
    obtain ⟨i, hi, rfl⟩ := List.mem_iff_getElem.mp hx
    rw [List.length_take] at hi
    rw [List.getElem_take]
    simpa using hb i (by omega) (by omega)
  conv => lhs; rw [e, List.find?_append, h1]
  rw [Option.none_or, List.find?_cons_of_pos (by simpa using he)]; rfl
theorem find_miss {nm : ByteArray} {L : List F} (hb : ∀ i (hi : i < L.length), L[i].1 ≠ nm) : findP nm L = none := by
  unfold findP
  have : L.find? (fun p => decide (p.1 = nm)) = none := by
    rw [List.find?_eq_none]
    intro x hx
    obtain ⟨i, hi, rfl⟩ := List.mem_iff_getElem.mp hx
    simpa using hb i hi
  rw [this]; rfl
theorem rFind_any (a : Option Addr) (cap : Nat) (L : List F) (nm : ByteArray) (w : World) (hl : L.length ≤ 65536) (hF : Box (Fs w a L)) :
    Calls Try.prog 29 #[.slice a L.length cap, .string nm] w fun e w' => e = .returned (findV nm L) ∧ w = w' := by
  go_enter Try.func29, Try.ntmps29
  go_wp2
  go_loop [6] (fun i => ∃ k : Nat, k ≤ L.length ∧ i = .int .i64 k ∧ ∀ i (hi : i < L.length), i < k → L[i].1 ≠ nm) (fun i => L.length - (intOf i).toNat)
  case atStart => exact ⟨0, Nat.zero_le _, rfl, fun i hi h => by omega⟩
  case round =>
    obtain ⟨k, hk, rfl, hno⟩ := hrel
    have HN := box hno
    clear hno
    by_cases hlt : k < L.length
    · obtain ⟨q, off, rfl, c0, c1⟩ := hF.out k hlt
      rcases he : (L[k].1.toList == nm.toList) with _ | _
      · have HX : Box (∀ i (hi : i < L.length), i < k + 1 → L[i].1 ≠ nm) := box (fun i hi h => by
          by_cases e : i = k
          · subst e
            intro h2; rw [h2] at he; simp at he
          · exact HN.out i hi (by omega))
        go_wp2
        go_round
        case rel => exact ⟨k + 1, by omega, by go_num, HX.out⟩
        case measure => simp [intOf]; omega
      · have HX : Box (findV nm L = .tuple #[.string L[k].2, .bool true]) := box (by unfold findV; rw [find_hit hlt HN.out (str_eq he)])
        go_wp2
        go_ret2
        exact ⟨by rw [HX.out]; rfl, rfl⟩
    · have HX : Box (findV nm L = .tuple #[.string ⟨#[]⟩, .bool false]) := box (by unfold findV; rw [find_miss (fun i hi => HN.out i hi (by omega))])
      go_wp2
      go_ret2
      exact ⟨by rw [HX.out]; rfl, rfl⟩
theorem escL_len : ∀ l : List UInt8, (escL l).length ≤ 2 * l.length
  | [] => by simp [escL]
  | c :: r => by
    have ih := escL_len r
    have e : escL (c :: r) = escB c ++ escL r := rfl
    have h1 : (escB c).length ≤ 2 := by unfold escB; split <;> simp
    rw [e, List.length_append, List.length_cons]; omega
theorem val_len (l : List UInt8) : (valP l).length ≤ 2 * l.length + 2 := by
  unfold valP quoteL
  have := escL_len l
  split
  · omega
  · rw [List.length_cons, List.length_append]; simp only [List.length_cons, List.length_nil]; omega
theorem fmt_more {v : List UInt8} {L : List F} {k : Nat} (h : k < L.length) : fmtPL v (L.take (k + 1)) = fmtPL v (L.take k) ++ 59 :: oneP L[k] := by
  unfold fmtPL; rw [take_next h, List.flatMap_append, ← List.append_assoc]; simp
def fmtPB (v : ByteArray) (L : List F) : ByteArray := bs (fmtPL v.data.toList L)
theorem fmt_add {x nm vv : ByteArray} {l : List UInt8} {p : F} (hx : x.data.toList = l) (hn : p.1 = nm) (hv : vv.data.toList = valP p.2.data.toList) : (x ++ (⟨#[59]⟩ ++ nm ++ ⟨#[61]⟩ ++ vv)).data.toList = l ++ 59 :: oneP p := by
  subst hn
  simp [ByteArray.data_append, hx, hv, oneP]
theorem rQuote_is {s x : ByteArray} {w : World} (hs : s.size ≤ 1073741824) (h : Box (bs (quoteL s.data.toList) = x)) :
    Calls Try.prog 34 #[.string s] w fun e w' => e = .returned (.string x) ∧ Below w.heap.size w w' :=
  (rQuote_any s w hs).mono fun e w' ⟨h1, h2⟩ => ⟨by rw [h1, ← h.out]; rfl, h2⟩
def FmtRel (v : ByteArray) (L : List F) (w : World) (x i : Value) (wr : World) : Prop :=
  ∃ (k : Nat) (t : ByteArray), i = .int .i64 k ∧ x = .string t ∧ k ≤ L.length ∧ t.data.toList = fmtPL v.data.toList (L.take k) ∧ t.size ≤ 65536 + 200000 * k ∧ Below w.heap.size w wr
set_option maxHeartbeats 4000000 in
theorem rFmt_any (v : ByteArray) (a : Option Addr) (cap : Nat) (L : List F) (w : World) (hv : v.size ≤ 65536) (hl : L.length ≤ 65536) (hz : Box (∀ i (hi : i < L.length), L[i].1.size ≤ 65536 ∧ L[i].2.size ≤ 65536)) (hF : Box (Fs w a L)) :
    Calls Try.prog 31 #[.string v, .slice a L.length cap] w fun e w' => e = .returned (.string (fmtPB v L)) ∧ Below w.heap.size w w' := by
  go_enter Try.func31, Try.ntmps31
  go_wp2
  go_loopw [0, 5] (fun x i wr => FmtRel v L w x i wr) (fun _ i _ => L.length - (intOf i).toNat)
  case atStart => exact ⟨0, v, rfl, rfl, Nat.zero_le _, by simp [fmtPL], by omega, Below.refl _ _⟩
  case round =>
    obtain ⟨k, x, rfl, rfl, hk, hx, hxz, hbel⟩ := hrel
    have HX := box hx
    have BL := box hbel
    clear hx hbel
    by_cases hlt : k < L.length
    · obtain ⟨q, off, rfl, c0, c1⟩ := (hF.out.below BL.out) k hlt
      obtain ⟨z1, z2⟩ := hz.out k hlt
      obtain ⟨nm, hnm⟩ : ∃ nm, L[k].1 = nm := ⟨_, rfl⟩
      obtain ⟨u, hu⟩ : ∃ u, L[k].2 = u := ⟨_, rfl⟩
      obtain ⟨vv, hvv⟩ : ∃ vv, bs (valP L[k].2.data.toList) = vv := ⟨_, rfl⟩
      have hvz : vv.size ≤ 131074 := by
        rw [← hvv, bs_size]
        have h2 := val_len L[k].2.data.toList
        have e : L[k].2.data.toList.length = L[k].2.size := by simp
        omega
      have HN : Box ((x ++ (⟨#[59]⟩ ++ nm ++ ⟨#[61]⟩ ++ vv)).data.toList = fmtPL v.data.toList (L.take (k + 1))) := box (by rw [fmt_more hlt, fmt_add HX.out hnm (by rw [← hvv]; rfl)])
      have s1 : (⟨#[59]⟩ ++ nm : ByteArray).size ≤ 65537 := by rw [ByteArray.size_append]; show 1 + _ ≤ _; rw [hnm] at z1; omega
      have s2 : (⟨#[59]⟩ ++ nm ++ ⟨#[61]⟩ : ByteArray).size ≤ 65538 := by rw [ByteArray.size_append]; show _ + 1 ≤ _; omega
      have s3 : (⟨#[59]⟩ ++ nm ++ ⟨#[61]⟩ ++ vv : ByteArray).size ≤ 200000 := by rw [ByteArray.size_append]; omega
      have HS : Box ((x ++ (⟨#[59]⟩ ++ nm ++ ⟨#[61]⟩ ++ vv)).size ≤ 65536 + 200000 * (k + 1)) := box (by rw [ByteArray.size_append]; omega)
      have r1 : ∀ w, (Op.stringOp .add ⟨#[59]⟩ nm).run Try.prog w = .ok (.string (⟨#[59]⟩ ++ nm)) w := fun w => run_string_add_sum w _ _ (by show 1 + nm.size ≤ 9223372036854775807; rw [hnm] at z1; omega)
      have r2 : ∀ w, (Op.stringOp .add (⟨#[59]⟩ ++ nm) ⟨#[61]⟩).run Try.prog w = .ok (.string (⟨#[59]⟩ ++ nm ++ ⟨#[61]⟩)) w := fun w => run_string_add_sum w _ _ (by show _ + 1 ≤ 9223372036854775807; omega)
      have r3 : ∀ w, (Op.stringOp .add (⟨#[59]⟩ ++ nm ++ ⟨#[61]⟩) vv).run Try.prog w = .ok (.string (⟨#[59]⟩ ++ nm ++ ⟨#[61]⟩ ++ vv)) w := fun w => run_string_add_sum w _ _ (by show _ + vv.size ≤ 9223372036854775807; omega)
      have r4 : ∀ w, (Op.stringOp .add x (⟨#[59]⟩ ++ nm ++ ⟨#[61]⟩ ++ vv)).run Try.prog w = .ok (.string (x ++ (⟨#[59]⟩ ++ nm ++ ⟨#[61]⟩ ++ vv))) w := fun w => run_string_add_sum w _ _ (by show x.size + _ ≤ 9223372036854775807; omega)
      have huz : u.size ≤ maxLen := by rw [← hu]; unfold maxLen; omega
      have huz2 : u.size ≤ 1073741824 := by rw [← hu]; omega
      rw [hnm] at c0
      rw [hu] at c1 hvv
      have HUZ := box huz
      clear hnm hu s1 s2 s3 z1 z2 HX huz
      rcases htk : tokL u.data.toList with _ | _
      · have HT := box htk
        have HQ : Box (bs (quoteL u.data.toList) = vv) := box (by rw [← hvv, val_not htk])
        clear htk hvv
        go_wp2_with fail
        refine (rToken_is HUZ.out HT).mono ?_; rintro e w1 ⟨rfl, rfl⟩
        go_wp2_with fail
        refine (rQuote_is huz2 HQ).mono ?_; rintro e w2 ⟨rfl, hb2⟩
        have d0 := hb2.cell (p := ⟨q, off + k * 2, none⟩) (cell_lt c0)
        rw [c0] at d0
        have B2 := box (BL.out.trans (hb2.mono BL.out.size))
        clear hb2
        go_wp2
        go_roundw
        case rel => exact ⟨k + 1, _, by go_num, rfl, by omega, HN.out, HS.out, B2.out⟩
        case measure => simp [intOf]; omega
      · have HT := box htk
        have hvu : u = vv := by rw [← hvv, val_tok htk]; rfl
        subst hvu
        clear htk hvv
        go_wp2_with fail
        refine (rToken_is HUZ.out HT).mono ?_; rintro e w1 ⟨rfl, rfl⟩
        go_wp2
        go_roundw
        case rel => exact ⟨k + 1, _, by go_num, rfl, by omega, HN.out, HS.out, BL.out⟩
        case measure => simp [intOf]; omega
    · have e : k = L.length := by omega
      have HE : Box (x = fmtPB v L) := box (by
        subst e
        have := HX.out
        rw [List.take_length] at this
        unfold fmtPB; rw [← this]; rfl)
      go_wp2
      go_ret
      exact ⟨by rw [HE.out]; rfl, BL.out⟩
end
section
open Go.RowKit
/-- all blocks but b that hold no bytes are as they were -/
def KeepU (b : Nat) (w w' : World) : Prop := ∀ k cs T fr, k ≠ b → T ≠ 5 → w.heap[k]? = some (.cells cs T fr) → w'.heap[k]? = some (.cells cs T fr)
theorem KeepU.refl (b : Nat) (w : World) : KeepU b w w := fun _ _ _ _ _ _ h => h
theorem KeepU.trans {b : Nat} {w w1 w2 : World} (h1 : KeepU b w w1) (h2 : KeepU b w1 w2) : KeepU b w w2 := fun k cs T fr hk hT h => h2 k cs T fr hk hT (h1 k cs T fr hk hT h)
theorem KeepU.below {b : Nat} {w w' : World} (h : Below w.heap.size w w') : KeepU b w w' := fun k cs T fr _ _ hk => (h.block k (blk_lt hk)).trans hk
def BldV (w : World) (B b : Nat) (p v : Value) (l : List UInt8) : Prop :=
  B ≤ b ∧ w.heap[b]? = some (.cells #[p, v] 61 (0, 0)) ∧ w.ownsRow B 5 1 v (Lib.byteCells l).length (Lib.byteCells l) ∧ v.ownBlock ≠ some b ∧ (v = .slice none 0 0 ↔ l = [])
/-- the builder of block b, made by the call itself and never grown: its bytes l -/
def BldZ (w : World) (B b : Nat) (l : List UInt8) : Prop := ∃ p v, (p = .pointer none ∨ p = .pointer (some ⟨b, 0, none⟩)) ∧ BldV w B b p v l
theorem BldV.at {w : World} {B b : Nat} {p v : Value} {l : List UInt8} (h : BldV w B b p v l) : BldAt w B b p l := ⟨h.1, v, h.2.1, h.2.2.1, h.2.2.2.1⟩
theorem BldV.of {w : World} {B b : Nat} {p v : Value} {l : List UInt8} (h : BldAt w B b p l) (hb : w.heap[b]? = some (.cells #[p, v] 61 (0, 0))) (hn : v = .slice none 0 0 ↔ l = []) : BldV w B b p v l := by
  obtain ⟨hB, v2, hb2, hown, hne⟩ := h
  rw [hb] at hb2
  simp at hb2
  subst hb2
  exact ⟨hB, hb, hown, hne, hn⟩
theorem BldZ.bld {w : World} {B b : Nat} {l : List UInt8} (h : BldZ w B b l) : Bld w B b l := by
  obtain ⟨p, v, hp, hV⟩ := h
  rcases hp with rfl | rfl
  · exact .inl hV.at
  · exact .inr hV.at
theorem BldZ.lt {w : World} {B b : Nat} {l : List UInt8} (h : BldZ w B b l) : b < w.heap.size := by
  obtain ⟨p, v, hp, hV⟩ := h
  exact blk_lt hV.2.1
theorem BldZ.next {w w' : World} {B b : Nat} {l : List UInt8} (h : BldZ w B b l) (hb : Below w.heap.size w w') : BldZ w' B b l := by
  obtain ⟨p, v, hp, h1, h2, h3, h4, h5⟩ := h
  exact ⟨p, v, hp, h1, (hb.block b (blk_lt h2)).trans h2, own_below h3 hb, h4, h5⟩
theorem BldZ.fresh (w : World) : BldZ (w.alloc (.cells #[.pointer none, .slice none 0 0] 61)) w.heap.size w.heap.size [] :=
  ⟨.pointer none, .slice none 0 0, .inl rfl, Nat.le_refl _, heap_alloc_new w _, World.ownsRow_nil _ _ _ _, by simp [Value.ownBlock], by simp⟩
theorem check_z (B b : Nat) (l : List UInt8) (w : World) (h : BldZ w B b l) :
    Calls Try.prog 62 #[.pointer (some ⟨b, 0, none⟩)] w fun e w' => e = .returned (.tuple #[]) ∧ (∃ v, BldV w' B b (.pointer (some ⟨b, 0, none⟩)) v l) ∧ Below B w w' ∧ KeepU b w w' := by
  obtain ⟨p, v, hp, hV⟩ := h
  rcases hp with rfl | rfl
  · refine (check_new b w hV.at.cell0 hV.at.shape hV.at.frozen0).mono ?_
    rintro e w' ⟨rfl, rfl⟩
    refine ⟨rfl, ⟨v, BldV.of (hV.at.used _) ?_ hV.2.2.2.2⟩, (Below.refl B w).setCell (p := ⟨b, 0, none⟩) hV.1 _, fun k cs T fr hk hT hh => ?_⟩
    · simp [World.setCell, Array.getElem?_modify, hV.2.1]
    · simp only [World.setCell, Array.getElem?_modify]
      rw [if_neg (fun e => hk e.symm)]; exact hh
  · refine (check_used b w hV.at.cell0).mono ?_
    rintro e w' ⟨rfl, rfl⟩
    exact ⟨rfl, ⟨v, hV⟩, Below.refl B _, KeepU.refl _ _⟩
/-- WriteString: the string's bytes behind those that are there; what other blocks hold stays -/
theorem WriteString_z (B b : Nat) (l : List UInt8) (s : ByteArray) (w : World) (h : Box (BldZ w B b l)) (hl : l.length + s.size ≤ 140737488355328) (hBw : B ≤ w.heap.size) :
    Calls Try.prog 47 #[.pointer (some ⟨b, 0, none⟩), .string s] w fun e w' => e = .returned (.tuple #[.int .i64 s.size, .nilIface]) ∧ BldZ w' B b (l ++ s.data.toList) ∧ Below B w w' ∧ KeepU b w w' := by
  obtain ⟨i0, hi0, hz0, hz1, hz2⟩ := info_parts info_u8
  go_enter Try.func47, Try.ntmps47
  go_wp2_with fail
  refine (check_z B b l _ h.out).mono ?_; rintro e w1 ⟨rfl, ⟨v, hB, hbk, hown, hne, hnil⟩, hb1, hk1⟩
  have c0 : w1.cell? ⟨b, 0, none⟩ = some (.pointer (some ⟨b, 0, none⟩)) := by rw [Lib.cell_of_heap hbk]; rfl
  have c1 : w1.cell? ⟨b, 1, none⟩ = some v := by rw [Lib.cell_of_heap hbk]; rfl
  have hbw := hb1.size
  have B1 := box hb1
  have K1 := box hk1
  have H1 := box hown
  have HN := box hne
  have HK := box hbk
  have HNL := box hnil
  have hll : (Lib.byteCells l).length = l.length := Lib.byteCells_length l
  have hlt := blk_lt hbk
  clear hb1 hk1 hown hne hbk hnil
  go_wp2_with (at_builtin; refine Lib.wpList_append_own_string _ rfl _ _ 53 9 rfl B 5 i0 Try.underlying53 Try.underlying9 hi0 hz0 hz1 hz2 _ _ _ rfl H1.out s rfl ?c3 ?c4 ?c5 ?_)
  case c3 => unfold maxLen; omega
  case c4 => omega
  case c5 => omega
  intro v' w2 hown' hgrow hiff
  have hb2 : w2.heap[b]? = some (.cells #[.pointer (some ⟨b, 0, none⟩), v] 61 (0, 0)) := by
    rw [hgrow.block b hlt (fun e => HN.out e.symm)]
    exact HK.out
  have d1 : w2.cell? ⟨b, 1, none⟩ = some v := by rw [Lib.cell_of_heap hb2]; rfl
  have f1 : w2.frozen? ⟨b, 1, none⟩ = false := Lib.frozen_of_heap hb2 1
  have A2 : Box (BldAt (w2.setCell ⟨b, 1, none⟩ v') B b (.pointer (some ⟨b, 0, none⟩)) (l ++ s.data.toList)) := box
    (Lib.BuilderAt.put (T := 61) (e := 5) hB hb2 (bs' := Lib.byteCells (l ++ s.data.toList)) (by
      rw [Lib.byteCells_append, List.length_append, ← Lib.strCells_eq, Lib.strCells_length, hll]; exact hown') (by decide))
  have Z2 : Box (BldZ (w2.setCell ⟨b, 1, none⟩ v') B b (l ++ s.data.toList)) := box ⟨_, v', .inr rfl, BldV.of A2.out (by simp [World.setCell, Array.getElem?_modify, hb2]) (by
    rw [hiff, HNL.out, List.append_eq_nil_iff]
    have e : s.data.toList = [] ↔ s = ByteArray.empty := ⟨fun q => ByteArray.ext (Array.toList_inj.mp q), fun q => by rw [q]; rfl⟩
    rw [e])⟩
  have B2 : Box (Below B w (w2.setCell ⟨b, 1, none⟩ v')) := box ((B1.out.grown hgrow (by omega) (fun k hk => (H1.out.lt k hk).1)).setCell (p := ⟨b, 1, none⟩) hB _)
  have K2 : Box (KeepU b w (w2.setCell ⟨b, 1, none⟩ v')) := box (K1.out.trans (fun k cs T fr hk hT hh => by
    simp only [World.setCell, Array.getElem?_modify]
    rw [if_neg (fun e => hk e.symm), hgrow.block k (blk_lt hh) (fun e => Lib.ownBlock_ne H1.out hh hT e.symm)]; exact hh))
  obtain ⟨ax, nx, cx, rfl⟩ : ∃ a n c, v' = .slice a n c := by
    rcases hown'.2 with ⟨hv, _⟩ | ⟨g, cap, cur, hv, _⟩
    · exact ⟨_, _, _, hv⟩
    · exact ⟨_, _, _, hv⟩
  clear hown' hgrow hb2 hiff A2
  go_wp2
  go_ret2
  exact ⟨rfl, Z2.out, B2.out, K2.out⟩
theorem String_nil (b : Nat) (p : Value) (w : World) (hb : w.heap[b]? = some (.cells #[p, .slice none 0 0] 61 (0, 0))) :
    Calls Try.prog 49 #[.pointer (some ⟨b, 0, none⟩)] w fun e w' => e = .returned (.string ⟨#[]⟩) ∧ Below w.heap.size w w' := by
  have c1 : w.drew.cell? ⟨b, 1, none⟩ = some (.slice none 0 0) := by rw [Lib.cell_of_heap (w := w.drew) hb]; rfl
  have hSD : (Builtin.unsafeSliceData_ #[53] 75 #[.slice none 0 0]).run Try.prog w.drew = .ok (.pointer none) w.drew := Lib.run_unsafeSliceData_nil _ _ _ _ _
  have hUS : (Builtin.unsafeString_ #[75, 3] 9 #[.pointer none, .int .i64 0]).run Try.prog w.drew = .ok (.string ⟨#[]⟩) w.drew := Lib.run_unsafeString_none _ _ _ _ _
  clear hb
  go_enter Try.func49, Try.ntmps49
  go_wp2
  go_region
  all_goals (go_wp2; go_ret; exact ⟨rfl, below_drewN w 1⟩)
theorem String_z (B b : Nat) (l : List UInt8) (w : World) (h : Box (BldZ w B b l)) (hB : B ≤ w.heap.size) :
    Calls Try.prog 49 #[.pointer (some ⟨b, 0, none⟩)] w fun e w' => e = .returned (.string ⟨l.toArray⟩) ∧ Below B w w' := by
  by_cases h0 : l = []
  · obtain ⟨p, v, hp, hV⟩ := h.out
    have hv := hV.2.2.2.2.mpr h0
    subst hv h0
    exact (String_nil b p w hV.2.1).mono fun e w' ⟨h1, h2⟩ => ⟨h1, h2.mono hB⟩
  · exact String_any B b l w (box h.out.bld) h0
end
section
open Go.RowKit
/-- what a token or a quoted string stands for -/
def contO (l : List UInt8) : Option (List UInt8) := if tokL l = true then some l else unqL l
theorem cont_nil : contO [] = none := rfl
theorem cut2_nil {x : List UInt8} (h : cutB 61 x = false) : cut2 61 x = [] := by
  rcases idx_cases x 61 with hi | ⟨o, hi, ho⟩
  · exact (cut_no hi).2.1
  · rw [(cut_at hi).2.2.2] at h; exact absurd h (by decide)
theorem param_cont0 {x : List UInt8} (h : contO (cut2 61 x) = none) : paramL x = none := by
  unfold paramL
  split
  · rfl
  · unfold contO at h
    split at h
    · cases h
    · rename_i q; rw [if_neg q, h]
theorem param_cont1 {x : List UInt8} (h : tokL (cut1 61 x) = false) : paramL x = none := by
  unfold paramL; rw [if_pos (.inr h)]
theorem param_cont2 {x u : List UInt8} (h : tokL (cut1 61 x) = true) (hu : contO (cut2 61 x) = some u) : paramL x = some (bs (lowL (cut1 61 x)), bs u) := by
  have hb : cutB 61 x = true := by
    rcases q : cutB 61 x with _ | _
    · rw [cut2_nil q, cont_nil] at hu; cases hu
    · rfl
  unfold paramL
  rw [if_neg (by rw [hb, h]; simp)]
  unfold contO at hu
  split at hu
  · rename_i q; rw [if_pos q]; cases hu; rfl
  · rename_i q; rw [if_neg q, hu]
theorem aToken_is {s : ByteArray} {b : Bool} {w : World} (hs : s.size ≤ maxLen) (h : Box (tokL s.data.toList = b)) :
    Calls Try.prog 60 #[.string s] w fun e w' => e = .returned (.bool b) ∧ w = w' :=
  (Token_any s w hs).mono fun e w' ⟨h1, h2⟩ => ⟨by rw [h1, h.out], h2⟩
theorem aUnq_is {s : ByteArray} {o : Option (List UInt8)} {w : World} (hs : s.size ≤ 4294967296) (h : Box (unqL s.data.toList = o)) :
    Calls Try.prog 68 #[.string s] w fun e w' => e = .returned (optV o) ∧ Below w.heap.size w w' :=
  (Unquote_any s w hs).mono fun e w' ⟨h1, h2⟩ => ⟨by rw [h1, h.out], h2⟩
theorem aLower_is {s x : ByteArray} {w : World} (hs : s.size ≤ 4294967296) (h : Box (bs (lowL s.data.toList) = x)) :
    Calls Try.prog 61 #[.string s] w fun e w' => e = .returned (.string x) ∧ Below w.heap.size w w' :=
  (Lower_any s w hs).mono fun e w' ⟨h1, h2⟩ => ⟨by rw [h1, ← h.out]; rfl, h2⟩
theorem aQuote_is {s x : ByteArray} {w : World} (hs : s.size ≤ 1073741824) (h : Box (bs (quoteL s.data.toList) = x)) :
    Calls Try.prog 63 #[.string s] w fun e w' => e = .returned (.string x) ∧ Below w.heap.size w w' :=
  (Quote_any s w hs).mono fun e w' ⟨h1, h2⟩ => ⟨by rw [h1, ← h.out]; rfl, h2⟩
theorem parseContent_is (s : ByteArray) (o : Option (List UInt8)) (w : World) (hs : s.size ≤ 4294967296) (h : Box (contO s.data.toList = o)) :
    Calls Try.prog 59 #[.string s] w fun e w' => e = .returned (optV o) ∧ Below w.heap.size w w' := by
  have hm : s.size ≤ maxLen := by unfold maxLen; omega
  have HM := box hm
  clear hm
  rcases htk : tokL s.data.toList with _ | _
  · have HT := box htk
    have hu : unqL s.data.toList = o := by
      have := h.out
      unfold contO at this
      rwa [if_neg (by rw [htk]; decide)] at this
    have HU := box hu
    clear htk hu h
    rcases o with _ | u
    · go_enter Try.func59, Try.ntmps59
      go_wp2_with fail
      refine (aToken_is HM.out HT).mono ?_; rintro e w1 ⟨rfl, rfl⟩
      go_wp2_with fail
      refine (aUnq_is hs HU).mono ?_; rintro e w2 ⟨rfl, hb⟩
      have B := box hb
      clear hb
      unfold optV
      go_wp2
      go_ret2
      exact ⟨rfl, B.out⟩
    · go_enter Try.func59, Try.ntmps59
      go_wp2_with fail
      refine (aToken_is HM.out HT).mono ?_; rintro e w1 ⟨rfl, rfl⟩
      go_wp2_with fail
      refine (aUnq_is hs HU).mono ?_; rintro e w2 ⟨rfl, hb⟩
      have B := box hb
      clear hb
      unfold optV
      go_wp2
      go_ret2
      exact ⟨rfl, B.out⟩
  · have HT := box htk
    have ho : o = some s.data.toList := by
      rw [← h.out]; unfold contO; rw [if_pos htk]
    subst ho
    clear htk h
    go_enter Try.func59, Try.ntmps59
    go_wp2_with fail
    refine (aToken_is HM.out HT).mono ?_; rintro e w1 ⟨rfl, rfl⟩
    go_wp2
    go_ret2
    exact ⟨rfl, Below.refl _ _⟩
def pieceV : Option F → Value
  | some f => .tuple #[.string f.1, .string f.2, .bool true]
  | none => .tuple #[.string ⟨#[]⟩, .string ⟨#[]⟩, .bool false]
set_option maxHeartbeats 1000000 in
theorem parsePiece_is (x : ByteArray) (o : Option F) (w : World) (hs : x.size ≤ 65000) (h : Box (paramL x.data.toList = o)) :
    Calls Try.prog 44 #[.string x] w fun e w' => e = .returned (pieceV o) ∧ Below w.heap.size w w' := by
  have hm : x.size ≤ maxLen := by unfold maxLen; omega
  obtain ⟨n, hn⟩ : ∃ n, bs (cut1 61 x.data.toList) = n := ⟨_, rfl⟩
  obtain ⟨f, hf⟩ : ∃ f, bs (cut2 61 x.data.toList) = f := ⟨_, rfl⟩
  obtain ⟨b, hb⟩ : ∃ b, cutB 61 x.data.toList = b := ⟨_, rfl⟩
  have HV : Box (cutV 61 x.data.toList = .tuple #[.string n, .string f, .bool b]) := box (by unfold cutV; rw [hn, hf, hb])
  have hxl : x.data.toList.length = x.size := by simp
  have hnz : n.size ≤ 65000 := by
    rw [← hn, bs_size]
    have : (cut1 61 x.data.toList).length ≤ x.data.toList.length := by unfold cut1; exact (List.takeWhile_sublist _).length_le
    omega
  have hfz : f.size ≤ 65000 := by
    rw [← hf, bs_size]
    have : (cut2 61 x.data.toList).length ≤ x.data.toList.length := by
      unfold cut2; rw [List.length_drop]; have := (List.dropWhile_sublist (· != (61 : UInt8)) (l := x.data.toList)).length_le; omega
    omega
  have hn1 : n.data.toList = cut1 61 x.data.toList := by rw [← hn]; rfl
  have hf1 : f.data.toList = cut2 61 x.data.toList := by rw [← hf]; rfl
  have hnm : n.size ≤ maxLen := by unfold maxLen; omega
  have hn4 : n.size ≤ 4294967296 := by omega
  have hf4 : f.size ≤ 4294967296 := by omega
  have HNM := box hnm
  have HN4 := box hn4
  have HF4 := box hf4
  have HM := box hm
  clear hn hf hb hxl hnm hn4 hf4 hm hnz hfz hs
  rcases hc : contO (cut2 61 x.data.toList) with _ | u
  · have HC : Box (contO f.data.toList = none) := box (by rw [hf1, hc])
    obtain rfl : o = none := by rw [← h.out]; exact param_cont0 hc
    clear hc hn1 hf1 h
    go_enter Try.func44, Try.ntmps44
    go_wp2_with fail
    refine (Cut_any x 61 _ HM.out).mono ?_; rintro e w1 ⟨rfl, hb1⟩; rw [HV.out]
    have B1 := box hb1
    clear hb1
    go_wp2_with fail
    refine (parseContent_is f none _ HF4.out HC).mono ?_; rintro e w2 ⟨rfl, hb2⟩
    have B2 := box (B1.out.trans (hb2.mono B1.out.size))
    clear hb2
    unfold optV
    go_wp2
    go_ret3
    exact ⟨rfl, B2.out⟩
  · have HC : Box (contO f.data.toList = some u) := box (by rw [hf1, hc])
    rcases ht : tokL (cut1 61 x.data.toList) with _ | _
    · have HT : Box (tokL n.data.toList = false) := box (by rw [hn1, ht])
      obtain rfl : o = none := by rw [← h.out]; exact param_cont1 ht
      clear hc ht hn1 hf1 h
      go_enter Try.func44, Try.ntmps44
      go_wp2_with fail
      refine (Cut_any x 61 _ HM.out).mono ?_; rintro e w1 ⟨rfl, hb1⟩; rw [HV.out]
      have B1 := box hb1
      clear hb1
      go_wp2_with fail
      refine (parseContent_is f (some u) _ HF4.out HC).mono ?_; rintro e w2 ⟨rfl, hb2⟩
      have B2 := box (B1.out.trans (hb2.mono B1.out.size))
      clear hb2
      unfold optV
      go_wp2_with fail
      refine (aToken_is HNM.out HT).mono ?_; rintro e w3 ⟨rfl, rfl⟩
      go_wp2
      go_ret3
      exact ⟨rfl, B2.out⟩
    · have HT : Box (tokL n.data.toList = true) := box (by rw [hn1, ht])
      obtain ⟨nm, hnm⟩ : ∃ nm, bs (lowL n.data.toList) = nm := ⟨_, rfl⟩
      have HL := box hnm
      obtain ⟨ub, hub⟩ : ∃ ub, bs u = ub := ⟨_, rfl⟩
      have HU : Box (optV (some u) = .tuple #[.string ub, .bool true]) := box (by rw [← hub]; rfl)
      obtain rfl : o = some (nm, ub) := by rw [← h.out, param_cont2 ht hc, ← hnm, hn1, hub]
      clear hc ht hn1 hf1 h hnm hub
      go_enter Try.func44, Try.ntmps44
      go_wp2_with fail
      refine (Cut_any x 61 _ HM.out).mono ?_; rintro e w1 ⟨rfl, hb1⟩; rw [HV.out]
      have B1 := box hb1
      clear hb1
      go_wp2_with fail
      refine (parseContent_is f (some u) _ HF4.out HC).mono ?_; rintro e w2 ⟨rfl, hb2⟩; rw [HU.out]
      have B2 := box (B1.out.trans (hb2.mono B1.out.size))
      clear hb2
      go_wp2_with fail
      refine (aToken_is HNM.out HT).mono ?_; rintro e w3 ⟨rfl, rfl⟩
      go_wp2_with fail
      refine (aLower_is HN4.out HL).mono ?_; rintro e w4 ⟨rfl, hb4⟩
      have B4 := box (B2.out.trans (hb4.mono B2.out.size))
      clear hb4
      go_wp2
      go_ret3
      exact ⟨rfl, B4.out⟩
def ParRelM (T : Option (List F)) (B n : Nat) (w : World) (r m v : Value) (wr : World) : Prop :=
  ∃ (acc : List F) (t : ByteArray) (b : Bool), r = .string t ∧ m = .bool b ∧ acc.length + t.size ≤ n ∧ T = parF (moreL 59 b t.data.toList) acc ∧ OwnP wr B v acc ∧ Below B w wr
set_option maxHeartbeats 4000000 in
theorem mPar_any (s : ByteArray) (w : World) (hs : s.size ≤ 65000) :
    Calls Try.prog 23 #[.string s] w fun e w' => parW w w' s.data.toList e := by
  obtain ⟨p, r0, m0, hp⟩ : ∃ p r m, pcL 59 s.data.toList = (p, r, m) := ⟨_, _, _, rfl⟩
  have HV : Box (pcV 59 s.data.toList = .tuple #[.string (bs p), .string (bs r0), .bool m0]) := box (by unfold pcV; rw [hp])
  have hcut : cutL 59 s.data.toList = p :: moreL 59 m0 r0 := by
    have := cutL_pc (sep := 59) (by decide) s.data.toList
    rwa [hp] at this
  have HQ := box hcut
  have hsz := pcF_size 59 s.data.toList 0 []
  rw [show pcF 59 0 s.data.toList [] = (p, r0, m0) from hp] at hsz
  simp only [List.length_nil, Nat.zero_add] at hsz
  rw [show s.data.toList.length = s.size from by simp] at hsz
  have hrz : (bs r0).size ≤ 65000 := by rw [bs_size]; omega
  have hpz : (bs p).size ≤ maxLen := by rw [bs_size]; unfold maxLen; omega
  clear hp hcut hsz
  by_cases ht : trimL p = []
  · have HT : Box (bs (trimL (bs p).data.toList) = ⟨#[]⟩) := box (by rw [bs_toList, ht]; rfl)
    have HN := box (par_none0 HQ.out ht)
    clear ht
    go_enter Try.func23, Try.ntmps23
    go_wp2_with fail
    refine (pieceCut_any s 59 _ hs).mono ?_; rintro e w1 ⟨rfl, hb1⟩
    rw [HV.out]
    have B1 := box hb1
    clear hb1
    go_wp2_with fail
    refine (aTrim_is hpz HT).mono ?_; rintro e w2 ⟨rfl, rfl⟩
    go_wp2
    go_ret3
    exact parW_none HN.out B1.out
  · obtain ⟨x0, hx0⟩ : ∃ x0, bs (trimL p) = x0 := ⟨_, rfl⟩
    have HT : Box (bs (trimL (bs p).data.toList) = x0) := box (by rw [bs_toList, hx0])
    have hxe : x0.toList.isEmpty = false := by
      rw [← hx0, toList_bs]
      cases h : trimL p with
      | nil => exact absurd h ht
      | cons c r => rfl
    have HX0 := box hx0
    have HNE := box ht
    obtain ⟨T, hT⟩ : ∃ T, parF (moreL 59 m0 r0) [] = T := ⟨_, rfl⟩
    have HTT := box hT
    clear hx0 ht hT
    go_enter Try.func23, Try.ntmps23
    go_wp2_with fail
    refine (pieceCut_any s 59 _ hs).mono ?_; rintro e w1 ⟨rfl, hb1⟩
    rw [HV.out]
    have B1 := box hb1
    have hB1 := hb1.size
    clear hb1
    go_wp2_with fail
    refine (aTrim_is hpz HT).mono ?_; rintro e w2 ⟨rfl, rfl⟩
    go_wp2
    go_loopw [6, 7, 9] (fun r m v wr => ParRelM T w1.heap.size 65000 w1 r m v wr) (fun r m _ _ => msr m r)
    case atStart => exact ⟨[], bs r0, m0, rfl, rfl, by simpa using hrz, by rw [bs_toList]; exact HTT.out.symm, OwnP.nil _ _, Below.refl _ _⟩
    case round =>
      obtain ⟨acc, t, b, rfl, rfl, hat, hTM, hO, hbel⟩ := hrel
      have O0 := box hO
      have BL := box hbel
      have HM := box hTM
      have hBw := hbel.size
      obtain ⟨av, cv, rfl, _, _⟩ := hO.fs
      clear hO hbel hTM
      rcases b with _ | _
      · have HD : Box (parA s.data.toList = x0 ∧ parB s.data.toList = acc ∧ parO s.data.toList = true) := box (by
          have := par_some HQ.out HNE.out (HTT.out.trans HM.out)
          rwa [HX0.out] at this)
        go_wp2
        go_ret3
        obtain ⟨d1, d2, d3⟩ := HD.out
        exact ⟨_, by rw [d1, d3]; rfl, by rw [d2]; exact Go.Joins.ownsRow_le O0.out hB1, B1.out.trans (BL.out.mono hB1)⟩
      · have ht6 : t.size ≤ 65000 := by omega
        obtain ⟨p, r, m, hp⟩ : ∃ p r m, pcL 59 t.data.toList = (p, r, m) := ⟨_, _, _, rfl⟩
        have HV : Box (pcV 59 t.data.toList = .tuple #[.string (bs p), .string (bs r), .bool m]) := box (by unfold pcV; rw [hp])
        have hcut : T = parF (p :: moreL 59 m r) acc := by
          have := cutL_pc (sep := 59) (by decide) t.data.toList
          rw [hp] at this
          rw [HM.out]
          show parF (cutL 59 t.data.toList) acc = _
          rw [this]
        have hsz := pcF_size 59 t.data.toList 0 []
        rw [show pcF 59 0 t.data.toList [] = (p, r, m) from hp] at hsz
        simp only [List.length_nil, Nat.zero_add] at hsz
        rw [show t.data.toList.length = t.size from by simp] at hsz
        have hrz : acc.length + (bs r).size ≤ 65000 := by rw [bs_size]; omega
        have hms : Box (msr (.bool m) (.string (bs r)) < t.size + 1) := box (by
          cases m
          · exact Nat.zero_lt_succ _
          · show (bs r).size + 1 < t.size + 1
            rw [bs_size]; have := hsz.2 rfl; omega)
        have hpz : (bs p).size ≤ maxLen := by rw [bs_size]; unfold maxLen; omega
        have HSZ := box hsz.1
        have HCut := box hcut
        clear hp hcut hsz HM
        by_cases htr : trimL p = []
        · have HTr : Box (bs (trimL (bs p).data.toList) = ⟨#[]⟩) := box (by rw [bs_toList, htr]; rfl)
          have HN : Box (T = parF (moreL 59 m (bs r).data.toList) acc) := box (by rw [HCut.out, parF_skip htr, bs_toList])
          clear HCut htr
          go_wp2_with fail
          refine (pieceCut_any t 59 _ ht6).mono ?_; rintro e w3 ⟨rfl, hb3⟩
          rw [HV.out]
          have O3 := box (own_below O0.out hb3)
          have B3 := box (BL.out.trans (hb3.mono hBw))
          clear hb3
          go_wp2_with fail
          refine (aTrim_is hpz HTr).mono ?_; rintro e w4 ⟨rfl, rfl⟩
          go_wp2
          go_roundw
          case rel => exact ⟨acc, bs r, m, rfl, rfl, hrz, HN.out, O3.out, B3.out⟩
          case measure => exact hms.out
        · obtain ⟨x, hx⟩ : ∃ x, bs (trimL p) = x := ⟨_, rfl⟩
          have hxd : x.data.toList = trimL p := by rw [← hx]; rfl
          have HTr : Box (bs (trimL (bs p).data.toList) = x) := box (by rw [bs_toList, hx])
          have hxe : x.toList.isEmpty = false := by
            rw [← hx, toList_bs]
            cases h : trimL p with
            | nil => exact absurd h htr
            | cons c r => rfl
          have hxz : x.size ≤ 65000 := by
            have h1 := trim_le p
            have h2 : x.size = (trimL p).length := by rw [← hx, bs_size]
            have := HSZ.out
            omega
          have hp1 : 1 ≤ p.length := by
            cases h : p with
            | nil => rw [h] at htr; exact absurd rfl htr
            | cons c r => simp
          have hmz : acc.length + 1 + (bs r).size ≤ 65000 := by rw [bs_size]; have := HSZ.out; omega
          rcases hpm : paramL x.data.toList with _ | f
          · have HP := box hpm
            have HB := box (par_none1 HQ.out HNE.out (HTT.out.trans (HCut.out.trans (parF_bad htr (by rw [← hxd]; exact hpm)))))
            clear HCut hx hxd hpm htr
            go_wp2_with fail
            refine (pieceCut_any t 59 _ ht6).mono ?_; rintro e w3 ⟨rfl, hb3⟩
            rw [HV.out]
            have B3 := box (BL.out.trans (hb3.mono hBw))
            clear hb3
            go_wp2_with fail
            refine (aTrim_is hpz HTr).mono ?_; rintro e w4 ⟨rfl, rfl⟩
            go_wp2_with fail
            refine (parsePiece_is x none _ hxz HP).mono ?_; rintro e w5 ⟨rfl, hb5⟩
            have B5 := box (B3.out.trans (hb5.mono B3.out.size))
            clear hb5
            unfold pieceV
            go_wp2
            go_ret3
            exact parW_none HB.out (B1.out.trans (B5.out.mono hB1))
          · have HP := box hpm
            obtain ⟨nm, ub⟩ := f
            have HN : Box (T = parF (moreL 59 m (bs r).data.toList) (acc ++ [(nm, ub)])) := box (by rw [HCut.out, parF_step htr (by rw [← hxd]; exact hpm), bs_toList])
            have hml : Box ((acc ++ [(nm, ub)]).length + (bs r).size ≤ 65000) := box (by rw [List.length_append]; simp only [List.length_cons, List.length_nil]; omega)
            clear HCut hx hxd hpm htr
            go_wp2_with fail
            refine (pieceCut_any t 59 _ ht6).mono ?_; rintro e w3 ⟨rfl, hb3⟩
            rw [HV.out]
            have O3 := box (own_below O0.out hb3)
            have B3 := box (BL.out.trans (hb3.mono hBw))
            clear hb3
            go_wp2_with fail
            refine (aTrim_is hpz HTr).mono ?_; rintro e w4 ⟨rfl, rfl⟩
            go_wp2_with fail
            refine (parsePiece_is x (some (nm, ub)) _ hxz HP).mono ?_; rintro e w5 ⟨rfl, hb5⟩
            have O5 := box (own_below O3.out hb5)
            have B5 := box (B3.out.trans (hb5.mono B3.out.size))
            clear hb5
            unfold pieceV
            go_wp2_with (at_builtin; refine wpList_append_prm _ rfl (.tmp 44) (.tmp 48) rfl w1.heap.size _ acc rfl ?a1 _ _ rfl nm ub ?b1 ?b2 ?c1 ?d1 ?_)
            case a1 => exact own_below O5.out (below_new _ _)
            case b1 => go_simp
            case b2 => go_simp
            case c1 => omega
            case d1 => have := B5.out.size; simp; omega
            intro v6 w6 hO6 hb6
            have O6 := box hO6
            have B6 := box ((B5.out.alloc B5.out.size _).trans hb6)
            clear hO6 hb6
            go_wp2
            go_roundw
            case rel => exact ⟨acc ++ [(nm, ub)], bs r, m, rfl, rfl, hml.out, HN.out, O6.out, B6.out⟩
            case measure => exact hms.out
theorem mFind_any (a : Option Addr) (cap : Nat) (L : List F) (nm : ByteArray) (w : World) (hl : L.length ≤ 65536) (hF : Box (Fs w a L)) :
    Calls Try.prog 28 #[.slice a L.length cap, .string nm] w fun e w' => e = .returned (findV nm L) ∧ Below w.heap.size w w' := by
  go_enter Try.func28, Try.ntmps28
  go_wp2
  go_loopw [10] (fun i wr => (∃ k : Nat, k ≤ L.length ∧ i = .int .i64 k ∧ ∀ i (hi : i < L.length), i < k → L[i].1 ≠ nm) ∧ Below w.heap.size w wr) (fun i _ => L.length - (intOf i).toNat)
  case atStart => exact ⟨⟨0, Nat.zero_le _, rfl, fun i hi h => by omega⟩, Below.refl _ _⟩
  case round =>
    obtain ⟨⟨k, hk, rfl, hno⟩, hbel⟩ := hrel
    have HN := box hno
    have BL := box hbel
    clear hno hbel
    by_cases hlt : k < L.length
    · obtain ⟨q, off, rfl, c0, c1⟩ := (hF.out.below BL.out) k hlt
      rcases he : (L[k].1.toList == nm.toList) with _ | _
      · have HX : Box (∀ i (hi : i < L.length), i < k + 1 → L[i].1 ≠ nm) := box (fun i hi h => by
          by_cases e : i = k
          · subst e
            intro h2; rw [h2] at he; simp at he
          · exact HN.out i hi (by omega))
        go_wp2
        go_roundw
        case rel => exact ⟨⟨k + 1, by omega, by go_num, HX.out⟩, BL.out.alloc BL.out.size _⟩
        case measure => simp [intOf]; omega
      · have HX : Box (findV nm L = .tuple #[.string L[k].2, .bool true]) := box (by unfold findV; rw [find_hit hlt HN.out (str_eq he)])
        go_wp2
        go_ret2
        exact ⟨by rw [HX.out]; rfl, BL.out.alloc BL.out.size _⟩
    · have HX : Box (findV nm L = .tuple #[.string ⟨#[]⟩, .bool false]) := box (by unfold findV; rw [find_miss (fun i hi => HN.out i hi (by omega))])
      go_wp2
      go_ret2
      exact ⟨by rw [HX.out]; rfl, BL.out⟩
theorem formatContent_is (s x : ByteArray) (w : World) (hs : s.size ≤ 65536) (h : Box (bs (valP s.data.toList) = x)) :
    Calls Try.prog 48 #[.string s] w fun e w' => e = .returned (.string x) ∧ Below w.heap.size w w' := by
  have hm : s.size ≤ maxLen := by unfold maxLen; omega
  have hq : s.size ≤ 1073741824 := by omega
  have HM := box hm
  clear hm
  rcases htk : tokL s.data.toList with _ | _
  · have HT := box htk
    have HX : Box (bs (quoteL s.data.toList) = x) := box (by rw [← h.out, val_not htk])
    clear htk h
    go_enter Try.func48, Try.ntmps48
    go_wp2_with fail
    refine (aToken_is HM.out HT).mono ?_; rintro e w1 ⟨rfl, rfl⟩
    go_wp2_with fail
    refine (aQuote_is hq HX).mono ?_; rintro e w2 ⟨rfl, hb⟩
    have B := box hb
    clear hb
    go_wp2
    go_ret
    exact ⟨rfl, B.out⟩
  · have HT := box htk
    have hx : s = x := by rw [← h.out, val_tok htk]; rfl
    subst hx
    clear htk h
    go_enter Try.func48, Try.ntmps48
    go_wp2_with fail
    refine (aToken_is HM.out HT).mono ?_; rintro e w1 ⟨rfl, rfl⟩
    go_wp2
    go_ret
    exact ⟨rfl, Below.refl _ _⟩
def FmtRelM (v : ByteArray) (L : List F) (B : Nat) (w : World) (i : Value) (wr : World) : Prop :=
  ∃ k : Nat, i = .int .i64 k ∧ k ≤ L.length ∧ Box (BldZ wr B B (fmtPL v.data.toList (L.take k))) ∧ Box ((fmtPL v.data.toList (L.take k)).length ≤ 65536 + 200000 * k) ∧ Box (Below B w wr)
set_option maxHeartbeats 4000000 in
theorem mFmt9_any (v : ByteArray) (a : Option Addr) (cap : Nat) (L : List F) (w : World) (hv : v.size ≤ 65536) (hl : L.length ≤ 65536) (hz : Box (∀ i (hi : i < L.length), L[i].1.size ≤ 65536 ∧ L[i].2.size ≤ 65536)) (hF : Box (Fs w a L)) :
    Calls Try.prog 30 #[.string v, .slice a L.length cap] w fun e w' => e = .returned (.string (fmtPB v L)) ∧ Below w.heap.size w w' := by
  have hvl : v.data.toList.length = v.size := by simp
  go_enter Try.func30, Try.ntmps30
  go_wp2_with fail
  refine (WriteString_z w.heap.size w.heap.size [] v _ (box (BldZ.fresh w)) (by rw [List.length_nil]; omega) (by simp)).mono ?_; rintro e w1 ⟨rfl, hZ1, hb1, _⟩
  have Z1 : Box (BldZ w1 w.heap.size w.heap.size (fmtPL v.data.toList (L.take 0))) := box (by simpa [fmtPL] using hZ1)
  have L1 : Box ((fmtPL v.data.toList (L.take 0)).length ≤ 65536 + 200000 * 0) := box (by simp [fmtPL]; omega)
  have B1 := box ((below_new w _).trans hb1)
  clear hZ1 hb1 hvl
  go_wp2
  go_loopw [12] (fun i wr => FmtRelM v L w.heap.size w i wr) (fun i _ => L.length - (intOf i).toNat)
  case atStart => exact ⟨0, rfl, Nat.zero_le _, Z1, L1, B1⟩
  case round =>
    obtain ⟨k, rfl, hk, Z2, L2, B2⟩ := hrel
    have hB2 := B2.out.size
    by_cases hlt : k < L.length
    · obtain ⟨q, off, rfl, c0, c1⟩ := (hF.out.below B2.out) k hlt
      obtain ⟨z1, z2⟩ := hz.out k hlt
      obtain ⟨nm, hnm⟩ : ∃ nm, L[k].1 = nm := ⟨_, rfl⟩
      obtain ⟨u, hu⟩ : ∃ u, L[k].2 = u := ⟨_, rfl⟩
      obtain ⟨vv, hvv⟩ : ∃ vv, bs (valP u.data.toList) = vv := ⟨_, rfl⟩
      have hvd : vv.data.toList = valP u.data.toList := by rw [← hvv]; rfl
      have hvz : vv.size ≤ 131074 := by
        rw [← hvv, bs_size]
        have h2 := val_len u.data.toList
        have e : u.data.toList.length = u.size := by simp
        rw [hu] at z2
        omega
      have HN : Box (fmtPL v.data.toList (L.take k) ++ [59] ++ nm.data.toList ++ [61] ++ vv.data.toList = fmtPL v.data.toList (L.take (k + 1))) := box (by
        rw [fmt_more hlt]
        unfold oneP
        rw [hnm, hu, hvd]
        simp)
      have HVV := box hvv
      have hnl : nm.data.toList.length = nm.size := by simp
      have hvl : vv.data.toList.length = vv.size := by simp
      have hL3 : Box ((fmtPL v.data.toList (L.take (k + 1))).length ≤ 65536 + 200000 * (k + 1)) := box (by
        rw [← HN.out]
        simp only [List.length_append, List.length_cons, List.length_nil]
        have := L2.out
        rw [hnm] at z1
        omega)
      obtain ⟨X, hX⟩ : ∃ X, fmtPL v.data.toList (L.take k) = X := ⟨_, rfl⟩
      rw [hX] at Z2 L2 HN
      have hXl : X.length ≤ 13200000000 := by have := L2.out; omega
      rw [hnm] at c0 z1
      rw [hu] at c1 z2
      clear hX hnm hu hvv hvd hnl hvl
      have hlt2 := Z2.out.lt
      have hne := Nat.ne_of_gt hlt2
      have h59 : (⟨#[59]⟩ : ByteArray).size = 1 := rfl
      have h61 : (⟨#[61]⟩ : ByteArray).size = 1 := rfl
      go_wp2_with fail
      refine (WriteString_z w.heap.size w.heap.size X ⟨#[59]⟩ _ (box (Z2.out.next (below_new _ _))) (by omega) (by simp; omega)).mono ?_; rintro e w3 ⟨rfl, hZ3, hb3, hk3⟩
      have hg3 := hk3 _ _ _ _ hne (by decide) (heap_alloc_new _ _)
      have d0 := (Lib.cell_of_heap hg3 0).trans rfl
      have G3 := box hg3
      have Z3 : Box (BldZ w3 w.heap.size w.heap.size (X ++ [59])) := box hZ3
      have B3 := box ((B2.out.alloc hB2 _).trans hb3)
      have hs3 := B3.out.size
      clear hZ3 hb3 hk3 hg3
      go_wp2_with fail
      refine (WriteString_z w.heap.size w.heap.size _ nm _ Z3 (by rw [List.length_append]; simp only [List.length_cons, List.length_nil]; omega) hs3).mono ?_; rintro e w4 ⟨rfl, hZ4, hb4, hk4⟩
      have G4 := box (hk4 _ _ _ _ hne (by decide) G3.out)
      have Z4 := box hZ4
      have B4 := box (B3.out.trans hb4)
      have hs4 := B4.out.size
      clear hZ4 hb4 hk4 d0
      go_wp2_with fail
      refine (WriteString_z w.heap.size w.heap.size _ ⟨#[61]⟩ _ Z4 (by rw [List.length_append, List.length_append]; simp only [List.length_cons, List.length_nil, Array.length_toList]; show _ + nm.size + 1 ≤ _; omega) hs4).mono ?_; rintro e w5 ⟨rfl, hZ5, hb5, hk5⟩
      have hg5 := hk5 _ _ _ _ hne (by decide) G4.out
      have d1 := (Lib.cell_of_heap hg5 1).trans rfl
      have Z5 : Box (BldZ w5 w.heap.size w.heap.size (X ++ [59] ++ nm.data.toList ++ [61])) := box hZ5
      have B5 := box (B4.out.trans hb5)
      have hs5 := B5.out.size
      clear hZ5 hb5 hk5 hg5
      go_wp2_with fail
      refine (formatContent_is u vv _ z2 HVV).mono ?_; rintro e w6 ⟨rfl, hb6⟩
      have Z6 := box (Z5.out.next hb6)
      have B6 := box (B5.out.trans (hb6.mono hs5))
      have hs6 := B6.out.size
      clear hb6 d1
      go_wp2_with fail
      refine (WriteString_z w.heap.size w.heap.size _ vv _ Z6 (by simp only [List.length_append, List.length_cons, List.length_nil, Array.length_toList]; show _ + 1 + nm.size + 1 + vv.size ≤ _; omega) hs6).mono ?_; rintro e w7 ⟨rfl, hZ7, hb7, _⟩
      rw [HN.out] at hZ7
      have Z7 := box hZ7
      have B7 := box (B6.out.trans hb7)
      clear hZ7 hb7
      go_wp2
      go_roundw
      case rel => exact ⟨k + 1, by go_num, by omega, Z7, hL3, B7⟩
      case measure => simp [intOf]; omega
    · have HE : Box (fmtPL v.data.toList (L.take k) = fmtPL v.data.toList L) := box (by rw [List.take_of_length_le (by omega)])
      rw [HE.out] at Z2
      go_wp2_with fail
      refine (String_z w.heap.size w.heap.size _ _ Z2 hB2).mono ?_; rintro e w6 ⟨rfl, hb6⟩
      have B6 := box (B2.out.trans hb6)
      clear hb6
      go_wp2
      go_ret
      exact ⟨rfl, B6.out⟩
end
section
open Go.RowKit
/-- the results as letters: value, parameters at an address, found or not -/
theorem mPar_is {s x : ByteArray} {K : List F} {b : Bool} {w : World} (hs : s.size ≤ 65000) (h : Box (parA s.data.toList = x ∧ parB s.data.toList = K ∧ parO s.data.toList = b)) :
    Calls Try.prog 23 #[.string s] w fun e w' => ∃ a cap, e = .returned (.tuple #[.string x, .slice a K.length cap, .bool b]) ∧ Fs w' a K ∧ K.length ≤ cap ∧ Below w.heap.size w w' :=
  (mPar_any s w hs).mono fun e w' ⟨v, h1, h2, h3⟩ => by
    obtain ⟨rfl, rfl, rfl⟩ := h.out
    obtain ⟨a, cap, rfl, hS, hc⟩ := h2.fs
    exact ⟨a, cap, h1, hS, hc, h3⟩
theorem rPar_is {s x : ByteArray} {K : List F} {b : Bool} {w : World} (hs : s.size ≤ 65000) (h : Box (parA s.data.toList = x ∧ parB s.data.toList = K ∧ parO s.data.toList = b)) :
    Calls Try.prog 24 #[.string s] w fun e w' => ∃ a cap, e = .returned (.tuple #[.string x, .slice a K.length cap, .bool b]) ∧ Fs w' a K ∧ K.length ≤ cap ∧ Below w.heap.size w w' :=
  (rPar_any s w hs).mono fun e w' ⟨v, h1, h2, h3⟩ => by
    obtain ⟨rfl, rfl, rfl⟩ := h.out
    obtain ⟨a, cap, rfl, hS, hc⟩ := h2.fs
    exact ⟨a, cap, h1, hS, hc, h3⟩
theorem sameP_is {a b : Option Addr} {n m ca cb : Nat} {K L : List F} {q : Bool} {w : World} (hn : Box (K.length = n)) (hm : Box (L.length = m)) (hk : Box (K.length ≤ 65536)) (hl : Box (L.length ≤ 65536)) (hK : Fs w a K) (hL : Fs w b L) (h : Box (decide (K = L) = q)) :
    Calls Try.prog 25 #[.slice a n ca, .slice b m cb] w fun e w' => e = .returned (.bool q) ∧ Below w.heap.size w w' := by
  have := SameP_any a b ca cb K L w hk.out hl.out (box hK) (box hL)
  rw [hn.out, hm.out, h.out] at this; exact this
theorem fs_two (a b c d : ByteArray) (w : World) (t : TypeId) : Fs (w.alloc (.cells #[.string a, .string b, .string c, .string d] t)) (some ⟨w.heap.size, 0, none⟩) [(a, b), (c, d)] := by
  intro i hi
  refine ⟨w.heap.size, 0, rfl, ?_, ?_⟩
  all_goals
    rw [World.cell?_alloc_mark]
    match i, hi with
    | 0, _ => rfl
    | 1, _ => rfl
def aw9 : ByteArray := ⟨#[116, 101, 120, 116, 47, 104, 116, 109, 108, 59, 32, 76, 101, 118, 101, 108, 61, 49, 59, 113, 61, 34, 48, 46, 53, 34]⟩
def aw9V : ByteArray := ⟨#[116, 101, 120, 116, 47, 104, 116, 109, 108]⟩
def aw9L : List F := [(⟨#[108, 101, 118, 101, 108]⟩, ⟨#[49]⟩), (⟨#[113]⟩, ⟨#[48, 46, 53]⟩)]
theorem aw9_is : parA aw9.data.toList = aw9V ∧ parB aw9.data.toList = aw9L ∧ parO aw9.data.toList = true := by decide +kernel
theorem awake9_any (w : World) : Calls Try.prog 26 #[] w fun e w' => e = .returned (.bool true) ∧ Below w.heap.size w w' := by
  have HS := box aw9_is
  have HD : Box (decide (aw9L = aw9L) = true) := box (by simp)
  have hz : aw9.size ≤ 65000 := by decide
  have hv : (aw9V.toList == [116, 101, 120, 116, 47, 104, 116, 109, 108]) = true := by decide +kernel
  go_enter Try.func26, Try.ntmps26
  go_wp2_with fail
  refine (mPar_is (s := aw9) hz HS).mono ?_; rintro e w1 ⟨a1, cap1, rfl, hS1, hc1, hb1⟩
  have S1 := box hS1
  have B1 := box hb1
  clear hS1 hb1
  go_wp2_with fail
  refine (sameP_is (K := aw9L) (L := aw9L) (box rfl) (box rfl) (box (by decide)) (box (by decide)) (S1.out.below (below_new _ _)) (fs_two _ _ _ _ _ _) HD).mono ?_; rintro e w2 ⟨rfl, hb2⟩
  have B2 := box ((B1.out.alloc B1.out.size _).trans (hb2.mono (B1.out.alloc B1.out.size _).size))
  clear hb2
  go_wp2
  go_ret
  exact ⟨rfl, B2.out⟩
theorem parB_len (s : ByteArray) : (parB s.data.toList).length ≤ s.size + 1 := by
  have key : ∀ (ps : List (List UInt8)) (acc L : List F), parF ps acc = some L → L.length ≤ acc.length + ps.length := by
    intro ps
    induction ps with
    | nil => intro acc L h; simp only [parF, Option.some.injEq] at h; subst h; simp
    | cons p ps ih =>
      intro acc L h
      unfold parF at h
      split at h
      · have := ih _ _ h; simp only [List.length_cons]; omega
      · split at h
        · have := ih _ _ h
          simp only [List.length_append, List.length_cons, List.length_nil] at this ⊢; omega
        · cases h
  obtain ⟨v, ps, hq⟩ := cut_first 59 s.data.toList
  have hc := cut_count (sep := 59) s.data.toList.length false s.data.toList []
  rw [show cutF 59 s.data.toList.length false s.data.toList [] = v :: ps from hq] at hc
  simp only [List.length_cons] at hc
  have hz : s.data.toList.length = s.size := by simp
  by_cases ht : trimL v = []
  · rw [(par_none0 hq ht).2.1]; simp
  · cases hp : parF ps [] with
    | none => rw [(par_none1 hq ht hp).2.1]; simp
    | some L =>
      rw [(par_some hq ht hp).2.1]
      have := key ps [] L hp
      simp only [List.length_nil] at this; omega
set_option maxHeartbeats 1000000 in
theorem parses9_walk (s : ByteArray) (w : World) (S : s.size ≤ maxLen) :
    Calls Try.prog 7 #[.string s] w fun e w' => e = .returned (.bool true) ∧ Below w.heap.size w w' := by
  unfold maxLen at S
  by_cases h : 3000 < s.size
  · have hi : (3000 : Int) < (s.size : Int) := by omega
    go_enter Try.func7, Try.ntmps7
    go_wp2
    go_ret
    exact ⟨rfl, Below.refl _ _⟩
  · have hi : ¬ (3000 : Int) < (s.size : Int) := by omega
    have hs6 : s.size ≤ 65000 := by omega
    obtain ⟨x, hx⟩ : ∃ x, parA s.data.toList = x := ⟨_, rfl⟩
    obtain ⟨K, hK⟩ : ∃ K, parB s.data.toList = K := ⟨_, rfl⟩
    obtain ⟨b, hb⟩ : ∃ b, parO s.data.toList = b := ⟨_, rfl⟩
    have hkl : Box (K.length ≤ 65536) := box (by rw [← hK]; have := parB_len s; omega)
    have H := box (And.intro hx (And.intro hK hb))
    clear hx hK hb
    go_enter Try.func7, Try.ntmps7
    go_wp2_with fail
    refine (mPar_is hs6 H).mono ?_; rintro e w1 ⟨a1, cap1, rfl, hS1, hc1, hb1⟩
    have S1 := box hS1
    have B1 := box hb1
    clear hS1 hb1
    go_wp2_with fail
    refine (rPar_is hs6 H).mono ?_; rintro e w2 ⟨a2, cap2, rfl, hS2, hc2, hb2⟩
    have S2 := box hS2
    have T2 := box (S1.out.below hb2)
    have B2 := box (B1.out.trans (hb2.mono B1.out.size))
    clear hS2 hb2
    go_wp2_with fail
    refine (sameP_is (K := K) (L := K) (q := true) (box rfl) (box rfl) hkl hkl T2.out S2.out (box (by simp))).mono ?_; rintro e w3 ⟨rfl, hb3⟩
    have B3 := box (B2.out.trans (hb3.mono B2.out.size))
    clear hb3
    go_wp2_with fail
    refine (awake9_any _).mono ?_; rintro e w4 ⟨rfl, hb4⟩
    have B4 := box (B3.out.trans (hb4.mono B3.out.size))
    clear hb4
    go_wp2
    go_ret
    exact ⟨rfl, B4.out⟩
theorem mFind_is {a : Option Addr} {cap n : Nat} {L : List F} {nm x : ByteArray} {b : Bool} {w : World} (hn : Box (L.length = n)) (hl : Box (L.length ≤ 65536)) (hF : Fs w a L) (h : Box (findV nm L = .tuple #[.string x, .bool b])) :
    Calls Try.prog 28 #[.slice a n cap, .string nm] w fun e w' => e = .returned (.tuple #[.string x, .bool b]) ∧ Below w.heap.size w w' := by
  have := mFind_any a cap L nm w hl.out (box hF)
  rw [hn.out, h.out] at this; exact this
theorem rFind_is {a : Option Addr} {cap n : Nat} {L : List F} {nm x : ByteArray} {b : Bool} {w : World} (hn : Box (L.length = n)) (hl : Box (L.length ≤ 65536)) (hF : Fs w a L) (h : Box (findV nm L = .tuple #[.string x, .bool b])) :
    Calls Try.prog 29 #[.slice a n cap, .string nm] w fun e w' => e = .returned (.tuple #[.string x, .bool b]) ∧ w = w' := by
  have := rFind_any a cap L nm w hl.out (box hF)
  rw [hn.out, h.out] at this; exact this
theorem findV_form (nm : ByteArray) (L : List F) : ∃ x b, findV nm L = .tuple #[.string x, .bool b] := by
  unfold findV; split
  · exact ⟨_, _, rfl⟩
  · exact ⟨_, _, rfl⟩
theorem mFmt9_is {v x : ByteArray} {a : Option Addr} {n cap : Nat} {L : List F} {w : World} (hn : Box (L.length = n)) (hv : v.size ≤ 65536) (hl : Box (L.length ≤ 65536)) (hz : Box (∀ i (hi : i < L.length), L[i].1.size ≤ 65536 ∧ L[i].2.size ≤ 65536)) (hF : Fs w a L) (h : Box (fmtPB v L = x)) :
    Calls Try.prog 30 #[.string v, .slice a n cap] w fun e w' => e = .returned (.string x) ∧ Below w.heap.size w w' := by
  have := mFmt9_any v a cap L w hv hl.out hz (box hF)
  rw [hn.out, h.out] at this; exact this
theorem rFmt9_is {v x : ByteArray} {a : Option Addr} {n cap : Nat} {L : List F} {w : World} (hn : Box (L.length = n)) (hv : v.size ≤ 65536) (hl : Box (L.length ≤ 65536)) (hz : Box (∀ i (hi : i < L.length), L[i].1.size ≤ 65536 ∧ L[i].2.size ≤ 65536)) (hF : Fs w a L) (h : Box (fmtPB v L = x)) :
    Calls Try.prog 31 #[.string v, .slice a n cap] w fun e w' => e = .returned (.string x) ∧ Below w.heap.size w w' := by
  have := rFmt_any v a cap L w hv hl.out hz (box hF)
  rw [hn.out, h.out] at this; exact this
set_option maxHeartbeats 1000000 in
theorem formats9_walk (v : ByteArray) (a : Option Addr) (cap : Nat) (L : List F) (nm : ByteArray) (w : World) (S : v.size ≤ maxLen) (hl : L.length ≤ maxLen) (hF : Fs w a L) (hc : L.length ≤ cap) (M : nm.size ≤ maxLen) :
    Calls Try.prog 8 #[.string v, .slice a L.length cap, .string nm] w fun e w' => e = .returned (.bool true) ∧ Below w.heap.size w w' := by
  have F0 := box hF
  have HL := box hl
  unfold maxLen at S hl M
  clear hF
  by_cases h : 300 < v.size
  · have hi : (300 : Int) < (v.size : Int) := by omega
    go_enter Try.func8, Try.ntmps8
    go_wp2
    go_ret
    exact ⟨rfl, Below.refl _ _⟩
  · have hi : ¬ (300 : Int) < (v.size : Int) := by omega
    rcases hk : keepP L with _ | _
    · have HK := box hk
      clear hk
      go_enter Try.func8, Try.ntmps8
      go_wp2_with fail
      refine (keepParams_any a cap L _ HL.out F0).mono ?_; rintro e w1 ⟨rfl, rfl⟩; rw [HK.out]
      go_wp2
      go_ret
      exact ⟨rfl, Below.refl _ _⟩
    · have HK := box hk
      obtain ⟨hl8, hsm⟩ := keepP_parts hk
      have hl6 : Box (L.length ≤ 65536) := box (by omega)
      have hz6 : Box (∀ i (hi : i < L.length), L[i].1.size ≤ 65536 ∧ L[i].2.size ≤ 65536) := box (fun i hi => by have := hsm i hi; omega)
      clear hk hsm
      by_cases h2 : 100 < nm.size
      · have hj : (100 : Int) < (nm.size : Int) := by omega
        go_enter Try.func8, Try.ntmps8
        go_wp2_with fail
        refine (keepParams_any a cap L _ HL.out F0).mono ?_; rintro e w1 ⟨rfl, rfl⟩; rw [HK.out]
        go_wp2
        go_ret
        exact ⟨rfl, Below.refl _ _⟩
      · have hj : ¬ (100 : Int) < (nm.size : Int) := by omega
        obtain ⟨x, b, hf⟩ := findV_form nm L
        have HF := box hf
        obtain ⟨y, hy⟩ : ∃ y, fmtPB v L = y := ⟨_, rfl⟩
        have HY := box hy
        have hv6 : v.size ≤ 65536 := by omega
        clear hf hy
        go_enter Try.func8, Try.ntmps8
        go_wp2_with fail
        refine (keepParams_any a cap L _ HL.out F0).mono ?_; rintro e w1 ⟨rfl, rfl⟩; rw [HK.out]
        go_wp2_with fail
        refine (mFind_is (L := L) (box rfl) hl6 F0.out HF).mono ?_; rintro e w1 ⟨rfl, hb1⟩
        have B1 := box hb1
        have F1 := box (F0.out.below hb1)
        clear hb1
        go_wp2_with fail
        refine (rFind_is (L := L) (box rfl) hl6 F1.out HF).mono ?_; rintro e w2 ⟨rfl, rfl⟩
        go_wp2_with fail
        refine (mFmt9_is (L := L) (box rfl) hv6 hl6 hz6 F1.out HY).mono ?_; rintro e w2 ⟨rfl, hb2⟩
        have B2 := box (B1.out.trans (hb2.mono B1.out.size))
        have F2 := box (F1.out.below hb2)
        clear hb2
        go_wp2_with fail
        refine (rFmt9_is (L := L) (box rfl) hv6 hl6 hz6 F2.out HY).mono ?_; rintro e w3 ⟨rfl, hb3⟩
        have B3 := box (B2.out.trans (hb3.mono B2.out.size))
        clear hb3
        go_wp2_with fail
        refine (awake9_any _).mono ?_; rintro e w4 ⟨rfl, hb4⟩
        have B4 := box (B3.out.trans (hb4.mono B3.out.size))
        clear hb4
        go_wp2
        go_ret
        exact ⟨rfl, B4.out⟩
end
end Go.Proofs.Ytfpeaakdjihajaa.Asc
