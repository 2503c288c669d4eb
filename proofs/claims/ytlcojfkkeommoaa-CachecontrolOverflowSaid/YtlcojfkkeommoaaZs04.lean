/- Merged texts: PreAny AscNum AscOwn AscUn AscUnq AscLow AscFold. -/
import Derived.Test.YtlcojfkkeommoaaZs01
import Derived.Test.YtlcojfkkeommoaaZs02
import Derived.Test.YtlcojfkkeommoaaZs03
import Derived.BigQuiet
import Derived.Deep.QuietTactic
import Derived.Laws.AppendOwnNone
import Derived.Lib.Hide
import Derived.LoopTactic
set_option linter.unusedVariables false
set_option linter.unusedSimpArgs false
set_option maxRecDepth 100000
namespace Go.Proofs.Ytlcojfkkeommoaa.Asc
section
open Go.RowKit
/-- does the text begin so? -/
def pre21 (l p : List UInt8) : Bool := l.take p.length == p
theorem hasPre21_is {s p : ByteArray} {b : Bool} {w : World} (hs : s.size ≤ 4000000) (hp : p.size ≤ 65536) (hb : Box (pre21 s.data.toList p.data.toList = b)) :
    Calls Try.prog 68 #[.string s, .string p] w fun e w' => e = .returned (.bool b) ∧ w = w' := by
  have hz : s.data.toList.length = s.size := by simp
  have hz2 : p.data.toList.length = p.size := by simp
  by_cases h : p.size ≤ s.size
  · have HE : ((s.extract 0 p.size).toList == p.toList) = b := by
      rw [← hb.out]; unfold pre21
      rw [toList_data, toList_data, ext_bs, List.drop_zero, hz2]; rfl
    have hi : (p.size : Int) ≤ (s.size : Int) := by omega
    clear hz hz2
    go_enter Try.func68, Try.ntmps68
    go_wp2
    go_ret
    exact ⟨rfl, rfl⟩
  · have HE : Box (b = false) := box (by
      rw [← hb.out]; unfold pre21
      rw [beq_eq_false_iff_ne]
      intro e
      have := congrArg List.length e
      rw [List.length_take] at this
      omega)
    have hi : (s.size : Int) < (p.size : Int) := by omega
    clear hz hz2
    go_enter Try.func68, Try.ntmps68
    go_wp2
    go_ret
    exact ⟨ret_bool HE.out.symm, rfl⟩
theorem pre21_le {s p : ByteArray} (h : pre21 s.data.toList p.data.toList = true) : p.size ≤ s.size := by
  unfold pre21 at h
  rw [beq_iff_eq] at h
  have := congrArg List.length h
  rw [List.length_take] at this
  simp at this; omega
theorem scutPre21_no {s p : ByteArray} {w : World} (hs : s.size ≤ 4000000) (hp : p.size ≤ 65536) (h : Box (pre21 s.data.toList p.data.toList = false)) :
    Calls Try.prog 65 #[.string s, .string p] w fun e w' => e = .returned (.tuple #[.string s, .bool false]) ∧ w = w' := by
  go_enter Try.func65, Try.ntmps65
  go_wp2_with fail
  refine (hasPre21_is hs hp h).mono ?_; rintro e w1 ⟨rfl, rfl⟩
  go_wp2
  go_ret2
  exact ⟨rfl, rfl⟩
theorem scutPre21_yes {s p x : ByteArray} {w : World} (hs : s.size ≤ 4000000) (hp : p.size ≤ 65536) (h : Box (pre21 s.data.toList p.data.toList = true)) (hx : Box (s.extract p.size s.size = x)) :
    Calls Try.prog 65 #[.string s, .string p] w fun e w' => e = .returned (.tuple #[.string x, .bool true]) ∧ w = w' := by
  have hle := pre21_le h.out
  have hli : (p.size : Int) ≤ (s.size : Int) := by omega
  go_enter Try.func65, Try.ntmps65
  go_wp2_with fail
  refine (hasPre21_is hs hp h).mono ?_; rintro e w1 ⟨rfl, rfl⟩
  go_wp2
  go_ret2
  exact ⟨by rw [← hx.out]; rfl, rfl⟩
theorem cutPre21_no {s p : ByteArray} {w : World} (hs : s.size ≤ 4000000) (hp : p.size ≤ 65536) (h : Box (pre21 s.data.toList p.data.toList = false)) :
    Calls Try.prog 62 #[.string s, .string p] w fun e w' => e = .returned (.tuple #[.string s, .bool false]) ∧ w = w' := by
  go_enter Try.func62, Try.ntmps62
  go_wp2_with fail
  refine (scutPre21_no hs hp h).mono ?_; rintro e w1 ⟨rfl, rfl⟩
  go_wp2
  go_ret2
  exact ⟨rfl, rfl⟩
theorem cutPre21_yes {s p x : ByteArray} {w : World} (hs : s.size ≤ 4000000) (hp : p.size ≤ 65536) (h : Box (pre21 s.data.toList p.data.toList = true)) (hx : Box (s.extract p.size s.size = x)) :
    Calls Try.prog 62 #[.string s, .string p] w fun e w' => e = .returned (.tuple #[.string x, .bool true]) ∧ w = w' := by
  go_enter Try.func62, Try.ntmps62
  go_wp2_with fail
  refine (scutPre21_yes hs hp h hx).mono ?_; rintro e w1 ⟨rfl, rfl⟩
  go_wp2
  go_ret2
  exact ⟨rfl, rfl⟩
theorem ext_drop21 {s : ByteArray} (k : Nat) : (s.extract k s.size).data.toList = s.data.toList.drop k := by rw [ext_bs, bs_toList, List.take_of_length_le (by simp)]
end
section
open Go.RowKit
def numT (o : Option Int) : Value := .tuple #[.int .i64 (numV o).1, .bool (numV o).2]
theorem numT_of {o : Option Int} {a : Int} {b : Bool} (h : numV o = (a, b)) : Ending.returned (.tuple #[.int .i64 a, .bool b]) = .returned (numT o) := by
  unfold numT; rw [h]
theorem appendDigit_any (v d : Int) (w : World) (h0 : 0 ≤ v) (h1 : v ≤ 2147483647) (h2 : 0 ≤ d) (h3 : d ≤ 9) :
    Calls Try.prog 61 #[.int .i64 v, .int .i64 d] w fun e w' => e = .returned (.int .i64 (satI v d)) ∧ w = w' := by
  go_enter Try.func61, Try.ntmps61
  go_wp2
  all_goals (go_ret; exact ⟨ret_int (by unfold satI; split <;> omega), rfl⟩)
theorem Number_any (s : ByteArray) (w : World) (hs : s.size ≤ maxLen) :
    Calls Try.prog 50 #[.string s] w fun e w' => e = .returned (numT (numL s.data.toList)) ∧ w = w' := by
  unfold maxLen at hs
  go_enter Try.func50, Try.ntmps50
  go_wp2
  go_loop [4, 5, 8] (fun v _ i => ∃ k : Nat, k ≤ s.size ∧ i = .int .i64 k ∧ v = .int .i64 (numF (s.data.toList.take k)) ∧ 0 ≤ numF (s.data.toList.take k) ∧ numF (s.data.toList.take k) ≤ 2147483647 ∧ allI digitI (s.data.toList.take k) = true) (fun _ _ i => s.size - (intOf i).toNat)
  case atStart => exact ⟨0, Nat.zero_le _, rfl, rfl, by simp [numF], by simp [numF], rfl⟩
  case round =>
    obtain ⟨k, hk, rfl, rfl, hn0, hn1, hall⟩ := hrel
    by_cases hlt : k < s.size
    · have hb := byte_bd s k hlt
      rcases hp : digitI (s[k].toNat) with _ | _
      · go_wp2_with (go_at_call 60; refine (isDigit_any _ _ hb.1 hb.2).mono ?_; rintro e w' ⟨rfl, rfl⟩)
        go_ret2
        exact ⟨numT_of (by rw [num_not hlt hp]; rfl), rfl⟩
      · have hd := digitI_bd hp
        have HM := Lib.hid (numF_more hlt)
        have HB := satI_bd (v := numF (s.data.toList.take k)) (d := (s[k].toNat : Int) - 48) hn0 (by omega)
        rw [← HM.out] at HB
        have HBB := Lib.hid HB
        have HA := Lib.hid (all_more hall hlt hp)
        have HH := Lib.hid hall
        clear HB hall
        go_wp2_with (first | (go_at_call 60; refine (isDigit_any _ _ hb.1 hb.2).mono ?_; rintro e w' ⟨rfl, rfl⟩) | (go_at_call 61; refine (appendDigit_any _ _ _ hn0 hn1 (by omega) (by omega)).mono ?_; rintro e w' ⟨rfl, rfl⟩))
        go_round
        case rel => exact ⟨k + 1, by omega, by go_num, by rw [HM.out], HBB.out.1, HBB.out.2, HA.out⟩
        case measure => simp [intOf]; omega
    · go_wp2
      go_ret2
      exact ⟨numT_of (num_end hall (by omega)), rfl⟩
theorem rNumber_any (s : ByteArray) (w : World) (hs : s.size ≤ maxLen) :
    Calls Try.prog 40 #[.string s] w fun e w' => e = .returned (numT (numL s.data.toList)) ∧ w = w' := by
  unfold maxLen at hs
  go_enter Try.func40, Try.ntmps40
  go_wp2
  go_loop [4, 5] (fun v i => ∃ k : Nat, k ≤ s.size ∧ i = .int .i64 k ∧ v = .int .i64 (numF (s.data.toList.take k)) ∧ 0 ≤ numF (s.data.toList.take k) ∧ numF (s.data.toList.take k) ≤ 2147483647 ∧ allI digitI (s.data.toList.take k) = true) (fun _ i => s.size - (intOf i).toNat)
  case atStart => exact ⟨0, Nat.zero_le _, rfl, rfl, by simp [numF], by simp [numF], rfl⟩
  case round =>
    obtain ⟨k, hk, rfl, rfl, hn0, hn1, hall⟩ := hrel
    by_cases hlt : k < s.size
    · have hb := byte_bd s k hlt
      rcases hp : digitI (s[k].toNat) with _ | _
      · go_wp2_with (go_at_call 53; refine (rDigit_any _ _ hb.1 hb.2).mono ?_; rintro e w' ⟨rfl, rfl⟩)
        go_ret2
        exact ⟨numT_of (by rw [num_not hlt hp]; rfl), rfl⟩
      · have hd := digitI_bd hp
        have HM := Lib.hid (numF_more hlt)
        have HB := satI_bd (v := numF (s.data.toList.take k)) (d := (s[k].toNat : Int) - 48) hn0 (by omega)
        rw [← HM.out] at HB
        have HBB := Lib.hid HB
        have HA := Lib.hid (all_more hall hlt hp)
        have HH := Lib.hid hall
        clear HB hall
        by_cases hbig : numF (s.data.toList.take k) * 10 + ((s[k].toNat : Int) - 48) > 2147483647
        · go_wp2_with (go_at_call 53; refine (rDigit_any _ _ hb.1 hb.2).mono ?_; rintro e w' ⟨rfl, rfl⟩)
          go_round
          case rel => exact ⟨k + 1, by omega, by go_num, by rw [HM.out, satI, if_pos (by omega)], HBB.out.1, HBB.out.2, HA.out⟩
          case measure => simp [intOf]; omega
        · go_wp2_with (go_at_call 53; refine (rDigit_any _ _ hb.1 hb.2).mono ?_; rintro e w' ⟨rfl, rfl⟩)
          go_round
          case rel => exact ⟨k + 1, by omega, by go_num, by rw [HM.out, satI, if_neg (by omega)], HBB.out.1, HBB.out.2, HA.out⟩
          case measure => simp [intOf]; omega
    · go_wp2
      go_ret2
      exact ⟨numT_of (num_end hall (by omega)), rfl⟩
end
section
open Go.RowKit
theorem info_u8 : (Try.prog.info? 5).map (fun i => (i.zero, i.size, i.bytes)) = some (some (.int .u8 0), 1, 1) := by kernel_rfl
theorem data_at (s : ByteArray) (k : Nat) (h : k < s.size) : s.data.toList.getD k 0 = s[k] := by
  rw [getD_get _ _ (by simpa using h)]; rfl
theorem size_list (s : ByteArray) : s.data.toList.length = s.size := by simp
def Own (w : World) (B : Nat) (v : Value) (l : List UInt8) : Prop := w.ownsRow B 5 1 v l.length (l.map bv)
section
variable {w w' : World} {B : Nat} {v : Value} {l : List UInt8}
theorem Own.nil (w : World) (B : Nat) : Own w B (.slice none 0 0) [] := World.ownsRow_nil _ _ _ _
theorem Own.alloc (h : Own w B v l) (o : Obj) : Own (w.alloc o) B v l := World.ownsRow.alloc h o
theorem Own.drew (h : Own w B v l) : Own w.drew B v l := h
theorem Own.block (h : Own w B v l) : ∀ k, v.ownBlock = some k → B ≤ k := by
  intro k hk
  rcases h.2 with ⟨rfl, _⟩ | ⟨g, cap, cur, rfl, hb, _⟩
  · simp [Value.ownBlock] at hk
  · simp [Value.ownBlock] at hk; omega
/-- 'string(v)' -/
theorem Own.str (h : Own w B v l) : (convert 48 9 v).run Try.prog w = .ok (.string ⟨l.toArray⟩) w := by
  rcases h.2 with ⟨rfl, hn⟩ | ⟨g, cap, cur, rfl, hb, hh, hnc, hcm, hcs, htake⟩
  · have : l = [] := by simpa using hn
    subst this
    rw [run_convert_bytes_string w 48 9 5 none 0 0 Try.underlying48 Try.underlying5 Try.underlying9]
    rfl
  · refine run_convert_bytes_back w 48 9 5 ⟨g, 0, none⟩ cap l Try.underlying48 Try.underlying5 Try.underlying9 fun j hj => ?_
    have ea : (⟨g, 0, none⟩ : Addr).add j = ⟨g, j, none⟩ := by unfold Addr.add; split <;> simp_all
    rw [ea, World.ownsRow.cellAt h j (by omega)]
    simp [hj, bv]
end
/-- append of one byte that lies in a block of its own -/
theorem wpList_append_byte (w : World) {ops : Array Oper} {rest : List Oper} {o : Oper} {a : Act} {Q : Exit → Act → World → Prop} (hgd : o.guard = none) (s x : Operand)
    (ho : o.op = .call { callee := .builtin .append, args := #[s, x], argTypes := #[48, 48] })
    (B : Nat) (v : Value) (l : List UInt8) (hs : a.eval s = v) (hown : Own w B v l)
    (g : Nat) (hx : a.eval x = .slice (some ⟨g, 0, none⟩) 1 1) (b : Int) (c : UInt8) (hb : b = (c.toNat : Int)) (hc : w.cell? ⟨g, 0, none⟩ = some (.int .u8 b)) (hl : l.length < 8589934592) (hB : B ≤ w.heap.size)
    (h : ∀ v' w', Own w' B v' (l ++ [c]) → Below B w w' → wpList Try.prog ops Q rest (a.put o.dst v') w') : wpList Try.prog ops Q (o :: rest) a w := by
  subst hb
  obtain ⟨i0, hi0, hz0, hz1, hz2⟩ := info_parts info_u8
  refine wpList_append_own (P := Try.prog) w hgd s x 48 ho B 5 i0 _ 1 1 Try.underlying48 hi0 hz0 hz1 hz2 rfl (by decide) v l.length (l.map bv) hs hown ⟨g, 0, none⟩ 1 1 [bv c] hx rfl ?_ ?_ (by unfold maxLen; omega) (by omega) hB ?_
  · intro j u hj
    match j, hj with
    | 0, hj => simp at hj; subst hj; simpa [Addr.add, bv] using hc
  · intro u hu; simp at hu; subst hu; rfl
  · intro v' w' h1 h2 _
    refine h v' w' (by simpa [Own] using h1) ((Below.refl _ _).grown h2 hB (fun k hk => Own.block hown k hk))
end
section
open Go.RowKit
/-- the two results of a function that returns a string and whether there is one -/
def optV : Option (List UInt8) → Value
  | none => .tuple #[.string ⟨#[]⟩, .bool false]
  | some l => .tuple #[.string ⟨l.toArray⟩, .bool true]
theorem unescape_any (s : ByteArray) (w : World) (hs : s.size ≤ 4294967296) :
    Calls Try.prog 67 #[.string s] w fun e w' => e = .returned (optV (unescL s.data.toList)) ∧ Below w.heap.size w w' := by
  obtain ⟨i0, hi0, hz0, hz1, hz2⟩ := info_parts info_u8
  have hmk := fun (w : World) => run_make (P := Try.prog) w 48 5 i0 _ Try.underlying48 hi0 hz0 .i64 .i64 0 s.size (by omega) (by omega) (by rw [hz2]; omega) (by omega)
  simp only [Int.toNat_natCast, hz1, Nat.mul_one] at hmk
  go_enter Try.func67, Try.ntmps67
  go_wp2
  have hO0 : Own (w.alloc (.cells (madeCells #[.int .u8 0] s.size) 5)) w.heap.size (.slice (some ⟨w.heap.size, 0, none⟩) 0 s.size) [] :=
    ⟨rfl, .inr ⟨_, _, _, rfl, Nat.le_refl _, heap_alloc_new w _, Nat.zero_le _, by unfold maxLen; omega, by simp [size_madeCells], rfl⟩⟩
  go_loopw [4, 5] (fun v i wr => ∃ (k : Nat) (acc : List UInt8), k ≤ s.size ∧ i = .int .i64 k ∧ Own wr w.heap.size v acc ∧ UnAt s.data.toList k acc ∧ Below w.heap.size w wr) (fun _ i _ => s.size - (intOf i).toNat)
  case atStart => exact ⟨0, [], Nat.zero_le _, rfl, hO0, UnAt.start _, (Below.refl _ _).alloc (Nat.le_refl _) _⟩
  case round =>
    obtain ⟨k, acc, hk, rfl, hO, hU, hbel⟩ := hrel
    clear hO0 hmk
    have ha := hU.1
    by_cases hlt : k < s.size
    · rcases h1 : ((s[k].toNat : Int) == 34) with _ | _
      · rcases h2 : ((s[k].toNat : Int) == 92) with _ | _
        · go_wp2_with (at_builtin; refine wpList_append_byte _ rfl (.tmp 28) (.tmp 32) rfl w.heap.size _ acc rfl (hO.alloc _) _ rfl _ s[k] rfl (by go_simp) (by omega) (by have := hbel.size; simp; omega) ?_; intro v' w1 hO1 hb1)
          go_roundw
          case rel => exact ⟨k + 1, _, by omega, by go_num, hO1, hU.plain hlt h1 h2, hbel.alloc hbel.size _ |>.trans hb1⟩
          case measure => simp [intOf]; omega
        · by_cases he : k + 1 < s.size
          · go_wp2_with (at_builtin; refine wpList_append_byte _ rfl (.tmp 28) (.tmp 32) rfl w.heap.size _ acc rfl (hO.alloc _) _ rfl _ s[k + 1] rfl (by go_simp) (by omega) (by have := hbel.size; simp; omega) ?_; intro v' w1 hO1 hb1)
            go_roundw
            case rel => exact ⟨k + 1 + 1, _, by omega, by go_num, hO1, hU.esc hlt h2 he, hbel.alloc hbel.size _ |>.trans hb1⟩
            case measure => simp [intOf]; omega
          · go_wp2
            go_ret2
            exact ⟨by rw [hU.last hlt h2 (by omega)]; rfl, hbel⟩
      · go_wp2
        go_ret2
        exact ⟨by rw [hU.quote hlt h1]; rfl, hbel⟩
    · have hst := hO.str
      go_wp2
      go_ret2
      exact ⟨by rw [hU.fin (by simp; omega)]; rfl, hbel⟩
end
section
open Go.RowKit
theorem unescape_none {s : ByteArray} {w : World} (hs : s.size ≤ 4294967296) (h : unescL s.data.toList = none) :
    Calls Try.prog 67 #[.string s] w fun e w' => e = .returned (.tuple #[.string ⟨#[]⟩, .bool false]) ∧ Below w.heap.size w w' :=
  (unescape_any s w hs).mono fun e w' ⟨he, hb⟩ => ⟨by rw [he, h]; rfl, hb⟩
theorem unescape_some {s : ByteArray} {w : World} {r : List UInt8} (hs : s.size ≤ 4294967296) (h : unescL s.data.toList = some r) :
    Calls Try.prog 67 #[.string s] w fun e w' => e = .returned (.tuple #[.string ⟨r.toArray⟩, .bool true]) ∧ Below w.heap.size w w' :=
  (unescape_any s w hs).mono fun e w' ⟨he, hb⟩ => ⟨by rw [he, h]; rfl, hb⟩
set_option maxHeartbeats 800000 in
theorem Unquote_any (s : ByteArray) (w : World) (hs : s.size ≤ 4294967296) :
    Calls Try.prog 63 #[.string s] w fun e w' => e = .returned (optV (unqL s.data.toList)) ∧ Below w.heap.size w w' := by
  by_cases h2 : s.size < 2
  · go_enter Try.func63, Try.ntmps63
    go_wp2
    go_ret2
    exact ⟨by rw [unq_short h2]; rfl, Below.refl _ _⟩
  · have hp : 0 < s.size := by omega
    have hq : s.size - 1 < s.size := by omega
    by_cases h0 : ((s[0]'hp).toNat : Int) = 34
    · rcases h1 : (((s[s.size - 1]'hq).toNat : Int) != 34) with _ | _
      · have hu := unq_in h2 hp h0 hq h1
        have HI : Hid ((s.extract 1 (s.size - 1)).size ≤ 4294967296) := Lib.hid (by rw [ByteArray.size_extract]; omega)
        have HM : Hid ((s.extract 1 (s.size - 1)).size ≤ maxLen) := Lib.hid (by have := HI.out; unfold maxLen; omega)
        have HU := Lib.hid hu
        clear hu
        go_enter Try.func63, Try.ntmps63
        go_wp2_with fail
        refine (Text_any _ _ HM.out).mono ?_; rintro e w' ⟨rfl, rfl⟩
        rcases ht : textL (s.extract 1 (s.size - 1)).data.toList with _ | _
        · have HT := Lib.hid (unqIn_not ht)
          clear ht
          go_wp2
          go_ret2
          exact ⟨by rw [HU.out, HT.out]; rfl, Below.refl _ _⟩
        · have HT := Lib.hid (unqIn_text ht)
          clear ht
          go_wp2_with fail
          rcases hr : unescL (s.extract 1 (s.size - 1)).data.toList with _ | r
          · have HR := Lib.hid hr
            clear hr
            refine (unescape_none HI.out HR.out).mono ?_; rintro e w' ⟨rfl, hb⟩
            go_wp2
            go_ret2
            exact ⟨by rw [HU.out, HT.out, HR.out]; rfl, hb⟩
          · have HR := Lib.hid hr
            clear hr
            refine (unescape_some HI.out HR.out).mono ?_; rintro e w' ⟨rfl, hb⟩
            go_wp2
            go_ret2
            exact ⟨by rw [HU.out, HT.out, HR.out]; rfl, hb⟩
      · go_enter Try.func63, Try.ntmps63
        go_wp2
        go_ret2
        exact ⟨by rw [unq_last hq h1]; rfl, Below.refl _ _⟩
    · go_enter Try.func63, Try.ntmps63
      go_wp2
      go_ret2
      exact ⟨by rw [unq_head hp h0]; rfl, Below.refl _ _⟩
set_option maxHeartbeats 800000 in
theorem rUnquote_any (s : ByteArray) (w : World) (hs : s.size ≤ 4294967296) :
    Calls Try.prog 52 #[.string s] w fun e w' => e = .returned (optV (unqL s.data.toList)) ∧ Below w.heap.size w w' := by
  by_cases h2 : s.size < 2
  · go_enter Try.func52, Try.ntmps52
    go_wp2
    go_ret2
    exact ⟨by rw [unq_short h2]; rfl, Below.refl _ _⟩
  · have hp : 0 < s.size := by omega
    have hq : s.size - 1 < s.size := by omega
    by_cases h0 : ((s[0]'hp).toNat : Int) = 34
    · rcases h1 : (((s[s.size - 1]'hq).toNat : Int) != 34) with _ | _
      · have hu := unq_in h2 hp h0 hq h1
        have hin : (s.extract 1 (s.size - 1)).size ≤ 4294967296 := by rw [ByteArray.size_extract]; omega
        have HU := Lib.hid hu
        clear hu
        go_enter Try.func52, Try.ntmps52
        go_wp2_with fail
        clear h0 h1 h2 hp hq
        generalize hg : s.extract 1 (s.size - 1) = t at *
        have HG := Lib.hid hg
        clear hg
        go_loopw [4, 5] (fun v i wr => ∃ (k : Nat) (acc : List UInt8), k ≤ t.size ∧ i = .int .i64 k ∧ Own wr w.heap.size v acc ∧ UnAt t.data.toList k acc ∧ allI textI (t.data.toList.take k) = true ∧ Below w.heap.size w wr) (fun _ i _ => t.size - (intOf i).toNat)
        case atStart => exact ⟨0, [], Nat.zero_le _, rfl, Own.nil _ _, UnAt.start _, rfl, Below.refl _ _⟩
        case round =>
          obtain ⟨k, acc, hk, rfl, hO, hU, hT, hbel⟩ := hrel
          have ha := hU.1
          by_cases hlt : k < t.size
          · rcases h1 : ((t[k].toNat : Int) == 34) with _ | _
            · rcases h2 : ((t[k].toNat : Int) == 92) with _ | _
              · have hb := byte_bd t k hlt
                rcases hp : textI (t[k].toNat) with _ | _
                · go_wp2_with (go_at_call 32; refine (textByte_any _ _ hb.1 hb.2).mono ?_; rintro e w' ⟨rfl, rfl⟩)
                  go_ret2
                  exact ⟨by rw [HU.out, unqIn_not (textL_not hlt hp)]; rfl, hbel⟩
                · go_wp2_with (first | (go_at_call 32; refine (textByte_any _ _ hb.1 hb.2).mono ?_; rintro e w' ⟨rfl, rfl⟩) | (at_builtin; refine wpList_append_byte _ rfl _ _ rfl w.heap.size _ acc rfl (hO.alloc _) _ rfl _ t[k] rfl (by go_simp) (by omega) (by have := hbel.size; simp; omega) ?_; intro v' w1 hO1 hb1))
                  go_roundw
                  case rel => exact ⟨k + 1, _, by omega, by go_num, hO1, hU.plain hlt h1 h2, all_more hT hlt hp, hbel.alloc hbel.size _ |>.trans hb1⟩
                  case measure => simp [intOf]; omega
              · by_cases he : k + 1 < t.size
                · have hb := byte_bd t (k + 1) he
                  rcases hp : textI (t[k + 1].toNat) with _ | _
                  · go_wp2_with (go_at_call 32; refine (textByte_any _ _ hb.1 hb.2).mono ?_; rintro e w' ⟨rfl, rfl⟩)
                    go_ret2
                    exact ⟨by rw [HU.out, unqIn_not (textL_not he hp)]; rfl, hbel⟩
                  · have h92 : textI (t[k].toNat) = true := by have := eq_of_beq h2; rw [this]; rfl
                    have HA := Lib.hid (all_more (all_more hT hlt h92) he hp)
                    clear h92
                    go_wp2_with (first | (go_at_call 32; refine (textByte_any _ _ hb.1 hb.2).mono ?_; rintro e w' ⟨rfl, rfl⟩) | (at_builtin; refine wpList_append_byte _ rfl _ _ rfl w.heap.size _ acc rfl (hO.alloc _) _ rfl _ t[k + 1] rfl (by go_simp) (by omega) (by have := hbel.size; simp; omega) ?_; intro v' w1 hO1 hb1))
                    go_roundw
                    case rel => exact ⟨k + 1 + 1, _, by omega, by go_num, hO1, hU.esc hlt h2 he, HA.out, hbel.alloc hbel.size _ |>.trans hb1⟩
                    case measure => simp [intOf]; omega
                · go_wp2
                  go_ret2
                  exact ⟨by rw [HU.out, unqIn_none (hU.last hlt h2 (by omega))]; rfl, hbel⟩
            · go_wp2
              go_ret2
              exact ⟨by rw [HU.out, unqIn_none (hU.quote hlt h1)]; rfl, hbel⟩
          · have hst := hO.str
            go_wp2
            go_ret2
            exact ⟨by rw [HU.out, unqIn_text (textL_end hT (by omega)), hU.fin (by simp; omega)]; rfl, hbel⟩
      · go_enter Try.func52, Try.ntmps52
        go_wp2
        go_ret2
        exact ⟨by rw [unq_last hq h1]; rfl, Below.refl _ _⟩
    · go_enter Try.func52, Try.ntmps52
      go_wp2
      go_ret2
      exact ⟨by rw [unq_head hp h0]; rfl, Below.refl _ _⟩
end
section
open Go.RowKit
theorem Lower_any (s : ByteArray) (w : World) (hs : s.size ≤ 4294967296) :
    Calls Try.prog 49 #[.string s] w fun e w' => e = .returned (.string ⟨(lowL s.data.toList).toArray⟩) ∧ Below w.heap.size w w' := by
  obtain ⟨i0, hi0, hz0, hz1, hz2⟩ := info_parts info_u8
  have hmk := fun (w : World) => run_make (P := Try.prog) w 48 5 i0 _ Try.underlying48 hi0 hz0 .i64 .i64 s.size s.size (by omega) (by omega) (by rw [hz2]; omega) (by omega)
  simp only [Int.toNat_natCast, hz1, Nat.mul_one] at hmk
  go_enter Try.func49, Try.ntmps49
  go_wp2
  have hr : (List.replicate s.size (0 : UInt8)).length = s.data.toList.length := by simp
  have hB0 : Bys (w.alloc (.cells (madeCells #[.int .u8 0] s.size) 5)) w.heap.size (half (List.replicate s.size (0 : UInt8)) s.data.toList 0) := by
    rw [half_zero]
    refine ⟨by simp, fun j hj => ?_⟩
    rw [List.length_replicate] at hj
    refine ⟨?_, by go_simp⟩
    rw [World.cell?_alloc_at (hn := rfl), ← Array.getElem?_toList, toList_madeCells_one]
    simp [hj, bv, List.getD_eq_getElem?_getD, List.getElem?_replicate]
  go_loopw [4, 10] (fun u i wr => ∃ k : Nat, k ≤ s.size ∧ i = .int .i64 k ∧ Bys wr w.heap.size (half (List.replicate s.size (0 : UInt8)) s.data.toList k) ∧ Below w.heap.size w wr) (fun _ i _ => s.size - (intOf i).toNat)
  case atStart => exact ⟨0, Nat.zero_le _, rfl, hB0, ((Below.refl _ _).alloc (Nat.le_refl _) _)⟩
  case round =>
    obtain ⟨k, hk, rfl, hB, hbel⟩ := hrel
    clear hB0 hmk
    have hz := size_list s
    by_cases hlt : k < s.size
    · have hlt' : k < s.data.toList.length := by omega
      have hlh := half_length _ _ k hr
      obtain ⟨cv, hc⟩ : ∃ cv, wr.cell? ⟨w.heap.size, k, none⟩ = some cv := ⟨_, hB.cell (by omega)⟩
      have hf : wr.frozen? ⟨w.heap.size, k, none⟩ = false := hB.frozen (by omega)
      have hb := byte_bd s k hlt
      have hset := hB.set (k := k) (by omega) (lowB s[k])
      rw [half_step _ _ k hr hlt' s[k] rfl, bv_low] at hset
      have hbs := hbel.setCell (p := ⟨w.heap.size, k, none⟩) (Nat.le_refl _) (.int .u8 (lowI s[k].toNat))
      have HS := Lib.hid hset
      have HB := Lib.hid hbs
      clear hset hbs hz hr hlh
      go_wp2_with (go_at_call 56; refine (lowerByte_any _ _ hb.1 hb.2).mono ?_; rintro e w' ⟨rfl, rfl⟩)
      go_roundw
      case rel => exact ⟨k + 1, by omega, by go_num, HS.out, HB.out⟩
      case measure => simp [intOf]; omega
    · have hst := hB.str (P := Try.prog) 48 9 5 s.size s.size (by rw [half_length _ _ k hr, hz]) Try.underlying48 Try.underlying5 Try.underlying9
      rw [half_end _ _ k hr (by omega)] at hst
      clear hz hr
      go_wp2
      go_ret
      exact ⟨rfl, hbel⟩
theorem rLower_any (s : ByteArray) (w : World) (hs : s.size ≤ 4294967296) :
    Calls Try.prog 31 #[.string s] w fun e w' => e = .returned (.string ⟨(lowL s.data.toList).toArray⟩) ∧ Below w.heap.size w w' := by
  have hcv := fun (w : World) => run_bytes_of_string (P := Try.prog) w 9 48 5 s Try.underlying9 Try.underlying48 Try.underlying5
  go_enter Try.func31, Try.ntmps31
  go_wp2
  have hB0 : Bys (w.alloc (.cells (bytesRow s (grownCap w s.size 0 5)) 5 ((bytesRow s (grownCap w s.size 0 5)).size, (bytesRow s (grownCap w s.size 0 5)).size + 1))).drew w.heap.size (half s.data.toList s.data.toList 0) := by
    rw [half_zero]
    refine (Bys.new w _ _ _ _ _ ?_ ?_).drew
    · simp [bytesRow]
    · intro j hj
      rw [bytesRow_at s _ j (by simpa using hj), getD_get _ _ hj]; rfl
  go_loopw [4] (fun i wr => ∃ k : Nat, k ≤ s.size ∧ i = .int .i64 k ∧ Bys wr w.heap.size (half s.data.toList s.data.toList k) ∧ Below w.heap.size w wr) (fun i _ => s.size - (intOf i).toNat)
  case atStart => exact ⟨0, Nat.zero_le _, rfl, hB0, ((Below.refl _ _).alloc (Nat.le_refl _) _).drew⟩
  case round =>
    obtain ⟨k, hk, rfl, hB, hbel⟩ := hrel
    clear hB0 hcv
    have hz := size_list s
    by_cases hlt : k < s.size
    · have hlt' : k < s.data.toList.length := by omega
      have hlh := half_length s.data.toList s.data.toList k rfl
      have hc : wr.cell? ⟨w.heap.size, k, none⟩ = some (.int .u8 (s[k].toNat : Int)) := by
        have := hB.cell (j := k) (by omega)
        rw [half_get _ _ k rfl hlt', data_at s k hlt] at this; exact this
      have hf : wr.frozen? ⟨w.heap.size, k, none⟩ = false := hB.frozen (by omega)
      have hb := byte_bd s k hlt
      have hset := hB.set (k := k) (by omega) (lowB s[k])
      rw [half_step _ _ k rfl hlt' s[k] rfl, bv_low] at hset
      have hsame : lowI s[k].toNat = s[k].toNat → Bys wr w.heap.size (half s.data.toList s.data.toList (k + 1)) := fun h => by
        have e := half_step s.data.toList s.data.toList k rfl hlt' s[k] rfl
        rw [← e]
        rw [lowB_same h]
        have h3 : (half s.data.toList s.data.toList k).set k s[k] = half s.data.toList s.data.toList k := by
          apply List.ext_getElem?; intro j
          by_cases ej : k = j
          · subst ej
            have h4 := half_get s.data.toList s.data.toList k rfl hlt'
            rw [data_at s k hlt, getD_get _ _ (by omega)] at h4
            rw [List.getElem?_set_self (by omega), List.getElem?_eq_getElem (by omega), h4]
          · rw [List.getElem?_set_ne ej]
        rw [h3]; exact hB
      have hbs := hbel.setCell (p := ⟨w.heap.size, k, none⟩) (Nat.le_refl _) (.int .u8 (lowI s[k].toNat))
      have HS := Lib.hid hset
      have HB := Lib.hid hbs
      have HM := Lib.hid hsame
      clear hset hbs hz hlh hsame
      go_wp2
      · go_roundw
        case rel =>
          have el : lowI s[k].toNat = s[k].toNat + 32 := by unfold lowI; rw [if_pos ⟨‹_›, ‹_›⟩]
          have h1 := HS.out; have h2 := HB.out
          rw [el] at h1 h2
          exact ⟨k + 1, by omega, by go_num, h1, h2⟩
        case measure => simp [intOf]; omega
      all_goals
        go_roundw
        case rel => exact ⟨k + 1, by omega, by go_num, HM.out (by unfold lowI; rw [if_neg (by omega)]), hbel⟩
        case measure => simp [intOf]; omega
    · have hst := fun cap => hB.str (P := Try.prog) 48 9 5 s.size cap (by rw [half_length _ _ k rfl, hz]) Try.underlying48 Try.underlying5 Try.underlying9
      rw [half_end _ _ k rfl (by omega)] at hst
      clear hz
      go_wp2
      go_ret
      exact ⟨rfl, hbel⟩
end
section
open Go.RowKit
theorem Fold_any (a b : ByteArray) (w : World) (ha : a.size ≤ maxLen) (hb : b.size ≤ maxLen) :
    Calls Try.prog 43 #[.string a, .string b] w fun e w' => e = .returned (.bool (foldL a.data.toList b.data.toList)) ∧ Below w.heap.size w w' := by
  unfold maxLen at ha hb
  by_cases hab : a.size = b.size
  · have hne : ((a.size : Int) != (b.size : Int)) = false := by simp [hab]
    have HAB := Lib.hid hab
    clear hab
    go_enter Try.func43, Try.ntmps43
    go_wp2
    go_loopw [5, 13] (fun _ i wr => ∃ k : Nat, k ≤ a.size ∧ i = .int .i64 k ∧ lowL (a.data.toList.take k) = lowL (b.data.toList.take k) ∧ Below w.heap.size w wr) (fun _ i _ => a.size - (intOf i).toNat)
    case atStart => exact ⟨0, Nat.zero_le _, rfl, rfl, Below.refl _ _⟩
    case round =>
      obtain ⟨k, hk, rfl, hall, hbel⟩ := hrel
      have HH := Lib.hid hall
      clear hall
      by_cases hlt : k < a.size
      · have hltb : k < b.size := by have := HAB.out; omega
        have ba := byte_bd a k hlt
        have bb := byte_bd b k hltb
        by_cases hc : lowI a[k].toNat = lowI b[k].toNat
        · have HC := Lib.hid (fold_more HH.out hlt hltb hc)
          have hcn : (lowI a[k].toNat != lowI b[k].toNat) = false := by simp [hc]
          clear hc
          go_wp2
          go_quiet ((go_at_call 56; exact Calls.quiet_of_same ((lowerByte_any _ _ (by omega) (by omega)).mono fun e w' ⟨h1, h2⟩ => ⟨h1, h2.symm⟩)))
          go_wp2
          go_roundw
          case rel => exact ⟨k + 1, by omega, by go_num, HC.out, hbel.trans ⟨rfl, rfl, rfl, Nat.le_refl _, fun _ _ => rfl⟩⟩
          case measure => simp [intOf]; omega
        · have HC := Lib.hid (fold_not hlt hltb hc)
          have hcn : (lowI a[k].toNat != lowI b[k].toNat) = true := by simp [hc]
          clear hc
          go_wp2
          go_quiet ((go_at_call 56; exact Calls.quiet_of_same ((lowerByte_any _ _ (by omega) (by omega)).mono fun e w' ⟨h1, h2⟩ => ⟨h1, h2.symm⟩)))
          go_wp2
          go_ret
          exact ⟨ret_bool HC.out.symm, hbel.trans ⟨rfl, rfl, rfl, Nat.le_refl _, fun _ _ => rfl⟩⟩
      · go_wp2
        go_ret
        exact ⟨ret_bool (fold_end HH.out (by omega) (by have := HAB.out; omega)).symm, hbel⟩
  · have hne : ((a.size : Int) != (b.size : Int)) = true := by simp; omega
    have HAB := Lib.hid hab
    clear hab
    go_enter Try.func43, Try.ntmps43
    go_wp2
    go_ret
    exact ⟨ret_bool (fold_len HAB.out).symm, Below.refl _ _⟩
theorem rFold_any (a b : ByteArray) (w : World) (ha : a.size ≤ 4294967296) (hb : b.size ≤ 4294967296) :
    Calls Try.prog 17 #[.string a, .string b] w fun e w' => e = .returned (.bool (foldL a.data.toList b.data.toList)) ∧ Below w.heap.size w w' := by
  by_cases hab : a.size = b.size
  · have hne : ((a.size : Int) == (b.size : Int)) = true := by simp [hab]
    have HAB := Lib.hid hab
    clear hab
    go_enter Try.func17, Try.ntmps17
    go_wp2_with fail
    refine (rLower_any _ _ ha).mono ?_; rintro e w1 ⟨rfl, hb1⟩
    go_wp2_with fail
    refine (rLower_any _ _ hb).mono ?_; rintro e w2 ⟨rfl, hb2⟩
    go_wp2
    go_ret
    exact ⟨ret_bool (by unfold foldL; rw [Bool.eq_iff_iff]; simp), hb1.trans (hb2.mono hb1.size)⟩
  · have hne : ((a.size : Int) == (b.size : Int)) = false := by simp; omega
    have HAB := Lib.hid hab
    clear hab
    go_enter Try.func17, Try.ntmps17
    go_wp2
    go_ret
    exact ⟨ret_bool (fold_len HAB.out).symm, Below.refl _ _⟩
end
end Go.Proofs.Ytlcojfkkeommoaa.Asc
