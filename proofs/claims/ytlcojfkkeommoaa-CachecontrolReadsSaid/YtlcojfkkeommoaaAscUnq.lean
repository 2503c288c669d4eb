/- The contracts of Unquote, the program's and the reference's: both return what 'unqL' has of the string's bytes. -/
import Derived.Test.YtlcojfkkeommoaaAscUn
set_option linter.unusedVariables false
set_option linter.unusedSimpArgs false
set_option maxRecDepth 100000
namespace Go.Proofs.Ytlcojfkkeommoaa.Asc
open Go.RowKit

theorem unescape_none {s : ByteArray} {w : World} (hs : s.size ≤ 4294967296) (h : unescL s.data.toList = none) :
    Calls Try.prog 67 #[.string s] w fun e w' => e = .returned (.tuple #[.string ⟨#[]⟩, .bool false]) ∧ Below w.heap.size w w' :=
  (unescape_any s w hs).mono fun e w' ⟨he, hb⟩ => ⟨by rw [he, h]; rfl, hb⟩
theorem unescape_some {s : ByteArray} {w : World} {r : List UInt8} (hs : s.size ≤ 4294967296) (h : unescL s.data.toList = some r) :
    Calls Try.prog 67 #[.string s] w fun e w' => e = .returned (.tuple #[.string ⟨r.toArray⟩, .bool true]) ∧ Below w.heap.size w w' :=
  (unescape_any s w hs).mono fun e w' ⟨he, hb⟩ => ⟨by rw [he, h]; rfl, hb⟩

set_option maxHeartbeats 800000 in
theorem Unquote_any (s : ByteArray) (w : World) (hs : s.size ≤ 4294967296) :
    Calls Try.prog 63 #[.string s] w fun e w' => e = .returned (optV (unqL s.data.toList)) ∧ Below w.heap.size w w' := by
  by_cases h2 : s.size < 2
  · go_enter Try.func63, Try.ntmps63
    go_wp2
    go_ret2
    exact ⟨by rw [unq_short h2]; rfl, Below.refl _ _⟩
  · have hp : 0 < s.size := by omega
    have hq : s.size - 1 < s.size := by omega
    by_cases h0 : ((s[0]'hp).toNat : Int) = 34
    · rcases h1 : (((s[s.size - 1]'hq).toNat : Int) != 34) with _ | _
      · have hu := unq_in h2 hp h0 hq h1
        have HI : Hid ((s.extract 1 (s.size - 1)).size ≤ 4294967296) := Lib.hid (by rw [ByteArray.size_extract]; omega)
        have HM : Hid ((s.extract 1 (s.size - 1)).size ≤ maxLen) := Lib.hid (by have := HI.out; unfold maxLen; omega)
        have HU := Lib.hid hu
        clear hu
        go_enter Try.func63, Try.ntmps63
        go_wp2_with fail
        refine (Text_any _ _ HM.out).mono ?_; rintro e w' ⟨rfl, rfl⟩
        rcases ht : textL (s.extract 1 (s.size - 1)).data.toList with _ | _
        · have HT := Lib.hid (unqIn_not ht)
          clear ht
          go_wp2
          go_ret2
          exact ⟨by rw [HU.out, HT.out]; rfl, Below.refl _ _⟩
        · have HT := Lib.hid (unqIn_text ht)
          clear ht
          go_wp2_with fail
          rcases hr : unescL (s.extract 1 (s.size - 1)).data.toList with _ | r
          · have HR := Lib.hid hr
            clear hr
            refine (unescape_none HI.out HR.out).mono ?_; rintro e w' ⟨rfl, hb⟩
            go_wp2
            go_ret2
            exact ⟨by rw [HU.out, HT.out, HR.out]; rfl, hb⟩
          · have HR := Lib.hid hr
            clear hr
            refine (unescape_some HI.out HR.out).mono ?_; rintro e w' ⟨rfl, hb⟩
            go_wp2
            go_ret2
            exact ⟨by rw [HU.out, HT.out, HR.out]; rfl, hb⟩
      · go_enter Try.func63, Try.ntmps63
        go_wp2
        go_ret2
        exact ⟨by rw [unq_last hq h1]; rfl, Below.refl _ _⟩
    · go_enter Try.func63, Try.ntmps63
      go_wp2
      go_ret2
      exact ⟨by rw [unq_head hp h0]; rfl, Below.refl _ _⟩

set_option maxHeartbeats 800000 in
theorem rUnquote_any (s : ByteArray) (w : World) (hs : s.size ≤ 4294967296) :
    Calls Try.prog 52 #[.string s] w fun e w' => e = .returned (optV (unqL s.data.toList)) ∧ Below w.heap.size w w' := by
  by_cases h2 : s.size < 2
  · go_enter Try.func52, Try.ntmps52
    go_wp2
    go_ret2
    exact ⟨by rw [unq_short h2]; rfl, Below.refl _ _⟩
  · have hp : 0 < s.size := by omega
    have hq : s.size - 1 < s.size := by omega
    by_cases h0 : ((s[0]'hp).toNat : Int) = 34
    · rcases h1 : (((s[s.size - 1]'hq).toNat : Int) != 34) with _ | _
      · have hu := unq_in h2 hp h0 hq h1
        have hin : (s.extract 1 (s.size - 1)).size ≤ 4294967296 := by rw [ByteArray.size_extract]; omega
        have HU := Lib.hid hu
        clear hu
        go_enter Try.func52, Try.ntmps52
        go_wp2_with fail
        clear h0 h1 h2 hp hq
        generalize hg : s.extract 1 (s.size - 1) = t at *
        have HG := Lib.hid hg
        clear hg
        go_loopw [4, 5] (fun v i wr => ∃ (k : Nat) (acc : List UInt8), k ≤ t.size ∧ i = .int .i64 k ∧ Own wr w.heap.size v acc ∧ UnAt t.data.toList k acc ∧ allI textI (t.data.toList.take k) = true ∧ Below w.heap.size w wr) (fun _ i _ => t.size - (intOf i).toNat)
        case atStart => exact ⟨0, [], Nat.zero_le _, rfl, Own.nil _ _, UnAt.start _, rfl, Below.refl _ _⟩
        case round =>
          obtain ⟨k, acc, hk, rfl, hO, hU, hT, hbel⟩ := hrel
          have ha := hU.1
          by_cases hlt : k < t.size
          · rcases h1 : ((t[k].toNat : Int) == 34) with _ | _
            · rcases h2 : ((t[k].toNat : Int) == 92) with _ | _
              · have hb := byte_bd t k hlt
                rcases hp : textI (t[k].toNat) with _ | _
                · go_wp2_with (go_at_call 32; refine (textByte_any _ _ hb.1 hb.2).mono ?_; rintro e w' ⟨rfl, rfl⟩)
                  go_ret2
                  exact ⟨by rw [HU.out, unqIn_not (textL_not hlt hp)]; rfl, hbel⟩
                · go_wp2_with (first | (go_at_call 32; refine (textByte_any _ _ hb.1 hb.2).mono ?_; rintro e w' ⟨rfl, rfl⟩) | (at_builtin; refine wpList_append_byte _ rfl _ _ rfl w.heap.size _ acc rfl (hO.alloc _) _ rfl _ t[k] rfl (by go_simp) (by omega) (by have := hbel.size; simp; omega) ?_; intro v' w1 hO1 hb1))
                  go_roundw
                  case rel => exact ⟨k + 1, _, by omega, by go_num, hO1, hU.plain hlt h1 h2, all_more hT hlt hp, hbel.alloc hbel.size _ |>.trans hb1⟩
                  case measure => simp [intOf]; omega
              · by_cases he : k + 1 < t.size
                · have hb := byte_bd t (k + 1) he
                  rcases hp : textI (t[k + 1].toNat) with _ | _
                  · go_wp2_with (go_at_call 32; refine (textByte_any _ _ hb.1 hb.2).mono ?_; rintro e w' ⟨rfl, rfl⟩)
                    go_ret2
                    exact ⟨by rw [HU.out, unqIn_not (textL_not he hp)]; rfl, hbel⟩
                  · have h92 : textI (t[k].toNat) = true := by have := eq_of_beq h2; rw [this]; rfl
                    have HA := Lib.hid (all_more (all_more hT hlt h92) he hp)
                    clear h92
                    go_wp2_with (first | (go_at_call 32; refine (textByte_any _ _ hb.1 hb.2).mono ?_; rintro e w' ⟨rfl, rfl⟩) | (at_builtin; refine wpList_append_byte _ rfl _ _ rfl w.heap.size _ acc rfl (hO.alloc _) _ rfl _ t[k + 1] rfl (by go_simp) (by omega) (by have := hbel.size; simp; omega) ?_; intro v' w1 hO1 hb1))
                    go_roundw
                    case rel => exact ⟨k + 1 + 1, _, by omega, by go_num, hO1, hU.esc hlt h2 he, HA.out, hbel.alloc hbel.size _ |>.trans hb1⟩
                    case measure => simp [intOf]; omega
                · go_wp2
                  go_ret2
                  exact ⟨by rw [HU.out, unqIn_none (hU.last hlt h2 (by omega))]; rfl, hbel⟩
            · go_wp2
              go_ret2
              exact ⟨by rw [HU.out, unqIn_none (hU.quote hlt h1)]; rfl, hbel⟩
          · have hst := hO.str
            go_wp2
            go_ret2
            exact ⟨by rw [HU.out, unqIn_text (textL_end hT (by omega)), hU.fin (by simp; omega)]; rfl, hbel⟩
      · go_enter Try.func52, Try.ntmps52
        go_wp2
        go_ret2
        exact ⟨by rw [unq_last hq h1]; rfl, Below.refl _ _⟩
    · go_enter Try.func52, Try.ntmps52
      go_wp2
      go_ret2
      exact ⟨by rw [unq_head hp h0]; rfl, Below.refl _ _⟩
end Go.Proofs.Ytlcojfkkeommoaa.Asc
