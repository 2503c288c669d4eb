/- The contract of the reference's Normalize. -/
import Derived.Test.YtilodlmjamaiiaaTarRef
import Derived.Test.YtilodlmjamaiiaaAscOwn
import Derived.Test.YtilodlmjamaiiaaAscUn
import Derived.Deep.QuietTactic
import Derived.BigQuiet
import Derived.Deep.RegionHeld3
import Derived.Deep.AppendLies
set_option linter.unusedVariables false
set_option linter.unusedSimpArgs false
namespace Go.Proofs.Ytilodlmjamaiiaa.Asc
open Go.RowKit

/-- acc has been written for the first k bytes -/
def NmAt (l : List UInt8) (k : Nat) (acc : List UInt8) : Prop := acc.length ≤ k ∧ normL l = (normL (l.drop k)).map (acc ++ ·)
theorem NmAt.start (l : List UInt8) : NmAt l 0 [] := ⟨by simp, by simp⟩
theorem NmAt.fin {l : List UInt8} {k : Nat} {acc : List UInt8} (h : NmAt l k acc) (hk : l.length ≤ k) : normL l = some acc := by
  rw [h.2, List.drop_of_length_le hk]; simp [normL]
theorem NmAt.bad {s : ByteArray} {k : Nat} {acc : List UInt8} (h : NmAt s.data.toList k acc) (hk : k < s.size) (hc : okB s[k] = false) : normL s.data.toList = none := by
  rw [h.2, drop_cons s k hk, norm_bad hc]; rfl
theorem NmAt.plain {s : ByteArray} {k : Nat} {acc : List UInt8} (h : NmAt s.data.toList k acc) (hk : k < s.size) (hc : okB s[k] = true) (h37 : s[k] ≠ 37) : NmAt s.data.toList (k + 1) (acc ++ [s[k]]) := by
  refine ⟨by have := h.1; simp; omega, ?_⟩
  rw [h.2, drop_cons s k hk, norm_plain hc h37, Option.map_map]; congr 1; funext x; simp
theorem NmAt.short {s : ByteArray} {k : Nat} {acc : List UInt8} (h : NmAt s.data.toList k acc) (hk : k < s.size) (hc : s[k] = 37) (h2 : s.size ≤ k + 2) : normL s.data.toList = none := by
  rw [h.2, drop_cons s k hk, hc]
  by_cases h1 : k + 1 < s.size
  · rw [drop_cons s (k + 1) h1, List.drop_of_length_le (by simp; omega), norm_short2]; rfl
  · rw [List.drop_of_length_le (by simp; omega), norm_short1]; rfl
theorem NmAt.nohex {s : ByteArray} {k : Nat} {acc : List UInt8} (h : NmAt s.data.toList k acc) (hk : k + 2 < s.size) (hc : s[k] = 37) (h2 : (hexB s[k + 1] && hexB s[k + 2]) = false) : normL s.data.toList = none := by
  rw [h.2, drop_cons s k (by omega), drop_cons s (k + 1) (by omega), drop_cons s (k + 1 + 1) (by omega), hc, norm_notrip h2]; rfl
theorem NmAt.trip {s : ByteArray} {k : Nat} {acc : List UInt8} (h : NmAt s.data.toList k acc) (hk : k + 2 < s.size) (hc : s[k] = 37) (h1 : hexB s[k + 1] = true) (h2 : hexB s[k + 2] = true) : NmAt s.data.toList (k + 1 + 1 + 1) (acc ++ tripL (tripN s[k + 1] s[k + 2])) := by
  refine ⟨?_, ?_⟩
  · have := h.1
    have ht : (tripL (tripN s[k + 1] s[k + 2])).length ≤ 3 := by unfold tripL; split <;> simp
    simp; omega
  · rw [h.2, drop_cons s k (by omega), drop_cons s (k + 1) (by omega), drop_cons s (k + 1 + 1) (by omega), hc, norm_trip h1 h2, Option.map_map]; congr 1; funext x; simp
theorem Own.drewN {w : World} {B n : Nat} {v : Value} {l : List UInt8} (h : Own w B v l) : Own (w.drewN n) B v l := h
theorem trip_un {y : UInt8} (h : unresI y.toNat = true) : tripL y.toNat = [y] := by
  unfold tripL; rw [if_pos h]; simp
theorem cell_new (w : World) (v : Value) (t : TypeId) (n : Nat) (hn : n = w.heap.size) : (w.alloc (.cells #[v] t)).cell? ⟨n, 0, none⟩ = some v := by
  rw [World.cell?_alloc_at _ _ _ _ hn]; rfl
theorem cell_new3 (w : World) (v0 v1 v2 : Value) (t : TypeId) (n : Nat) (hn : n = w.heap.size) : (w.alloc (.cells #[v0, v1, v2] t)).cell? ⟨n, 0, none⟩ = some v0 ∧ (w.alloc (.cells #[v0, v1, v2] t)).cell? ⟨n, 1, none⟩ = some v1 ∧ (w.alloc (.cells #[v0, v1, v2] t)).cell? ⟨n, 2, none⟩ = some v2 := by
  refine ⟨?_, ?_, ?_⟩ <;> (rw [World.cell?_alloc_at _ _ _ _ hn]; rfl)
theorem size_more (w : World) (o : Obj) : w.heap.size ≤ (w.alloc o).heap.size := ((Below.refl w.heap.size w).alloc (Nat.le_refl _) o).size
theorem and15 : ∀ x : Fin 256, bits .and .u8 ((x.1 : Nat) : Int) 15 = ((x.1 % 16 : Nat) : Int) := by decide +kernel
def hexS : ByteArray := ⟨#[48, 49, 50, 51, 52, 53, 54, 55, 56, 57, 65, 66, 67, 68, 69, 70]⟩
theorem hexS_at : ∀ k : Fin 16, hexS[k.1]'(k.2) = hexD.getD k.1 0 := by decide +kernel
theorem trip_no {y : UInt8} (h : unresI y.toNat = false) : tripL y.toNat = [37, hexD.getD (y.toNat / 16) 0, hexD.getD (y.toNat % 16) 0] := by
  unfold tripL; rw [if_neg (by rw [h]; simp)]
theorem step_append_b3 (w : World) {ops : Array Oper} {o : Oper} {a : Act} {K : Act → World → Prop} {Q : Exit → Act → World → Prop} {E : Prop} (hgd : o.guard = none) (s x : Operand)
    (ho : o.op = .call { callee := .builtin .append, args := #[s, x], argTypes := #[47, 47] })
    (B : Nat) (v : Value) (l : List UInt8) (hs : a.eval s = v) (hown : Own w B v l)
    (g c : Nat) (hx : a.eval x = .slice (some ⟨g, 0, none⟩) 3 c) (b0 b1 b2 : UInt8) (h0 : w.cell? ⟨g, 0, none⟩ = some (bv b0)) (h1 : w.cell? ⟨g, 1, none⟩ = some (bv b1)) (h2 : w.cell? ⟨g, 2, none⟩ = some (bv b2)) (hl : l.length ≤ 65536) (hB : B ≤ w.heap.size)
    (h : ∀ v' w', Own w' B v' (l ++ [b0, b1, b2]) → Below B w w' → K (a.put o.dst v') w') :
    if Region.wanted o (yielded ops a.tmps) = true then Oper.wp Try.prog o a w K Q else E := by
  obtain ⟨i0, hi0, hz0, hz1, hz2⟩ := info_parts info_u8
  refine step_append_lies (P := Try.prog) w hgd s x 47 ho B 5 i0 _ 1 1 Try.underlying47 hi0 hz0 hz1 hz2 rfl (by decide) v l.length (l.map bv) hs hown ⟨g, 0, none⟩ 3 c [bv b0, bv b1, bv b2] hx rfl ?_ ?_ (by omega) (by unfold maxLen; omega) (by omega) hB _ rfl ?_
  · intro j u hj
    match j, hj with
    | 0, hj => simp at hj; subst hj; simpa [Addr.add] using h0
    | 1, hj => simp at hj; subst hj; simpa [Addr.add] using h1
    | 2, hj => simp at hj; subst hj; simpa [Addr.add] using h2
  · intro u hu; simp at hu; rcases hu with rfl | rfl | rfl <;> rfl
  · intro g' cap' w' q1 q2 _ _
    refine h _ w' (by simpa [Own] using q1) ((Below.refl _ _).grown q2 hB (fun k hk => Own.block hown k hk))
theorem rHex_is {c : UInt8} {p : Int} {w : World} (h : Box (hexI c.toNat = p)) : Calls Try.prog 36 #[.int .u8 c.toNat] w fun e w' => e = .returned (.int .i64 p) ∧ w' = w :=
  (rHex_any c w).mono fun e w' ⟨h1, h2⟩ => ⟨by rw [h1, h.out], h2.symm⟩
theorem rletter_is {c : UInt8} {b : Bool} {w : World} (h : Box (alnumI c.toNat = b)) : Calls Try.prog 31 #[.int .u8 c.toNat] w fun e w' => e = .returned (.bool b) ∧ w' = w :=
  (rletter_any c w).mono fun e w' ⟨h1, h2⟩ => ⟨by rw [h1, h.out], h2.symm⟩

set_option maxRecDepth 100000 in
set_option maxHeartbeats 2000000 in
theorem rNormalize_any (s : ByteArray) (w : World) (hs : s.size ≤ 65536) :
    Calls Try.prog 16 #[.string s] w fun e w' => e = .returned (optV (normL s.data.toList)) ∧ Below w.heap.size w w' := by
  go_enter Try.func16, Try.ntmps16
  go_wp2
  go_loopw [4, 5] (fun v i wr => ∃ (k : Nat) (acc : List UInt8), k ≤ s.size ∧ i = .int .i64 k ∧ Own wr w.heap.size v acc ∧ NmAt s.data.toList k acc ∧ Below w.heap.size w wr) (fun _ i _ => s.size - (intOf i).toNat)
  case atStart => exact ⟨0, [], Nat.zero_le _, rfl, Own.nil _ _, NmAt.start _, Below.refl _ _⟩
  case round =>
    obtain ⟨k, acc, hk, rfl, hO, hU, hbel⟩ := hrel
    have ha := hU.1
    have O := box hO
    have NA := box hU
    have BL := box hbel
    have hbs := hbel.size
    clear hO hU hbel
    by_cases hlt : k < s.size
    · rcases hc : okB s[k] with _ | _
      · have HC := box hc
        have ht : (s[k].toNat : Int) < 33 ∨ 126 < (s[k].toNat : Int) ∨ (s[k].toNat : Int) = 35 := by
          unfold okB okI at hc
          simp at hc; omega
        clear hc
        have hE : normL s.data.toList = none := NA.out.bad hlt HC.out
        have HE := box hE
        clear hE
        rcases ht with ht | ht | ht
        all_goals
          go_wp2
          go_ret2
          exact ⟨by rw [HE.out]; rfl, BL.out⟩
      · have HC := box hc
        have hv : (33 ≤ (s[k].toNat : Int) ∧ (s[k].toNat : Int) ≤ 126) ∧ ((s[k].toNat : Int) == 35) = false := by
          unfold okB okI at hc
          simpa using hc
        obtain ⟨⟨h33, h126⟩, h35⟩ := hv
        clear hc
        rcases h37 : ((s[k].toNat : Int) != 37) with _ | _
        · have e37 : s[k] = 37 := byte_eq (n := 37) (by simpa using h37) (by omega)
          have E37 := box e37
          clear e37
          by_cases h2 : s.size ≤ k + 2
          · have hE : normL s.data.toList = none := NA.out.short hlt E37.out h2
            have HE := box hE
            clear hE
            have h2i : (s.size : Int) ≤ (k : Int) + 2 := by omega
            go_wp2
            go_ret2
            exact ⟨by rw [HE.out]; rfl, BL.out⟩
          · have hk2 : k + 2 < s.size := by omega
            have hk1 : k + 1 < s.size := by omega
            have h2i : (k : Int) + 2 < (s.size : Int) := by omega
            have h1i : (k : Int) + 1 < (s.size : Int) := by omega
            obtain ⟨p, hp⟩ : ∃ p, hexI (s[k + 1].toNat) = p := ⟨_, rfl⟩
            obtain ⟨q, hq⟩ : ∃ q, hexI (s[k + 2].toNat) = q := ⟨_, rfl⟩
            have HP := box hp
            have HQ := box hq
            by_cases hp0 : p < 0
            · have hE : normL s.data.toList = none := NA.out.nohex hk2 E37.out (by unfold hexB; rw [hp]; simp; omega)
              have HE := box hE
              clear hE hp hq
              go_wp2_with fail
              refine (rHex_is (c := s[k + 1]) HP).mono ?_; rintro e w1 ⟨rfl, rfl⟩
              go_wp2
              go_ret2
              exact ⟨by rw [HE.out]; rfl, BL.out⟩
            · by_cases hq0 : q < 0
              · have hE : normL s.data.toList = none := NA.out.nohex hk2 E37.out (by unfold hexB; rw [hp, hq]; simp; omega)
                have HE := box hE
                clear hE hp hq
                go_wp2_with fail
                refine (rHex_is (c := s[k + 1]) HP).mono ?_; rintro e w1 ⟨rfl, rfl⟩
                go_wp2_with fail
                refine (rHex_is (c := s[k + 2]) HQ).mono ?_; rintro e w1 ⟨rfl, rfl⟩
                go_wp2
                go_ret2
                exact ⟨by rw [HE.out]; rfl, BL.out⟩
              · have g1 : hexB s[k + 1] = true := by unfold hexB; rw [hp]; simp; omega
                have g2 : hexB s[k + 2] = true := by unfold hexB; rw [hq]; simp; omega
                have b1 := hex_bd g1
                have b2 := hex_bd g2
                rw [hp] at b1
                rw [hq] at b2
                have T := box (NA.out.trip hk2 E37.out g1 g2)
                have hx : ∃ y : UInt8, (y.toNat : Int) = p * 16 + q ∧ tripN s[k + 1] s[k + 2] = y.toNat := by
                  refine ⟨UInt8.ofNat (p * 16 + q).toNat, ?_, ?_⟩
                  · rw [UInt8.toNat_ofNat', Nat.mod_eq_of_lt (by omega)]; omega
                  · unfold tripN; rw [hp, hq, UInt8.toNat_ofNat', Nat.mod_eq_of_lt (by omega)]
                obtain ⟨y, hy, hy2⟩ := hx
                have Y := box hy
                have Y2 := box hy2
                clear g1 g2 hy hy2
                obtain ⟨b11, b12⟩ := b1
                obtain ⟨b21, b22⟩ := b2
                go_wp2_with fail
                refine (rHex_is (c := s[k + 1]) HP).mono ?_; rintro e w1 ⟨rfl, rfl⟩
                go_wp2_with fail
                refine (rHex_is (c := s[k + 2]) HQ).mono ?_; rintro e w1 ⟨rfl, rfl⟩
                go_wp2
                go_quiet ((go_at_call 36; exact Calls.quiet_of_same ((rHex_any _ _).mono fun e w' ⟨h1, h2⟩ => ⟨h1, h2.symm⟩)))
                rw [← Y.out]
                clear hp hq b11 b12 b21 b22
                rcases hal : alnumI (y.toNat) with _ | _
                · have HAL := box hal
                  clear hal
                  go_wp2_with fail
                  refine (rletter_is (c := y) HAL).mono ?_; rintro e w2 ⟨rfl, rfl⟩
                  go_wp2_with (at_builtin; refine wpList_append_byte _ rfl (.tmp 85) (.tmp 87) rfl w.heap.size _ acc rfl (Own.alloc (Own.drewN O.out) _) _ rfl _ y (by first | rfl | omega) (cell_new _ _ _ _ rfl) (by omega) (Nat.le_trans hbs (size_more _ _)) ?_; intro v' w3 hO1 hb1)
                  · have HU : unresI y.toNat = true := by
                      have q : (y.toNat : Int) = 45 := by assumption
                      unfold unresI; rw [q]; decide
                    have T2 : Box (NmAt s.data.toList (k + 1 + 1 + 1) (acc ++ [y])) := box (by have := T.out; rw [Y2.out, trip_un HU] at this; exact this)
                    have O1 := box hO1
                    have B1 := box (((BL.out.trans ((below_drewN _ _).mono BL.out.size)).alloc hbs _).trans hb1)
                    clear HU hO1 hb1
                    go_roundw
                    case rel => exact ⟨k + 1 + 1 + 1, _, by omega, by go_num, O1.out, T2.out, B1.out⟩
                    case measure => simp [intOf]; omega
                  · have HU : unresI y.toNat = true := by
                      have q : (y.toNat : Int) = 46 := by assumption
                      unfold unresI; rw [q]; decide
                    have T2 : Box (NmAt s.data.toList (k + 1 + 1 + 1) (acc ++ [y])) := box (by have := T.out; rw [Y2.out, trip_un HU] at this; exact this)
                    have O1 := box hO1
                    have B1 := box (((BL.out.trans ((below_drewN _ _).mono BL.out.size)).alloc hbs _).trans hb1)
                    clear HU hO1 hb1
                    go_roundw
                    case rel => exact ⟨k + 1 + 1 + 1, _, by omega, by go_num, O1.out, T2.out, B1.out⟩
                    case measure => simp [intOf]; omega
                  · have HU : unresI y.toNat = true := by
                      have q : (y.toNat : Int) = 95 := by assumption
                      unfold unresI; rw [q]; decide
                    have T2 : Box (NmAt s.data.toList (k + 1 + 1 + 1) (acc ++ [y])) := box (by have := T.out; rw [Y2.out, trip_un HU] at this; exact this)
                    have O1 := box hO1
                    have B1 := box (((BL.out.trans ((below_drewN _ _).mono BL.out.size)).alloc hbs _).trans hb1)
                    clear HU hO1 hb1
                    go_roundw
                    case rel => exact ⟨k + 1 + 1 + 1, _, by omega, by go_num, O1.out, T2.out, B1.out⟩
                    case measure => simp [intOf]; omega
                  · have HU : unresI y.toNat = true := by
                      have q : ((((y.toNat : Int) == 45) = true ∨ ((y.toNat : Int) == 46) = true) ∨ ((y.toNat : Int) == 95) = true) ∨ ((y.toNat : Int) == 126) = true := by assumption
                      unfold unresI; rcases q with ((q | q) | q) | q <;> rw [q] <;> simp
                    have T2 : Box (NmAt s.data.toList (k + 1 + 1 + 1) (acc ++ [y])) := box (by have := T.out; rw [Y2.out, trip_un HU] at this; exact this)
                    have O1 := box hO1
                    have B1 := box (((BL.out.trans ((below_drewN _ _).mono BL.out.size)).alloc hbs _).trans hb1)
                    clear HU hO1 hb1
                    go_roundw
                    case rel => exact ⟨k + 1 + 1 + 1, _, by omega, by go_num, O1.out, T2.out, B1.out⟩
                    case measure => simp [intOf]; omega
                  · have q1 : ((((y.toNat : Int) == 45) = false ∧ ((y.toNat : Int) == 46) = false) ∧ ((y.toNat : Int) == 95) = false) ∧ ((y.toNat : Int) == 126) = false := by assumption
                    have HU : Box (unresI y.toNat = false) := box (by unfold unresI; rw [HAL.out, q1.1.1.1, q1.1.1.2, q1.1.2, q1.2]; rfl)
                    have hy255 := y.toNat_lt
                    obtain ⟨m, hm⟩ : ∃ m, y.toNat % 16 = m := ⟨_, rfl⟩
                    obtain ⟨d, hd⟩ : ∃ d, y.toNat / 16 = d := ⟨_, rfl⟩
                    have hm16 : m < 16 := by omega
                    have hd16 : d < 16 := by omega
                    have hm16i : (m : Int) < 16 := by omega
                    have hd16i : (d : Int) < 16 := by omega
                    have hbits : bits .and .u8 (y.toNat : Int) 15 = (m : Int) := by have := and15 ⟨y.toNat, by omega⟩; simp only at this; rw [this, hm]
                    have hdiv : (y.toNat : Int) / 16 = (d : Int) := by omega
                    have HM := box hm
                    have HD := box hd
                    clear q1 hm hd
                    go_region_held3 (fun w' => True) (first | trivial) (first | (refine step_append_b3 _ rfl (.tmp 89) (.tmp 96) rfl w.heap.size _ acc (by rfl) ?_ _ _ (by rfl) 37 (hexS[d]'hd16) (hexS[m]'hm16) ?_ ?_ ?_ ?_ ?_ ?_; (exact Own.alloc (Own.drewN O.out) _); (exact (cell_new3 _ _ _ _ _ _ rfl).1); (exact (cell_new3 _ _ _ _ _ _ rfl).2.1); (exact (cell_new3 _ _ _ _ _ _ rfl).2.2); omega; (exact Nat.le_trans hbs (size_more _ _)); intro v4 w4 hO4 hb4; have O4 := box hO4; have B4 := box (((BL.out.trans ((below_drewN _ _).mono BL.out.size)).alloc hbs _).trans hb4); clear hO4 hb4))
                    all_goals
                      have T2 : Box (NmAt s.data.toList (k + 1 + 1 + 1) (acc ++ [37, hexS[d]'hd16, hexS[m]'hm16])) := box (by
                        have h := T.out
                        rw [Y2.out, trip_no HU.out, HD.out, HM.out, ← hexS_at ⟨d, hd16⟩, ← hexS_at ⟨m, hm16⟩] at h
                        exact h)
                      clear hbits hdiv
                      go_wp2
                      go_roundw
                      case rel => exact ⟨k + 1 + 1 + 1, _, by omega, by go_num, O4.out, T2.out, B4.out⟩
                      case measure => simp [intOf]; omega
                · have HU : Box (unresI y.toNat = true) := box (by unfold unresI; rw [hal]; rfl)
                  have HAL := box hal
                  have T2 : Box (NmAt s.data.toList (k + 1 + 1 + 1) (acc ++ [y])) := box (by have := T.out; rw [Y2.out, trip_un HU.out] at this; exact this)
                  clear hal
                  go_wp2_with fail
                  refine (rletter_is (c := y) HAL).mono ?_; rintro e w2 ⟨rfl, rfl⟩
                  go_wp2_with (at_builtin; refine wpList_append_byte _ rfl (.tmp 85) (.tmp 87) rfl w.heap.size _ acc rfl (Own.alloc (Own.drewN O.out) _) _ rfl _ y (by first | rfl | omega) (cell_new _ _ _ _ rfl) (by omega) (Nat.le_trans hbs (size_more _ _)) ?_; intro v' w3 hO1 hb1)
                  have O1 := box hO1
                  have B1 := box (((BL.out.trans ((below_drewN _ _).mono BL.out.size)).alloc hbs _).trans hb1)
                  clear hO1 hb1
                  go_roundw
                  case rel => exact ⟨k + 1 + 1 + 1, _, by omega, by go_num, O1.out, T2.out, B1.out⟩
                  case measure => simp [intOf]; omega
        · have h37b : s[k] ≠ 37 := by intro e; rw [e] at h37; simp at h37
          have N2 := box (NA.out.plain hlt HC.out h37b)
          clear h37b
          go_wp2_with (at_builtin; refine wpList_append_byte _ rfl (.tmp 29) (.tmp 31) rfl w.heap.size _ acc rfl ?a1 _ rfl _ s[k] rfl ?b1 ?c1 ?d1 ?_)
          case a1 => exact O.out.alloc _
          case b1 => go_simp
          case c1 => omega
          case d1 => exact Nat.le_trans hbs (size_more _ _)
          intro v' w1 hO1 hb1
          have O1 := box hO1
          clear hO1
          go_wp2
          go_roundw
          case rel => exact ⟨k + 1, _, by omega, by go_num, O1.out, N2.out, (BL.out.alloc BL.out.size _).trans hb1⟩
          case measure => simp [intOf]; omega
    · have hE := NA.out.fin (by simp; omega)
      have HE := box hE
      have hst := O.out.str
      clear hE
      go_wp2
      go_ret2
      exact ⟨by rw [HE.out]; rfl, BL.out⟩

end Go.Proofs.Ytilodlmjamaiiaa.Asc
