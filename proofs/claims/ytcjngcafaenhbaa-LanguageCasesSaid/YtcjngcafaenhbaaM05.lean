/- Merged texts: LanRef4 LanSpec4 TarSpec TarSeg TarUri TarNorm TarRSeg TarHas. -/
import Derived.Test.YtcjngcafaenhbaaM01
import Derived.Test.YtcjngcafaenhbaaM02
import Derived.Test.YtcjngcafaenhbaaM03
import Derived.Test.YtcjngcafaenhbaaM04
import Derived.BigQuiet
import Derived.Deep.AppendLies
import Derived.Deep.QuietTactic
import Derived.Deep.RegionHeld3
import Derived.Lib.AppendStr
import Derived.Lib.Hide
import Derived.LoopTactic
set_option linter.unusedVariables false
set_option linter.unusedSimpArgs false
set_option maxRecDepth 100000
namespace Go.Proofs.Ytcjngcafaenhbaa.Asc
section
open Go.RowKit
/-- the outer loop: n subtags are left -/
def LkO (A : List (List UInt8)) (T : List ByteArray) (m : Int) (g off c : Nat) (W : World) (l : Value) (wr : World) : Prop :=
  ∃ n : Nat, l = .slice (some ⟨g, off, none⟩) n c ∧ n ≤ A.length ∧ lookN T A n = m ∧ Below W.heap.size W wr
/-- the string is put together -/
def LkS (A : List (List UInt8)) (n : Nat) (s i : Value) : Prop := ∃ k : Nat, i = .int .i64 k ∧ 1 ≤ k ∧ k ≤ n ∧ s = .string (bs (joinS (A.take k)))
/-- the tags are looked at -/
def LkT (x : List UInt8) (T : List ByteArray) (W : World) (i : Value) (wr : World) : Prop :=
  ∃ k : Nat, i = .int .i64 k ∧ k ≤ T.length ∧ (∀ j (hj : j < T.length), j < k → foldL x T[j].data.toList = false) ∧ Below W.heap.size W wr
theorem join_size {r : ByteArray} {A : List (List UInt8)} (h : subL r.data.toList = A) (k : Nat) : (joinS (A.take k)).length ≤ r.size := by
  have h1 := join_take_le (A := A) k
  have h2 : (joinS A).length = r.data.toList.length := by rw [← h, join_sub]
  have hz : r.data.toList.length = r.size := by simp
  omega
set_option maxHeartbeats 4000000 in
theorem rLookup_tag (r : ByteArray) (a : Option Addr) (cap : Nat) (T : List ByteArray) (w : World) (hr : r.size ≤ 65000) (hT : T.length ≤ 65536) (hz : Box (∀ i (hi : i < T.length), T[i].size ≤ 65536)) (hS : Box (Ss w a T)) (h : Box (tagL r.data.toList = true)) :
    Calls Try.prog 21 #[.string r, .slice a T.length cap] w fun e w' => e = .returned (.int .i64 (lookT r.data.toList T)) ∧ Below w.heap.size w w' := by
  obtain ⟨m, hm⟩ : ∃ m, lookT r.data.toList T = m := ⟨_, rfl⟩
  obtain ⟨A, hA⟩ : ∃ A, subL r.data.toList = A := ⟨_, rfl⟩
  have HM : Box (lookN T A A.length = m) := box (by rw [← hA, ← look_all _ _ h.out, hm])
  have HJ := box (join_size hA)
  have hAl : A.length ≤ 65001 := by have := sub_count r.data.toList; have hz : r.data.toList.length = r.size := by simp
                                    rw [hA] at this; omega
  have hA0 : 0 < A.length := by obtain ⟨x, xs, e⟩ := subL_cons r.data.toList; rw [← hA, e]; simp
  have HSB : Box (subB r.data.toList = A.map bs) := box (by unfold subB; rw [hA])
  rw [hm]
  clear hm hA
  go_enter Try.func21, Try.ntmps21
  go_wp2_with fail
  refine (rTag_is hr h).mono ?_; rintro e w1 ⟨rfl, hb1⟩
  have B1 := box hb1
  clear hb1
  go_wp2_with fail
  refine (rSubs_any r _ hr).mono ?_; rintro e w2 ⟨v2, rfl, hO2, hb2⟩
  rw [HSB.out] at hO2
  obtain ⟨a2, c2, rfl, hS2, hc2⟩ := hO2.ss
  rw [List.length_map] at hc2 ⊢
  have B2 := box (B1.out.trans (hb2.mono B1.out.size))
  have TT := box (hS.out.below B2.out)
  obtain ⟨g, off, rfl, _⟩ := hS2 0 (by simpa using hA0)
  have SA : Box (∀ k (hk : k < A.length), w2.cell? ⟨g, off + k, none⟩ = some (.string (bs A[k]))) := box (fun k hk => by
    obtain ⟨g', off', e, hc⟩ := hS2 k (by simpa using hk)
    cases e
    simpa using hc)
  clear hO2 hb2 hS2
  go_wp2
  go_loopw [5, 6, 7, 8] (fun l _ _ _ wr => LkO A T m g off c2 w2 l wr) (fun l _ _ _ _ => match l with | .slice _ n _ => n | _ => 0)
  case atStart => exact ⟨A.length, rfl, Nat.le_refl _, HM.out, Below.refl _ _⟩
  case round =>
    obtain ⟨n, rfl, hn, hlk, hbel⟩ := hrel
    have HLK := box hlk
    have BL := box hbel
    have CA : Box (∀ k (hk : k < A.length), wr.cell? ⟨g, off + k, none⟩ = some (.string (bs A[k]))) := box (fun k hk => (hbel.cell (cell_lt (SA.out k hk))).trans (SA.out k hk))
    clear hlk hbel
    by_cases h0 : 0 < n
    · obtain ⟨p, rfl⟩ : ∃ p, n = p + 1 := ⟨n - 1, by omega⟩
      have hc0 := CA.out 0 (by omega)
      rw [Nat.add_zero] at hc0
      have H1 := box (join_take_one (A := A) (by omega))
      obtain ⟨y, hy⟩ : ∃ y, A[0] = y := ⟨_, rfl⟩
      rw [hy] at hc0
      go_wp2
      go_loop [6, 7] (fun s i => LkS A (p + 1) s i) (fun _ i => p + 1 - (intOf i).toNat)
      case atStart => exact ⟨1, rfl, Nat.le_refl _, by omega, by rw [H1.out, hy]⟩
      case round =>
        obtain ⟨k, rfl, hk1, hkn, rfl⟩ := hrel
        by_cases hlt : k < p + 1
        · have hki : (k : Int) < (p : Int) + 1 := by omega
          have hck := CA.out k (by omega)
          have HN := box (join_take_next (A := A) (i := k) (by omega) (by omega))
          have hj1 := HJ.out k
          have hj2 := HJ.out (k + 1)
          obtain ⟨z, hz2⟩ : ∃ z, A[k]'(by omega) = z := ⟨_, rfl⟩
          rw [hz2] at hck HN
          obtain ⟨J, hJ⟩ : ∃ J, joinS (A.take k) = J := ⟨_, rfl⟩
          obtain ⟨J2, hJ2⟩ : ∃ J2, joinS (A.take (k + 1)) = J2 := ⟨_, rfl⟩
          rw [hJ] at hj1 HN ⊢
          rw [hJ2] at hj2 HN
          have hzl : z.length + 1 ≤ J2.length := by have := congrArg List.length HN.out; rw [List.length_append, List.length_cons] at this; omega
          have ad1 : ∀ w, (Op.stringOp .add ⟨#[45]⟩ (bs z)).run Try.prog w = .ok (.string (bs (45 :: z))) w := fun w => by
            have := run_string_add_sum (P := Try.prog) w ⟨#[45]⟩ (bs z) (by show 1 + z.length ≤ 9223372036854775807; omega)
            rw [this]; rfl
          have ad2 : ∀ w, (Op.stringOp .add (bs J) (bs (45 :: z))).run Try.prog w = .ok (.string (bs J2)) w := fun w => by
            have := run_string_add_sum (P := Try.prog) w (bs J) (bs (45 :: z)) (by show J.length + (z.length + 1) ≤ 9223372036854775807; omega)
            rw [this, HN.out]; rfl
          have HJ2 := box hJ2
          clear hJ hJ2 hz2
          go_wp2
          go_round
          case rel => exact ⟨k + 1, by go_num, by omega, by omega, by rw [HJ2.out]⟩
          case measure => simp [intOf]; omega
        · have hke : k = p + 1 := by omega
          subst hke
          have hjn := HJ.out (p + 1)
          obtain ⟨J, hJ⟩ : ∃ J, joinS (A.take (p + 1)) = J := ⟨_, rfl⟩
          have HJN := box hJ
          rw [hJ] at hjn ⊢
          clear hJ
          go_wp2
          go_loopw [8] (fun i wi => LkT J T wr i wi) (fun i _ => T.length - (intOf i).toNat)
          case atStart => exact ⟨0, rfl, Nat.zero_le _, fun j hj h => absurd h (by omega), Below.refl _ _⟩
          case round =>
            obtain ⟨k, rfl, hkT, hno, hbi⟩ := hrel
            have HNO := box hno
            have BI := box (BL.out.trans (hbi.mono BL.out.size))
            have BR := box hbi
            have TI := (TT.out.below BL.out).below hbi
            clear hno hbi
            by_cases hlT : k < T.length
            · have hkTi : (k : Int) < (T.length : Int) := by omega
              obtain ⟨x, hx⟩ : ∃ x, T[k] = x := ⟨_, rfl⟩
              have HX := box hx
              obtain ⟨g', off', rfl, cT⟩ := TI k hlT
              rw [hx] at cT
              have hxz : x.size ≤ 4294967296 := by have := hz.out k hlT; rw [hx] at this; omega
              have hJz : (bs J).size ≤ 4294967296 := by rw [bs_size]; omega
              clear TI hx
              cases hf : foldL J x.data.toList with
              | true =>
                have HF : Box (foldL (bs J).data.toList x.data.toList = true) := box hf
                have HR : Box (m = (k : Int)) := box (by
                  rw [← HLK.out]
                  exact look_hit (by omega) hn (by rw [HJN.out]; exact find_at hlT (by rw [HX.out]; exact hf) HNO.out))
                clear hf
                go_wp2_with fail
                refine (rFold11_is hJz hxz HF).mono ?_; rintro e w5 ⟨rfl, hb5⟩
                have B5 := box (BI.out.trans (hb5.mono BI.out.size))
                clear hb5
                go_wp2
                go_ret
                exact ⟨by rw [HR.out]; rfl, B2.out.trans (B5.out.mono B2.out.size)⟩
              | false =>
                have HF : Box (foldL (bs J).data.toList x.data.toList = false) := box hf
                have HNO2 : Box (∀ j (hj : j < T.length), j < k + 1 → foldL J T[j].data.toList = false) := box (fun j hj hjk => by
                  by_cases e : j = k
                  · subst e; rw [HX.out]; exact HF.out
                  · exact HNO.out j hj (by omega))
                clear hf
                go_wp2_with fail
                refine (rFold11_is hJz hxz HF).mono ?_; rintro e w5 ⟨rfl, hb5⟩
                have B5 := box (BR.out.trans (hb5.mono BR.out.size))
                clear hb5
                go_wp2
                go_roundw
                case rel => exact ⟨k + 1, by go_num, hlT, HNO2.out, B5.out⟩
                case measure => simp [intOf]; omega
            · have hkTi : ¬ (k : Int) < (T.length : Int) := by omega
              have HFN : Box (findT (joinS (A.take (p + 1))) T = none) := box (by rw [HJN.out]; exact find_no fun j hj => HNO.out j hj (by omega))
              clear TI
              have hpc : (p : Int) ≤ (c2 : Int) := by omega
              have hp0 : (0 : Int) ≤ (p : Int) := by omega
              by_cases hp : p = 0
              · subst hp
                have HL0 : Box (lookN T A 0 = m) := box (by rw [← HLK.out, look_one (by omega) HFN.out]; rfl)
                go_wp2
                go_roundw
                case rel => exact ⟨0, rfl, Nat.zero_le _, HL0.out, BI.out⟩
                case measure => simp
              · obtain ⟨q, rfl⟩ : ∃ q, p = q + 1 := ⟨p - 1, by omega⟩
                have hcq := (BR.out.cell (cell_lt (CA.out q (by omega)))).trans (CA.out q (by omega))
                obtain ⟨z, hz2⟩ : ∃ z, A[q]'(by omega) = z := ⟨_, rfl⟩
                rw [hz2] at hcq
                have hqi : (q : Int) < (q : Int) + 1 := by omega
                have hq0 : (0 : Int) ≤ (q : Int) := by omega
                have hqc : (q : Int) ≤ (c2 : Int) := by omega
                by_cases h1 : z.length = 1
                · have HLS : Box (lookN T A q = m) := box (by rw [← HLK.out]; exact (look_short (by omega) hn HFN.out (by simpa [hz2] using h1)).symm)
                  have hsz : (((bs z).size : Int) == 1) = true := by rw [bs_size, h1]; rfl
                  clear hz2 h1
                  go_wp2
                  go_roundw
                  case rel => exact ⟨q, rfl, by omega, HLS.out, BI.out⟩
                  case measure => simp; omega
                · have HLS : Box (lookN T A (q + 1) = m) := box (by rw [← HLK.out]; exact (look_long (by omega) hn HFN.out (by simpa [hz2] using h1)).symm)
                  have hsz : (((bs z).size : Int) == 1) = false := by rw [bs_size, beq_eq_false_iff_ne]; omega
                  clear hz2 h1
                  go_wp2
                  go_roundw
                  case rel => exact ⟨q + 1, rfl, by omega, HLS.out, BI.out⟩
                  case measure => simp
    · have h0e : n = 0 := by omega
      subst h0e
      have HR : Box (m = -1) := box (by rw [← HLK.out, look_none])
      go_wp2
      go_ret
      exact ⟨by rw [HR.out]; rfl, B2.out.trans (BL.out.mono B2.out.size)⟩
theorem rLookup_any (r : ByteArray) (a : Option Addr) (cap : Nat) (T : List ByteArray) (w : World) (hr : r.size ≤ 65000) (hT : T.length ≤ 65536) (hz : Box (∀ i (hi : i < T.length), T[i].size ≤ 65536)) (hS : Box (Ss w a T)) :
    Calls Try.prog 21 #[.string r, .slice a T.length cap] w fun e w' => e = .returned (.int .i64 (lookT r.data.toList T)) ∧ Below w.heap.size w w' := by
  cases h : tagL r.data.toList with
  | true => exact rLookup_tag r a cap T w hr hT hz hS (box h)
  | false =>
    have HV : Box (lookT r.data.toList T = -1) := box (look_not _ _ h)
    have H1 := box h
    clear h
    go_enter Try.func21, Try.ntmps21
    go_wp2_with fail
    refine (rTag_is hr H1).mono ?_; rintro e w1 ⟨rfl, hb1⟩
    go_wp2
    go_ret
    exact ⟨by rw [HV.out]; rfl, hb1⟩
end
section
theorem pref_take : ∀ (A : List (List UInt8)) (n : Nat), prefS (A.take n) A = true
  | [], n => by cases n <;> rfl
  | x :: xs, 0 => rfl
  | x :: xs, n + 1 => by
    show (foldL x x && prefS (xs.take n) xs) = true
    rw [fold_refl, pref_take xs n]; rfl
theorem subs_take {A : List (List UInt8)} {n : Nat} (h : subsOk A = true) : subsOk (A.take n) = true := by
  match A, n, h with
  | [], n, _ => cases n <;> rfl
  | x :: xs, 0, _ => rfl
  | x :: xs, n + 1, h =>
    have h' : (subOk true x && xs.all (subOk false)) = true := h
    rw [Bool.and_eq_true, List.all_eq_true] at h'
    show (subOk true x && (xs.take n).all (subOk false)) = true
    rw [h'.1, Bool.true_and, List.all_eq_true]
    exact fun y hy => h'.2 y (List.mem_of_mem_take hy)
theorem tag_not_star {l : List UInt8} (h : tagL l = true) : l ≠ [42] := by
  intro e
  subst e
  have : tagL [42] = false := by decide +kernel
  rw [this] at h; cases h
theorem match_take {r : List UInt8} (h : tagL r = true) {n : Nat} (h1 : 1 ≤ n) (hn : n ≤ (subL r).length) : 0 < matchT (joinS ((subL r).take n)) r := by
  have hs : subL (joinS ((subL r).take n)) = (subL r).take n := sub_join (take_ne (by omega) hn) (fun x hx => (sub_mem r x (List.mem_of_mem_take hx)).1)
  have ht : tagL (joinS ((subL r).take n)) = true := by
    unfold tagL
    rw [hs]
    exact subs_take h
  unfold matchT
  rw [if_neg (by unfold rangeT; rw [ht, h]; simp), if_neg (tag_not_star ht), hs, if_pos (pref_take _ _), List.length_take]
  omega
theorem match_fold {x t r : List UInt8} (h : foldL x t = true) : matchT t r = matchT x r := by
  unfold foldL at h
  have e := of_decide_eq_true h
  rw [← match_low t r, ← e, match_low]
theorem look_some {r : List UInt8} {T : List ByteArray} (h : tagL r = true) : ∀ n, n ≤ (subL r).length → lookN T (subL r) n = -1 ∨ ∃ k, ∃ hk : k < T.length, lookN T (subL r) n = (k : Int) ∧ 0 < matchT T[k].data.toList r := by
  intro n
  induction n using Nat.strongRecOn with
  | _ n ih =>
    intro hn
    by_cases h0 : n = 0
    · subst h0; exact .inl rfl
    · cases hf : findT (joinS ((subL r).take n)) T with
      | some k =>
        refine .inr ?_
        have hf2 := hf
        unfold findT at hf2
        rw [List.findIdx?_eq_some_iff_getElem] at hf2
        obtain ⟨hk, hp, _⟩ := hf2
        exact ⟨k, hk, look_hit (by omega) hn hf, by rw [match_fold hp]; exact match_take h (by omega) hn⟩
      | none =>
        by_cases h1 : n = 1
        · subst h1; exact .inl (look_one hn hf)
        · by_cases hs : ((subL r)[n - 2]'(by omega)).length = 1
          · rw [look_short (by omega) hn hf hs]; exact ih (n - 2) (by omega) (by omega)
          · rw [look_long (by omega) hn hf hs]; exact ih (n - 1) (by omega) (by omega)
theorem look_whole {r : List UInt8} {T : List ByteArray} (h : tagL r = true) {k : Nat} (hk : k < T.length) (hf : foldL T[k].data.toList r = true) (hn : ∀ j (hj : j < T.length), j < k → foldL T[j].data.toList r = false) : lookT r T = (k : Int) := by
  have hl : 0 < (subL r).length := by obtain ⟨x, xs, e⟩ := subL_cons r; rw [e]; simp
  rw [look_all r T h]
  refine look_hit hl (Nat.le_refl _) ?_
  rw [List.take_length, join_sub]
  exact find_at hk (by rw [fold_symm]; exact hf) (fun j hj hjk => by rw [fold_symm]; exact hn j hj hjk)
theorem first_or_none {f : Nat → Bool} : ∀ n : Nat, (∀ j, j < n → f j = false) ∨ ∃ k, k < n ∧ f k = true ∧ ∀ j, j < k → f j = false
  | 0 => .inl fun j h => absurd h (by omega)
  | n + 1 => by
    rcases first_or_none (f := f) n with h | ⟨k, h1, h2, h3⟩
    · cases hf : f n with
      | true => exact .inr ⟨n, by omega, hf, h⟩
      | false =>
        refine .inl fun j hj => ?_
        by_cases e : j = n
        · rw [e]; exact hf
        · exact h j (by omega)
    · exact .inr ⟨k, by omega, h2, h3⟩
/-- what Lookup finds: nothing; a tag that equals the range, the first; a tag that is a beginning of it -/
theorem look_three (r : List UInt8) (T : List ByteArray) (h : tagL r = true) :
    ((∀ j (hj : j < T.length), foldL T[j].data.toList r = false) ∧ (lookT r T = -1 ∨ ∃ k, ∃ hk : k < T.length, lookT r T = (k : Int) ∧ 0 < matchT T[k].data.toList r)) ∨
    ∃ k, ∃ hk : k < T.length, lookT r T = (k : Int) ∧ foldL T[k].data.toList r = true ∧ ∀ j (hj : j < T.length), j < k → foldL T[j].data.toList r = false := by
  rcases first_or_none (f := fun j => foldL (T.getD j ⟨#[]⟩).data.toList r) T.length with hn | ⟨k, hk, hf, hn⟩
  · refine .inl ⟨fun j hj => ?_, ?_⟩
    · have := hn j hj
      rwa [List.getD_eq_getElem?_getD, List.getElem?_eq_getElem hj] at this
    · rw [look_all r T h]
      exact look_some h _ (Nat.le_refl _)
  · rw [List.getD_eq_getElem?_getD, List.getElem?_eq_getElem hk] at hf
    have hn2 : ∀ j (hj : j < T.length), j < k → foldL T[j].data.toList r = false := fun j hj hjk => by
      have := hn j hjk
      rwa [List.getD_eq_getElem?_getD, List.getElem?_eq_getElem hj] at this
    exact .inr ⟨k, hk, look_whole h hk hf hn2, hf, hn2⟩
end
section
def alnumI (b : Int) : Bool := letterI b || digitI b
def hexI (b : Int) : Int := if digitI b = true then b - 48 else if 97 ≤ b ∧ b ≤ 102 then b - 87 else if 65 ≤ b ∧ b ≤ 70 then b - 55 else -1
def hexB (c : UInt8) : Bool := decide (0 ≤ hexI c.toNat)
def unresI (b : Int) : Bool := alnumI b || b == 45 || b == 46 || b == 95 || b == 126
def okI (b : Int) : Bool := decide (33 ≤ b ∧ b ≤ 126) && !(b == 35)
def okB (c : UInt8) : Bool := okI c.toNat
def hexD : List UInt8 := [48, 49, 50, 51, 52, 53, 54, 55, 56, 57, 65, 66, 67, 68, 69, 70]
/-- the byte of a triplet, and what is written for it -/
def tripN (a b : UInt8) : Nat := (hexI a.toNat * 16 + hexI b.toNat).toNat
def tripL (x : Nat) : List UInt8 := if unresI x = true then [UInt8.ofNat x] else [37, hexD.getD (x / 16) 0, hexD.getD (x % 16) 0]
def normL : List UInt8 → Option (List UInt8)
  | [] => some []
  | c :: r =>
    if okB c = false then none
    else if c ≠ 37 then (normL r).map (c :: ·)
    else match r with
      | a :: b :: r2 => if (hexB a && hexB b) = true then (normL r2).map (tripL (tripN a b) ++ ·) else none
      | _ => none
end
section
/-- the pieces between the slashes; what is joined again -/
def piecesL (l : List UInt8) : List (List UInt8) := match l with
  | [] => [[]]
  | c :: r => if c = 47 then [] :: piecesL r else match piecesL r with
    | [] => [[c]]
    | p :: ps => (c :: p) :: ps
def joinL (ps : List (List UInt8)) : List UInt8 := ps.flatMap (47 :: ·)
def dot1 : List UInt8 := [46]
def dot2 : List UInt8 := [46, 46]
/-- the pieces that are left: out are those that have been left so far -/
def dotsL (out : List (List UInt8)) : List (List UInt8) → List (List UInt8)
  | [] => out
  | x :: r =>
    if x = dot2 then (if r = [] then out.dropLast ++ [[]] else dotsL out.dropLast r)
    else if x = dot1 then (if r = [] then out ++ [[]] else dotsL out r)
    else dotsL (out ++ [x]) r
end
section
/-- host, port, path, query, whether there is a query -/
abbrev U := List UInt8 × Int × List UInt8 × List UInt8 × Bool
end
section
open Go.RowKit
/-- acc has been written for the first k bytes -/
def NmAt (l : List UInt8) (k : Nat) (acc : List UInt8) : Prop := acc.length ≤ k ∧ normL l = (normL (l.drop k)).map (acc ++ ·)
theorem NmAt.start (l : List UInt8) : NmAt l 0 [] := ⟨by simp, by simp⟩
theorem Own.drewN {w : World} {B n : Nat} {v : Value} {l : List UInt8} (h : Own w B v l) : Own (w.drewN n) B v l := h
end
section
open Go.RowKit
def outL (ob : List ByteArray) : List (List UInt8) := ob.map (·.data.toList)
/-- out has been left of the pieces of r0; rest is to come -/
def SegAt (r0 : List UInt8) (ob : List ByteArray) (rest : List UInt8) : Bool → Prop
  | true => dotsL [] (piecesL r0) = dotsL (outL ob) (piecesL rest) ∧ (joinL (outL ob)).length + rest.length ≤ r0.length
  | false => dotsL [] (piecesL r0) = outL ob ∧ (joinL (outL ob)).length ≤ r0.length + 1
theorem SegAt.start (r0 : List UInt8) : SegAt r0 [] r0 true := ⟨rfl, by simp [outL, joinL]⟩
theorem len_join (a : List (List UInt8)) : a.length ≤ (joinL a).length := by
  induction a with
  | nil => simp [joinL]
  | cons x a ih => simp only [joinL, List.flatMap_cons, List.length_append, List.length_cons] at *; omega
theorem SegAt.len {r0 rest : List UInt8} {ob : List ByteArray} {m : Bool} (h : SegAt r0 ob rest m) : ob.length ≤ r0.length + 1 := by
  have h1 := len_join (outL ob)
  have h2 : (outL ob).length = ob.length := by simp [outL]
  cases m
  · have := h.2; omega
  · have := h.2; omega
end
section
open Go.RowKit
/-- where the byte stands last among the first k, or -1 -/
def lastF (d : UInt8) (l : List UInt8) : Nat → Int
  | 0 => -1
  | k + 1 => if l.getD k 0 = d then (k : Int) else lastF d l k
theorem last_none {d : UInt8} {l : List UInt8} : ∀ {k : Nat}, k ≤ l.length → d ∉ l.take k → lastF d l k = -1
  | 0, _, _ => rfl
  | k + 1, hk, h => by
    rw [List.take_succ_eq_append_getElem (by omega)] at h
    have e : l.getD k 0 = l[k] := getD_get _ _ (by omega)
    rw [lastF, e, if_neg (fun e => h (by rw [← e]; exact List.mem_append_right _ (List.mem_singleton.mpr rfl))), last_none (by omega) (fun q => h (List.mem_append_left _ q))]
theorem last_app {d : UInt8} {a b : List UInt8} (h : d ∉ b) : ∀ (j : Nat), j ≤ b.length → lastF d (a ++ d :: b) (a.length + 1 + j) = a.length
  | 0, _ => by
    show lastF d (a ++ d :: b) (a.length + 1) = a.length
    rw [lastF, if_pos (by simp [List.getD_eq_getElem?_getD])]
  | j + 1, hj => by
    show lastF d (a ++ d :: b) (a.length + 1 + j + 1) = a.length
    rw [lastF, if_neg ?_]
    · exact last_app h j (by omega)
    · intro e
      have hlt : a.length + 1 + j < (a ++ d :: b).length := by simp; omega
      rw [getD_get _ _ hlt, List.getElem_append_right (by omega)] at e
      have e2 : b[j]'(by omega) = d := by
        rw [← e]
        have : a.length + 1 + j - a.length = j + 1 := by omega
        simp [this]
      exact h (by rw [← e2]; exact List.getElem_mem _)
theorem last_lt (d : UInt8) (l : List UInt8) : ∀ k, -1 ≤ lastF d l k ∧ lastF d l k < (k : Int) ∨ lastF d l k = -1
  | 0 => .inr rfl
  | k + 1 => by
    rw [lastF]; split
    · left; omega
    · have := last_lt d l k; omega
end
end Go.Proofs.Ytcjngcafaenhbaa.Asc
