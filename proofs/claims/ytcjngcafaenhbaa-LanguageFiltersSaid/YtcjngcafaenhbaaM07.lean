/- Merged texts: LanLaws4 LanSpec5 LanLaws5. -/
import Derived.Test.YtcjngcafaenhbaaM01
import Derived.Test.YtcjngcafaenhbaaM05
import Derived.Test.YtcjngcafaenhbaaM06
set_option linter.unusedVariables false
set_option linter.unusedSimpArgs false
set_option maxRecDepth 100000
namespace Go.Proofs.Ytcjngcafaenhbaa.Asc
section
open Go.RowKit
def FdRel (s : Nat) (W : World) (i : Value) (wr : World) : Prop := ∃ j : Nat, i = .int .i64 j ∧ j ≤ s ∧ Below W.heap.size W wr
set_option maxHeartbeats 2000000 in
theorem found11_tag (r : ByteArray) (a : Option Addr) (cap : Nat) (T : List ByteArray) (w : World) (hi : ¬ (200 : Int) < (r.size : Int)) (hr : r.size ≤ 65000) (HL : Box (T.length ≤ maxLen)) (F0 : Box (Ss w a T)) (HK : Box (keepS T = true)) (HT : Box (tagL r.data.toList = true)) (hk2 : keepS T = true) :
    Calls Try.prog 7 #[.string r, .slice a T.length cap] w fun e w' => e = .returned (.bool true) ∧ Below w.heap.size w w' := by
  obtain ⟨d1, d2⟩ := keepS_bounds hk2
  have zT6 : Box (∀ i (hi : i < T.length), T[i].size ≤ 65536) := box (fun i hi => by have := d2 i hi; omega)
  have zT5 : Box (∀ i (hi : i < T.length), T[i].size ≤ 65000) := box (fun i hi => by have := d2 i hi; omega)
  have hT6 : Box (T.length ≤ 65536) := box (by omega)
  have hT20 : (T.length : Int) ≤ 20 := by omega
  have hr4 : r.size ≤ 4294967296 := by omega
  have h3 := look_three r.data.toList T HT.out
  clear d2 hk2
  rcases h3 with ⟨hn, h | ⟨k, hk, hl, hp⟩⟩ | ⟨k, hk, hl, hp, hn⟩
  · have HI := box h
    have HN := box hn
    have hlen : ¬ (T.length : Int) ≤ -1 := by omega
    clear h hn
    go_enter Try.func7, Try.ntmps7
    go_wp2_with fail
    refine (keepStrings_any a cap T _ HL.out F0).mono ?_; rintro e w1 ⟨rfl, rfl⟩; rw [HK.out]
    go_wp2_with fail
    refine (rTag_is hr HT).mono ?_; rintro e w1 ⟨rfl, hb1⟩
    have B1 := box hb1
    have F1 := box (F0.out.below hb1)
    clear hb1
    go_wp2_with fail
    refine (mLookup_is hr (box rfl) hT6 zT6 F1.out HI).mono ?_; rintro e w2 ⟨rfl, hb2⟩
    have B2 := box (B1.out.trans (hb2.mono B1.out.size))
    have F2 := box (F1.out.below hb2)
    clear hb2
    go_wp2
    go_loopw [6] (fun i wr => FdRel T.length w2 i wr) (fun i _ => T.length - (intOf i).toNat)
    case atStart => exact ⟨0, rfl, Nat.zero_le _, Below.refl _ _⟩
    case round =>
      obtain ⟨j, rfl, hj, hbel⟩ := hrel
      have BL := box hbel
      have FL := box (F2.out.below hbel)
      clear hbel
      by_cases hlt : j < T.length
      · have hji : (j : Int) < (T.length : Int) := by omega
        obtain ⟨x, hx⟩ : ∃ x, T[j] = x := ⟨_, rfl⟩
        obtain ⟨g, off, rfl, c0⟩ := FL.out j hlt
        rw [hx] at c0
        have hxz : x.size ≤ 4294967296 := by have := zT6.out j hlt; rw [hx] at this; omega
        have HX := box hx
        clear hx
        have HF : Box (foldL x.data.toList r.data.toList = false) := box (by rw [← HX.out]; exact HN.out j hlt)
        go_wp2_with fail
        refine (rFold11_is hxz hr4 HF).mono ?_; rintro e w3 ⟨rfl, hb3⟩
        have B3 := box (BL.out.trans (hb3.mono BL.out.size))
        clear hb3
        go_wp2
        go_roundw
        case rel => exact ⟨j + 1, by go_num, hlt, B3.out⟩
        case measure => simp [intOf]; omega
      · have hji : ¬ (j : Int) < (T.length : Int) := by omega
        have B4 := box (B2.out.trans (BL.out.mono B2.out.size))
        go_wp2_with fail
        refine (awake11_any _).mono ?_; rintro e w5 ⟨rfl, hb5⟩
        have B5 := box (B4.out.trans (hb5.mono B4.out.size))
        clear hb5
        go_wp2
        go_ret
        exact ⟨rfl, B5.out⟩
  · have HI := box hl
    have HN := box hn
    have HP := box hp
    have hki : (k : Int) < (T.length : Int) := by omega
    have hk0 : (0 : Int) ≤ (k : Int) := by omega
    have hk1 : decide ((k : Int) < -1) = false := decide_eq_false (by omega)
    have hk2 : decide (T.length ≤ k) = false := decide_eq_false (by omega)
    clear hl hn hp
    go_enter Try.func7, Try.ntmps7
    go_wp2_with fail
    refine (keepStrings_any a cap T _ HL.out F0).mono ?_; rintro e w1 ⟨rfl, rfl⟩; rw [HK.out]
    go_wp2_with fail
    refine (rTag_is hr HT).mono ?_; rintro e w1 ⟨rfl, hb1⟩
    have B1 := box hb1
    have F1 := box (F0.out.below hb1)
    clear hb1
    go_wp2_with fail
    refine (mLookup_is hr (box rfl) hT6 zT6 F1.out HI).mono ?_; rintro e w2 ⟨rfl, hb2⟩
    have B2 := box (B1.out.trans (hb2.mono B1.out.size))
    have F2 := box (F1.out.below hb2)
    clear hb2
    go_wp2
    go_loopw [6] (fun i wr => FdRel T.length w2 i wr) (fun i _ => T.length - (intOf i).toNat)
    case atStart => exact ⟨0, rfl, Nat.zero_le _, Below.refl _ _⟩
    case round =>
      obtain ⟨j, rfl, hj, hbel⟩ := hrel
      have BL := box hbel
      have FL := box (F2.out.below hbel)
      clear hbel
      by_cases hlt : j < T.length
      · have hji : (j : Int) < (T.length : Int) := by omega
        obtain ⟨x, hx⟩ : ∃ x, T[j] = x := ⟨_, rfl⟩
        obtain ⟨g, off, rfl, c0⟩ := FL.out j hlt
        rw [hx] at c0
        have hxz : x.size ≤ 4294967296 := by have := zT6.out j hlt; rw [hx] at this; omega
        have HX := box hx
        clear hx
        have HF : Box (foldL x.data.toList r.data.toList = false) := box (by rw [← HX.out]; exact HN.out j hlt)
        go_wp2_with fail
        refine (rFold11_is hxz hr4 HF).mono ?_; rintro e w3 ⟨rfl, hb3⟩
        have B3 := box (BL.out.trans (hb3.mono BL.out.size))
        clear hb3
        go_wp2
        go_roundw
        case rel => exact ⟨j + 1, by go_num, hlt, B3.out⟩
        case measure => simp [intOf]; omega
      · have hji : ¬ (j : Int) < (T.length : Int) := by omega
        obtain ⟨x, hx⟩ : ∃ x, T[k] = x := ⟨_, rfl⟩
        obtain ⟨g, off, rfl, c0⟩ := FL.out k hk
        rw [hx] at c0
        have hxz : x.size ≤ 65000 := by have := zT5.out k hk; rw [hx] at this; omega
        obtain ⟨m, hm⟩ : ∃ m, matchT x.data.toList r.data.toList = m := ⟨_, rfl⟩
        have HMM := box hm
        have hm0 : 0 < m := by rw [← hm, ← hx]; exact HP.out
        clear hx hm
        go_wp2_with fail
        refine (mMatchT_is hxz hr HMM).mono ?_; rintro e w3 ⟨rfl, hb3⟩
        have B4 := box (B2.out.trans ((BL.out.trans (hb3.mono BL.out.size)).mono B2.out.size))
        clear hb3 c0
        go_wp2_with fail
        refine (awake11_any _).mono ?_; rintro e w5 ⟨rfl, hb5⟩
        have B5 := box (B4.out.trans (hb5.mono B4.out.size))
        clear hb5
        go_wp2
        go_ret
        exact ⟨rfl, B5.out⟩
  · have HI := box hl
    have HN := box hn
    have HP := box hp
    have hki : (k : Int) < (T.length : Int) := by omega
    have hk0 : (0 : Int) ≤ (k : Int) := by omega
    have hk1 : decide ((k : Int) < -1) = false := decide_eq_false (by omega)
    have hk2 : decide (T.length ≤ k) = false := decide_eq_false (by omega)
    clear hl hn hp
    go_enter Try.func7, Try.ntmps7
    go_wp2_with fail
    refine (keepStrings_any a cap T _ HL.out F0).mono ?_; rintro e w1 ⟨rfl, rfl⟩; rw [HK.out]
    go_wp2_with fail
    refine (rTag_is hr HT).mono ?_; rintro e w1 ⟨rfl, hb1⟩
    have B1 := box hb1
    have F1 := box (F0.out.below hb1)
    clear hb1
    go_wp2_with fail
    refine (mLookup_is hr (box rfl) hT6 zT6 F1.out HI).mono ?_; rintro e w2 ⟨rfl, hb2⟩
    have B2 := box (B1.out.trans (hb2.mono B1.out.size))
    have F2 := box (F1.out.below hb2)
    clear hb2
    go_wp2
    go_loopw [6] (fun i wr => FdRel k w2 i wr) (fun i _ => T.length - (intOf i).toNat)
    case atStart => exact ⟨0, rfl, Nat.zero_le _, Below.refl _ _⟩
    case round =>
      obtain ⟨j, rfl, hj, hbel⟩ := hrel
      have BL := box hbel
      have FL := box (F2.out.below hbel)
      clear hbel
      by_cases hlt : j < T.length
      · have hji : (j : Int) < (T.length : Int) := by omega
        obtain ⟨x, hx⟩ : ∃ x, T[j] = x := ⟨_, rfl⟩
        obtain ⟨g, off, rfl, c0⟩ := FL.out j hlt
        rw [hx] at c0
        have hxz : x.size ≤ 4294967296 := by have := zT6.out j hlt; rw [hx] at this; omega
        have HX := box hx
        clear hx
        by_cases he : j = k
        · subst he
          have HF : Box (foldL x.data.toList r.data.toList = true) := box (by rw [← HX.out]; exact HP.out)
          have hjj : (j : Int) ≤ (j : Int) := Int.le_refl _
          go_wp2_with fail
          refine (rFold11_is hxz hr4 HF).mono ?_; rintro e w3 ⟨rfl, hb3⟩
          have B3 := box (BL.out.trans (hb3.mono BL.out.size))
          have c3 := (hb3.cell (cell_lt c0)).trans c0
          clear hb3 c0
          go_wp2_with fail
          refine (rFold11_is hxz hr4 HF).mono ?_; rintro e w4 ⟨rfl, hb4⟩
          have B4 := box (B2.out.trans ((B3.out.trans (hb4.mono B3.out.size)).mono B2.out.size))
          clear hb4 c3
          go_wp2_with fail
          refine (awake11_any _).mono ?_; rintro e w5 ⟨rfl, hb5⟩
          have B5 := box (B4.out.trans (hb5.mono B4.out.size))
          clear hb5
          go_wp2
          go_ret
          exact ⟨rfl, B5.out⟩
        · have HF : Box (foldL x.data.toList r.data.toList = false) := box (by rw [← HX.out]; exact HN.out j hlt (by omega))
          go_wp2_with fail
          refine (rFold11_is hxz hr4 HF).mono ?_; rintro e w3 ⟨rfl, hb3⟩
          have B3 := box (BL.out.trans (hb3.mono BL.out.size))
          clear hb3
          go_wp2
          go_roundw
          case rel => exact ⟨j + 1, by go_num, by omega, B3.out⟩
          case measure => simp [intOf]; omega
      · exact absurd hk (by omega)
theorem found11_walk (r : ByteArray) (a : Option Addr) (cap : Nat) (T : List ByteArray) (w : World) (S : r.size ≤ maxLen) (hl : T.length ≤ maxLen) (hF : Ss w a T) (hc : T.length ≤ cap) :
    Calls Try.prog 7 #[.string r, .slice a T.length cap] w fun e w' => e = .returned (.bool true) ∧ Below w.heap.size w w' := by
  have F0 := box hF
  have HL := box hl
  clear hF hl hc
  unfold maxLen at S
  by_cases h : 200 < r.size
  · have hi : (200 : Int) < (r.size : Int) := by omega
    go_enter Try.func7, Try.ntmps7
    go_wp2
    go_ret
    exact ⟨rfl, Below.refl _ _⟩
  · have hi : ¬ (200 : Int) < (r.size : Int) := by omega
    have hr : r.size ≤ 65000 := by omega
    rcases hk1 : keepS T with _ | _
    · have HK := box hk1
      clear hk1
      go_enter Try.func7, Try.ntmps7
      go_wp2_with fail
      refine (keepStrings_any a cap T _ HL.out F0).mono ?_; rintro e w1 ⟨rfl, rfl⟩; rw [HK.out]
      go_wp2
      go_ret
      exact ⟨rfl, Below.refl _ _⟩
    · have HK := box hk1
      cases ht : tagL r.data.toList with
      | true => exact found11_tag r a cap T w hi hr HL F0 HK (box ht) hk1
      | false =>
        have HT := box ht
        clear hk1 ht
        go_enter Try.func7, Try.ntmps7
        go_wp2_with fail
        refine (keepStrings_any a cap T _ HL.out F0).mono ?_; rintro e w1 ⟨rfl, rfl⟩; rw [HK.out]
        go_wp2_with fail
        refine (rTag_is hr HT).mono ?_; rintro e w1 ⟨rfl, hb1⟩
        have B1 := box hb1
        have F1 := box (F0.out.below hb1)
        clear hb1
        go_wp2
        go_ret
        exact ⟨rfl, B1.out⟩
end
section
theorem one_mem {r : ByteArray} {T : List ByteArray} {acc : List Nat} {n k : Nat} : k ∈ oneT r T acc n ↔ k < n ∧ k ∉ acc ∧ hitT r (T.getD k ⟨#[]⟩) = true := by
  unfold oneT
  rw [List.mem_filter, List.mem_range, Bool.and_eq_true, decide_eq_true_eq]
theorem filt_facts {T : List ByteArray} : ∀ (R : List ByteArray) (acc : List Nat), acc.Nodup → (∀ k ∈ acc, k < T.length) →
    (filtT T R acc).Nodup ∧ (∀ k ∈ filtT T R acc, k < T.length) ∧ ∀ k, k < T.length → (k ∈ filtT T R acc ↔ k ∈ acc ∨ (R.any fun r => hitT r (T.getD k ⟨#[]⟩)) = true)
  | [], acc, h1, h2 => ⟨h1, h2, fun k hk => by simp [filtT]⟩
  | r :: R, acc, h1, h2 => by
    have n1 : (acc ++ oneT r T acc T.length).Nodup := by
      rw [List.nodup_append]
      refine ⟨h1, ?_, fun a ha b hb e => ?_⟩
      · unfold oneT; exact List.Pairwise.filter _ List.nodup_range
      · subst e; exact (one_mem.1 hb).2.1 ha
    have n2 : ∀ k ∈ acc ++ oneT r T acc T.length, k < T.length := fun k hk => by
      rcases List.mem_append.1 hk with q | q
      · exact h2 k q
      · exact (one_mem.1 q).1
    obtain ⟨i1, i2, i3⟩ := filt_facts R (acc ++ oneT r T acc T.length) n1 n2
    refine ⟨i1, i2, fun k hk => ?_⟩
    show k ∈ filtT T R (acc ++ oneT r T acc T.length) ↔ _
    rw [i3 k hk, List.mem_append, one_mem, List.any_cons, Bool.or_eq_true]
    constructor
    · rintro ((q | ⟨_, _, q⟩) | q)
      · exact .inl q
      · exact .inr (.inl q)
      · exact .inr (.inr q)
    · rintro (q | q | q)
      · exact .inl (.inl q)
      · by_cases hm : k ∈ acc
        · exact .inl (.inl hm)
        · exact .inl (.inr ⟨hk, hm, q⟩)
      · exact .inr q
theorem count_once {k : Nat} : ∀ {K : List Nat}, K.Nodup → k ∈ K → K.count k = 1
  | x :: K, hn, hm => by
    rw [List.nodup_cons] at hn
    rw [List.count_cons]
    by_cases e : x = k
    · subst e
      rw [List.count_eq_zero.2 hn.1, if_pos (by simp)]
    · rw [if_neg (by simpa using e), count_once hn.2 (by
        rcases List.mem_cons.1 hm with q | q
        · exact absurd q.symm e
        · exact q)]
theorem filt_count {T R : List ByteArray} {k : Nat} (hk : k < T.length) : (filtT T R []).count k = if (R.any fun r => hitT r (T.getD k ⟨#[]⟩)) = true then 1 else 0 := by
  obtain ⟨n1, _, n3⟩ := filt_facts (T := T) R [] List.nodup_nil (by simp)
  have h := n3 k hk
  by_cases ha : (R.any fun r => hitT r (T.getD k ⟨#[]⟩)) = true
  · rw [if_pos ha]
    exact count_once n1 (h.2 (.inr ha))
  · rw [if_neg ha]
    exact List.count_eq_zero.2 (fun hm => by
      rcases h.1 hm with q | q
      · cases q
      · exact ha q)
/-- how many of the list are below k -/
def belowN (K : List Nat) (k : Nat) : Nat := (K.filter fun x => decide (x < k)).length
theorem below_zero (K : List Nat) : belowN K 0 = 0 := by
  unfold belowN
  rw [List.filter_eq_nil_iff.2 (fun a _ => by simp)]; rfl
theorem below_next (K : List Nat) (k : Nat) : belowN K (k + 1) = belowN K k + K.count k := by
  unfold belowN
  induction K with
  | nil => rfl
  | cons x K ih =>
    rw [List.filter_cons, List.filter_cons, List.count_cons]
    by_cases h1 : x < k
    · rw [if_pos (by simpa using Nat.lt_succ_of_lt h1), if_pos (by simpa using h1), if_neg (by simp; omega)]
      simp only [List.length_cons]; omega
    · by_cases h2 : x = k
      · subst h2
        rw [if_pos (by simp), if_neg (by simp), if_pos (by simp)]
        simp only [List.length_cons]; omega
      · rw [if_neg (by simp; omega), if_neg (by simpa using h1), if_neg (by simpa using h2)]
        omega
theorem below_all {T R : List ByteArray} : belowN (filtT T R []) T.length = (filtT T R []).length := by
  obtain ⟨_, n2, _⟩ := filt_facts (T := T) R [] List.nodup_nil (by simp)
  unfold belowN
  rw [List.filter_eq_self.2 (fun a ha => by simpa using n2 a ha)]
theorem below_le (K : List Nat) (k : Nat) : belowN K k ≤ K.length := List.length_filter_le _ _
theorem count_next {K : List Nat} {i k : Nat} (h : i < K.length) : (K.take (i + 1)).count k = (K.take i).count k + if K[i] = k then 1 else 0 := by
  rw [List.take_succ_eq_append_getElem h, List.count_append, List.count_singleton]
  congr 1
  by_cases e : K[i] = k
  · rw [if_pos e, if_pos (by simpa using e)]
  · rw [if_neg e, if_neg (by simpa using e)]
theorem any_next11 {R : List ByteArray} {f : ByteArray → Bool} {i : Nat} (h : i < R.length) : (R.take (i + 1)).any f = ((R.take i).any f || f R[i]) := by
  rw [List.take_succ_eq_append_getElem h, List.any_append]; simp
end
section
open Go.RowKit
def FtO (K : List Nat) (T : List ByteArray) (W : World) (n i : Value) (wr : World) : Prop := ∃ k : Nat, i = .int .i64 k ∧ k ≤ T.length ∧ n = .int .i64 (belowN K k) ∧ Below W.heap.size W wr
def FtM (R : List ByteArray) (t : ByteArray) (W : World) (m i : Value) (wr : World) : Prop := ∃ k : Nat, i = .int .i64 k ∧ k ≤ R.length ∧ m = .bool ((R.take k).any fun r => hitT r t) ∧ Below W.heap.size W wr
def FtC (K : List Nat) (k : Nat) (c i : Value) : Prop := ∃ j : Nat, i = .int .i64 j ∧ j ≤ K.length ∧ c = .int .i64 ((K.take j).count k)
set_option maxHeartbeats 4000000 in
theorem filters11_in (a : Option Addr) (cap : Nat) (R : List ByteArray) (a' : Option Addr) (cap' : Nat) (T : List ByteArray) (w : World) (HL : Box (R.length ≤ maxLen)) (HL' : Box (T.length ≤ maxLen)) (F0 : Box (Ss w a R)) (G0 : Box (Ss w a' T)) (hk1 : keepS R = true) (hk2 : keepS T = true) :
    Calls Try.prog 8 #[.slice a R.length cap, .slice a' T.length cap'] w fun e w' => e = .returned (.bool true) ∧ Below w.heap.size w w' := by
  have HK := box hk1
  have HK2 := box hk2
  obtain ⟨b1, b2⟩ := keepS_bounds hk1
  obtain ⟨d1, d2⟩ := keepS_bounds hk2
  have hR : R.length ≤ 200 := by omega
  have hT : T.length ≤ 200 := by omega
  have zR : Box (∀ i (hi : i < R.length), R[i].size ≤ 65000) := box (fun i hi => by have := b2 i hi; omega)
  have zT : Box (∀ i (hi : i < T.length), T[i].size ≤ 65000) := box (fun i hi => by have := d2 i hi; omega)
  have hsm := filt_small b1 d1
  obtain ⟨K, hK⟩ : ∃ K, filtT T R [] = K := ⟨_, rfl⟩
  have HALL : Box (belowN K T.length = K.length) := box (by rw [← hK]; exact below_all)
  have HCNT : Box (∀ k, k < T.length → K.count k = if (R.any fun r => hitT r (T.getD k ⟨#[]⟩)) = true then 1 else 0) := box (by rw [← hK]; exact fun k hk => filt_count hk)
  rw [hK] at hsm
  have HKK := box hK
  clear hk1 hk2 b2 d2 hK
  go_enter Try.func8, Try.ntmps8
  go_wp2_with fail
  refine (keepStrings_any a cap R _ HL.out F0).mono ?_; rintro e w1 ⟨rfl, rfl⟩; rw [HK.out]
  go_wp2_with fail
  refine (keepStrings_any a' cap' T _ HL'.out G0).mono ?_; rintro e w1 ⟨rfl, rfl⟩; rw [HK2.out]
  go_wp2_with fail
  refine (mFilter_is hR hT zR zT F0.out G0.out HKK).mono ?_; rintro e w1 ⟨p1, c1, rfl, hI1, hb1⟩
  have B1 := box hb1
  have F1 := box (F0.out.below hb1)
  have G1 := box (G0.out.below hb1)
  have I1 := box hI1
  clear hb1 hI1
  go_wp2
  go_loopw [6, 7, 8, 9, 10, 11] (fun n i _ _ _ _ wr => FtO K T w1 n i wr) (fun _ i _ _ _ _ _ => T.length - (intOf i).toNat)
  case atStart => exact ⟨0, rfl, Nat.zero_le _, by rw [below_zero]; rfl, Below.refl _ _⟩
  case round =>
    obtain ⟨k, rfl, hk, rfl, hbel⟩ := hrel
    obtain ⟨n, hn⟩ : ∃ n, belowN K k = n := ⟨_, rfl⟩
    have hnk : n ≤ 400 := by rw [← hn]; exact Nat.le_trans (below_le K k) hsm
    have HN := box hn
    have BL := box hbel
    rw [hn]
    clear hbel hn
    by_cases hlt : k < T.length
    · have hki : (k : Int) < (T.length : Int) := by omega
      obtain ⟨t, ht⟩ : ∃ t, T[k] = t := ⟨_, rfl⟩
      have HTD : Box (T.getD k ⟨#[]⟩ = t) := box (by rw [List.getD_eq_getElem?_getD, List.getElem?_eq_getElem hlt, ht]; rfl)
      have HTK := box ht
      have htz : t.size ≤ 65000 := by rw [← ht]; exact zT.out k hlt
      clear ht
      go_wp2
      go_loopw [8, 10] (fun m i wi => FtM R t w1 m i wi) (fun _ i _ => R.length - (intOf i).toNat)
      case atStart => exact ⟨0, rfl, Nat.zero_le _, rfl, BL.out⟩
      case round =>
        obtain ⟨i, rfl, hi, rfl, hbi⟩ := hrel
        obtain ⟨m, hm⟩ : ∃ m, ((R.take i).any fun r => hitT r t) = m := ⟨_, rfl⟩
        have HM := box hm
        have BI := box hbi
        have hFR := F1.out.below hbi
        have hGT := G1.out.below hbi
        rw [hm]
        clear hbi hm
        by_cases hil : i < R.length
        · have hii : (i : Int) < (R.length : Int) := by omega
          obtain ⟨r, hr⟩ : ∃ r, R[i] = r := ⟨_, rfl⟩
          have HNX := box (any_next11 (f := fun r => hitT r t) hil)
          rw [HM.out, hr] at HNX
          have hrz : r.size ≤ 65000 := by rw [← hr]; exact zR.out i hil
          obtain ⟨g, off, rfl, cR⟩ := hFR i hil
          rw [hr] at cR
          obtain ⟨g', off', rfl, cT⟩ := hGT k hlt
          rw [HTK.out] at cT
          clear hFR hGT hr
          cases m with
          | true =>
            have HQ : Box (((R.take (i + 1)).any fun r => hitT r t) = true) := box (by rw [HNX.out]; rfl)
            go_wp2
            go_region
            all_goals
              go_wp2
              go_roundw
              case rel => exact ⟨i + 1, by go_num, hil, by rw [HQ.out], BI.out.trans ((below_drewN _ _).mono BI.out.size)⟩
              case measure => simp [intOf]; omega
          | false =>
            obtain ⟨v, hv⟩ : ∃ v, matchT r.data.toList t.data.toList = v := ⟨_, rfl⟩
            have HV := box hv
            have HQ : Box (((R.take (i + 1)).any fun r => hitT r t) = decide (0 ≤ v)) := box (by rw [HNX.out, ← hv]; rfl)
            clear hv
            go_wp2
            go_region_held3 (fun w' => w'.cell? ⟨g, off + i, none⟩ = some (.string r) ∧ w'.cell? ⟨g', off' + k, none⟩ = some (.string t)) (first | exact ⟨(hb5.cell (cell_lt cR)).trans cR, (hb5.cell (cell_lt cT)).trans cT⟩ | exact ⟨cR, cT⟩) (first | (go_at_call 14; refine (mMatchT_is hrz htz HV).mono ?_; rintro e w5 ⟨rfl, hb5⟩))
            all_goals
              have B5 := box (BI.out.trans (((below_drewN _ _).trans hb5).mono BI.out.size))
              clear hb5 cR cT
              go_wp2
              go_roundw
              case rel => exact ⟨i + 1, by go_num, hil, by rw [HQ.out], B5.out⟩
              case measure => simp [intOf]; omega
        · have hii : ¬ (i : Int) < (R.length : Int) := by omega
          have HMA : Box ((R.any fun r => hitT r (T.getD k ⟨#[]⟩)) = m) := box (by
            have := HM.out
            rw [List.take_of_length_le (by omega)] at this
            rw [HTD.out]; exact this)
          have HC : Box (K.count k = if m = true then 1 else 0) := box (by rw [HCNT.out k hlt, HMA.out])
          have II := box (I1.out.below BI.out)
          clear hFR hGT
          go_wp2
          go_loop [9, 11] (fun c j => FtC K k c j) (fun _ j => K.length - (intOf j).toNat)
          case atStart => exact ⟨0, rfl, Nat.zero_le _, rfl⟩
          case round =>
            obtain ⟨j, rfl, hj, rfl⟩ := hrel
            obtain ⟨c, hc⟩ : ∃ c, (K.take j).count k = c := ⟨_, rfl⟩
            have hcl : c ≤ 400 := by rw [← hc]; exact Nat.le_trans List.count_le_length (by rw [List.length_take]; omega)
            have HCC := box hc
            rw [hc]
            clear hc
            by_cases hjl : j < K.length
            · have hji : (j : Int) < (K.length : Int) := by omega
              have HNX := box (count_next (k := k) hjl)
              rw [HCC.out] at HNX
              obtain ⟨z, hz⟩ : ∃ z, K[j] = z := ⟨_, rfl⟩
              obtain ⟨g, off, rfl, cI⟩ := II.out j hjl
              rw [hz] at cI HNX
              unfold intV at cI
              clear hz
              by_cases he : z = k
              · have hei : ((z : Int) == (k : Int)) = true := by rw [he]; simp
                have HQ : Box ((K.take (j + 1)).count k = c + 1) := box (by rw [HNX.out, if_pos he])
                clear he
                go_wp2
                go_round
                case rel => exact ⟨j + 1, by go_num, hjl, by rw [HQ.out]; go_num⟩
                case measure => simp [intOf]; omega
              · have hei : ((z : Int) == (k : Int)) = false := by rw [beq_eq_false_iff_ne]; omega
                have HQ : Box ((K.take (j + 1)).count k = c) := box (by rw [HNX.out, if_neg he]; rfl)
                clear he
                go_wp2
                go_round
                case rel => exact ⟨j + 1, by go_num, hjl, by rw [HQ.out]⟩
                case measure => simp [intOf]; omega
            · have hji : ¬ (j : Int) < (K.length : Int) := by omega
              have hcq : c = if m = true then 1 else 0 := by
                have := HCC.out
                rw [List.take_of_length_le (by omega)] at this
                rw [← this]; exact HC.out
              have HNN : Box (belowN K (k + 1) = n + c) := box (by
                have := HCC.out
                rw [List.take_of_length_le (by omega)] at this
                rw [below_next, HN.out, this])
              cases m with
              | true =>
                have hc1 : c = 1 := by simpa using hcq
                subst hc1
                clear hcq
                go_wp2
                go_roundw
                case rel => exact ⟨k + 1, by go_num, hlt, by rw [HNN.out]; go_num, BI.out⟩
                case measure => simp [intOf]; omega
              | false =>
                have hc1 : c = 0 := by simpa using hcq
                subst hc1
                clear hcq
                go_wp2
                go_roundw
                case rel => exact ⟨k + 1, by go_num, hlt, by rw [HNN.out]; go_num, BI.out⟩
                case measure => simp [intOf]; omega
    · have hki : ¬ (k : Int) < (T.length : Int) := by omega
      have hnl : n = K.length := by rw [← HN.out, show k = T.length from by omega]; exact HALL.out
      have hne : ((n : Int) == (K.length : Int)) = true := by rw [hnl]; simp
      have B4 := box (B1.out.trans (BL.out.mono B1.out.size))
      clear hnl
      go_wp2_with fail
      refine (awake11_any _).mono ?_; rintro e w5 ⟨rfl, hb5⟩
      have B5 := box (B4.out.trans (hb5.mono B4.out.size))
      clear hb5
      go_wp2
      go_ret
      exact ⟨rfl, B5.out⟩
theorem filters11_walk (a : Option Addr) (cap : Nat) (R : List ByteArray) (a' : Option Addr) (cap' : Nat) (T : List ByteArray) (w : World)
    (hl : R.length ≤ maxLen) (hF : Ss w a R) (hc : R.length ≤ cap) (hl' : T.length ≤ maxLen) (hF' : Ss w a' T) (hc' : T.length ≤ cap') :
    Calls Try.prog 8 #[.slice a R.length cap, .slice a' T.length cap'] w fun e w' => e = .returned (.bool true) ∧ Below w.heap.size w w' := by
  have F0 := box hF
  have G0 := box hF'
  have HL := box hl
  have HL' := box hl'
  clear hF hF' hl hl' hc hc'
  rcases hk1 : keepS R with _ | _
  · have HK := box hk1
    clear hk1
    go_enter Try.func8, Try.ntmps8
    go_wp2_with fail
    refine (keepStrings_any a cap R _ HL.out F0).mono ?_; rintro e w1 ⟨rfl, rfl⟩; rw [HK.out]
    go_wp2
    go_ret
    exact ⟨rfl, Below.refl _ _⟩
  · have HK := box hk1
    rcases hk2 : keepS T with _ | _
    · have HK2 := box hk2
      clear hk1 hk2
      go_enter Try.func8, Try.ntmps8
      go_wp2_with fail
      refine (keepStrings_any a cap R _ HL.out F0).mono ?_; rintro e w1 ⟨rfl, rfl⟩; rw [HK.out]
      go_wp2_with fail
      refine (keepStrings_any a' cap' T _ HL'.out G0).mono ?_; rintro e w1 ⟨rfl, rfl⟩; rw [HK2.out]
      go_wp2
      go_ret
      exact ⟨rfl, Below.refl _ _⟩
    · exact filters11_in a cap R a' cap' T w HL HL' F0 G0 hk1 hk2
end
end Go.Proofs.Ytcjngcafaenhbaa.Asc
