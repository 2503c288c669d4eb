/- The contract of package chunk's Decode. -/
import Derived.Test.YthfhoacflkbhhaaChkSkip
set_option linter.unusedVariables false
set_option linter.unusedSimpArgs false
namespace Go.Proofs.Ythfhoacflkbhhaa.Asc
open Go.RowKit

theorem ck_dataL {body l t r : List UInt8} {n : Nat} (h : nextL l = .inr (t, r)) (hs : sizeL t = some n) (hn : ¬ 100000 < n + body.length) (h0 : n ≠ 0) :
    chunkL body l = match dataL n r with | .inl e => .bad e | .inr (d, r2) => .data d r2 := by
  by_cases hr : r.length < n
  · rw [ck_short h hs hn h0 hr]; unfold dataL; rw [if_pos hr]
  · have e2 : r.drop (n + 2) = (r.drop n).drop 2 := by rw [List.drop_drop]
    unfold dataL
    rw [if_neg hr]
    rcases hq : r.drop n with _ | ⟨c, _ | ⟨d, r'⟩⟩
    · rw [ck_short2 h hs hn h0 hr (.inl hq)]; rfl
    · by_cases hc : c = 13
      · subst hc; rw [ck_short2 h hs hn h0 hr (.inr hq)]; rfl
      · rw [ck_syntax h hs hn h0 hr (by rw [hq]; simp [hc]) (by rw [hq]; simp)]
        simp [endL, hc]
    · by_cases hc : c = 13 ∧ d = 10
      · obtain ⟨rfl, rfl⟩ := hc
        rw [ck_data h hs hn h0 hr (by rw [hq]; simp) (by rw [hq]; rfl), e2, hq]
        simp [endL]
      · rw [ck_syntax h hs hn h0 hr (by rw [hq]; simp) (by rw [hq]; simpa using fun a b => hc ⟨a, b⟩)]
        simp only [endL, if_neg hc]
theorem data_err {n : Nat} {r : List UInt8} {e : Int} (h : dataL n r = .inl e) : e = 1 ∨ e = 2 := by
  unfold dataL at h
  split at h
  · cases h; exact .inr rfl
  · split at h
    · rename_i hq
      cases h
      unfold endL at hq
      split at hq
      · cases hq; exact .inr rfl
      · split at hq <;> cases hq <;> simp
      · split at hq <;> cases hq; exact .inl rfl
    · cases h
theorem end_ok {l r : List UInt8} (h : endL l = .inr r) : l = 13 :: 10 :: r := by
  rcases l with _ | ⟨c, _ | ⟨d, r'⟩⟩
  · cases h
  · by_cases hc : c = 13 <;> simp [endL, hc] at h
  · by_cases hc : c = 13 ∧ d = 10
    · simp only [endL, if_pos hc] at h
      cases h
      rw [hc.1, hc.2]
    · simp only [endL, if_neg hc] at h
      cases h
theorem data_ok {n : Nat} {r d r2 : List UInt8} (h : dataL n r = .inr (d, r2)) : d.length = n ∧ r2.length + n ≤ r.length ∧ d = r.take n := by
  unfold dataL at h
  split at h
  · cases h
  · split at h
    · cases h
    · rename_i hl _ _ hq
      cases h
      have := congrArg List.length (end_ok hq)
      rw [List.length_drop] at this
      simp at this
      exact ⟨by rw [List.length_take]; omega, by omega, rfl⟩
theorem trail_le : ∀ {f k : Nat} {l r : List UInt8}, trailF f k l = .inr r → r.length ≤ l.length
  | 0, k, l, r, h => by cases h
  | f + 1, k, l, r, h => by
    unfold trailF at h
    split at h
    · cases h
    · rename_i t r' hn
      have hl := next_le hn
      split at h
      · cases h; exact hl
      · split at h
        · cases h
        · split at h
          · cases h
          · exact Nat.le_trans (trail_le h) hl
theorem Own.slice {w : World} {B : Nat} {v : Value} {l : List UInt8} (h : Own w B v l) : ∃ a cap, v = .slice a l.length cap := by
  rcases h.2 with ⟨rfl, hn⟩ | ⟨g, cap, cur, rfl, _⟩
  · exact ⟨none, 0, by rw [hn]⟩
  · exact ⟨_, cap, rfl⟩
theorem next5_is {k : Nat} {x r : ByteArray} {room : Int} {v : Value} {w : World} (hs : x.size ≤ 4000000) (h : Box (StrAt k x w)) (h0 : 0 ≤ room) (h1 : room ≤ 100000) (hv : Box (nsV room (nextL x.data.toList) = v)) (hr : Box (cloR (nextL x.data.toList) = r)) :
    Calls Try.prog 19 #[.func (.func 17) #[] #[.pointer (some ⟨k, 0, none⟩)], .int .i64 room] w fun e w' => e = .returned v ∧ StrAt k r w' ∧ Only k w w' :=
  (next5_any k x room w hs h h0 h1).mono fun e w' ⟨h1, h2, h3⟩ => ⟨by rw [h1, hv.out], by rw [← hr.out]; exact h2, h3⟩
theorem data5_is {l : List UInt8} {n : Nat} {v : Value} {w : World} (hs : l.length ≤ 4000000) (hn : n ≤ 100000) (h : Box (lineV (dataL n l) = v)) :
    Calls Try.prog 20 #[.string (bs l), .int .i64 n] w fun e w' => e = .returned v ∧ w = w' :=
  (cData_any (bs l) n w (by rw [bs_size]; exact hs) hn).mono fun e w' ⟨h1, h2⟩ => ⟨by rw [h1, bs_toList, h.out], h2⟩
def DecR (s : ByteArray) (w : World) (g : Nat) (v : Value) (wr : World) : Prop := ∃ (b : List UInt8) (y : ByteArray), Own wr (w.heap.size + 1) v b ∧ b.length ≤ 100000 ∧ y.size ≤ 4000000 ∧ y.data.toList.length ≤ g ∧ chunksF (s.data.toList.length + 1) [] s.data.toList = chunksF (g + 1) b y.data.toList ∧ StrAt w.heap.size y wr ∧ Below w.heap.size w wr ∧ w.heap.size + 1 ≤ wr.heap.size
set_option maxRecDepth 100000 in
set_option maxHeartbeats 4000000 in
theorem cDecode_any (s : ByteArray) (w : World) (hs : s.size ≤ 2000000) :
    Calls Try.prog 8 #[.string s] w fun e w' => e = .returned (dcV (decodeL s.data.toList)) ∧ Below w.heap.size w w' := by
  have hmf : ∀ (fn : Fn) (first cap : Array Value) (w : World), (Instr.makeFunc fn first cap).run Try.prog w = .ok (.func fn first cap) w := fun _ _ _ _ => rfl
  have hz : s.data.toList.length = s.size := by simp
  go_enter Try.func8, Try.ntmps8
  go_wp2
  go_loopg [7] s.size (fun g v wr => DecR s w g v wr)
  case atStart => exact ⟨[], s, Own.nil _ _, by simp, by omega, by omega, by rw [hz], StrAt.new s w _, below_new _ _, by simp⟩
  case round =>
    obtain ⟨b, y, hO, hb, hy, hg, hC, hS, hbel, hsz⟩ := hrel
    obtain ⟨a, cap, rfl⟩ := hO.slice
    have O0 := box hO
    have HC := box hC
    have S0 := box hS
    have BL := box hbel
    have HSZ := box hsz
    have hbi : (b.length : Int) ≤ 100000 := by omega
    have hr0 : (0 : Int) ≤ 100000 - (b.length : Int) := by omega
    have hr1 : 100000 - (b.length : Int) ≤ 100000 := by omega
    clear hO hC hS hbel hsz
    obtain ⟨r0, hr0'⟩ : ∃ r0, cloR (nextL y.data.toList) = r0 := ⟨_, rfl⟩
    have HR := box hr0'
    rcases hn : nextL y.data.toList with e0 | ⟨t, r⟩
    · have HV : Box (nsV (100000 - (b.length : Int)) (nextL y.data.toList) = .tuple #[.int .i64 0, .int .i64 e0]) := box (by rw [hn]; rfl)
      have HE : Box (decodeL s.data.toList = ([], 0, e0)) := box (dec_bad HC.out (ck_next hn))
      have he := err_size hn
      clear hn hr0'
      rcases he with rfl | rfl | rfl
      all_goals
        go_wp2_with fail
        refine (next5_is hy S0 hr0 hr1 HV HR).mono ?_; rintro e w1 ⟨rfl, hs1, ho1⟩
        have B1 := box (BL.out.trans (ho1.below (Nat.le_refl _) BL.out.size))
        clear hs1 ho1
        go_wp2
        go_ret3
        exact ⟨by rw [HE.out]; rfl, B1.out⟩
    · have hyl : y.data.toList.length = y.size := by simp
      have hrl := next_le hn
      have hr1' : r0 = bs r := by rw [← hr0', hn]; rfl
      subst hr1'
      have hrz : r.length ≤ 4000000 := by omega
      rcases hsz' : sizeL t with _ | n
      · have HV : Box (nsV (100000 - (b.length : Int)) (nextL y.data.toList) = .tuple #[.int .i64 0, .int .i64 1]) := box (by rw [hn]; simp only [nsV, hsz'])
        have HE : Box (decodeL s.data.toList = ([], 0, 1)) := box (dec_bad HC.out (ck_size hn hsz'))
        clear hn hr0' hsz'
        go_wp2_with fail
        refine (next5_is hy S0 hr0 hr1 HV HR).mono ?_; rintro e w1 ⟨rfl, hs1, ho1⟩
        have B1 := box (BL.out.trans (ho1.below (Nat.le_refl _) BL.out.size))
        clear hs1 ho1
        go_wp2
        go_ret3
        exact ⟨by rw [HE.out]; rfl, B1.out⟩
      · by_cases h5 : 100000 < n + b.length
        · have HV : Box (nsV (100000 - (b.length : Int)) (nextL y.data.toList) = .tuple #[.int .i64 0, .int .i64 5]) := box (by rw [hn]; simp only [nsV, hsz']; rw [if_pos (by omega)])
          have HE : Box (decodeL s.data.toList = ([], 0, 5)) := box (dec_bad HC.out (ck_body hn hsz' h5))
          clear hn hr0' hsz' h5
          go_wp2_with fail
          refine (next5_is hy S0 hr0 hr1 HV HR).mono ?_; rintro e w1 ⟨rfl, hs1, ho1⟩
          have B1 := box (BL.out.trans (ho1.below (Nat.le_refl _) BL.out.size))
          clear hs1 ho1
          go_wp2
          go_ret3
          exact ⟨by rw [HE.out]; rfl, B1.out⟩
        · have HV : Box (nsV (100000 - (b.length : Int)) (nextL y.data.toList) = .tuple #[.int .i64 n, .int .i64 0]) := box (by rw [hn]; simp only [nsV, hsz']; rw [if_neg (by omega)])
          by_cases h0 : n = 0
          · subst h0
            have HL := box (dec_last HC.out (ck_last hn hsz' h5))
            clear hn hr0' hsz' h5
            go_wp2_with fail
            refine (next5_is hy S0 hr0 hr1 HV HR).mono ?_; rintro e w1 ⟨rfl, hs1, ho1⟩
            have B1 := box (BL.out.trans (ho1.below (Nat.le_refl _) BL.out.size))
            have S1 := box hs1
            have O1 := box (own_only O0.out ho1 (Nat.lt_succ_self _))
            clear hs1 ho1
            have hrz2 : (bs r).size ≤ 4000000 := by rw [bs_size]; exact hrz
            go_wp2_with fail
            refine (skip5_any _ (bs r) _ hrz2 S1).mono ?_; rintro e w2 ⟨hp, ho2⟩
            have B2 := box (B1.out.trans (ho2.below (Nat.le_refl _) B1.out.size))
            have O2 := box (own_only O1.out ho2 (Nat.lt_succ_self _))
            rw [bs_toList] at hp
            clear ho2
            rcases ht : trailF 66 0 r with c | r2
            · rw [ht] at hp
              obtain ⟨rfl, hc0⟩ := hp
              have HE : Box (decodeL s.data.toList = ([], 0, c)) := box (by rw [HL.out, ht])
              have hcn : (c != 0) = true := by rw [bne_iff_ne]; exact fun e => hc0 e
              clear ht hc0
              go_wp2
              go_ret3
              exact ⟨by rw [HE.out]; rfl, B2.out⟩
            · rw [ht] at hp
              obtain ⟨rfl, hs2⟩ := hp
              have hst := fun n => Own.str (Own.drewN (n := n) O2.out)
              have c2 := hs2.1
              have hr2l : (bs r2).size ≤ 4000000 := by rw [bs_size]; exact Nat.le_trans (trail_le ht) hrz
              have HE : Box (decodeL s.data.toList = (b, (s.size : Int) - ((bs r2).size : Int), 0)) := box (by rw [HL.out, ht, bs_size, hz])
              clear ht
              go_wp2
              go_quiet (fail)
              go_wp2
              go_ret3
              refine ⟨?_, B2.out.trans ((below_drewN _ _).mono B2.out.size)⟩
              rw [HE.out]; rfl
          · have h0i : ((n : Int) == 0) = false := by rw [beq_eq_false_iff_ne]; omega
            have hnz : n ≤ 100000 := by omega
            have hck := ck_dataL hn hsz' h5 h0
            rcases hd : dataL n r with e0 | ⟨d, r2⟩
            · have HE : Box (decodeL s.data.toList = ([], 0, e0)) := box (dec_bad HC.out (by rw [hck, hd]))
              have HD : Box (lineV (dataL n r) = .tuple #[.string ⟨#[]⟩, .string ⟨#[]⟩, .int .i64 e0]) := box (by rw [hd]; rfl)
              have he := data_err hd
              clear hn hr0' hsz' h5 hck hd
              rcases he with rfl | rfl
              all_goals
                go_wp2_with fail
                refine (next5_is hy S0 hr0 hr1 HV HR).mono ?_; rintro e w1 ⟨rfl, hs1, ho1⟩
                have B1 := box (BL.out.trans (ho1.below (Nat.le_refl _) BL.out.size))
                have c1 := hs1.1
                clear ho1
                go_wp2_with fail
                refine (data5_is hrz hnz HD).mono ?_; rintro e w2 ⟨rfl, rfl⟩
                go_wp2
                go_ret3
                exact ⟨by rw [HE.out]; rfl, B1.out⟩
            · obtain ⟨hd1, hd2, hd3⟩ := data_ok hd
              have HD : Box (lineV (dataL n r) = .tuple #[.string (bs d), .string (bs r2), .int .i64 0]) := box (by rw [hd]; rfl)
              obtain ⟨g', rfl⟩ : ∃ g', gk = g' + 1 := ⟨gk - 1, by omega⟩
              have HC2 := box (HC.out.trans (chunks_data (by rw [hck, hd])))
              have hr2z : (bs r2).size ≤ 4000000 := by rw [bs_size]; omega
              have hdz : (bs d).size = n := by rw [bs_size]; exact hd1
              have hbn : b.length + (bs d).size < 8589934592 := by omega
              have HLB : Box ((b ++ (bs d).data.toList).length ≤ 100000) := box (by rw [bs_toList, List.length_append]; omega)
              have HG : Box ((bs r2).data.toList.length ≤ g') := box (by rw [bs_toList]; omega)
              clear hn hr0' hsz' h5 hck hd hd1 hd2 hd3
              go_wp2_with fail
              refine (next5_is hy S0 hr0 hr1 HV HR).mono ?_; rintro e w1 ⟨rfl, hs1, ho1⟩
              have B1 := box (BL.out.trans (ho1.below (Nat.le_refl _) BL.out.size))
              have S1 := box hs1
              have O1 := box (own_only O0.out ho1 (Nat.lt_succ_self _))
              have hsz1 : w.heap.size + 1 ≤ w1.heap.size := Nat.le_trans HSZ.out ho1.size
              have c1 := hs1.1
              clear ho1 hs1
              go_wp2_with fail
              refine (data5_is hrz hnz HD).mono ?_; rintro e w2 ⟨rfl, rfl⟩
              clear c1
              go_wp2_with (at_builtin; refine wpList_append_sb _ rfl (.tmp 38) (.tmp 39) rfl (w.heap.size + 1) _ b rfl O1.out (bs d) rfl hbn hsz1 ?_; intro v' w3 hO3 hb3; have S3 := box (S1.out.below hb3 (Nat.lt_succ_self _)); have c3 := S3.out.1; have f3 := S3.out.2)
              go_roundg g'
              case measure => omega
              case rel =>
                exact ⟨b ++ (bs d).data.toList, bs r2, own_only hO3 ((Only.refl _ _).set _) (Nat.lt_succ_self _), HLB.out, hr2z, HG.out, HC2.out, S3.out.set _, (B1.out.trans (hb3.mono (Nat.le_succ _))).setCell (p := ⟨w.heap.size, 0, none⟩) (Nat.le_refl _) _, by simpa using Nat.le_trans hsz1 hb3.size⟩

end Go.Proofs.Ythfhoacflkbhhaa.Asc
