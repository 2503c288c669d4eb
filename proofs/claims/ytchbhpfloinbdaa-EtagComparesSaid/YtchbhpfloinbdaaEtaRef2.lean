/- The contract of the reference's ParseETag. -/
import Derived.Test.YtchbhpfloinbdaaEtaRef
import Derived.Deep.RegionHeld3
import Derived.RegionTactic
set_option linter.unusedVariables false
set_option linter.unusedSimpArgs false
set_option maxRecDepth 100000
namespace Go.Proofs.Ytchbhpfloinbdaa.Asc
open Go.RowKit

/-- the results of reading a tag -/
def tgV : Option ET → Value
  | none => .tuple #[.agg #[.bool false, .string ⟨#[]⟩], .bool false]
  | some e => .tuple #[.agg #[.bool e.1, .string e.2], .bool true]
theorem slice_two {s x : ByteArray} (h : 2 ≤ s.size) (hx : s.extract 2 s.size = x) (w : World) : (Instr.slice 9 (.string s) (some (.int .i64 2)) none none).run Try.prog w = .ok (.string x) w := by
  have h2 : (2 : Int) ≤ (s.size : Int) := by omega
  subst hx
  simp [Instr.slice, Instr.sliceBounds, Instr.sliceBound, run_underlying Try.underlying9, asIntOf, Result.andThen, h2]
theorem slice_one {s x : ByteArray} {p : Nat} (h : 1 ≤ p) (hp : p ≤ s.size) (hx : s.extract 1 p = x) (w : World) : (Instr.slice 9 (.string s) (some (.int .i64 1)) (some (.int .i64 (p : Int))) none).run Try.prog w = .ok (.string x) w := by
  have h0 : (0 : Int) ≤ (p : Int) := by omega
  have h1 : (1 : Int) ≤ (p : Int) := by omega
  have h2 : (p : Int) ≤ (s.size : Int) := by omega
  subst hx
  simp [Instr.slice, Instr.sliceBounds, Instr.sliceBound, run_underlying Try.underlying9, asIntOf, Result.andThen, h0, h1, h2, h, hp]
theorem tagOf_list {l : List UInt8} {p : Nat} (hp : l.length = p + 1) (h1 : 1 ≤ p) : tagOf l = if l[0]'(by omega) = 34 ∧ l[p]'(by omega) = 34 ∧ tagT ((l.take p).drop 1) = true then some ((l.take p).drop 1) else none := by
  rcases l with _ | ⟨c, r⟩
  · simp at hp
  · have hr : r.length = p := by simpa using hp
    have q1 : r.getLast? = some (r[p - 1]'(by omega)) := by
      rw [List.getLast?_eq_getElem?, show r.length - 1 = p - 1 from by omega]
      exact List.getElem?_eq_getElem (by omega)
    have q2 : ((c :: r).take p).drop 1 = r.dropLast := by
      rw [List.dropLast_eq_take, hr]
      obtain ⟨q, rfl⟩ : ∃ q, p = q + 1 := ⟨p - 1, by omega⟩
      simp
    have q3 : (c :: r)[p]'(by simp; omega) = r[p - 1]'(by omega) := by
      obtain ⟨q, rfl⟩ : ∃ q, p = q + 1 := ⟨p - 1, by omega⟩
      simp
    rw [tagOf_cons, q1, q2, q3]
    simp
theorem tagOf_at {x : ByteArray} {p : Nat} (hp : x.size = p + 1) (h1 : 1 ≤ p) : tagOf x.data.toList = if x[0]'(by omega) = 34 ∧ x[p]'(by omega) = 34 ∧ tagT (x.extract 1 p).data.toList = true then some (x.extract 1 p).data.toList else none := by
  rw [ext_bs, bs_toList]
  exact tagOf_list (l := x.data.toList) (by simp; exact hp) h1
theorem parE_w {s x : ByteArray} (hx : s.extract 2 s.size = x) (h : s.data.toList.take 2 = [87, 47]) : parE s.data.toList = (tagOf x.data.toList).map fun t => (true, bs t) := by
  unfold parE
  rw [if_pos h, ← hx, ext_bs, bs_toList, List.take_of_length_le (by simp)]
theorem parE_s {s : ByteArray} (h : s.size ≤ 2 ∨ s.data.toList.take 2 ≠ [87, 47]) : parE s.data.toList = (tagOf s.data.toList).map fun t => (false, bs t) := by
  unfold parE
  by_cases e : s.data.toList.take 2 = [87, 47]
  · have hz : s.data.toList.length = s.size := by simp
    have h2 : s.size ≤ 2 := h.resolve_right (fun q => q e)
    have e2 : s.data.toList = [87, 47] := by rw [← e, List.take_of_length_le (by omega)]
    rw [e2]; rfl
  · rw [if_neg e]
theorem take_two21 {s : ByteArray} {b : Bool} (h : ((s.extract 0 2).toList == [87, 47]) = b) : (s.data.toList.take 2 = [87, 47]) ↔ b = true := by
  rw [← h, beq_iff_eq, toList_data, ext_bs, bs_toList, List.drop_zero]
theorem below2_drew (w : World) (a b : Obj) : Below w.heap.size w ((w.alloc a).alloc b).drew :=
  ((below_new w a).alloc (below_new w a).size b).trans ((below_drewN _ 1).mono ((below_new w a).alloc (below_new w a).size b).size)
set_option maxHeartbeats 1000000 in
theorem rParE_short (s : ByteArray) (w : World) (h : s.size < 2) :
    Calls Try.prog 9 #[.string s] w fun e w' => e = .returned (tgV (parE s.data.toList)) ∧ Below w.heap.size w w' := by
  have HE : Box (parE s.data.toList = none) := box (by rw [parE_s (.inl (by omega)), tagOf_short (by simpa using h)]; rfl)
  have h1 : ¬ (2 : Int) < (s.size : Int) := by omega
  have h2 : (s.size : Int) < 2 := by omega
  obtain ⟨⟨r0, r1⟩, ⟨f0, f1⟩⟩ := (T2.new (.bool false) (.string ⟨#[]⟩) w 23).next (below_new _ (.cells #[.bool false, .string ⟨#[]⟩] 23))
  go_enter Try.func9, Try.ntmps9
  go_wp2
  (try simp only [Exit.inBlock, Exit.then])
  refine bodyPost_ret (v := tgV none) (by rw [results_cell_tmp rfl]; go_simp; rfl) rfl ?_
  exact ⟨by rw [HE.out], (below_new _ _).alloc (below_new _ _).size _⟩
/- ways (made by tools/geneta1.py) -/
set_option maxHeartbeats 4000000 in
theorem rParE_w (s : ByteArray) (w : World) (hs : s.size ≤ 65000) (hz : 2 < s.size) (hcm : ((s.extract 0 2).toList == [87, 47]) = true) (x : ByteArray) (hx : s.extract 2 s.size = x) :
    Calls Try.prog 9 #[.string s] w fun e w' => e = .returned (tgV (parE s.data.toList)) ∧ Below w.heap.size w w' := by
  have hpar : parE s.data.toList = (tagOf x.data.toList).map fun t => (true, bs t) := by rw [parE_w hx ((take_two21 hcm).mpr rfl)]
  have hxz : x.size = s.size - 2 := by rw [← hx]; simp
  by_cases h2 : x.size < 2
  · have HE : Box (parE s.data.toList = none) := box (by rw [hpar, tagOf_short (by simpa using h2)]; rfl)
    have hg : (2 : Int) < (s.size : Int) := by omega
    have hsl := slice_two (s := s) (x := x) (by omega) hx
    have h3 : (x.size : Int) < 2 := by omega
    obtain ⟨⟨r0, r1⟩, ⟨f0, f1⟩⟩ := (T2.new (.bool false) (.string ⟨#[]⟩) w 23).next (below_new _ (.cells #[.bool false, .string ⟨#[]⟩] 23))
    obtain ⟨⟨r2, r3⟩, ⟨f2, f3⟩⟩ := T2.new (.bool false) (.string ⟨#[]⟩) (w.alloc (.cells #[.bool false, .string ⟨#[]⟩] 23)) 23
    clear hpar hx hxz
    go_enter Try.func9, Try.ntmps9
    go_wp2
    go_region
    all_goals
      go_wp2
      (try simp only [Exit.inBlock, Exit.then])
      refine bodyPost_ret (v := tgV none) (by rw [results_cell_tmp rfl]; go_simp; rfl) rfl ?_
      exact ⟨by rw [HE.out], below2_drew _ _ _⟩
  · obtain ⟨p, hp⟩ : ∃ p, x.size = p + 1 := ⟨x.size - 1, by omega⟩
    have hp1 : 1 ≤ p := by omega
    have h0 : 0 < x.size := by omega
    have hpx : p < x.size := by omega
    have hat := tagOf_at hp hp1
    have i0 : decide ((x.size : Int) < 2) = false := by rw [decide_eq_false_iff_not]; omega
    have hpb : p ≤ 65000 := by omega
    have hpi : (x.size : Int) - 1 = (p : Int) := by omega
    have hpw : (p : Int) < (x.size : Int) := by omega
    have hp0 : (0 : Int) < (x.size : Int) := by omega
    by_cases c0 : x[0] = 34
    · have e0 : ((x[0].toNat : Int) != 34) = false := by rw [c0]; rfl
      by_cases c1 : x[p] = 34
      · have e1 : ((x[p].toNat : Int) != 34) = false := by rw [c1]; rfl
        obtain ⟨t, ht⟩ : ∃ t, x.extract 1 p = t := ⟨_, rfl⟩
        have hst := slice_one hp1 (Nat.le_of_lt hpx) ht
        have htz : t.size ≤ 65536 := by rw [← ht]; simp; omega
        rw [ht] at hat
        cases hg2 : tagT t.data.toList with
        | false =>
          have HB := box hg2
          have HE : Box (parE s.data.toList = none) := box (by rw [hpar, hat, if_neg (fun q => by rw [hg2] at q; cases q.2.2)]; rfl)
          have hg : (2 : Int) < (s.size : Int) := by omega
          have hsl := slice_two (s := s) (x := x) (by omega) hx
          clear hat c0 c1 h2 hg2 ht
          obtain ⟨⟨r0, r1⟩, ⟨f0, f1⟩⟩ := (T2.new (.bool false) (.string ⟨#[]⟩) w 23).next (below_new _ (.cells #[.bool false, .string ⟨#[]⟩] 23))
          obtain ⟨⟨r2, r3⟩, ⟨f2, f3⟩⟩ := T2.new (.bool false) (.string ⟨#[]⟩) (w.alloc (.cells #[.bool false, .string ⟨#[]⟩] 23)) 23
          clear hpar hx hxz
          clear hp
          go_enter Try.func9, Try.ntmps9
          go_wp2
          go_region
          all_goals
            go_wp2_with fail
            refine (rTagX_is htz HB).mono ?_; rintro e w1 ⟨rfl, rfl⟩
            go_wp2
            (try simp only [Exit.inBlock, Exit.then])
            refine bodyPost_ret (v := tgV none) (by rw [results_cell_tmp rfl]; go_simp; rfl) rfl ?_
            exact ⟨by rw [HE.out], below2_drew _ _ _⟩
        | true =>
          have HB := box hg2
          have HE : Box (parE s.data.toList = some (true, t)) := box (by rw [hpar, hat, if_pos ⟨c0, c1, hg2⟩]; rfl)
          have hg : (2 : Int) < (s.size : Int) := by omega
          have hsl := slice_two (s := s) (x := x) (by omega) hx
          clear hat c0 c1 h2 hg2 ht
          obtain ⟨⟨r0, r1⟩, ⟨f0, f1⟩⟩ := (T2.new (.bool false) (.string ⟨#[]⟩) w 23).next (below_new _ (.cells #[.bool false, .string ⟨#[]⟩] 23))
          obtain ⟨⟨r2, r3⟩, ⟨f2, f3⟩⟩ := T2.new (.bool false) (.string ⟨#[]⟩) (w.alloc (.cells #[.bool false, .string ⟨#[]⟩] 23)) 23
          clear hpar hx hxz
          clear hp
          go_enter Try.func9, Try.ntmps9
          go_wp2
          go_region
          all_goals
            go_wp2_with fail
            refine (rTagX_is htz HB).mono ?_; rintro e w1 ⟨rfl, rfl⟩
            go_wp2
            (try simp only [Exit.inBlock, Exit.then])
            refine bodyPost_ret (v := tgV (some (true, t))) (by rw [results_cell_tmp rfl]; go_simp; rfl) rfl ?_
            exact ⟨by rw [HE.out], below2_drew _ _ _⟩
      · have HE : Box (parE s.data.toList = none) := box (by rw [hpar, hat, if_neg (fun q => c1 q.2.1)]; rfl)
        have hg : (2 : Int) < (s.size : Int) := by omega
        have hsl := slice_two (s := s) (x := x) (by omega) hx
        have e1 : ((x[p].toNat : Int) != 34) = true := by rw [bne_iff_ne]; intro e; exact c1 (UInt8.toNat_inj.mp (by have e2 : ((34 : UInt8).toNat : Int) = 34 := rfl; omega))
        clear hat c0 c1 h2
        obtain ⟨⟨r0, r1⟩, ⟨f0, f1⟩⟩ := (T2.new (.bool false) (.string ⟨#[]⟩) w 23).next (below_new _ (.cells #[.bool false, .string ⟨#[]⟩] 23))
        obtain ⟨⟨r2, r3⟩, ⟨f2, f3⟩⟩ := T2.new (.bool false) (.string ⟨#[]⟩) (w.alloc (.cells #[.bool false, .string ⟨#[]⟩] 23)) 23
        clear hpar hx hxz
        clear hp
        go_enter Try.func9, Try.ntmps9
        go_wp2
        go_region
        all_goals
          go_wp2
          (try simp only [Exit.inBlock, Exit.then])
          refine bodyPost_ret (v := tgV none) (by rw [results_cell_tmp rfl]; go_simp; rfl) rfl ?_
          exact ⟨by rw [HE.out], below2_drew _ _ _⟩
    · have HE : Box (parE s.data.toList = none) := box (by rw [hpar, hat, if_neg (fun q => c0 q.1)]; rfl)
      have hg : (2 : Int) < (s.size : Int) := by omega
      have hsl := slice_two (s := s) (x := x) (by omega) hx
      have e0 : ((x[0].toNat : Int) != 34) = true := by rw [bne_iff_ne]; intro e; exact c0 (UInt8.toNat_inj.mp (by have e2 : ((34 : UInt8).toNat : Int) = 34 := rfl; omega))
      clear hat c0 h2
      obtain ⟨⟨r0, r1⟩, ⟨f0, f1⟩⟩ := (T2.new (.bool false) (.string ⟨#[]⟩) w 23).next (below_new _ (.cells #[.bool false, .string ⟨#[]⟩] 23))
      obtain ⟨⟨r2, r3⟩, ⟨f2, f3⟩⟩ := T2.new (.bool false) (.string ⟨#[]⟩) (w.alloc (.cells #[.bool false, .string ⟨#[]⟩] 23)) 23
      clear hpar hx hxz
      clear hp
      go_enter Try.func9, Try.ntmps9
      go_wp2
      go_region
      all_goals
        go_wp2
        (try simp only [Exit.inBlock, Exit.then])
        refine bodyPost_ret (v := tgV none) (by rw [results_cell_tmp rfl]; go_simp; rfl) rfl ?_
        exact ⟨by rw [HE.out], below2_drew _ _ _⟩
set_option maxHeartbeats 4000000 in
theorem rParE_s (s : ByteArray) (w : World) (hs : s.size ≤ 65000) (hz : 2 < s.size) (hcm : ((s.extract 0 2).toList == [87, 47]) = false) :
    Calls Try.prog 9 #[.string s] w fun e w' => e = .returned (tgV (parE s.data.toList)) ∧ Below w.heap.size w w' := by
  have hpar : parE s.data.toList = (tagOf s.data.toList).map fun t => (false, bs t) := by rw [parE_s (.inr (fun e => by have := (take_two21 hcm).mp e; cases this))]
  by_cases h2 : s.size < 2
  · omega
  · obtain ⟨p, hp⟩ : ∃ p, s.size = p + 1 := ⟨s.size - 1, by omega⟩
    have hp1 : 1 ≤ p := by omega
    have h0 : 0 < s.size := by omega
    have hpx : p < s.size := by omega
    have hat := tagOf_at hp hp1
    have i0 : decide ((s.size : Int) < 2) = false := by rw [decide_eq_false_iff_not]; omega
    have hpb : p ≤ 65000 := by omega
    have hpi : (s.size : Int) - 1 = (p : Int) := by omega
    have hpw : (p : Int) < (s.size : Int) := by omega
    have hp0 : (0 : Int) < (s.size : Int) := by omega
    by_cases c0 : s[0] = 34
    · have e0 : ((s[0].toNat : Int) != 34) = false := by rw [c0]; rfl
      by_cases c1 : s[p] = 34
      · have e1 : ((s[p].toNat : Int) != 34) = false := by rw [c1]; rfl
        obtain ⟨t, ht⟩ : ∃ t, s.extract 1 p = t := ⟨_, rfl⟩
        have hst := slice_one hp1 (Nat.le_of_lt hpx) ht
        have htz : t.size ≤ 65536 := by rw [← ht]; simp; omega
        rw [ht] at hat
        cases hg2 : tagT t.data.toList with
        | false =>
          have HB := box hg2
          have HE : Box (parE s.data.toList = none) := box (by rw [hpar, hat, if_neg (fun q => by rw [hg2] at q; cases q.2.2)]; rfl)
          have hg : (2 : Int) < (s.size : Int) := by omega
          clear hat c0 c1 h2 hg2 ht
          obtain ⟨⟨r0, r1⟩, ⟨f0, f1⟩⟩ := (T2.new (.bool false) (.string ⟨#[]⟩) w 23).next (below_new _ (.cells #[.bool false, .string ⟨#[]⟩] 23))
          obtain ⟨⟨r2, r3⟩, ⟨f2, f3⟩⟩ := T2.new (.bool false) (.string ⟨#[]⟩) (w.alloc (.cells #[.bool false, .string ⟨#[]⟩] 23)) 23
          clear hpar
          clear hp
          go_enter Try.func9, Try.ntmps9
          go_wp2_with fail
          refine (rTagX_is htz HB).mono ?_; rintro e w1 ⟨rfl, rfl⟩
          go_wp2
          (try simp only [Exit.inBlock, Exit.then])
          refine bodyPost_ret (v := tgV none) (by rw [results_cell_tmp rfl]; go_simp; rfl) rfl ?_
          exact ⟨by rw [HE.out], (below_new _ _).alloc (below_new _ _).size _⟩
        | true =>
          have HB := box hg2
          have HE : Box (parE s.data.toList = some (false, t)) := box (by rw [hpar, hat, if_pos ⟨c0, c1, hg2⟩]; rfl)
          have hg : (2 : Int) < (s.size : Int) := by omega
          clear hat c0 c1 h2 hg2 ht
          obtain ⟨⟨r0, r1⟩, ⟨f0, f1⟩⟩ := (T2.new (.bool false) (.string ⟨#[]⟩) w 23).next (below_new _ (.cells #[.bool false, .string ⟨#[]⟩] 23))
          obtain ⟨⟨r2, r3⟩, ⟨f2, f3⟩⟩ := T2.new (.bool false) (.string ⟨#[]⟩) (w.alloc (.cells #[.bool false, .string ⟨#[]⟩] 23)) 23
          clear hpar
          clear hp
          go_enter Try.func9, Try.ntmps9
          go_wp2_with fail
          refine (rTagX_is htz HB).mono ?_; rintro e w1 ⟨rfl, rfl⟩
          go_wp2
          (try simp only [Exit.inBlock, Exit.then])
          refine bodyPost_ret (v := tgV (some (false, t))) (by rw [results_cell_tmp rfl]; go_simp; rfl) rfl ?_
          exact ⟨by rw [HE.out], (below_new _ _).alloc (below_new _ _).size _⟩
      · have HE : Box (parE s.data.toList = none) := box (by rw [hpar, hat, if_neg (fun q => c1 q.2.1)]; rfl)
        have hg : (2 : Int) < (s.size : Int) := by omega
        have e1 : ((s[p].toNat : Int) != 34) = true := by rw [bne_iff_ne]; intro e; exact c1 (UInt8.toNat_inj.mp (by have e2 : ((34 : UInt8).toNat : Int) = 34 := rfl; omega))
        clear hat c0 c1 h2
        obtain ⟨⟨r0, r1⟩, ⟨f0, f1⟩⟩ := (T2.new (.bool false) (.string ⟨#[]⟩) w 23).next (below_new _ (.cells #[.bool false, .string ⟨#[]⟩] 23))
        obtain ⟨⟨r2, r3⟩, ⟨f2, f3⟩⟩ := T2.new (.bool false) (.string ⟨#[]⟩) (w.alloc (.cells #[.bool false, .string ⟨#[]⟩] 23)) 23
        clear hpar
        clear hp
        go_enter Try.func9, Try.ntmps9
        go_wp2
        (try simp only [Exit.inBlock, Exit.then])
        refine bodyPost_ret (v := tgV none) (by rw [results_cell_tmp rfl]; go_simp; rfl) rfl ?_
        exact ⟨by rw [HE.out], (below_new _ _).alloc (below_new _ _).size _⟩
    · have HE : Box (parE s.data.toList = none) := box (by rw [hpar, hat, if_neg (fun q => c0 q.1)]; rfl)
      have hg : (2 : Int) < (s.size : Int) := by omega
      have e0 : ((s[0].toNat : Int) != 34) = true := by rw [bne_iff_ne]; intro e; exact c0 (UInt8.toNat_inj.mp (by have e2 : ((34 : UInt8).toNat : Int) = 34 := rfl; omega))
      clear hat c0 h2
      obtain ⟨⟨r0, r1⟩, ⟨f0, f1⟩⟩ := (T2.new (.bool false) (.string ⟨#[]⟩) w 23).next (below_new _ (.cells #[.bool false, .string ⟨#[]⟩] 23))
      obtain ⟨⟨r2, r3⟩, ⟨f2, f3⟩⟩ := T2.new (.bool false) (.string ⟨#[]⟩) (w.alloc (.cells #[.bool false, .string ⟨#[]⟩] 23)) 23
      clear hpar
      clear hp
      go_enter Try.func9, Try.ntmps9
      go_wp2
      (try simp only [Exit.inBlock, Exit.then])
      refine bodyPost_ret (v := tgV none) (by rw [results_cell_tmp rfl]; go_simp; rfl) rfl ?_
      exact ⟨by rw [HE.out], (below_new _ _).alloc (below_new _ _).size _⟩
set_option maxHeartbeats 4000000 in
theorem rParE_t (s : ByteArray) (w : World) (hs : s.size ≤ 65000) (hz : s.size = 2) :
    Calls Try.prog 9 #[.string s] w fun e w' => e = .returned (tgV (parE s.data.toList)) ∧ Below w.heap.size w w' := by
  have hpar : parE s.data.toList = (tagOf s.data.toList).map fun t => (false, bs t) := by rw [parE_s (.inl (by omega))]
  by_cases h2 : s.size < 2
  · omega
  · obtain ⟨p, hp⟩ : ∃ p, s.size = p + 1 := ⟨s.size - 1, by omega⟩
    have hp1 : 1 ≤ p := by omega
    have h0 : 0 < s.size := by omega
    have hpx : p < s.size := by omega
    have hat := tagOf_at hp hp1
    have i0 : decide ((s.size : Int) < 2) = false := by rw [decide_eq_false_iff_not]; omega
    have hpb : p ≤ 65000 := by omega
    have hpi : (s.size : Int) - 1 = (p : Int) := by omega
    have hpw : (p : Int) < (s.size : Int) := by omega
    have hp0 : (0 : Int) < (s.size : Int) := by omega
    by_cases c0 : s[0] = 34
    · have e0 : ((s[0].toNat : Int) != 34) = false := by rw [c0]; rfl
      by_cases c1 : s[p] = 34
      · have e1 : ((s[p].toNat : Int) != 34) = false := by rw [c1]; rfl
        obtain ⟨t, ht⟩ : ∃ t, s.extract 1 p = t := ⟨_, rfl⟩
        have hst := slice_one hp1 (Nat.le_of_lt hpx) ht
        have htz : t.size ≤ 65536 := by rw [← ht]; simp; omega
        rw [ht] at hat
        cases hg2 : tagT t.data.toList with
        | false =>
          have HB := box hg2
          have HE : Box (parE s.data.toList = none) := box (by rw [hpar, hat, if_neg (fun q => by rw [hg2] at q; cases q.2.2)]; rfl)
          have hg : ¬ (2 : Int) < (s.size : Int) := by omega
          clear hat c0 c1 h2 hg2 ht
          obtain ⟨⟨r0, r1⟩, ⟨f0, f1⟩⟩ := (T2.new (.bool false) (.string ⟨#[]⟩) w 23).next (below_new _ (.cells #[.bool false, .string ⟨#[]⟩] 23))
          obtain ⟨⟨r2, r3⟩, ⟨f2, f3⟩⟩ := T2.new (.bool false) (.string ⟨#[]⟩) (w.alloc (.cells #[.bool false, .string ⟨#[]⟩] 23)) 23
          clear hpar hz
          clear hp
          go_enter Try.func9, Try.ntmps9
          go_wp2_with fail
          refine (rTagX_is htz HB).mono ?_; rintro e w1 ⟨rfl, rfl⟩
          go_wp2
          (try simp only [Exit.inBlock, Exit.then])
          refine bodyPost_ret (v := tgV none) (by rw [results_cell_tmp rfl]; go_simp; rfl) rfl ?_
          exact ⟨by rw [HE.out], (below_new _ _).alloc (below_new _ _).size _⟩
        | true =>
          have HB := box hg2
          have HE : Box (parE s.data.toList = some (false, t)) := box (by rw [hpar, hat, if_pos ⟨c0, c1, hg2⟩]; rfl)
          have hg : ¬ (2 : Int) < (s.size : Int) := by omega
          clear hat c0 c1 h2 hg2 ht
          obtain ⟨⟨r0, r1⟩, ⟨f0, f1⟩⟩ := (T2.new (.bool false) (.string ⟨#[]⟩) w 23).next (below_new _ (.cells #[.bool false, .string ⟨#[]⟩] 23))
          obtain ⟨⟨r2, r3⟩, ⟨f2, f3⟩⟩ := T2.new (.bool false) (.string ⟨#[]⟩) (w.alloc (.cells #[.bool false, .string ⟨#[]⟩] 23)) 23
          clear hpar hz
          clear hp
          go_enter Try.func9, Try.ntmps9
          go_wp2_with fail
          refine (rTagX_is htz HB).mono ?_; rintro e w1 ⟨rfl, rfl⟩
          go_wp2
          (try simp only [Exit.inBlock, Exit.then])
          refine bodyPost_ret (v := tgV (some (false, t))) (by rw [results_cell_tmp rfl]; go_simp; rfl) rfl ?_
          exact ⟨by rw [HE.out], (below_new _ _).alloc (below_new _ _).size _⟩
      · have HE : Box (parE s.data.toList = none) := box (by rw [hpar, hat, if_neg (fun q => c1 q.2.1)]; rfl)
        have hg : ¬ (2 : Int) < (s.size : Int) := by omega
        have e1 : ((s[p].toNat : Int) != 34) = true := by rw [bne_iff_ne]; intro e; exact c1 (UInt8.toNat_inj.mp (by have e2 : ((34 : UInt8).toNat : Int) = 34 := rfl; omega))
        clear hat c0 c1 h2
        obtain ⟨⟨r0, r1⟩, ⟨f0, f1⟩⟩ := (T2.new (.bool false) (.string ⟨#[]⟩) w 23).next (below_new _ (.cells #[.bool false, .string ⟨#[]⟩] 23))
        obtain ⟨⟨r2, r3⟩, ⟨f2, f3⟩⟩ := T2.new (.bool false) (.string ⟨#[]⟩) (w.alloc (.cells #[.bool false, .string ⟨#[]⟩] 23)) 23
        clear hpar hz
        clear hp
        go_enter Try.func9, Try.ntmps9
        go_wp2
        (try simp only [Exit.inBlock, Exit.then])
        refine bodyPost_ret (v := tgV none) (by rw [results_cell_tmp rfl]; go_simp; rfl) rfl ?_
        exact ⟨by rw [HE.out], (below_new _ _).alloc (below_new _ _).size _⟩
    · have HE : Box (parE s.data.toList = none) := box (by rw [hpar, hat, if_neg (fun q => c0 q.1)]; rfl)
      have hg : ¬ (2 : Int) < (s.size : Int) := by omega
      have e0 : ((s[0].toNat : Int) != 34) = true := by rw [bne_iff_ne]; intro e; exact c0 (UInt8.toNat_inj.mp (by have e2 : ((34 : UInt8).toNat : Int) = 34 := rfl; omega))
      clear hat c0 h2
      obtain ⟨⟨r0, r1⟩, ⟨f0, f1⟩⟩ := (T2.new (.bool false) (.string ⟨#[]⟩) w 23).next (below_new _ (.cells #[.bool false, .string ⟨#[]⟩] 23))
      obtain ⟨⟨r2, r3⟩, ⟨f2, f3⟩⟩ := T2.new (.bool false) (.string ⟨#[]⟩) (w.alloc (.cells #[.bool false, .string ⟨#[]⟩] 23)) 23
      clear hpar hz
      clear hp
      go_enter Try.func9, Try.ntmps9
      go_wp2
      (try simp only [Exit.inBlock, Exit.then])
      refine bodyPost_ret (v := tgV none) (by rw [results_cell_tmp rfl]; go_simp; rfl) rfl ?_
      exact ⟨by rw [HE.out], (below_new _ _).alloc (below_new _ _).size _⟩
/- end of ways -/
theorem rParE_any (s : ByteArray) (w : World) (hs : s.size ≤ 65000) :
    Calls Try.prog 9 #[.string s] w fun e w' => e = .returned (tgV (parE s.data.toList)) ∧ Below w.heap.size w w' := by
  by_cases h1 : s.size < 2
  · exact rParE_short s w h1
  · by_cases h2 : s.size = 2
    · exact rParE_t s w hs h2
    · cases hc : ((s.extract 0 2).toList == [87, 47]) with
      | false => exact rParE_s s w hs (by omega) hc
      | true => exact rParE_w s w hs (by omega) hc _ rfl
theorem rParE_is {s t : ByteArray} {b q : Bool} {w : World} (hs : s.size ≤ 65000) (h : Box (tgV (parE s.data.toList) = .tuple #[.agg #[.bool b, .string t], .bool q])) :
    Calls Try.prog 9 #[.string s] w fun e w' => e = .returned (.tuple #[.agg #[.bool b, .string t], .bool q]) ∧ Below w.heap.size w w' :=
  (rParE_any s w hs).mono fun e w' ⟨h1, h2⟩ => ⟨by rw [h1, h.out], h2⟩

end Go.Proofs.Ytchbhpfloinbdaa.Asc
