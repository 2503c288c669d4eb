/- Merged texts: VarSpec LisOpen VarMem VarEqu VryMine VrySrc VrySpec5. -/
import Derived.Test.YtlhcccakiidbdaaZa01
import Derived.Test.YtlhcccakiidbdaaZa02
import Derived.Test.YtlhcccakiidbdaaZa03
import Derived.Test.YtlhcccakiidbdaaZa04
import Derived.Test.YtlhcccakiidbdaaZa05
import Derived.Test.YtlhcccakiidbdaaZa06
import Derived.Test.YtlhcccakiidbdaaZa07
import Derived.Test.YtlhcccakiidbdaaZa08
import Derived.BigQuiet
import Derived.Deep.QuietTactic
import Derived.Deep.RegionHeld3
import Derived.Deep.Slices
import Derived.Laws.AppendOwnNone
import Derived.Laws.OwnMore
import Derived.Lib.Hide
import Derived.LoopTactic
import Derived.OwnWalk
set_option linter.unusedVariables false
set_option linter.unusedSimpArgs false
set_option maxRecDepth 100000
namespace Go.Proofs.Ytlhcccakiidbdaa.Asc
section
abbrev AX := ByteArray × List ByteArray
end
section
open Go.RowKit Go.ChangeShapes Go.WideShapes Go.Deep
theorem open_strings {H : Type} {enc : TypeId × Value → H} {W : World} {base : Nat} {sp : Nat → Bool} {held : Bool} {r : Reach} {b0 : Nat} {v : Value} {d : DataW H} {p : List MemPlace}
    (hval : Value.okWide Try.prog W r b0 24 v) (h : DataW.Trod enc Try.prog W base sp held 24 v d p) :
    ∃ (a : Option Addr) (cap : Nat) (L : List ByteArray), v = .slice a L.length cap ∧ L.length ≤ maxLen ∧ Ss W a L ∧ L.length ≤ cap := by
  obtain ⟨a0, len, cap, rfl⟩ := okWide_slice Try.underlying24 hval
  obtain ⟨fuel, hf⟩ := h
  rcases open_slice1 Try.underlying24 (by kernel_rfl) hf with ⟨hcs, hx⟩ | ⟨a, len', cap', m, n, V, D, Pl, hcs, _, hl, hm, hmm, hx, hi⟩
  · simp [Value.cells] at hcs
    obtain ⟨rfl, rfl, rfl⟩ := hcs
    exact ⟨none, 0, [], rfl, Nat.zero_le _, fun i hi => absurd hi (by simp), Nat.le_refl _⟩
  · simp [Value.cells] at hcs
    obtain ⟨rfl, rfl, rfl⟩ := hcs
    have hlm : len ≤ m := by rw [hmm]; split <;> omega
    refine ⟨some a, cap, (List.range len).map fun i => strOf (V i), by simp, by simp; omega, fun i hi2 => ?_, by simp; omega⟩
    have hil : i < len := by simpa using hi2
    obtain ⟨g, off, spot⟩ := a
    obtain ⟨z0, _⟩ := hi 0 (by omega)
    have hspot : spot = none := by simpa [Addr.add] using World.cell?_spot z0
    subst hspot
    obtain ⟨k0, t0⟩ := hi i (by omega)
    obtain ⟨s0, e0, _, _⟩ := DataW.trod_string Try.underlying9 t0
    rw [add_plain] at k0
    simp at e0
    refine ⟨g, off, rfl, ?_⟩
    rw [k0, e0]; simp [strOf, e0]
end
section
open Go.RowKit Go.ChangeShapes Go.WideShapes Go.Deep
/-- a value that is the list of strings V -/
def SsV (w : World) (v : Value) (V : List ByteArray) : Prop := ∃ b c, v = .slice b V.length c ∧ Ss w b V ∧ V.length ≤ c
theorem SsV.below {w w' : World} {v : Value} {V : List ByteArray} (h : SsV w v V) (hb : Below w.heap.size w w') : SsV w' v V := by
  obtain ⟨b, c, e, hs, hc⟩ := h
  exact ⟨b, c, e, hs.below hb, hc⟩
def Axs (w : World) (a : Option Addr) (L : List AX) : Prop :=
  ∀ i (h : i < L.length), ∃ g off v, a = some ⟨g, off, none⟩ ∧ w.cell? ⟨g, off + i * 2, none⟩ = some (.string L[i].1) ∧ w.cell? ⟨g, off + i * 2 + 1, none⟩ = some v ∧ SsV w v L[i].2
theorem Axs.below {w w' : World} {a : Option Addr} {L : List AX} (h : Axs w a L) (hb : Below w.heap.size w w') : Axs w' a L := fun i hi => by
  obtain ⟨g, off, v, e, c0, c1, hs⟩ := h i hi
  exact ⟨g, off, v, e, (hb.cell (cell_lt c0)).trans c0, (hb.cell (cell_lt c1)).trans c1, hs.below hb⟩
end
section
open Go.RowKit
set_option maxHeartbeats 800000 in
theorem slEqual_any (a b : Option Addr) (ca cb : Nat) (K L : List ByteArray) (w : World) (hk : K.length ≤ 65536) (hl : L.length ≤ 65536) (hK : Box (Ss w a K)) (hL : Box (Ss w b L)) :
    Calls Try.prog 36 #[.slice a K.length ca, .slice b L.length cb] w fun e w' => e = .returned (.bool (decide (K = L))) ∧ Below w.heap.size w w' := by
  by_cases hn : K.length = L.length
  · have HN := box hn
    have hne : ((K.length : Int) != (L.length : Int)) = false := by simp [hn]
    clear hn
    go_enter Try.func36, Try.ntmps36
    go_wp2
    go_loopw [13] (fun i wr => ∃ k : Nat, k ≤ K.length ∧ i = .int .i64 k ∧ K.take k = L.take k ∧ Below w.heap.size w wr) (fun i _ => K.length - (intOf i).toNat)
    case atStart => exact ⟨0, Nat.zero_le _, rfl, rfl, Below.refl _ _⟩
    case round =>
      obtain ⟨k, hk2, rfl, hall, hbel⟩ := hrel
      have HA := box hall
      clear hall
      by_cases hlt : k < K.length
      · have hlt2 : k < L.length := by rw [← HN.out]; exact hlt
        obtain ⟨q, off, rfl, c0⟩ := (hK.out.below hbel) k hlt
        obtain ⟨r, off2, rfl, d0⟩ := (hL.out.below hbel) k hlt2
        go_wp2
        go_quiet (fail)
        go_wp2
        · have h : (!K[k].toList == L[k].toList) = true := by assumption
          go_ret
          have hne2 : K[k] ≠ L[k] := fun e => by rw [e] at h; simp at h
          exact ⟨ret_bool (decide_eq_false (not_same hlt hlt2 hne2)).symm, hbel.trans ((below_drewN _ _).mono hbel.size)⟩
        · have h : (!K[k].toList == L[k].toList) = false := by assumption
          have e : K[k] = L[k] := str_eq (by simpa using h)
          have E := box e
          clear e h
          go_roundw
          case rel => exact ⟨k + 1, by omega, by go_num, take_same hlt hlt2 HA.out E.out, hbel.trans ((below_drewN _ _).mono hbel.size)⟩
          case measure => simp [intOf]; omega
      · have e : k = K.length := by omega
        have E : Box (K = L) := box (by
          have h := HA.out
          subst e
          rw [List.take_length, HN.out, List.take_length] at h
          exact h)
        clear e
        go_wp2
        go_ret
        exact ⟨ret_bool (decide_eq_true E.out).symm, hbel⟩
  · have hne : ((K.length : Int) != (L.length : Int)) = true := by simp; omega
    have HN := box hn
    clear hn
    go_enter Try.func36, Try.ntmps36
    go_wp2
    go_ret
    exact ⟨ret_bool (decide_eq_false (fun e => HN.out (by rw [e]))).symm, Below.refl _ _⟩
end
section
open Go.RowKit
theorem mGet19_is {a : Option Addr} {cap n : Nat} {L : List F} {nm : ByteArray} {w : World} (S : Box (Sm L)) (M : nm.size ≤ 65536) (hF : Fs w a L) (h : Box ((getL nm L).length = n)) :
    Calls Try.prog 39 #[.slice a L.length cap, .string nm] w fun e w' => ∃ p c, e = .returned (.slice p n c) ∧ n ≤ c ∧ Ss w' p (getL nm L) ∧ Below w.heap.size w w' :=
  (Get_any a cap L nm w S.out.1 S (box M) (box hF)).mono fun e w' ⟨v, h1, h2, h3⟩ => by
    obtain ⟨p, c, rfl, h4, h5⟩ := h2.ss
    rw [h.out] at h1 h5
    exact ⟨p, c, h1, h5, h4, h3⟩
theorem mAll19_is {a : Option Addr} {cap n : Nat} {L : List F} {nm : ByteArray} {w : World} (S : Box (Sm L)) (hv : Box (∀ x ∈ getL nm L, x.size ≤ 65000)) (M : nm.size ≤ 65536) (hF : Fs w a L) (h : Box ((allB nm L).length = n)) :
    Calls Try.prog 24 #[.slice a L.length cap, .string nm] w fun e w' => ∃ p c, e = .returned (.slice p n c) ∧ n ≤ c ∧ Ss w' p (allB nm L) ∧ Below w.heap.size w w' :=
  (mAll_any a cap L nm w S hv (box M) (box hF)).mono fun e w' ⟨v, h1, h2, h3⟩ => by
    obtain ⟨p, c, rfl, h4, h5⟩ := h2.ss
    rw [h.out] at h1 h5
    exact ⟨p, c, h1, h5, h4, h3⟩
theorem mJoin19_is {a : Option Addr} {cap n : Nat} {L : List ByteArray} {x : ByteArray} {w : World} (hl : n ≤ 65536) (hc : n ≤ cap) (hz : Box (∀ x ∈ L, x.size ≤ 65000)) (hF : Ss w a L) (h : Box (L.length = n)) (hx : Box (joinB L = x)) :
    Calls Try.prog 48 #[.slice a n cap] w fun e w' => e = .returned (.string x) ∧ Below w.heap.size w w' := by
  have := mJoin_any a cap L w (by rw [h.out]; exact hl) (by rw [h.out]; exact hc) (box fun x hx => Nat.le_trans (hz.out x hx) (by omega)) (box hF)
  rw [h.out, hx.out] at this; exact this
theorem mKind19_is {n : ByteArray} {k : Int} {w : World} (hn : n.size ≤ 65536) (h : Box (kindN n = k)) :
    Calls Try.prog 47 #[.string n] w fun e w' => e = .returned (.int .i64 k) ∧ Below w.heap.size w w' :=
  (mKind_any n w hn).mono fun e w' ⟨h1, h2⟩ => ⟨by rw [h1, h.out], h2⟩
theorem mLow19_is {s x : ByteArray} {w : World} (hs : s.size ≤ 4260000000) (h : Box (bs (lowL s.data.toList) = x)) :
    Calls Try.prog 27 #[.string s] w fun e w' => e = .returned (.string x) ∧ Below w.heap.size w w' :=
  (Lower_any s w (by omega)).mono fun e w' ⟨h1, h2⟩ => ⟨by rw [h1, ← h.out]; rfl, h2⟩
theorem complete_yes {a : Option Addr} {cap n : Nat} {w : World} (h : n < 64) :
    Calls Try.prog 25 #[.slice a n cap] w fun e w' => e = .returned (.bool true) ∧ w = w' := by
  have hmi : (n : Int) < 64 := by omega
  go_enter Try.func25, Try.ntmps25
  go_wp2
  go_ret
  exact ⟨ret_bool (by simp), rfl⟩
theorem complete_no {a : Option Addr} {cap n : Nat} {w : World} (h : ¬ n < 64) :
    Calls Try.prog 25 #[.slice a n cap] w fun e w' => e = .returned (.bool false) ∧ w = w' := by
  have hmi : ¬ (n : Int) < 64 := by omega
  go_enter Try.func25, Try.ntmps25
  go_wp2
  go_ret
  exact ⟨ret_bool (by simp), rfl⟩
/-- the text behind '=' -/
def TextY (nm : ByteArray) (L : List F) (t : ByteArray) : Prop := t.size ≤ 4260000000 ∧ bs (valueY nm L) = ⟨#[61]⟩ ++ t
set_option maxHeartbeats 1600000 in
theorem fieldText_any (nm : ByteArray) (a : Option Addr) (cap : Nat) (L : List F) (w : World) (S : Box (Sm L)) (hv : Box (∀ x ∈ getL nm L, x.size ≤ 65000)) (M : nm.size ≤ 65536) (hF : Box (Fs w a L)) (hne : Box (getL nm L ≠ [])) :
    Calls Try.prog 32 #[.string nm, .slice a L.length cap] w fun e w' => ∃ t, e = .returned (.string t) ∧ TextY nm L t ∧ Below w.heap.size w w' := by
  obtain ⟨n, hn⟩ : ∃ n, (getL nm L).length = n := ⟨_, rfl⟩
  have HN := box hn
  have hn6 : n ≤ 65536 := by rw [← hn]; unfold getL; rw [List.length_map]; exact Nat.le_trans (List.length_filter_le _ _) S.out.1
  obtain ⟨x, hx⟩ : ∃ x, valsB nm L = x := ⟨_, rfl⟩
  have HX : Box (joinB (getL nm L) = x) := box hx
  have hxz : Box (x.size ≤ 4260000000) := box (by rw [← hx]; exact valsB_size (by rw [hn]; exact hn6) hv.out)
  obtain ⟨k, hk⟩ : ∃ k, kindN nm = k := ⟨_, rfl⟩
  have HK := box hk
  by_cases hk0 : k = 0
  · have HV : Box (TextY nm L x) := box ⟨hxz.out, valueY_kind hne.out (by rw [hk]; exact hk0) hx⟩
    have hkb : (k != 0) = false := by simp [hk0]
    clear hn hx hk hk0
    go_enter Try.func32, Try.ntmps32
    go_wp2_with fail
    refine (mKind19_is M HK).mono ?_; rintro e w1 ⟨rfl, hb⟩
    have B1 := box hb
    clear hb
    go_wp2_with fail
    refine (mGet19_is S M (hF.out.below B1.out) HN).mono ?_; rintro e w2 ⟨p, c, rfl, hc, hS, hb2⟩
    have S2 := box hS
    have B2 := box (B1.out.trans (hb2.mono B1.out.size))
    clear hb2 hS
    go_wp2_with fail
    refine (mJoin19_is hn6 hc hv S2.out HN HX).mono ?_; rintro e w3 ⟨rfl, hb3⟩
    have B3 := box (B2.out.trans (hb3.mono B2.out.size))
    clear hb3
    go_wp2
    go_ret
    exact ⟨_, rfl, HV.out, B3.out⟩
  · have hkb : (k != 0) = true := by simp [hk0]
    obtain ⟨m, hm⟩ : ∃ m, (allB nm L).length = m := ⟨_, rfl⟩
    have HM := box hm
    have hm6 : m ≤ 64 := by rw [← hm]; exact allB_len19
    by_cases hm0 : m < 64
    · obtain ⟨y, hy⟩ : ∃ y, memsB nm L = y := ⟨_, rfl⟩
      have HY : Box (joinB (allB nm L) = y) := box hy
      have hyz : y.size ≤ 4260000000 := by rw [← hy]; exact memsB_size hv.out
      obtain ⟨z, hz⟩ : ∃ z, bs (lowL y.data.toList) = z := ⟨_, rfl⟩
      have HZ := box hz
      have HA := box (allB_mem19 hv.out)
      have HV : Box (TextY nm L z) := box ⟨by rw [← hz, low_size19]; exact hyz, valueY_mem hne.out (by rw [hk]; exact hk0) (by rw [hm]; exact hm0) (by rw [hy]; exact hz)⟩
      clear hn hx hk hk0 hm hy hz
      go_enter Try.func32, Try.ntmps32
      go_wp2_with fail
      refine (mKind19_is M HK).mono ?_; rintro e w1 ⟨rfl, hb⟩
      have B1 := box hb
      clear hb
      go_wp2_with fail
      refine (mAll19_is S hv M (hF.out.below B1.out) HM).mono ?_; rintro e w3 ⟨p3, c3, rfl, hc3, hS3, hb3⟩
      have B3 := box (B1.out.trans (hb3.mono B1.out.size))
      have S3 := box hS3
      clear hb3 hS3
      go_wp2_with fail
      refine (complete_yes hm0).mono ?_; rintro e w4 ⟨rfl, rfl⟩
      go_wp2_with fail
      refine (mJoin19_is (by omega) hc3 HA S3.out HM HY).mono ?_; rintro e w4 ⟨rfl, hb4⟩
      have B4 := box (B3.out.trans (hb4.mono B3.out.size))
      clear hb4
      go_wp2_with fail
      refine (mLow19_is hyz HZ).mono ?_; rintro e w5 ⟨rfl, hb5⟩
      have B5 := box (B4.out.trans (hb5.mono B4.out.size))
      clear hb5
      go_wp2
      go_ret
      exact ⟨_, rfl, HV.out, B5.out⟩
    · have HV : Box (TextY nm L x) := box ⟨hxz.out, valueY_long hne.out (by rw [hm]; exact hm0) hx⟩
      clear hn hx hk hk0 hm
      go_enter Try.func32, Try.ntmps32
      go_wp2_with fail
      refine (mKind19_is M HK).mono ?_; rintro e w1 ⟨rfl, hb⟩
      have B1 := box hb
      clear hb
      go_wp2_with fail
      refine (mAll19_is S hv M (hF.out.below B1.out) HM).mono ?_; rintro e w3 ⟨p3, c3, rfl, hc3, hS3, hb3⟩
      have B3 := box (B1.out.trans (hb3.mono B1.out.size))
      clear hb3 hS3
      go_wp2_with fail
      refine (complete_no hm0).mono ?_; rintro e w4 ⟨rfl, rfl⟩
      go_wp2_with fail
      refine (mGet19_is S M (hF.out.below B3.out) HN).mono ?_; rintro e w4 ⟨p, c, rfl, hc, hS, hb4⟩
      have S4 := box hS
      have B4 := box (B3.out.trans (hb4.mono B3.out.size))
      clear hb4 hS
      go_wp2_with fail
      refine (mJoin19_is hn6 hc hv S4.out HN HX).mono ?_; rintro e w5 ⟨rfl, hb5⟩
      have B5 := box (B4.out.trans (hb5.mono B4.out.size))
      clear hb5
      go_wp2
      go_ret
      exact ⟨_, rfl, HV.out, B5.out⟩
theorem Has19_is {a : Option Addr} {cap : Nat} {L : List F} {nm : ByteArray} {q : Bool} {w : World} (S : Box (Sm L)) (M : nm.size ≤ 65536) (hF : Fs w a L) (h : Box (L.any (nmd nm) = q)) :
    Calls Try.prog 31 #[.slice a L.length cap, .string nm] w fun e w' => e = .returned (.bool q) ∧ Below w.heap.size w w' :=
  (Has_any a cap L nm w S.out.1 S (box M) (box hF)).mono fun e w' ⟨h1, h2⟩ => ⟨by rw [h1, h.out], h2⟩
set_option maxHeartbeats 1600000 in
theorem mValY_any (nm : ByteArray) (a : Option Addr) (cap : Nat) (L : List F) (w : World) (S : Box (Sm L)) (hv : Box (∀ x ∈ getL nm L, x.size ≤ 65000)) (M : nm.size ≤ 65536) (hF : Box (Fs w a L)) :
    Calls Try.prog 13 #[.string nm, .slice a L.length cap] w fun e w' => e = .returned (.string (bs (valueY nm L))) ∧ Below w.heap.size w w' := by
  by_cases h0 : getL nm L = []
  · have HV : Box (bs (valueY nm L) = ⟨#[]⟩) := box (valueY_none19 h0)
    have HH : Box (L.any (nmd nm) = false) := box (by rw [getL_any]; exact decide_eq_false (fun e => e h0))
    rw [HV.out]
    clear h0
    go_enter Try.func13, Try.ntmps13
    go_wp2_with fail
    refine (Has19_is S M hF.out HH).mono ?_; rintro e w1 ⟨rfl, hb⟩
    have B1 := box hb
    clear hb
    go_wp2
    go_ret
    exact ⟨rfl, B1.out⟩
  · have HE := box h0
    have HH : Box (L.any (nmd nm) = true) := box (by rw [getL_any]; exact decide_eq_true h0)
    clear h0
    go_enter Try.func13, Try.ntmps13
    go_wp2_with fail
    refine (Has19_is S M hF.out HH).mono ?_; rintro e w1 ⟨rfl, hb⟩
    have B1 := box hb
    clear hb
    go_wp2_with fail
    refine (fieldText_any nm a cap L _ S hv M (box (hF.out.below B1.out)) HE).mono ?_; rintro e w2 ⟨t, rfl, hT, hb2⟩
    have B2 := box (B1.out.trans (hb2.mono B1.out.size))
    have ax := add61 t hT.1
    have HV := box hT.2
    clear hb2 hT
    go_wp2
    go_ret
    exact ⟨by rw [HV.out]; rfl, B2.out⟩
set_option maxHeartbeats 1600000 in
theorem mSnap_any (a b : Option Addr) (ca cb : Nat) (N : List ByteArray) (L : List F) (w : World) (S : Box (Sm L)) (hv : Box (∀ n : ByteArray, ∀ x ∈ getL n L, x.size ≤ 65000)) (hnl : N.length ≤ 65536) (hN : Box (∀ i (hi : i < N.length), N[i].size ≤ 65536)) (hS : Box (Ss w a N)) (hF : Box (Fs w b L)) :
    Calls Try.prog 15 #[.slice a N.length ca, .slice b L.length cb] w fun e w' => OwnY w (snapY N L) e w' := by
  go_enter Try.func15, Try.ntmps15
  go_wp2
  go_loopw [5, 10] (fun v i wr => SnRel N L w v i wr) (fun _ i _ => N.length - (intOf i).toNat)
  case atStart => exact ⟨0, rfl, Nat.zero_le _, OwnS.nil _ _, Below.refl _ _⟩
  case round =>
    obtain ⟨k, rfl, hk, hO, hb⟩ := hrel
    have O := box hO
    have BL := box hb
    have hs0 := hb.size
    clear hO hb
    by_cases hlt : k < N.length
    · have hli : (k : Int) < (N.length : Int) := by omega
      have hk0 : (0 : Int) ≤ (k : Int) := by omega
      obtain ⟨x, hx⟩ : ∃ x, N[k] = x := ⟨_, rfl⟩
      have hxz : x.size ≤ 65536 := by rw [← hx]; exact hN.out k hlt
      obtain ⟨g, off, rfl, c0⟩ := (hS.out.below BL.out) k hlt
      rw [hx] at c0
      have HX : Box (snapY (N.take (k + 1)) L = snapY (N.take k) L ++ [bs (valueY x L)]) := box (by rw [snap_more hlt, hx])
      have HL : Box ((snapY (N.take k) L).length ≤ 65536) := box (by rw [snap_len, List.length_take]; omega)
      clear hx
      go_wp2_with fail
      refine (mValY_any x b cb L _ S (box (hv.out x)) hxz (box (hF.out.below BL.out))).mono ?_; rintro e w1 ⟨rfl, hb1⟩
      have O1 := box (own_below O.out hb1)
      have BL1 := box (BL.out.trans (hb1.mono BL.out.size))
      have hs1 := BL1.out.size
      clear hb1 c0
      go_wp2_with (at_builtin; refine wpList_append_str _ rfl (.tmp 14) (.tmp 18) rfl w.heap.size _ (snapY (N.take k) L) rfl ?a1 _ _ rfl (bs (valueY x L)) ?b1 ?c1 ?d1 ?_)
      case a1 => exact own_below O1.out (below_new _ _)
      case b1 => go_simp
      case c1 => exact HL.out
      case d1 => simp; omega
      intro v2 w2 hO2 hb2
      have O2 := box hO2
      clear hO2
      go_wp2
      go_roundw
      case rel => exact ⟨k + 1, by go_num, by omega, by rw [HX.out]; exact O2.out, (BL1.out.alloc BL1.out.size _).trans hb2⟩
      case measure => simp [intOf]; omega
    · have HE : Box (snapY (N.take k) L = snapY N L) := box (by rw [List.take_of_length_le (by omega)])
      go_wp2
      go_ret
      exact ⟨_, rfl, by rw [← HE.out]; exact O.out, BL.out⟩
theorem mSnap_is {a b : Option Addr} {ca cb n : Nat} {N : List ByteArray} {L : List F} {w : World} (S : Box (Sm L)) (hv : Box (∀ n : ByteArray, ∀ x ∈ getL n L, x.size ≤ 65000)) (hnl : n ≤ 65536) (hN : Box (∀ i (hi : i < N.length), N[i].size ≤ 65536)) (hS : Ss w a N) (hF : Fs w b L) (h : Box (N.length = n)) :
    Calls Try.prog 15 #[.slice a n ca, .slice b L.length cb] w fun e w' => ∃ p c, e = .returned (.slice p n c) ∧ Ss w' p (snapY N L) ∧ Below w.heap.size w w' := by
  have := mSnap_any a b ca cb N L w S hv (by rw [h.out]; exact hnl) hN (box hS) (box hF)
  rw [h.out] at this
  exact this.mono fun e w' ⟨v, h1, h2, h3⟩ => by
    obtain ⟨p, c, rfl, h4, _⟩ := h2.ss
    rw [snap_len, h.out] at h1
    exact ⟨p, c, h1, h4, h3⟩
theorem mEq19_is {a b : Option Addr} {ca cb n m : Nat} {K L : List ByteArray} {q : Bool} {w : World} (hk : n ≤ 65536) (hl : m ≤ 65536) (hK : Ss w a K) (hL : Ss w b L) (h1 : Box (K.length = n)) (h2 : Box (L.length = m)) (h : Box (decide (K = L) = q)) :
    Calls Try.prog 36 #[.slice a n ca, .slice b m cb] w fun e w' => e = .returned (.bool q) ∧ Below w.heap.size w w' := by
  have := slEqual_any a b ca cb K L w (by rw [h1.out]; exact hk) (by rw [h2.out]; exact hl) (box hK) (box hL)
  rw [h1.out, h2.out, h.out] at this; exact this
theorem match_eq19 (N T : List ByteArray) (L : List F) : decide (snapY N L = T) = matchY N T L := by
  unfold matchY
  by_cases h : snapY N L = T
  · rw [decide_eq_true h, decide_eq_true (show N.length = T.length by rw [← h, snap_len])]; rfl
  · rw [decide_eq_false h, Bool.and_false]
set_option maxHeartbeats 1600000 in
theorem mMatch19_any (a b d : Option Addr) (ca cb cd n m : Nat) (N T : List ByteArray) (L : List F) (q : Bool) (w : World) (S : Box (Sm L)) (hv : Box (∀ n : ByteArray, ∀ x ∈ getL n L, x.size ≤ 65000)) (hnl : n ≤ 65536) (htl : m ≤ 65536) (hN : Box (∀ i (hi : i < N.length), N[i].size ≤ 65536)) (hS : Box (Ss w a N)) (hT : Box (Ss w d T)) (hF : Box (Fs w b L)) (h1 : Box (N.length = n)) (h2 : Box (T.length = m)) (hq : Box (matchY N T L = q)) :
    Calls Try.prog 17 #[.slice a n ca, .slice d m cd, .slice b L.length cb] w fun e w' => e = .returned (.bool q) ∧ Below w.heap.size w w' := by
  have HQ : Box (decide (snapY N L = T) = q) := box (by rw [match_eq19]; exact hq.out)
  have HL : Box ((snapY N L).length = n) := box (by rw [snap_len]; exact h1.out)
  go_enter Try.func17, Try.ntmps17
  go_wp2_with fail
  refine (mSnap_is S hv hnl hN hS.out hF.out h1).mono ?_; rintro e w1 ⟨p, c, rfl, hS1, hb1⟩
  have B1 := box hb1
  have S1 := box hS1
  have T1 := box (hT.out.below hb1)
  clear hS1 hb1
  go_wp2_with fail
  refine (mEq19_is hnl htl S1.out T1.out HL h2 HQ).mono ?_; rintro e w2 ⟨rfl, hb2⟩
  have B2 := box (B1.out.trans (hb2.mono B1.out.size))
  clear hb2
  go_wp2
  go_ret
  exact ⟨rfl, B2.out⟩
end
section
open Go.RowKit
def SrcS (w : World) (u : Value) (M : List ByteArray) : Prop := (u = .slice none 0 0 ∧ M = []) ∨ ∃ p c, u = .slice (some p) M.length c ∧ Ss w (some p) M
theorem SrcS.below {w w' : World} {u : Value} {M : List ByteArray} (h : SrcS w u M) (hb : Below w.heap.size w w') : SrcS w' u M := by
  rcases h with h | ⟨p, c, e, h⟩
  · exact .inl h
  · exact .inr ⟨p, c, e, h.below hb⟩
theorem src_hi {w : World} {B n cap k : Nat} {a : Option Addr} {L : List ByteArray} (h : OwnS w B (.slice a n cap) L) (hn : L.length = n) (hk : k ≤ n) : SrcS w (.slice a k cap) (L.take k) := by
  obtain ⟨a2, c2, e, hs, _⟩ := h.ss
  injection e with e1 e2 e3
  subst e1; subst e3
  rcases h.2 with ⟨hv, h0⟩ | ⟨g, cap2, cur, hv, _⟩
  · injection hv with e1 e2 e3
    subst e1; subst e3
    have : k = 0 := by omega
    subst this
    exact .inl ⟨rfl, rfl⟩
  · injection hv with e1 e2 e3
    subst e1
    refine .inr ⟨_, cap, by rw [List.length_take, Nat.min_eq_left (by omega)], fun i hi => ?_⟩
    rw [List.length_take] at hi
    obtain ⟨g2, off, e, c0⟩ := hs i (by omega)
    exact ⟨g2, off, e, by rw [List.getElem_take]; exact c0⟩
theorem src_lo {w : World} {B n cap k : Nat} {a : Option Addr} {L : List ByteArray} (h : OwnS w B (.slice a n cap) L) (hn : L.length = n) (hk : k ≤ n) :
    SrcS w (.slice (if cap = k then a else a.map (·.add k)) (n - k) (cap - k)) (L.drop k) := by
  obtain ⟨a2, c2, e, hs, hc⟩ := h.ss
  injection e with e1 e2 e3
  subst e1; subst e3
  rcases h.2 with ⟨hv, h0⟩ | ⟨g, cap2, cur, hv, _⟩
  · injection hv with e1 e2 e3
    subst e1; subst e3
    have : k = 0 := by omega
    subst this
    have hL : L = [] := List.length_eq_zero_iff.1 (by omega)
    exact .inl ⟨by simp; omega, by rw [hL]; rfl⟩
  · injection hv with e1 e2 e3
    subst e1
    by_cases h1 : cap = k
    · have hL : L.drop k = [] := List.drop_eq_nil_of_le (by omega)
      rw [if_pos h1, hL]
      exact .inr ⟨_, _, by rw [show n - k = 0 by omega]; rfl, fun i hi => absurd hi (Nat.not_lt_zero _)⟩
    · rw [if_neg h1]
      refine .inr ⟨⟨g, 0 + k, none⟩, cap - k, ?_, ?_⟩
      · rw [List.length_drop, hn, Option.map_some, Addr.add_lit]
      · intro i hi
        rw [List.length_drop] at hi
        obtain ⟨g2, off, e, c0⟩ := hs (k + i) (by omega)
        injection e with e
        injection e with e4 e5 e6
        subst e4; subst e5
        refine ⟨g, 0 + k, rfl, ?_⟩
        rw [List.getElem_drop, Nat.add_assoc]; exact c0
section
variable {ops : Array Oper} {rest : List Oper} {o : Oper} {a : Act} {K : Act → World → Prop} {Q : Exit → Act → World → Prop} {E : Prop}
theorem wp_append_src (w : World) (s x : Operand)
    (ho : o.op = .call { callee := .builtin .append, args := #[s, x], argTypes := #[24, 24] })
    (B : Nat) (v : Value) (L : List ByteArray) (hs : a.eval s = v) (hown : OwnS w B v L)
    (u : Value) (M : List ByteArray) (hx : a.eval x = u) (hM : SrcS w u M) (hl : L.length ≤ 65536) (hl2 : M.length ≤ 65536) (hB : B ≤ w.heap.size)
    (h : ∀ v' w', OwnS w' B v' (L ++ M) → Below B w w' → K (a.put o.dst v') w') : o.wp Try.prog a w K Q := by
  obtain ⟨i0, hi0, hz0, hz1, hz2⟩ := info_parts info_str
  rcases hM with ⟨rfl, hM0⟩ | ⟨p, c, rfl, hss⟩
  · have hrun := run_append_owned_none (P := Try.prog) (w := w) B 24 o.type 9 i0 1 Try.underlying24 hi0 v L.length (L.map Value.string) hown
    have hK := h v w (by rw [hM0, List.append_nil]; exact hown) (Below.refl _ _)
    unfold Oper.wp
    simp [execOp, ho, resolve, invoke, builtin, hs, hx, hrun, Result.andThen]
    exact hK
  · refine wp_append_own (P := Try.prog) w s x 24 ho B 9 i0 _ 1 16 Try.underlying24 hi0 hz0 hz1 hz2 rfl (by decide) v L.length (L.map Value.string) hs hown p M.length c (M.map Value.string) hx (by simp) ?_ ?_ (by unfold maxLen; omega) (by omega) hB ?_
    · intro j y hj
      have hjl : j < M.length := by
        rcases Nat.lt_or_ge j M.length with q | q
        · exact q
        · rw [List.getElem?_eq_none (by simpa using q)] at hj; cases hj
      obtain ⟨g2, off, e, c0⟩ := hss j hjl
      cases e
      simp [hjl] at hj
      subst hj
      rw [Addr.add_lit]; exact c0
    · intro y hy
      obtain ⟨z, _, rfl⟩ := List.mem_map.1 hy
      rfl
    · intro v' w' q1 q2 _
      exact h v' w' (by simpa [OwnS] using q1) ((Below.refl _ _).grown q2 hB (fun k hk => own_block hown k hk))
theorem wpList_append_src (w : World) (hgd : o.guard = none) (s x : Operand)
    (ho : o.op = .call { callee := .builtin .append, args := #[s, x], argTypes := #[24, 24] })
    (B : Nat) (v : Value) (L : List ByteArray) (hs : a.eval s = v) (hown : OwnS w B v L)
    (u : Value) (M : List ByteArray) (hx : a.eval x = u) (hM : SrcS w u M) (hl : L.length ≤ 65536) (hl2 : M.length ≤ 65536) (hB : B ≤ w.heap.size)
    (h : ∀ v' w', OwnS w' B v' (L ++ M) → Below B w w' → wpList Try.prog ops Q rest (a.put o.dst v') w') : wpList Try.prog ops Q (o :: rest) a w :=
  wpList_plain hgd fun _ hK => wp_append_src w s x ho B v L hs hown u M hx hM hl hl2 hB fun v' w' h1 h2 => hK _ _ (h v' w' h1 h2)
theorem step_append_src (w : World) (hgd : o.guard = none) (s x : Operand)
    (ho : o.op = .call { callee := .builtin .append, args := #[s, x], argTypes := #[24, 24] })
    (B : Nat) (v : Value) (L : List ByteArray) (hs : a.eval s = v) (hown : OwnS w B v L)
    (u : Value) (M : List ByteArray) (hx : a.eval x = u) (hM : SrcS w u M) (hl : L.length ≤ 65536) (hl2 : M.length ≤ 65536) (hB : B ≤ w.heap.size)
    (h : ∀ v' w', OwnS w' B v' (L ++ M) → Below B w w' → K (a.put o.dst v') w') :
    if Region.wanted o (yielded ops a.tmps) = true then Oper.wp Try.prog o a w K Q else E := by
  have hw : Region.wanted o (yielded ops a.tmps) = true := by simp [Region.wanted, hgd]
  rw [if_pos hw]
  exact wp_append_src w s x ho B v L hs hown u M hx hM hl hl2 hB h
end
/-- s[:k] -/
theorem run_hi19 {a : Option Addr} {n cap k : Nat} (hk : k ≤ cap) (w : World) : (Instr.slice 24 (.slice a n cap) none (some (.int .i64 (k : Int))) none).run Try.prog w = .ok (.slice a k cap) w := by
  obtain ⟨i0, hi0, hz0, hz1, hz2⟩ := info_parts info_str
  have hk0 : (0 : Int) ≤ (k : Int) := by omega
  have hk1 : (k : Int) ≤ (cap : Int) := by omega
  have hm : a.map (fun x => x.add 0) = a := by cases a <;> simp [Addr.add]
  simp [Instr.slice, Instr.sliceBounds, Instr.sliceBound, run_underlying Try.underlying24, sizeOf, typeInfo, hi0, hz1, asIntOf, hk, Result.andThen, hm]
/-- s[k:] -/
theorem run_lo19 {a : Option Addr} {n cap k : Nat} (hk : k ≤ n) (w : World) : (Instr.slice 24 (.slice a n cap) (some (.int .i64 (k : Int))) none none).run Try.prog w = .ok (.slice (if cap = k then a else a.map (·.add k)) (n - k) (cap - k)) w := by
  obtain ⟨i0, hi0, hz0, hz1, hz2⟩ := info_parts info_str
  have hk0 : (0 : Int) ≤ (k : Int) := by omega
  have hk1 : (k : Int) ≤ (n : Int) := by omega
  simp [Instr.slice, Instr.sliceBounds, Instr.sliceBound, run_underlying Try.underlying24, sizeOf, typeInfo, hi0, hz1, asIntOf, hk, Result.andThen]
end
section
theorem insU_same {x : BL} : ∀ {U : List BL} {j : Nat} (h : j < U.length), (∀ i (hi : i < U.length), i < j → U[i] < x) → U[j] = x → insU x U = U
  | y :: ys, 0, h, _, e => by
    have e' : y = x := e
    unfold insU
    rw [if_neg (by rw [e']; exact ltB_irrefl x), if_pos e']
  | y :: ys, j + 1, h, hl, e => by
    have h0 : y < x := hl 0 (Nat.zero_lt_succ _) (Nat.zero_lt_succ _)
    unfold insU
    rw [if_pos h0, insU_same (U := ys) (j := j) (by simpa using h) (fun i hi hij => hl (i + 1) (by simpa using hi) (by omega)) (by simpa using e)]
theorem insU_put {x : BL} : ∀ {U : List BL} {j : Nat}, j ≤ U.length → (∀ i (hi : i < U.length), i < j → U[i] < x) → (∀ h : j < U.length, ¬ U[j] < x ∧ U[j] ≠ x) → insU x U = U.take j ++ [x] ++ U.drop j
  | [], j, h, _, _ => by simp [insU]
  | y :: ys, 0, h, _, e => by
    have e' : ¬ y < x ∧ y ≠ x := e (Nat.zero_lt_succ _)
    unfold insU
    rw [if_neg e'.1, if_neg e'.2]; rfl
  | y :: ys, j + 1, h, hl, e => by
    have h0 : y < x := hl 0 (Nat.zero_lt_succ _) (Nat.zero_lt_succ _)
    unfold insU
    rw [if_pos h0, insU_put (U := ys) (j := j) (by simpa using h) (fun i hi hij => hl (i + 1) (by simpa using hi) (by omega)) (fun h => e (by simpa using h))]
    simp
def okM (m : BL) : Bool := tokL m && decide (m ≠ [42])
theorem okU_no {ms : List BL} {k : Nat} (h : k < ms.length) (e : okM ms[k] = false) : okU ms = false := by
  unfold okU
  have : (ms.all fun m => tokL m && decide (m ≠ [42])) = false := by
    rw [List.all_eq_false]
    exact ⟨ms[k], List.getElem_mem h, by have e' : (tokL ms[k] && decide (ms[k] ≠ [42])) = false := e; rw [e']; simp⟩
  rw [this, Bool.and_false]
theorem okU_long {ms : List BL} (h : ¬ ms.length < 64) : okU ms = false := by unfold okU; rw [decide_eq_false h, Bool.false_and]
theorem okM_more {ms : List BL} {k : Nat} (h : k < ms.length) (ha : (ms.take k).all okM = true) (e : okM ms[k] = true) : (ms.take (k + 1)).all okM = true := by
  rw [List.take_succ_eq_append_getElem h, List.all_append, ha, List.all_cons, e]; rfl
theorem okU_yes {ms : List BL} {k : Nat} (h : ms.length < 64) (hk : ms.length ≤ k) (ha : (ms.take k).all okM = true) : okU ms = true := by
  rw [List.take_of_length_le hk] at ha
  unfold okU
  rw [decide_eq_true h, Bool.true_and]; exact ha
/-- the names as strings -/
def namB (ms : List BL) : List ByteArray := (namesU ms).map bs
/-- 19.1: what is returned -/
def nmsB (L : List F) : List ByteArray := (namesV L).map bs
theorem nmsB_no {L : List F} (h : okU (allL nmVry L) = false) : nmsB L = [] := by unfold nmsB namesV; rw [h]; rfl
theorem nmsB_yes {L : List F} (h : okU (allL nmVry L) = true) : nmsB L = namB (allL nmVry L) := by unfold nmsB namesV namB; rw [h]; rfl
theorem namB_len (ms : List BL) : (namB ms).length ≤ ms.length := by unfold namB; rw [List.length_map]; exact namesU_len ms
theorem namB_at {ms : List BL} {i : Nat} (h : i < (namB ms).length) : (namB ms)[i].data.toList = (namesU ms)[i]'(by unfold namB at h; rwa [List.length_map] at h) := by
  simp only [namB, List.getElem_map]; rfl
/-- a name that stands there -/
theorem namB_same {ms : List BL} {k j : Nat} {R : List ByteArray} {x : ByteArray} (h : k < ms.length) (hR : namB (ms.take k) = R) (hx : bs (lowL ms[k]) = x) (hj : j < R.length)
    (hl : ∀ i (hi : i < R.length), i < j → R[i].data.toList < x.data.toList) (e : R[j] = x) : namB (ms.take (k + 1)) = R := by
  subst hR; subst hx
  have hn : ∀ {i}, i < (namesU (ms.take k)).length → i < (namB (ms.take k)).length := fun q => by unfold namB; rwa [List.length_map]
  have hj' : j < (namesU (ms.take k)).length := by unfold namB at hj; rwa [List.length_map] at hj
  unfold namB
  rw [namesU_next h, insU_same hj' (fun i hi hij => by
    have := hl i (hn hi) hij
    rw [namB_at] at this; exact this) (by
    have := congrArg (fun b : ByteArray => b.data.toList) e
    rw [namB_at hj] at this; exact this)]
theorem namB_put {ms : List BL} {k j : Nat} {R : List ByteArray} {x : ByteArray} (h : k < ms.length) (hR : namB (ms.take k) = R) (hx : bs (lowL ms[k]) = x) (hj : j ≤ R.length)
    (hl : ∀ i (hi : i < R.length), i < j → R[i].data.toList < x.data.toList) (e : ∀ hi : j < R.length, ¬ R[j].data.toList < x.data.toList ∧ R[j] ≠ x) : namB (ms.take (k + 1)) = R.take j ++ [x] ++ R.drop j := by
  subst hR; subst hx
  have hn : ∀ {i}, i < (namesU (ms.take k)).length → i < (namB (ms.take k)).length := fun q => by unfold namB; rwa [List.length_map]
  have hj' : j ≤ (namesU (ms.take k)).length := by unfold namB at hj; rwa [List.length_map] at hj
  unfold namB
  rw [namesU_next h, insU_put hj' (fun i hi hij => by
    have := hl i (hn hi) hij
    rw [namB_at] at this; exact this) (fun hi => by
    obtain ⟨e1, e2⟩ := e (hn hi)
    refine ⟨by rw [namB_at] at e1; exact e1, fun q => e2 ?_⟩
    apply ByteArray.ext
    apply Array.ext'
    have := namB_at (hn hi)
    rw [this, q]; rfl)]
  simp [namB]
end
end Go.Proofs.Ytlhcccakiidbdaa.Asc
