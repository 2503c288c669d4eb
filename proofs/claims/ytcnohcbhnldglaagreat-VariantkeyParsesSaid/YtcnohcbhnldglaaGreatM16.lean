/- Merged texts: VarPars VarRef9 LisMine VarFmtM KeyMine. -/
import Derived.Test.YtcnohcbhnldglaaGreatM03
import Derived.Test.YtcnohcbhnldglaaGreatM04
import Derived.Test.YtcnohcbhnldglaaGreatM05
import Derived.Test.YtcnohcbhnldglaaGreatM11
import Derived.Test.YtcnohcbhnldglaaGreatM12
import Derived.Test.YtcnohcbhnldglaaGreatM13
import Derived.Test.YtcnohcbhnldglaaGreatM14
import Derived.Test.YtcnohcbhnldglaaGreatM15
set_option linter.unusedVariables false
set_option linter.unusedSimpArgs false
set_option maxRecDepth 100000
namespace Go.Proofs.YtcnohcbhnldglaaGreat.Asc
section
open Go.RowKit
theorem grpParse_none {s : ByteArray} {w : World} (hs : s.size ≤ 65000) (h : Box (valuesL s.data.toList = none)) :
    Calls Tryz.prog 22 #[.string s] w fun e w' => e = .returned (.tuple #[.slice none 0 0, .bool false]) ∧ Below w.heap.size w w' := by
  refine (grpParse_any s w hs).mono ?_
  rintro e w' ⟨v, rfl, hO, hb, hn⟩
  rw [hn h.out, h.out]
  exact ⟨rfl, hb⟩
theorem grpParse_some {s : ByteArray} {X : List (List UInt8)} {w : World} (hs : s.size ≤ 65000) (h : Box (valuesL s.data.toList = some X)) :
    Calls Tryz.prog 22 #[.string s] w fun e w' => ∃ a c, e = .returned (.tuple #[.slice a X.length c, .bool true]) ∧ OwnS w' w.heap.size (.slice a X.length c) (X.map bs) ∧ Below w.heap.size w w' := by
  refine (grpParse_any s w hs).mono ?_
  rintro e w' ⟨v, rfl, hO, hb, _⟩
  rw [h.out] at hO ⊢
  obtain ⟨a, c, rfl, _, _⟩ := OwnS.ss (L := X.map bs) hO
  rw [List.length_map] at hO ⊢
  exact ⟨a, c, rfl, hO, hb⟩
end
section
open Go.RowKit
def fitX (L : List AX) : Prop := ∀ i (hi : i < L.length), fitA L[i]
theorem fitX.small {L : List AX} (h : fitX L) : smallA L := fun i hi => by
  obtain ⟨h1, h2, h3⟩ := h i hi
  exact ⟨by omega, by omega, fun j hj => by have := h3 _ (List.getElem_mem hj); omega⟩
end
section
open Go.RowKit
theorem sJoin_any (a : Option Addr) (cap : Nat) (L : List ByteArray) (w : World) (hl : L.length ≤ 65536) (hc : L.length ≤ cap) (hz : Box (∀ x ∈ L, x.size ≤ 65536)) (hF : Box (Ss w a L)) :
    Calls Tryz.prog 54 #[.slice a L.length cap, .string ⟨#[44, 32]⟩] w fun e w' => e = .returned (.string (joinB L)) ∧ Below w.heap.size w w' := by
  match L, hl, hc, hz, hF with
  | [], _, _, _, _ => exact (Join0_any a cap w).mono fun e w' ⟨h1, h2⟩ => ⟨h1, h2 ▸ Below.refl _ _⟩
  | [x], _, _, _, hF =>
    obtain ⟨q, off, rfl, c0⟩ := hF.out 0 (Nat.zero_lt_succ 0)
    exact (Join1_any q off cap x w c0).mono fun e w' ⟨h1, h2⟩ => ⟨h1, h2 ▸ Below.refl _ _⟩
  | x :: y :: r, hl, hc, hz, hF =>
    obtain ⟨q, off, rfl, c0⟩ := hF.out 0 (Nat.zero_lt_succ _)
    exact JoinN_any q off cap (x :: y :: r) w (Nat.le_add_left 2 r.length) hl hc hz hF
theorem mJoin_any (a : Option Addr) (cap : Nat) (L : List ByteArray) (w : World) (hl : L.length ≤ 65536) (hc : L.length ≤ cap) (hz : Box (∀ x ∈ L, x.size ≤ 65536)) (hF : Box (Ss w a L)) :
    Calls Tryz.prog 30 #[.slice a L.length cap] w fun e w' => e = .returned (.string (joinB L)) ∧ Below w.heap.size w w' := by
  go_enter Tryz.func30, Tryz.ntmps30
  go_wp2_with fail
  refine (sJoin_any a cap L _ hl hc hz hF).mono ?_; rintro e w1 ⟨rfl, hb⟩
  have B := box hb
  clear hb
  go_wp2
  go_ret
  exact ⟨rfl, B.out⟩
end
section
open Go.RowKit
theorem vJoin_is {a : Option Addr} {cap n : Nat} {L : List ByteArray} {x : ByteArray} {w : World} (hn : Box (L.length = n)) (hl : n ≤ 65536) (hc : n ≤ cap) (hz : Box (∀ x ∈ L, x.size ≤ 65536)) (hF : Box (Ss w a L)) (hx : Box (joinB L = x)) :
    Calls Tryz.prog 30 #[.slice a n cap] w fun e w' => e = .returned (.string x) ∧ Below w.heap.size w w' := by
  have h := hn.out
  subst h
  exact (mJoin_any a cap L w hl hc hz hF).mono fun e w' ⟨h1, h2⟩ => ⟨by rw [h1, hx.out], h2⟩
end
section
open Go.RowKit
def atKy (out : List KY) (i : Nat) : KY := out.getD i []
theorem atKy_is {out : List KY} {i : Nat} (h : i < out.length) : atKy out i = out[i] := by unfold atKy; simp [h]
/-- the first place of a key among the first m -/
def placeK (out : List KY) (k : KY) (m : Nat) : Option Nat := (List.range m).find? fun j => decide (atKy out j = k)
theorem placeK_more (out : List KY) (k : KY) (m : Nat) (h : placeK out k m = none) : placeK out k (m + 1) = if atKy out m = k then some m else none := by
  unfold placeK at h ⊢
  rw [List.range_succ, List.find?_append, h]
  simp only [Option.none_or]
  rw [List.find?_cons]
  by_cases e : atKy out m = k
  · rw [decide_eq_true e, if_pos e]
  · rw [decide_eq_false e, if_neg e]; rfl
theorem placeK_first {out : List KY} {k : KY} {m n : Nat} (h : placeK out k m = none) (hm : m < n) (he : atKy out m = k) : placeK out k n = some m := by
  unfold placeK at h ⊢
  rw [List.find?_range_eq_some]
  refine ⟨decide_eq_true he, List.mem_range.2 hm, fun j hj => ?_⟩
  have := List.find?_eq_none.1 h j (List.mem_range.2 hj)
  simpa using this
theorem placeK_in (out : List KY) (k : KY) : (placeK out k out.length).isSome = inKy out k := by
  unfold placeK inKy
  rw [Bool.eq_iff_iff, List.find?_isSome, List.any_eq_true]
  constructor
  · rintro ⟨j, hj, h⟩
    have hl := List.mem_range.1 hj
    rw [atKy_is hl] at h
    exact ⟨_, List.getElem_mem hl, h⟩
  · rintro ⟨y, hy, h⟩
    obtain ⟨j, hj, rfl⟩ := List.mem_iff_getElem.1 hy
    exact ⟨j, List.mem_range.2 hj, by rw [atKy_is hj]; exact h⟩
def contV (g : Nat) : Value := .func (.func 74) #[] #[.pointer (some ⟨g, 0, none⟩)]
theorem contC_any (g : Nat) (k y : KY) (q : Bool) (pk b : Option Addr) (ck c : Nat) (w : World) (hk : k.length ≤ 65536) (hy : y.length ≤ 65536) (h0 : w.cell? ⟨g, 0, none⟩ = some (.slice pk k.length ck)) (hK : Box (Ss w pk k)) (hY : Box (Ss w b y)) (hq : Box (decide (y = k) = q)) :
    Calls Tryz.prog 74 #[.slice b y.length c, .pointer (some ⟨g, 0, none⟩)] w fun e w' => e = .returned (.bool q) ∧ Below w.heap.size w w' := by
  have hlt := cell_lt h0
  simp only at hlt
  go_enter Tryz.func74, Tryz.ntmps74
  go_wp2_with fail
  refine (slEqual_is hy hk hY.out hK.out hq).mono ?_; rintro e w1 ⟨rfl, hb1⟩
  go_wp2
  go_ret
  exact ⟨rfl, hb1⟩
set_option maxHeartbeats 1000000 in
theorem contIdx_any (a : Option Addr) (cap : Nat) (out : List KY) (g : Nat) (k : KY) (pk : Option Addr) (ck : Nat) (w : World) (ho : out.length ≤ 65536) (zo : Box (smallK out)) (hk : k.length ≤ 65536) (h0 : Box (w.cell? ⟨g, 0, none⟩ = some (.slice pk k.length ck))) (hK : Box (Ss w pk k)) (hO : Box (Kss w a out)) :
    Calls Tryz.prog 99 #[.slice a out.length cap, contV g] w fun e w' => e = .returned (.int .i64 (hitI (placeK out k out.length))) ∧ Below w.heap.size w w' := by
  unfold contV
  go_enter Tryz.func99, Tryz.ntmps99
  go_wp2
  go_loopw [8] (fun i wr => ∃ m : Nat, m ≤ out.length ∧ i = .int .i64 m ∧ placeK out k m = none ∧ Below w.heap.size w wr) (fun i _ => out.length - (intOf i).toNat)
  case atStart => exact ⟨0, Nat.zero_le _, rfl, rfl, Below.refl _ _⟩
  case round =>
    obtain ⟨m, hm, rfl, hall, hbel⟩ := hrel
    have HA := box hall
    have BL := box hbel
    clear hall hbel
    by_cases hlt : m < out.length
    · obtain ⟨q, off, v, rfl, c0, b, c, rfl, hss, _⟩ := (hO.out.below BL.out) m hlt
      have hy := (zo.out _ (List.getElem_mem hlt)).1
      have hat := atKy_is hlt
      obtain ⟨y, hyy⟩ : ∃ y, out[m] = y := ⟨_, rfl⟩
      rw [hyy] at c0 hss hy hat
      have hy6 : y.length ≤ 65536 := by omega
      have SY := box hss
      have SK := box (hK.out.below BL.out)
      have C0 := (BL.out.cell (cell_lt h0.out)).trans h0.out
      obtain ⟨u, hu⟩ : ∃ u, decide (y = k) = u := ⟨_, rfl⟩
      have HU := box hu
      clear hss hy hyy
      cases u with
      | true =>
        have HX : Box (placeK out k out.length = some m) := box (placeK_first HA.out hlt (by rw [hat]; exact of_decide_eq_true hu))
        clear hu hat
        go_wp2_with fail
        refine (contC_any g k y true pk b ck c _ hk hy6 C0 SK SY HU).mono ?_; rintro e w1 ⟨rfl, hb1⟩
        have B1 := box (BL.out.trans (hb1.mono BL.out.size))
        clear hb1 C0
        go_wp2
        go_ret
        exact ⟨by rw [HX.out]; rfl, B1.out⟩
      | false =>
        have HX : Box (placeK out k (m + 1) = none) := box (by rw [placeK_more _ _ _ HA.out, if_neg (by rw [hat]; exact of_decide_eq_false hu)])
        clear hu hat
        go_wp2_with fail
        refine (contC_any g k y false pk b ck c _ hk hy6 C0 SK SY HU).mono ?_; rintro e w1 ⟨rfl, hb1⟩
        have B1 := box (BL.out.trans (hb1.mono BL.out.size))
        clear hb1 C0
        go_wp2
        go_roundw
        case rel => exact ⟨m + 1, by omega, by go_num, HX.out, B1.out⟩
        case measure => simp [intOf]; omega
    · have e : m = out.length := by omega
      have HX : Box (placeK out k out.length = none) := box (by rw [← e]; exact HA.out)
      clear e
      go_wp2
      go_ret
      exact ⟨by rw [HX.out]; rfl, BL.out⟩
theorem contFn_any (a : Option Addr) (cap : Nat) (out : List KY) (g : Nat) (k : KY) (q : Bool) (pk : Option Addr) (ck : Nat) (w : World) (ho : out.length ≤ 65536) (zo : Box (smallK out)) (hk : k.length ≤ 65536) (h0 : Box (w.cell? ⟨g, 0, none⟩ = some (.slice pk k.length ck))) (hK : Box (Ss w pk k)) (hO : Box (Kss w a out)) (hq : Box (inKy out k = q)) :
    Calls Tryz.prog 73 #[.slice a out.length cap, contV g] w fun e w' => e = .returned (.bool q) ∧ Below w.heap.size w w' := by
  obtain ⟨z, hz⟩ : ∃ z, placeK out k out.length = z := ⟨_, rfl⟩
  have HZ := box hz
  have HQ : Box (z.isSome = q) := box (by rw [← hz, placeK_in, hq.out])
  clear hz
  go_enter Tryz.func73, Tryz.ntmps73
  go_wp2_with fail
  refine (contIdx_any a cap out g k pk ck _ ho zo hk h0 hK hO).mono ?_; rintro e w1 ⟨rfl, hb1⟩
  rw [HZ.out]
  have B1 := box hb1
  clear hb1
  cases z with
  | none =>
    simp only [hitI]
    go_wp2
    go_ret
    exact ⟨by rw [← HQ.out]; rfl, B1.out⟩
  | some j =>
    simp only [hitI]
    have hj : decide ((0 : Int) ≤ (j : Int)) = true := decide_eq_true (by omega)
    go_wp2
    go_ret
    exact ⟨by rw [← HQ.out]; simp, B1.out⟩
theorem contains_is {a pk : Option Addr} {cap ck : Nat} {out : List KY} {k : KY} {q : Bool} {w : World} (ho : out.length ≤ 65536) (zo : Box (smallK out)) (hk : k.length ≤ 65536) (hO : Kss w a out) (hK : Ss w pk k) (hq : Box (inKy out k = q)) :
    Calls Tryz.prog 45 #[.slice a out.length cap, .slice pk k.length ck] w fun e w' => e = .returned (.bool q) ∧ Below w.heap.size w w' := by
  have hmf : ∀ (fn : Fn) (first cap : Array Value) (w : World), (Instr.makeFunc fn first cap).run Tryz.prog w = .ok (.func fn first cap) w := fun _ _ _ _ => rfl
  have B0 := box (below_new w (.cells #[.slice pk k.length ck] 33))
  have C0 : Box ((w.alloc (.cells #[.slice pk k.length ck] 33)).cell? ⟨w.heap.size, 0, none⟩ = some (.slice pk k.length ck)) := box (by rw [World.cell?_alloc_at _ _ _ _ rfl]; rfl)
  have SO := box (hO.below B0.out)
  have SK := box (hK.below B0.out)
  clear hO hK
  go_enter Tryz.func45, Tryz.ntmps45
  go_wp2_with fail
  refine (contFn_any a cap out w.heap.size k q pk ck _ ho zo hk C0 SK SO hq).mono ?_; rintro e w1 ⟨rfl, hb1⟩
  have B1 := box (B0.out.trans (hb1.mono B0.out.size))
  clear hb1
  go_wp2
  go_ret
  exact ⟨rfl, B1.out⟩
theorem vSame16_is {n x y : ByteArray} {q : Bool} {w : World} (hn : n.size ≤ 65000) (hx : x.size ≤ 65000) (hy : y.size ≤ 65000) (h : Box (sameV n x y = q)) :
    Calls Tryz.prog 33 #[.string n, .string x, .string y] w fun e w' => e = .returned (.bool q) ∧ Below w.heap.size w w' :=
  (mSame_any n x y w hn hx hy).mono fun e w' ⟨h1, h2⟩ => ⟨by rw [h1, h.out], h2⟩
def kofV (ga gv gi : Nat) : Value := .func (.func 72) #[] #[.pointer (some ⟨ga, 0, none⟩), .pointer (some ⟨gv, 0, none⟩), .pointer (some ⟨gi, 0, none⟩)]
/-- what the function value has captured -/
def KofAt (w : World) (ga gv gi : Nat) (n : ByteArray) (x : ByteArray) (m : Nat) (q : Nat) (o : Nat) (len c : Nat) : Prop :=
  w.cell? ⟨ga, 0, none⟩ = some (.string n) ∧ w.cell? ⟨gv, 0, none⟩ = some (.slice (some ⟨q, o, none⟩) len c) ∧ w.cell? ⟨gi, 0, none⟩ = some (.int .i64 (m : Int)) ∧ w.cell? ⟨q, o + m, none⟩ = some (.string x)
theorem KofAt.below {w w' : World} {ga gv gi m q o len c : Nat} {n x : ByteArray} (h : KofAt w ga gv gi n x m q o len c) (hb : Below w.heap.size w w') : KofAt w' ga gv gi n x m q o len c :=
  ⟨(hb.cell (cell_lt h.1)).trans h.1, (hb.cell (cell_lt h.2.1)).trans h.2.1, (hb.cell (cell_lt h.2.2.1)).trans h.2.2.1, (hb.cell (cell_lt h.2.2.2)).trans h.2.2.2⟩
set_option maxHeartbeats 1000000 in
theorem kofC_any (ga gv gi m q o len c : Nat) (n x y : ByteArray) (z : Bool) (w : World) (hn : n.size ≤ 65000) (hx : x.size ≤ 65000) (hy : y.size ≤ 65000) (hm : m < len) (hl : len ≤ 65536) (h : Box (KofAt w ga gv gi n x m q o len c)) (hz : Box (sameV n y x = z)) :
    Calls Tryz.prog 72 #[.string y, .pointer (some ⟨ga, 0, none⟩), .pointer (some ⟨gv, 0, none⟩), .pointer (some ⟨gi, 0, none⟩)] w fun e w' => e = .returned (.bool z) ∧ Below w.heap.size w w' := by
  have hm0 : (0 : Int) ≤ (m : Int) := by omega
  have hm1 : (m : Int) < (len : Int) := by omega
  obtain ⟨c0, c1, c2, c3⟩ := h.out
  go_enter Tryz.func72, Tryz.ntmps72
  go_wp2
  go_region_held3 (fun w' => w'.cell? ⟨ga, 0, none⟩ = some (.string n) ∧ w'.cell? ⟨gv, 0, none⟩ = some (.slice (some ⟨q, o, none⟩) len c) ∧ w'.cell? ⟨gi, 0, none⟩ = some (.int .i64 (m : Int)) ∧ w'.cell? ⟨q, o + m, none⟩ = some (.string x)) (first | exact ⟨(hb5.cell (cell_lt c0)).trans c0, (hb5.cell (cell_lt c1)).trans c1, (hb5.cell (cell_lt c2)).trans c2, (hb5.cell (cell_lt c3)).trans c3⟩ | exact ⟨c0, c1, c2, c3⟩) (first | (go_at_call 33; refine (vSame16_is hn hy hx hz).mono ?_; rintro e w5 ⟨rfl, hb5⟩))
  all_goals
    have B5 := box (Below.trans (show Below w.heap.size w w.drew from (Below.refl _ _).drew) hb5)
    clear hb5
    go_wp2
    go_ret
    exact ⟨rfl, B5.out⟩
end
end Go.Proofs.YtcnohcbhnldglaaGreat.Asc
