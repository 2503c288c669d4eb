/- The awake of stage 22 and the walk of the law CachecontrolReads. -/
import Derived.Test.YtlcojfkkeommoaaCtlRef2
import Derived.Test.YtlcojfkkeommoaaLisLaws
import Derived.Test.YtlcojfkkeommoaaLstOpen
set_option linter.unusedVariables false
set_option linter.unusedSimpArgs false
set_option maxRecDepth 100000
namespace Go.Proofs.Ytlcojfkkeommoaa.Asc
open Go.RowKit

theorem fs_one22 (a b : ByteArray) (w : World) (t : TypeId) : Fs (w.alloc (.cells #[.string a, .string b] t)) (some ⟨w.heap.size, 0, none⟩) [(a, b)] := by
  intro i hi
  match i, hi with
  | 0, _ => exact ⟨_, _, rfl, by rw [World.cell?_alloc_mark]; rfl, by rw [World.cell?_alloc_mark]; rfl⟩
theorem one_gets22 {nm n v : ByteArray} (h : v.size ≤ 65000) : ∀ x ∈ getL nm [(n, v)], x.size ≤ 65000 := by
  intro x hx
  unfold getL at hx
  obtain ⟨p, hp, rfl⟩ := List.mem_map.1 hx
  have h2 := (List.mem_filter.1 hp).1
  rw [List.mem_singleton] at h2
  subst h2; exact h
def aw22 : ByteArray := ⟨#[109, 97, 120, 45, 97, 103, 101, 61, 54, 48, 44, 32, 109, 97, 120, 45, 97, 103, 101, 61, 53, 44, 32, 78, 111, 45, 83, 116, 111, 114, 101]⟩
def aw22L : List F := [(ccN, aw22)]
def aw22C : CT := ⟨true, false, false, false, false, false, false, 60, -1, -1, -1⟩
theorem one_sm22 {n v : ByteArray} (h1 : n.size ≤ 65536) (h2 : v.size ≤ 65536) : Sm [(n, v)] :=
  ⟨by simp, fun i hi => by
    have e : i = 0 := by simp at hi; exact hi
    subst e; exact ⟨h1, h2⟩⟩
theorem one_get22 {n v : ByteArray} (h : nmd n (n, v) = true) (hz : v.size ≤ 65000) : ∀ x ∈ getL n [(n, v)], x.size ≤ 65000 := by
  intro x hx
  unfold getL at hx
  rw [List.filter_cons_of_pos h] at hx
  simp at hx; subst hx; exact hz
theorem aw22_is : respC (allL ccN aw22L) = aw22C := by
  have h : allL ccN aw22L = [[109, 97, 120, 45, 97, 103, 101, 61, 54, 48], [109, 97, 120, 45, 97, 103, 101, 61, 53], [78, 111, 45, 83, 116, 111, 114, 101]] := by decide +kernel
  rw [h]
  decide +kernel
theorem awake22_any (w : World) : Calls Try.prog 13 #[] w fun e w' => e = .returned (.bool true) ∧ Below w.heap.size w w' := by
  have S : Box (Sm aw22L) := box (one_sm22 (by decide) (by decide))
  have hv : Box (∀ x ∈ getL ccN aw22L, x.size ≤ 65000) := box (one_get22 (by decide +kernel) (by decide))
  have F0 := box (fs_one22 ccN aw22 w 32)
  have HC := box aw22_is
  have B0 := box (below_new w (.cells #[.string ccN, .string aw22] 32))
  go_enter Try.func13, Try.ntmps13
  go_wp2_with fail
  refine (mResp_is (L := aw22L) S hv F0 HC).mono ?_; rintro e w1 ⟨rfl, hb1⟩
  have B1 := box ((B0.out.trans (hb1.mono B0.out.size)).alloc (B0.out.trans (hb1.mono B0.out.size)).size (.cells (ctA aw22C) 25))
  clear hb1
  unfold aw22C
  go_wp2
  go_ret
  exact ⟨rfl, B1.out⟩
theorem rReqC_is {a : Option Addr} {cap : Nat} {L : List F} {c : CT} {w : World} (S : Box (Sm L)) (hv : Box (∀ nm, ∀ x ∈ getL nm L, x.size ≤ 65000)) (hF : Box (Fs w a L)) (HC : Box (reqC (L.any (nmd ccN)) (allL ccN L) (allL pgN L) = c)) :
    Calls Try.prog 12 #[.slice a L.length cap] w fun e w' => e = .returned (.agg #[.bool c.ns, .bool c.nc, .bool c.mr, .bool c.pr, .bool c.pv, .bool c.pb, .bool c.oc, .int .i64 c.ma, .int .i64 c.sm, .int .i64 c.mf, .int .i64 c.ms]) ∧ Below w.heap.size w w' :=
  rReqC_any a cap L w S hv hF c HC
theorem mReqC_is {a : Option Addr} {cap : Nat} {L : List F} {c : CT} {w : World} (S : Box (Sm L)) (hv : Box (∀ nm, ∀ x ∈ getL nm L, x.size ≤ 65000)) (hF : Box (Fs w a L)) (HC : Box (reqC (L.any (nmd ccN)) (allL ccN L) (allL pgN L) = c)) :
    Calls Try.prog 11 #[.slice a L.length cap] w fun e w' => e = .returned (.agg #[.bool c.ns, .bool c.nc, .bool c.mr, .bool c.pr, .bool c.pv, .bool c.pb, .bool c.oc, .int .i64 c.ma, .int .i64 c.sm, .int .i64 c.mf, .int .i64 c.ms]) ∧ Below w.heap.size w w' :=
  mReqC_any a cap L w S hv hF c HC
set_option maxHeartbeats 4000000 in
theorem reads22_walk (a : Option Addr) (cap : Nat) (L : List F) (w : World) (hl : L.length ≤ maxLen) (hF : Fs w a L) (hc : L.length ≤ cap) :
    Calls Try.prog 3 #[.slice a L.length cap] w fun e w' => e = .returned (.bool true) ∧ Below w.heap.size w w' := by
  have F0 := box hF
  have HL := hl
  clear hF hl
  rcases hk : keepF L with _ | _
  · have HK := box hk
    clear hk
    go_enter Try.func3, Try.ntmps3
    go_wp2_with fail
    refine (keepFields_any a cap L _ HL F0).mono ?_; rintro e w1 ⟨rfl, rfl⟩; rw [HK.out]
    go_wp2
    go_ret
    exact ⟨rfl, Below.refl _ _⟩
  · have HK := box hk
    have SM := box (keep_sm7 hk)
    have HV := box (keep_get hk)
    have HV1 := box (keep_get hk ccN)
    obtain ⟨c, hc2⟩ : ∃ c, respC (allL ccN L) = c := ⟨_, rfl⟩
    obtain ⟨d, hd⟩ : ∃ d, reqC (L.any (nmd ccN)) (allL ccN L) (allL pgN L) = d := ⟨_, rfl⟩
    have HC := box hc2
    have HD := box hd
    clear hk hc2 hd
    go_enter Try.func3, Try.ntmps3
    go_wp2_with fail
    refine (keepFields_any a cap L _ HL F0).mono ?_; rintro e w1 ⟨rfl, rfl⟩; rw [HK.out]
    go_wp2_with fail
    refine (mResp_is SM HV1 F0 HC).mono ?_; rintro e w2 ⟨rfl, hb2⟩
    have B2 := box hb2
    have F2 := box (F0.out.below hb2)
    clear hb2
    go_wp2_with fail
    refine (rResp_is SM HV1 F2 HC).mono ?_; rintro e w3 ⟨rfl, hb3⟩
    have B3 := box (B2.out.trans (hb3.mono B2.out.size))
    have F3 := box (F2.out.below hb3)
    clear hb3
    go_wp2_with fail

    refine (mReqC_is SM HV F3 HD).mono ?_; rintro e w4 ⟨rfl, hb4⟩
    have B4 := box (B3.out.trans (hb4.mono B3.out.size))
    have F4 := box (F3.out.below hb4)
    clear hb4
    go_wp2_with fail
    refine (rReqC_is SM HV F4 HD).mono ?_; rintro e w5 ⟨rfl, hb5⟩
    have B5 := box (B4.out.trans (hb5.mono B4.out.size))
    clear hb5
    go_wp2_with fail
    refine (awake22_any _).mono ?_; rintro e w6 ⟨rfl, hb6⟩
    have B6 := box (B5.out.trans (hb6.mono B5.out.size))
    clear hb6
    go_wp2
    go_ret
    exact ⟨rfl, B6.out⟩

end Go.Proofs.Ytlcojfkkeommoaa.Asc
