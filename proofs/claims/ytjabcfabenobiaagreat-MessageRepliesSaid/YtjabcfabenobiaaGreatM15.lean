/- Merged texts: MsgKeep MsgLaws MsgLaws2 MsgLaws3 MsgLaws4 MsgLaws5. -/
import Derived.Test.YtjabcfabenobiaaGreatM09
import Derived.Test.YtjabcfabenobiaaGreatM14
import Derived.Deep.RegionHeld3
set_option linter.unusedVariables false
set_option linter.unusedSimpArgs false
set_option maxRecDepth 100000
namespace Go.Proofs.YtjabcfabenobiaaGreat.Asc
section
open Go.RowKit
theorem keepF_is {a : Option Addr} {cap : Nat} {L : List F} {q : Bool} {w : World} (hl : Box (L.length ≤ maxLen)) (hF : Box (Fs w a L)) (h : Box (keepF L = q)) :
    Calls Tryz.prog 35 #[.slice a L.length cap] w fun e w' => e = .returned (.bool q) ∧ w = w' :=
  (keepFields_any a cap L w hl.out hF).mono fun e w' ⟨h1, h2⟩ => ⟨by rw [h1, h.out], h2⟩
/-- what a keep function answers -/
def KeepPost (P : Prop) (e : Ending) : Prop := ∃ q : Bool, e = .returned (.bool q) ∧ (q = true → P)
def okRq (m t : ByteArray) (L : List F) (b : ByteArray) : Prop := m.size ≤ 100 ∧ t.size ≤ 2100 ∧ keepF L = true ∧ b.size ≤ 2000
def okRs (r : ByteArray) (L : List F) (b : ByteArray) : Prop := r.size ≤ 2100 ∧ keepF L = true ∧ b.size ≤ 2000
theorem kReq_any (m t : ByteArray) (n : Int) (a : Option Addr) (cap : Nat) (L : List F) (b : ByteArray) (w : World) (hm : m.size ≤ maxLen) (ht : t.size ≤ maxLen) (hb : b.size ≤ maxLen) (hl : Box (L.length ≤ maxLen)) (hF : Box (Fs w a L)) :
    Calls Tryz.prog 16 #[rqV m t n a cap L b] w fun e w' => KeepPost (okRq m t L b) e ∧ Below w.heap.size w w' := by
  unfold rqV maxLen at *
  have F1 := box (hF.out.below (below_new w (.cells #[.string m, .string t, .int .i64 n, .slice a L.length cap, .string b] 24)))
  by_cases h1 : m.size ≤ 100
  · have i1 : (m.size : Int) ≤ 100 := by omega
    by_cases h2 : t.size ≤ 2100
    · have i2 : (t.size : Int) ≤ 2100 := by omega
      rcases hk : keepF L with _ | _
      · have HK := box hk
        clear hk
        go_enter Tryz.func16, Tryz.ntmps16
        go_wp2_with fail
        refine (keepF_is hl F1 HK).mono ?_; rintro e w1 ⟨rfl, rfl⟩
        go_wp2
        go_ret
        exact ⟨⟨_, rfl, fun h => by cases h⟩, below_new _ _⟩
      · have HK := box hk
        clear hk
        by_cases h3 : b.size ≤ 2000
        · have i3 : (b.size : Int) ≤ 2000 := by omega
          go_enter Tryz.func16, Tryz.ntmps16
          go_wp2_with fail
          refine (keepF_is hl F1 HK).mono ?_; rintro e w1 ⟨rfl, rfl⟩
          go_wp2
          go_ret
          exact ⟨⟨_, rfl, fun _ => ⟨h1, h2, HK.out, h3⟩⟩, below_new _ _⟩
        · have i3 : ¬ (b.size : Int) ≤ 2000 := by omega
          go_enter Tryz.func16, Tryz.ntmps16
          go_wp2_with fail
          refine (keepF_is hl F1 HK).mono ?_; rintro e w1 ⟨rfl, rfl⟩
          go_wp2
          go_ret
          refine ⟨⟨_, rfl, fun h => ?_⟩, below_new _ _⟩
          exact absurd (of_decide_eq_true h) (by omega)
    · have i2 : ¬ (t.size : Int) ≤ 2100 := by omega
      go_enter Tryz.func16, Tryz.ntmps16
      go_wp2
      go_ret
      exact ⟨⟨_, rfl, fun h => by first | cases h | exact absurd (of_decide_eq_true h) (by omega)⟩, below_new _ _⟩
  · have i1 : ¬ (m.size : Int) ≤ 100 := by omega
    go_enter Tryz.func16, Tryz.ntmps16
    go_wp2
    go_ret
    exact ⟨⟨_, rfl, fun h => by first | cases h | exact absurd (of_decide_eq_true h) (by omega)⟩, below_new _ _⟩
theorem kRes_any (n s : Int) (r : ByteArray) (a : Option Addr) (cap : Nat) (L : List F) (b : ByteArray) (w : World) (hr : r.size ≤ maxLen) (hb : b.size ≤ maxLen) (hl : Box (L.length ≤ maxLen)) (hF : Box (Fs w a L)) :
    Calls Tryz.prog 17 #[rsV n s r a cap L b] w fun e w' => KeepPost (okRs r L b) e ∧ Below w.heap.size w w' := by
  unfold rsV maxLen at *
  have F1 := box (hF.out.below (below_new w (.cells #[.int .i64 n, .int .i64 s, .string r, .slice a L.length cap, .string b] 32)))
  by_cases h1 : r.size ≤ 2100
  · have i1 : (r.size : Int) ≤ 2100 := by omega
    rcases hk : keepF L with _ | _
    · have HK := box hk
      clear hk
      go_enter Tryz.func17, Tryz.ntmps17
      go_wp2_with fail
      refine (keepF_is hl F1 HK).mono ?_; rintro e w1 ⟨rfl, rfl⟩
      go_wp2
      go_ret
      exact ⟨⟨_, rfl, fun h => by cases h⟩, below_new _ _⟩
    · have HK := box hk
      clear hk
      by_cases h3 : b.size ≤ 2000
      · have i3 : (b.size : Int) ≤ 2000 := by omega
        go_enter Tryz.func17, Tryz.ntmps17
        go_wp2_with fail
        refine (keepF_is hl F1 HK).mono ?_; rintro e w1 ⟨rfl, rfl⟩
        go_wp2
        go_ret
        exact ⟨⟨_, rfl, fun _ => ⟨h1, HK.out, h3⟩⟩, below_new _ _⟩
      · have i3 : ¬ (b.size : Int) ≤ 2000 := by omega
        go_enter Tryz.func17, Tryz.ntmps17
        go_wp2_with fail
        refine (keepF_is hl F1 HK).mono ?_; rintro e w1 ⟨rfl, rfl⟩
        go_wp2
        go_ret
        refine ⟨⟨_, rfl, fun h => ?_⟩, below_new _ _⟩
        exact absurd (of_decide_eq_true h) (by omega)
  · have i1 : ¬ (r.size : Int) ≤ 2100 := by omega
    go_enter Tryz.func17, Tryz.ntmps17
    go_wp2
    go_ret
    exact ⟨⟨_, rfl, fun h => by first | cases h | exact absurd (of_decide_eq_true h) (by omega)⟩, below_new _ _⟩
theorem same_str (m : ByteArray) : (m.toList == m.toList) = true := by simp
theorem sameF_is {a b : Option Addr} {ca cb : Nat} {L : List F} {w : World} (hl : L.length ≤ 65536) (hK : Box (Fs w a L)) (hL : Box (Fs w b L)) :
    Calls Tryz.prog 32 #[.slice a L.length ca, .slice b L.length cb] w fun e w' => e = .returned (.bool true) ∧ Below w.heap.size w w' :=
  (SameF_any a b ca cb L L w hl hl hK hL).mono fun e w' ⟨h1, h2⟩ => ⟨by rw [h1, decide_eq_true rfl], h2⟩
theorem kSameReq_any (m t : ByteArray) (n : Int) (a a' : Option Addr) (cap cap' : Nat) (L : List F) (b : ByteArray) (w : World) (hl : L.length ≤ 65536) (hF : Box (Fs w a L)) (hF' : Box (Fs w a' L)) :
    Calls Tryz.prog 11 #[rqV m t n a cap L b, rqV m t n a' cap' L b] w fun e w' => e = .returned (.bool true) ∧ Below w.heap.size w w' := by
  unfold rqV
  have B1 := box ((below_new w (.cells #[.string m, .string t, .int .i64 n, .slice a L.length cap, .string b] 24)).trans ((below_new _ (.cells #[.string m, .string t, .int .i64 n, .slice a' L.length cap', .string b] 24)).mono (size_more _ _)))
  have F1 := box (hF.out.below B1.out)
  have F2 := box (hF'.out.below B1.out)
  have s1 := same_str m
  have s2 := same_str t
  have s3 := same_str b
  go_enter Tryz.func11, Tryz.ntmps11
  go_wp2_with fail
  refine (sameF_is hl F1 F2).mono ?_; rintro e w1 ⟨rfl, hb1⟩
  have B2 := box (B1.out.trans (hb1.mono B1.out.size))
  have C := (C5.new (.string m) (.string t) (.int .i64 n) (.slice a L.length cap) (.string b) w 24)
  have D := ((C5.new (.string m) (.string t) (.int .i64 n) (.slice a' L.length cap') (.string b) (w.alloc (.cells #[.string m, .string t, .int .i64 n, .slice a L.length cap, .string b] 24)) 24)).next hb1
  have C2 := (C.next (below_new _ (.cells #[.string m, .string t, .int .i64 n, .slice a' L.length cap', .string b] 24))).next hb1
  rw [show (w.alloc (.cells #[.string m, .string t, .int .i64 n, .slice a L.length cap, .string b] 24)).heap.size = w.heap.size + 1 from by simp] at D
  obtain ⟨⟨_, _, _, _, c4⟩, _⟩ := C2
  obtain ⟨⟨_, _, _, _, d4⟩, _⟩ := D
  clear C hb1
  go_wp2
  go_ret
  exact ⟨rfl, B2.out⟩
theorem kSameRes_any (n s : Int) (r : ByteArray) (a a' : Option Addr) (cap cap' : Nat) (L : List F) (b : ByteArray) (w : World) (hl : L.length ≤ 65536) (hF : Box (Fs w a L)) (hF' : Box (Fs w a' L)) :
    Calls Tryz.prog 15 #[rsV n s r a cap L b, rsV n s r a' cap' L b] w fun e w' => e = .returned (.bool true) ∧ Below w.heap.size w w' := by
  unfold rsV
  have B1 := box ((below_new w (.cells #[.int .i64 n, .int .i64 s, .string r, .slice a L.length cap, .string b] 32)).trans ((below_new _ (.cells #[.int .i64 n, .int .i64 s, .string r, .slice a' L.length cap', .string b] 32)).mono (size_more _ _)))
  have F1 := box (hF.out.below B1.out)
  have F2 := box (hF'.out.below B1.out)
  have s1 := same_str r
  have s3 := same_str b
  go_enter Tryz.func15, Tryz.ntmps15
  go_wp2_with fail
  refine (sameF_is hl F1 F2).mono ?_; rintro e w1 ⟨rfl, hb1⟩
  have B2 := box (B1.out.trans (hb1.mono B1.out.size))
  have C := (C5.new (.int .i64 n) (.int .i64 s) (.string r) (.slice a L.length cap) (.string b) w 32)
  have D := ((C5.new (.int .i64 n) (.int .i64 s) (.string r) (.slice a' L.length cap') (.string b) (w.alloc (.cells #[.int .i64 n, .int .i64 s, .string r, .slice a L.length cap, .string b] 32)) 32)).next hb1
  have C2 := (C.next (below_new _ (.cells #[.int .i64 n, .int .i64 s, .string r, .slice a' L.length cap', .string b] 32))).next hb1
  rw [show (w.alloc (.cells #[.int .i64 n, .int .i64 s, .string r, .slice a L.length cap, .string b] 32)).heap.size = w.heap.size + 1 from by simp] at D
  obtain ⟨⟨_, _, _, _, c4⟩, _⟩ := C2
  obtain ⟨⟨_, _, _, _, d4⟩, _⟩ := D
  clear C hb1
  go_wp2
  go_ret
  exact ⟨rfl, B2.out⟩
end
section
open Go.RowKit
theorem reqM_few (l : List UInt8) : (reqM l).1.2.2.2.1.length ≤ 64 := by
  unfold reqM
  rcases hh : headL true l with e | ⟨st, L, n, r⟩
  · simp [zeroRQ]
  · have ok := headL_ok hh
    have h1 : (unfrL L).length ≤ L.length := Nat.le_trans (List.length_filter_le _ _) (List.length_filter_le _ _)
    have := ok.few
    simp only
    split
    · simp [zeroRQ]
    · split
      · simp [zeroRQ]
      · split
        · simp [zeroRQ]
        · simp only; omega
theorem resM_few (l m : List UInt8) (cl : Bool) : (resM l m cl).1.2.2.2.1.length ≤ 64 := by
  unfold resM
  rcases hh : headL false l with e | ⟨st, L, n, r⟩
  · simp [zeroRS]
  · have ok := headL_ok hh
    have h1 : (unfrL L).length ≤ L.length := Nat.le_trans (List.length_filter_le _ _) (List.length_filter_le _ _)
    have := ok.few
    simp only
    split
    · simp [zeroRS]
    · split
      · simp only; omega
      · split
        · simp [zeroRS]
        · split
          · simp [zeroRS]
          · simp only; omega
/-- a request is returned: its parts -/
def ReqIs (m t : ByteArray) (mi : Int) (L : List F) (b : ByteArray) (n e0 : Int) (e : Ending) (w' : World) : Prop := ∃ a cap, e = .returned (.tuple #[.agg #[.string m, .string t, .int .i64 mi, .slice a L.length cap, .string b], .int .i64 n, .int .i64 e0]) ∧ Fs w' a L
def ResIs (mi sc : Int) (t : ByteArray) (L : List F) (b : ByteArray) (n e0 : Int) (e : Ending) (w' : World) : Prop := ∃ a cap, e = .returned (.tuple #[.agg #[.int .i64 mi, .int .i64 sc, .string t, .slice a L.length cap, .string b], .int .i64 n, .int .i64 e0]) ∧ Fs w' a L
theorem mReq_is {s m t b : ByteArray} {mi n e0 : Int} {L : List F} {w : World} (hs : s.size ≤ 2000000) (h : Box (reqM s.data.toList = ((m.data.toList, t.data.toList, mi, L, b.data.toList), n, e0))) :
    Calls Tryz.prog 9 #[.string s] w fun e w' => ReqIs m t mi L b n e0 e w' ∧ Below w.heap.size w w' :=
  (mReq_any s w hs).mono fun e w' ⟨h1, h2⟩ => by
    rw [h.out] at h1
    obtain ⟨v, he, hO⟩ := h1
    obtain ⟨a, cap, rfl, hF, _⟩ := hO.fs
    exact ⟨⟨a, cap, he, hF⟩, h2⟩
theorem rReq_is {s m t b : ByteArray} {mi n e0 : Int} {L : List F} {w : World} (hs : s.size ≤ 2000000) (h : Box (reqM s.data.toList = ((m.data.toList, t.data.toList, mi, L, b.data.toList), n, e0))) :
    Calls Tryz.prog 10 #[.string s] w fun e w' => ReqIs m t mi L b n e0 e w' ∧ Below w.heap.size w w' :=
  (rRequest_any s w (by omega)).mono fun e w' ⟨h1, h2⟩ => by
    rw [h.out] at h1
    obtain ⟨v, he, hO⟩ := h1
    obtain ⟨a, cap, rfl, hF, _⟩ := hO.fs
    exact ⟨⟨a, cap, he, hF⟩, h2⟩
theorem mRes_is {s me t b : ByteArray} {cl : Bool} {mi sc n e0 : Int} {L : List F} {w : World} (hs : s.size ≤ 2000000) (hm : me.size ≤ 65536) (h : Box (resM s.data.toList me.data.toList cl = ((mi, sc, t.data.toList, L, b.data.toList), n, e0))) :
    Calls Tryz.prog 13 #[.string s, .string me, .bool cl] w fun e w' => ResIs mi sc t L b n e0 e w' ∧ Below w.heap.size w w' :=
  (mRes_any s me cl w hs hm).mono fun e w' ⟨h1, h2⟩ => by
    rw [h.out] at h1
    obtain ⟨v, he, hO⟩ := h1
    obtain ⟨a, cap, rfl, hF, _⟩ := hO.fs
    exact ⟨⟨a, cap, he, hF⟩, h2⟩
theorem rRes_is {s me t b : ByteArray} {cl : Bool} {mi sc n e0 : Int} {L : List F} {w : World} (hs : s.size ≤ 2000000) (hm : me.size ≤ 65536) (h : Box (resM s.data.toList me.data.toList cl = ((mi, sc, t.data.toList, L, b.data.toList), n, e0))) :
    Calls Tryz.prog 14 #[.string s, .string me, .bool cl] w fun e w' => ResIs mi sc t L b n e0 e w' ∧ Below w.heap.size w w' :=
  (rResponse_any s me cl w (by omega) hm).mono fun e w' ⟨h1, h2⟩ => by
    rw [h.out] at h1
    obtain ⟨v, he, hO⟩ := h1
    obtain ⟨a, cap, rfl, hF, _⟩ := hO.fs
    exact ⟨⟨a, cap, he, hF⟩, h2⟩
def awakeS : ByteArray := ⟨#[80, 85, 84, 32, 47, 32, 72, 84, 84, 80, 47, 49, 46, 49, 13, 10, 72, 111, 115, 116, 58, 32, 97, 13, 10, 67, 111, 110, 116, 101, 110, 116, 45, 76, 101, 110, 103, 116, 104, 58, 32, 50, 13, 10, 13, 10, 104, 105, 120]⟩
theorem awake_req : reqM awakeS.data.toList = (((⟨#[80, 85, 84]⟩ : ByteArray).data.toList, (⟨#[47]⟩ : ByteArray).data.toList, 1, [(hostN, ⟨#[97]⟩)], (⟨#[104, 105]⟩ : ByteArray).data.toList), 48, 0) := by kernel_rfl
theorem awake6_any (w : World) : Calls Tryz.prog 12 #[] w fun e w' => e = .returned (.bool true) ∧ Below w.heap.size w w' := by
  have HZ : awakeS.size ≤ 2000000 := by decide
  go_enter Tryz.func12, Tryz.ntmps12
  go_wp2_with fail
  refine (mReq_is (m := ⟨#[80, 85, 84]⟩) (t := ⟨#[47]⟩) (b := ⟨#[104, 105]⟩) HZ (box awake_req)).mono ?_; rintro e w1 ⟨⟨a, cap, rfl, hF⟩, hb1⟩
  have B1 := box (hb1.trans ((below_new w1 (.cells #[.string ⟨#[80, 85, 84]⟩, .string ⟨#[47]⟩, .int .i64 1, .slice a 1 cap, .string ⟨#[104, 105]⟩] 24)).mono hb1.size))
  clear hF hb1
  rw [show ([(hostN, (⟨#[97]⟩ : ByteArray))] : List F).length = 1 from rfl]
  go_wp2
  go_ret
  exact ⟨rfl, B1.out⟩
set_option maxHeartbeats 1000000 in
theorem requests6_walk (s : ByteArray) (w : World) (hs : s.size ≤ maxLen) :
    Calls Tryz.prog 3 #[.string s] w fun e w' => e = .returned (.bool true) ∧ Below w.heap.size w w' := by
  unfold maxLen at hs
  by_cases h1 : s.size ≤ 20000
  · have h1i : ¬ (20000 : Int) < (s.size : Int) := by omega
    have hs2 : s.size ≤ 2000000 := by omega
    obtain ⟨m, t, mi, L, b, n, e0, ho⟩ : ∃ m t mi L b n e0, reqM s.data.toList = ((m, t, mi, L, b), n, e0) := ⟨_, _, _, _, _, _, _, rfl⟩
    have hfew : L.length ≤ 65536 := by have := reqM_few s.data.toList; rw [ho] at this; simp only at this; omega
    have HO : Box (reqM s.data.toList = (((bs m).data.toList, (bs t).data.toList, mi, L, (bs b).data.toList), n, e0)) := box ho
    clear ho
    go_enter Tryz.func3, Tryz.ntmps3
    go_wp2_with fail
    refine (mReq_is hs2 HO).mono ?_; rintro e w1 ⟨⟨a1, cap1, rfl, hF1⟩, hb1⟩
    have C1 := box (C5.new (.string (bs m)) (.string (bs t)) (.int .i64 mi) (.slice a1 L.length cap1) (.string (bs b)) w1 24)
    have hnw := below_new w1 (.cells #[.string (bs m), .string (bs t), .int .i64 mi, .slice a1 L.length cap1, .string (bs b)] 24)
    have F1 := box (hF1.below hnw)
    have B1 := box (hb1.trans (hnw.mono hb1.size))
    clear hF1 hb1 hnw
    go_wp2_with fail
    refine (rReq_is hs2 HO).mono ?_; rintro e w2 ⟨⟨a2, cap2, rfl, hF2⟩, hb2⟩
    have hC2 := C1.out.next hb2
    have hg := hC2.lt
    have hnw := below_new w2 (.cells #[.string (bs m), .string (bs t), .int .i64 mi, .slice a2 L.length cap2, .string (bs b)] 24)
    have F2 := box ((F1.out.below hb2).below hnw)
    have F3 := box (hF2.below hnw)
    have B2 := box (B1.out.trans ((hb2.trans (hnw.mono hb2.size)).mono B1.out.size))
    have hne : w1.heap.size ≠ w2.heap.size := Nat.ne_of_lt hg
    obtain ⟨⟨c0, c1, c2, c3, c4⟩, _⟩ := hC2
    clear hb2 hF2 hnw
    go_wp2_with fail
    refine (kSameReq_any (bs m) (bs t) mi a1 a2 cap1 cap2 L (bs b) _ hfew F2 F3).mono ?_; rintro e w3 ⟨rfl, hb3⟩
    have B3 := box (B2.out.trans (hb3.mono B2.out.size))
    clear hb3 c0 c1 c2 c3 c4
    go_wp2_with fail
    refine (awake6_any _).mono ?_; rintro e w4 ⟨rfl, hb4⟩
    have B4 := box (B3.out.trans (hb4.mono B3.out.size))
    clear hb4
    go_wp2
    go_ret
    exact ⟨rfl, B4.out⟩
  · have h1i : (20000 : Int) < (s.size : Int) := by omega
    go_enter Tryz.func3, Tryz.ntmps3
    go_wp2
    go_ret
    exact ⟨rfl, Below.refl _ _⟩
set_option maxHeartbeats 1000000 in
theorem responses6_walk (s me : ByteArray) (cl : Bool) (w : World) (hs : s.size ≤ maxLen) (hm : me.size ≤ maxLen) :
    Calls Tryz.prog 4 #[.string s, .string me, .bool cl] w fun e w' => e = .returned (.bool true) ∧ Below w.heap.size w w' := by
  unfold maxLen at hs hm
  by_cases h1 : s.size ≤ 20000
  · have h1i : ¬ (20000 : Int) < (s.size : Int) := by omega
    by_cases h2 : me.size ≤ 100
    · have h2i : ¬ (100 : Int) < (me.size : Int) := by omega
      have hs2 : s.size ≤ 2000000 := by omega
      have hm2 : me.size ≤ 65536 := by omega
      obtain ⟨mi, sc, t, L, b, n, e0, ho⟩ : ∃ mi sc t L b n e0, resM s.data.toList me.data.toList cl = ((mi, sc, t, L, b), n, e0) := ⟨_, _, _, _, _, _, _, rfl⟩
      have hfew : L.length ≤ 65536 := by have := resM_few s.data.toList me.data.toList cl; rw [ho] at this; simp only at this; omega
      have HO : Box (resM s.data.toList me.data.toList cl = ((mi, sc, (bs t).data.toList, L, (bs b).data.toList), n, e0)) := box ho
      clear ho
      go_enter Tryz.func4, Tryz.ntmps4
      go_wp2_with fail
      refine (mRes_is hs2 hm2 HO).mono ?_; rintro e w1 ⟨⟨a1, cap1, rfl, hF1⟩, hb1⟩
      have C1 := box (C5.new (.int .i64 mi) (.int .i64 sc) (.string (bs t)) (.slice a1 L.length cap1) (.string (bs b)) w1 32)
      have hnw := below_new w1 (.cells #[.int .i64 mi, .int .i64 sc, .string (bs t), .slice a1 L.length cap1, .string (bs b)] 32)
      have F1 := box (hF1.below hnw)
      have B1 := box (hb1.trans (hnw.mono hb1.size))
      clear hF1 hb1 hnw
      go_wp2_with fail
      refine (rRes_is hs2 hm2 HO).mono ?_; rintro e w2 ⟨⟨a2, cap2, rfl, hF2⟩, hb2⟩
      have hC2 := C1.out.next hb2
      have hg := hC2.lt
      have hnw := below_new w2 (.cells #[.int .i64 mi, .int .i64 sc, .string (bs t), .slice a2 L.length cap2, .string (bs b)] 32)
      have F2 := box ((F1.out.below hb2).below hnw)
      have F3 := box (hF2.below hnw)
      have B2 := box (B1.out.trans ((hb2.trans (hnw.mono hb2.size)).mono B1.out.size))
      have hne : w1.heap.size ≠ w2.heap.size := Nat.ne_of_lt hg
      obtain ⟨⟨c0, c1, c2, c3, c4⟩, _⟩ := hC2
      clear hb2 hF2 hnw
      go_wp2_with fail
      refine (kSameRes_any mi sc (bs t) a1 a2 cap1 cap2 L (bs b) _ hfew F2 F3).mono ?_; rintro e w3 ⟨rfl, hb3⟩
      have B3 := box (B2.out.trans (hb3.mono B2.out.size))
      clear hb3 c0 c1 c2 c3 c4
      go_wp2_with fail
      refine (awake6_any _).mono ?_; rintro e w4 ⟨rfl, hb4⟩
      have B4 := box (B3.out.trans (hb4.mono B3.out.size))
      clear hb4
      go_wp2
      go_ret
      exact ⟨rfl, B4.out⟩
    · have h2i : (100 : Int) < (me.size : Int) := by omega
      go_enter Tryz.func4, Tryz.ntmps4
      go_wp2
      go_ret
      exact ⟨rfl, Below.refl _ _⟩
  · have h1i : (20000 : Int) < (s.size : Int) := by omega
    go_enter Tryz.func4, Tryz.ntmps4
    go_wp2
    go_ret
    exact ⟨rfl, Below.refl _ _⟩
end
section
open Go.RowKit
theorem keep_sm6 {L : List F} (h : keepF L = true) : Sm L := by
  obtain ⟨h1, h2⟩ := keep_parts h
  refine ⟨by omega, fun i hi => ?_⟩
  have := h2 i hi
  omega
theorem wf_i64' {n : Int} (h : (Lit.int .i64 n).wf = true) : InI64 n := by
  unfold InI64
  simp [Lit.wf, IntKind.min, IntKind.max, IntKind.signed, IntKind.bits] at h
  omega
/-- two structs of five cells lie one behind the other, and two lists of fields -/
structure Two (w : World) (c0 c1 c2 c3 c4 d0 d1 d2 d3 d4 : Value) (a a' : Option Addr) (K L : List F) (w' : World) : Prop where
  c : C5 w.heap.size c0 c1 c2 c3 c4 w'
  d : C5 (w.heap.size + 1) d0 d1 d2 d3 d4 w'
  f : Fs w' a K
  g : Fs w' a' L
  b : Below w.heap.size w w'
section
variable {w w' w'' : World} {c0 c1 c2 c3 c4 d0 d1 d2 d3 d4 : Value} {a a' : Option Addr} {K L : List F}
theorem Two.next (h : Two w c0 c1 c2 c3 c4 d0 d1 d2 d3 d4 a a' K L w') (hb : Below w'.heap.size w' w'') : Two w c0 c1 c2 c3 c4 d0 d1 d2 d3 d4 a a' K L w'' :=
  ⟨h.c.next hb, h.d.next hb, h.f.below hb, h.g.below hb, h.b.trans (hb.mono h.b.size)⟩
theorem Two.drewN {n : Nat} (h : Two w c0 c1 c2 c3 c4 d0 d1 d2 d3 d4 a a' K L w') : Two w c0 c1 c2 c3 c4 d0 d1 d2 d3 d4 a a' K L (w'.drewN n) := h.next (below_drewN _ _)
theorem Two.new (t1 t2 : TypeId) (hF : Fs w a K) (hG : Fs w a' L) : Two w c0 c1 c2 c3 c4 d0 d1 d2 d3 d4 a a' K L ((w.alloc (.cells #[c0, c1, c2, c3, c4] t1)).alloc (.cells #[d0, d1, d2, d3, d4] t2)) := by
  have b1 := below_new w (.cells #[c0, c1, c2, c3, c4] t1)
  have b2 := below_new (w.alloc (.cells #[c0, c1, c2, c3, c4] t1)) (.cells #[d0, d1, d2, d3, d4] t2)
  have D := C5.new d0 d1 d2 d3 d4 (w.alloc (.cells #[c0, c1, c2, c3, c4] t1)) t2
  rw [show (w.alloc (.cells #[c0, c1, c2, c3, c4] t1)).heap.size = w.heap.size + 1 from by simp] at D
  exact ⟨(C5.new c0 c1 c2 c3 c4 w t1).next b2, D, (hF.below b1).below b2, (hG.below b1).below b2, b1.trans (b2.mono b1.size)⟩
theorem Two.cells (h : Two w c0 c1 c2 c3 c4 d0 d1 d2 d3 d4 a a' K L w') : w'.cell? ⟨w.heap.size, 0, none⟩ = some c0 ∧ w'.cell? ⟨w.heap.size, 1, none⟩ = some c1 ∧ w'.cell? ⟨w.heap.size, 2, none⟩ = some c2 ∧ w'.cell? ⟨w.heap.size, 3, none⟩ = some c3 ∧ w'.cell? ⟨w.heap.size, 4, none⟩ = some c4 ∧ w'.cell? ⟨w.heap.size + 1, 0, none⟩ = some d0 ∧ w'.cell? ⟨w.heap.size + 1, 1, none⟩ = some d1 ∧ w'.cell? ⟨w.heap.size + 1, 2, none⟩ = some d2 ∧ w'.cell? ⟨w.heap.size + 1, 3, none⟩ = some d3 ∧ w'.cell? ⟨w.heap.size + 1, 4, none⟩ = some d4 :=
  ⟨h.c.1.1, h.c.1.2.1, h.c.1.2.2.1, h.c.1.2.2.2.1, h.c.1.2.2.2.2, h.d.1.1, h.d.1.2.1, h.d.1.2.2.1, h.d.1.2.2.2.1, h.d.1.2.2.2.2⟩
end
theorem mFQ_is {m t b : ByteArray} {n : Int} {a : Option Addr} {cap : Nat} {L : List F} {x : ByteArray} {w : World} (hm : m.size ≤ 3000) (ht : t.size ≤ 3000) (h1 : Box (InI64 n)) (hb : b.size ≤ 1000000) (S : Box (Sm L)) (hF : Fs w a L) (h : Box (bs (fmtRQ (m.data.toList, t.data.toList, n, L, b.data.toList)) = x)) :
    Calls Tryz.prog 18 #[.agg #[.string m, .string t, .int .i64 n, .slice a L.length cap, .string b]] w fun e w' => e = .returned (.string x) ∧ Below w.heap.size w w' :=
  (mFmtReq_any m t n a cap L b w hm ht h1 hb S (box hF)).mono fun e w' ⟨h1, h2⟩ => ⟨by rw [h1, h.out], h2⟩
theorem rFQ_is {m t b : ByteArray} {n : Int} {a : Option Addr} {cap : Nat} {L : List F} {x : ByteArray} {w : World} (hm : m.size ≤ 3000) (ht : t.size ≤ 3000) (h1 : Box (InI64 n)) (hb : b.size ≤ 1000000) (S : Box (Sm L)) (hF : Fs w a L) (h : Box (bs (fmtRQ (m.data.toList, t.data.toList, n, L, b.data.toList)) = x)) :
    Calls Tryz.prog 19 #[.agg #[.string m, .string t, .int .i64 n, .slice a L.length cap, .string b]] w fun e w' => e = .returned (.string x) ∧ Below w.heap.size w w' :=
  (rFmtReq_any m t n a cap L b w hm ht h1 hb S (box hF)).mono fun e w' ⟨h1, h2⟩ => ⟨by rw [h1, h.out], h2⟩
theorem mFS_is {r b me : ByteArray} {n s : Int} {a : Option Addr} {cap : Nat} {L : List F} {x : ByteArray} {w : World} (hr : r.size ≤ 3000) (hm : me.size ≤ 65536) (h1 : Box (InI64 n)) (h2 : Box (InI64 s)) (hb : b.size ≤ 1000000) (S : Box (Sm L)) (hF : Fs w a L) (h : Box (bs (fmtRS (n, s, r.data.toList, L, b.data.toList) me.data.toList) = x)) :
    Calls Tryz.prog 20 #[.agg #[.int .i64 n, .int .i64 s, .string r, .slice a L.length cap, .string b], .string me] w fun e w' => e = .returned (.string x) ∧ Below w.heap.size w w' :=
  (mFmtRes_any n s r a cap L b me w hr hm h1 h2 hb S (box hF)).mono fun e w' ⟨h1, h2⟩ => ⟨by rw [h1, h.out], h2⟩
theorem rFS_is {r b me : ByteArray} {n s : Int} {a : Option Addr} {cap : Nat} {L : List F} {x : ByteArray} {w : World} (hr : r.size ≤ 3000) (hm : me.size ≤ 65536) (h1 : Box (InI64 n)) (h2 : Box (InI64 s)) (hb : b.size ≤ 1000000) (S : Box (Sm L)) (hF : Fs w a L) (h : Box (bs (fmtRS (n, s, r.data.toList, L, b.data.toList) me.data.toList) = x)) :
    Calls Tryz.prog 21 #[.agg #[.int .i64 n, .int .i64 s, .string r, .slice a L.length cap, .string b], .string me] w fun e w' => e = .returned (.string x) ∧ Below w.heap.size w w' :=
  (rFmtRes_any n s r a cap L b me w hr hm h1 h2 hb S (box hF)).mono fun e w' ⟨h1, h2⟩ => ⟨by rw [h1, h.out], h2⟩
theorem mBo_is {n : Int} {m : ByteArray} {b : Bool} {w : World} (hm : m.size ≤ 65536) (h : Box (bodilessL n m.data.toList = b)) :
    Calls Tryz.prog 22 #[.int .i64 n, .string m] w fun e w' => e = .returned (.bool b) ∧ Below w.heap.size w w' :=
  (mBodil_any n m w hm).mono fun e w' ⟨h1, h2⟩ => ⟨by rw [h1, h.out], h2⟩
theorem rBo_is {n : Int} {m : ByteArray} {b : Bool} {w : World} (hm : m.size ≤ 65536) (h : Box (bodilessL n m.data.toList = b)) :
    Calls Tryz.prog 23 #[.int .i64 n, .string m] w fun e w' => e = .returned (.bool b) ∧ Below w.heap.size w w' :=
  (rBodiless_any n m w hm).mono fun e w' ⟨h1, h2⟩ => ⟨by rw [h1, h.out], by subst h2; exact Below.refl _ _⟩
set_option maxRecDepth 100000 in
set_option maxHeartbeats 4000000 in
theorem formats6_walk (m t : ByteArray) (n : Int) (a : Option Addr) (cap : Nat) (K : List F) (b : ByteArray) (n' s : Int) (r : ByteArray) (a' : Option Addr) (cap' : Nat) (L : List F) (c : ByteArray) (me : ByteArray) (w : World)
    (hm0 : m.size ≤ maxLen) (ht0 : t.size ≤ maxLen) (hn : (Lit.int .i64 n).wf = true) (hk : K.length ≤ maxLen) (hF : Fs w a K) (hb0 : b.size ≤ maxLen)
    (hn' : (Lit.int .i64 n').wf = true) (hs' : (Lit.int .i64 s).wf = true) (hr0 : r.size ≤ maxLen) (hl : L.length ≤ maxLen) (hG : Fs w a' L) (hc0 : c.size ≤ maxLen) (hme0 : me.size ≤ maxLen) :
    Calls Tryz.prog 5 #[rqV m t n a cap K b, rsV n' s r a' cap' L c, .string me] w fun e w' => e = .returned (.bool true) ∧ Below w.heap.size w w' := by
  have N1 := box (wf_i64' hn)
  have N2 := box (wf_i64' hn')
  have N3 := box (wf_i64' hs')
  have HK := box hk
  have HL := box hl
  have T0 := box (Two.new (c0 := .string m) (c1 := .string t) (c2 := .int .i64 n) (c3 := .slice a K.length cap) (c4 := .string b) (d0 := .int .i64 n') (d1 := .int .i64 s) (d2 := .string r) (d3 := .slice a' L.length cap') (d4 := .string c) 24 32 hF hG)
  unfold rqV rsV
  clear hn hn' hs' hk hl hF hG
  unfold maxLen at hm0 ht0 hb0 hr0 hc0 hme0
  go_enter Tryz.func5, Tryz.ntmps5
  go_wp2_with fail
  refine (kReq_any m t n a cap K b _ hm0 ht0 hb0 HK (box T0.out.f)).mono ?_; rintro e w1 ⟨⟨q1, rfl, hq1⟩, hb1⟩
  have T1 := box (T0.out.next hb1)
  obtain ⟨e0, e1, e2, e3, e4, e5, e6, e7, e8, e9⟩ := T1.out.cells
  clear hb1
  rcases q1 with _ | _
  · go_wp2
    go_ret
    exact ⟨rfl, T1.out.b⟩
  · have O1 := box (hq1 rfl)
    clear hq1
    go_wp2_with fail
    refine (kRes_any n' s r a' cap' L c _ hr0 hc0 HL (box T1.out.g)).mono ?_; rintro e w2 ⟨⟨q2, rfl, hq2⟩, hb2⟩
    have T2 := box (T1.out.next hb2)
    clear hb2 e0 e1 e2 e3 e4 e5 e6 e7 e8 e9
    rcases q2 with _ | _
    · go_wp2
      go_ret
      exact ⟨rfl, T2.out.b⟩
    · have O2 := box (hq2 rfl)
      clear hq2
      by_cases h100 : me.size ≤ 100
      · have i100 : ¬ (100 : Int) < (me.size : Int) := by omega
        obtain ⟨hm1, ht1, hkp, hb1⟩ := O1.out
        obtain ⟨hr1, hlp, hc1⟩ := O2.out
        have S1 := box (keep_sm6 hkp)
        have S2 := box (keep_sm6 hlp)
        have hm : m.size ≤ 3000 := by omega
        have ht : t.size ≤ 3000 := by omega
        have hr : r.size ≤ 3000 := by omega
        have hb : b.size ≤ 1000000 := by omega
        have hc : c.size ≤ 1000000 := by omega
        have hme : me.size ≤ 65536 := by omega
        obtain ⟨x, hx⟩ : ∃ x, bs (fmtRQ (m.data.toList, t.data.toList, n, K, b.data.toList)) = x := ⟨_, rfl⟩
        obtain ⟨y, hy⟩ : ∃ y, bs (fmtRS (n', s, r.data.toList, L, c.data.toList) me.data.toList) = y := ⟨_, rfl⟩
        obtain ⟨bo, hbo⟩ : ∃ bo, bodilessL s me.data.toList = bo := ⟨_, rfl⟩
        have HX := box hx
        have HY := box hy
        have HB := box hbo
        have sx := same_str x
        have sy := same_str y
        have K0 := T2
        clear hx hy hbo hkp hlp hm1 ht1 hb1 hr1 hc1 h100
        go_wp2
        go_region_held3 (fun w' => w'.cell? ⟨w.heap.size, 0, none⟩ = some (.string m) ∧ w'.cell? ⟨w.heap.size, 1, none⟩ = some (.string t) ∧ w'.cell? ⟨w.heap.size, 2, none⟩ = some (.int .i64 n) ∧ w'.cell? ⟨w.heap.size, 3, none⟩ = some (.slice a K.length cap) ∧ w'.cell? ⟨w.heap.size, 4, none⟩ = some (.string b) ∧ w'.cell? ⟨w.heap.size + 1, 0, none⟩ = some (.int .i64 n') ∧ w'.cell? ⟨w.heap.size + 1, 1, none⟩ = some (.int .i64 s) ∧ w'.cell? ⟨w.heap.size + 1, 2, none⟩ = some (.string r) ∧ w'.cell? ⟨w.heap.size + 1, 3, none⟩ = some (.slice a' L.length cap') ∧ w'.cell? ⟨w.heap.size + 1, 4, none⟩ = some (.string c)) (first | exact K7.out.cells | exact K6.out.cells | exact K5.out.cells | exact K4.out.cells | exact K3.out.cells | exact K2.out.cells | exact K1.out.cells | exact K0.out.cells | exact (K0.out.drewN).cells) (first | (go_at_call 18; refine (mFQ_is hm ht N1 hb S1 (K0.out.drewN).f HX).mono ?_; rintro e u1 ⟨rfl, hu⟩; have K1 := box ((K0.out.drewN).next hu); clear hu) | (go_at_call 19; refine (rFQ_is hm ht N1 hb S1 K1.out.f HX).mono ?_; rintro e u2 ⟨rfl, hu⟩; have K2 := box ((K1.out).next hu); clear hu) | (go_at_call 20; refine (mFS_is hr hme N2 N3 hc S2 K2.out.g HY).mono ?_; rintro e u3 ⟨rfl, hu⟩; have K3 := box ((K2.out).next hu); clear hu) | (go_at_call 21; refine (rFS_is hr hme N2 N3 hc S2 K3.out.g HY).mono ?_; rintro e u4 ⟨rfl, hu⟩; have K4 := box ((K3.out).next hu); clear hu) | (go_at_call 22; refine (mBo_is hme HB).mono ?_; rintro e u5 ⟨rfl, hu⟩; have K5 := box ((K4.out).next hu); clear hu) | (go_at_call 23; refine (rBo_is hme HB).mono ?_; rintro e u6 ⟨rfl, hu⟩; have K6 := box ((K5.out).next hu); clear hu) | (go_at_call 12; refine (awake6_any _).mono ?_; rintro e u7 ⟨rfl, hu⟩; have K7 := box ((K6.out).next hu); clear hu))
        all_goals
          go_wp2
          go_ret
          exact ⟨rfl, K7.out.b⟩
      · have i100 : (100 : Int) < (me.size : Int) := by omega
        go_wp2
        go_ret
        exact ⟨rfl, T2.out.b⟩
end
section
open Go.RowKit
theorem own_fs {w : World} {B n cap : Nat} {a : Option Addr} {L : List F} (h : OwnF w B (.slice a n cap) L) : Fs w a L := by
  obtain ⟨a', cap', he, hF, _⟩ := h.fs
  cases he; exact hF
theorem unfr_twice (K : List F) : unfrL (unfrL K) = unfrL K := unfr_id (unfr_no K)
theorem rGetL_is {a : Option Addr} {cap gl : Nat} {L : List F} {w : World} (hl : L.length ≤ 65536) (S : Box (Sm L)) (hF : Fs w a L) (h : Box ((getL hostN L).length = gl)) :
    Calls Tryz.prog 25 #[.slice a L.length cap, .string hostN] w fun e w' => (∃ a2 cap2, e = .returned (.slice a2 gl cap2)) ∧ Below w.heap.size w w' :=
  (rGet_any a cap L hostN w hl S (box (by decide)) (box hF)).mono fun e w' ⟨v, h1, h2, h3⟩ => by
    obtain ⟨a2, cap2, rfl, _, _⟩ := h2.ss
    rw [h.out] at h1
    exact ⟨⟨a2, cap2, h1⟩, h3⟩
end
section
open Go.RowKit
theorem fmt_le {m t b : List UInt8} {n : Int} {L : List F} (hb : b.length ≤ 100000) : (fmtRQ (m, t, n, L, b)).length ≤ 200000 := by
  unfold fmtRQ joinedL
  simp only
  split
  · simp
  · split
    · simp
    · rw [List.length_append]
      simp only [if_true]
      omega
theorem pos_em {x : ByteArray} (h : x.toList.isEmpty = false) : 0 < x.size := by
  have := List.length_pos_iff.mpr (ne_of_empty h)
  simpa using this
theorem kSameZ_any (a : Option Addr) (cap : Nat) (w : World) (hF : Box (Fs w a [])) :
    Calls Tryz.prog 11 #[.agg #[.string ⟨#[]⟩, .string ⟨#[]⟩, .int .i64 0, .slice a 0 cap, .string ⟨#[]⟩], .agg #[.string ⟨#[]⟩, .string ⟨#[]⟩, .int .i64 0, .slice none 0 0, .string ⟨#[]⟩]] w fun e w' => e = .returned (.bool true) ∧ Below w.heap.size w w' :=
  kSameReq_any ⟨#[]⟩ ⟨#[]⟩ 0 a none cap 0 [] ⟨#[]⟩ w (by simp) hF (box (fun i hi => absurd hi (by simp)))
set_option maxRecDepth 100000 in
set_option maxHeartbeats 4000000 in
theorem short6_walk (m t : ByteArray) (n : Int) (a : Option Addr) (cap : Nat) (K : List F) (b : ByteArray) (cut : Int) (w : World)
    (hm0 : m.size ≤ maxLen) (ht0 : t.size ≤ maxLen) (hn : (Lit.int .i64 n).wf = true) (hk : K.length ≤ maxLen) (hF : Fs w a K) (hb0 : b.size ≤ maxLen) (hcut : (Lit.int .i64 cut).wf = true) :
    Calls Tryz.prog 8 #[rqV m t n a cap K b, .int .i64 cut] w fun e w' => e = .returned (.bool true) ∧ Below w.heap.size w w' := by
  have N1 := box (wf_i64' hn)
  have HK := box hk
  have hnw0 := below_new w (.cells #[.string m, .string t, .int .i64 n, .slice a K.length cap, .string b] 24)
  have C0 := box (C5.new (.string m) (.string t) (.int .i64 n) (.slice a K.length cap) (.string b) w 24)
  have F0 := box (hF.below hnw0)
  unfold rqV
  clear hn hk hF hnw0
  unfold maxLen at hm0 ht0 hb0
  have hcI := wf_i64' hcut
  unfold InI64 at hcI
  clear hcut
  go_enter Tryz.func8, Tryz.ntmps8
  go_wp2_with fail
  refine (kReq_any m t n a cap K b _ hm0 ht0 hb0 HK F0).mono ?_; rintro e w1 ⟨⟨q1, rfl, hq1⟩, hb1⟩
  have C1 := box (C0.out.next hb1)
  have F1 := box (F0.out.below hb1)
  have B1 := box ((below_new w _).trans (hb1.mono (below_new w _).size))
  have hg1 := C1.out.lt
  clear hb1
  rcases q1 with _ | _
  · go_wp2
    go_ret
    exact ⟨rfl, B1.out⟩
  · have O1 := box (hq1 rfl)
    clear hq1
    by_cases hc0 : cut < 0
    · go_wp2
      go_ret
      exact ⟨rfl, B1.out⟩
    · obtain ⟨ci, rfl⟩ : ∃ ci : Nat, cut = ci := ⟨cut.toNat, by omega⟩
      have hci : ¬ ((ci : Int) < 0) := by omega
      obtain ⟨hm1, ht1, hkp, hbb⟩ := O1.out
      have S1 := box (keep_sm6 hkp)
      have hK70 := (keep_parts hkp).1
      have hK6 : K.length ≤ 65536 := by omega
      have hm : m.size ≤ 3000 := by omega
      have ht : t.size ≤ 3000 := by omega
      have hb : b.size ≤ 1000000 := by omega
      have hbl : b.data.toList.length = b.size := by simp
      obtain ⟨x, hx⟩ : ∃ x, bs (fmtRQ (m.data.toList, t.data.toList, n, K, b.data.toList)) = x := ⟨_, rfl⟩
      obtain ⟨gl, hgl⟩ : ∃ gl, (getL hostN K).length = gl := ⟨_, rfl⟩
      have HX := box hx
      have HG := box hgl
      have hxs : x.size ≤ 200000 := by rw [← hx, bs_size]; exact fmt_le (by omega)
      have hfx : fmtRQ (m.data.toList, t.data.toList, n, K, b.data.toList) = x.data.toList := by rw [← hx]; rfl
      have sx := same_str x
      have hxz : x.data.toList.length = x.size := by simp
      obtain ⟨⟨c0, c1, c2, c3, c4⟩, _⟩ := C1.out
      clear hx hkp hm1 ht1 hbb hc0
      go_wp2_with fail
      refine (mFQ_is hm ht N1 hb S1 F1.out HX).mono ?_; rintro e w2 ⟨rfl, hb2⟩
      have C2 := box (C1.out.next hb2)
      have F2 := box (F1.out.below hb2)
      have B2 := box (B1.out.trans (hb2.mono B1.out.size))
      clear hb2 c0 c1 c2 c3 c4
      rcases hem : x.toList.isEmpty with _ | _
      · obtain ⟨⟨c0, c1, c2, c3, c4⟩, _⟩ := C2.out
        go_wp2_with fail
        refine (rGetL_is hK6 S1 F2.out HG).mono ?_; rintro e w3 ⟨⟨a3, cap3, rfl⟩, hb3⟩
        have C3 := box (C2.out.next hb3)
        have F3 := box (F2.out.below hb3)
        have B3 := box (B2.out.trans (hb3.mono B2.out.size))
        clear hb3 c0 c1 c2 c3 c4
        by_cases hg1' : gl = 1
        · subst hg1'
          have hpos : 0 < x.size := pos_em hem
          obtain ⟨k, hk⟩ : ∃ k, ci % x.size = k := ⟨_, rfl⟩
          have hkx : k < x.size := by rw [← hk]; exact Nat.mod_lt _ hpos
          have hki : (k : Int) ≤ (x.size : Int) := by omega
          have e1 : (ci : Int) % (x.size : Int) = (k : Int) := by rw [← hk]; rfl
          have hnz : ((x.size : Int) == 0) = false := by rw [beq_eq_false_iff_ne]; omega
          have HR : Box (reqM (x.extract 0 k).data.toList = (((⟨#[]⟩ : ByteArray).data.toList, (⟨#[]⟩ : ByteArray).data.toList, 0, [], (⟨#[]⟩ : ByteArray).data.toList), 0, 2)) := box (by
            have h := request_short (q := (m.data.toList, t.data.toList, n, K, b.data.toList)) (k := k) (by rw [hfx]; exact ne_of_empty hem) (by rw [host_un]; exact hgl) (by rw [hfx, hxz]; exact hkx)
            rw [hfx] at h
            rw [ext_bs, List.drop_zero, bs_toList, h]; rfl)
          have HSZ : Box ((x.extract 0 k).size ≤ 2000000) := box (by rw [ByteArray.size_extract]; omega)
          clear hk hfx hgl hxz
          go_wp2_with fail
          refine (mReq_is (m := ⟨#[]⟩) (t := ⟨#[]⟩) (b := ⟨#[]⟩) HSZ.out HR).mono ?_; rintro e w4 ⟨⟨a4, cap4, rfl, hF4⟩, hb4⟩
          have hnw := below_new w4 (.cells #[.string ⟨#[]⟩, .string ⟨#[]⟩, .int .i64 0, .slice a4 ([] : List F).length cap4, .string ⟨#[]⟩] 24)
          have F5 := box (hF4.below hnw)
          have B5 := box (B3.out.trans ((hb4.trans (hnw.mono hb4.size)).mono B3.out.size))
          rw [List.length_nil] at F5 B5 ⊢
          clear hb4 hF4 hnw
          go_wp2_with fail
          refine (kSameZ_any a4 cap4 _ F5).mono ?_; rintro e w6 ⟨rfl, hb6⟩
          have B6 := box (B5.out.trans (hb6.mono B5.out.size))
          clear hb6
          go_wp2_with fail
          refine (awake6_any _).mono ?_; rintro e w9 ⟨rfl, hb9⟩
          have B9 := box (B6.out.trans (hb9.mono B6.out.size))
          clear hb9
          go_wp2
          go_ret
          exact ⟨rfl, B9.out⟩
        · have hg2 : ((gl : Int) != 1) = true := by rw [bne_iff_ne]; omega
          obtain ⟨⟨r0, r1, r2, r3, r4⟩, _⟩ := C3.out
          go_wp2_with fail
          refine (rFQ_is hm ht N1 hb S1 F3.out HX).mono ?_; rintro e w8 ⟨rfl, hb8⟩
          have B8 := box (B3.out.trans (hb8.mono B3.out.size))
          clear hb8
          go_wp2_with fail
          refine (awake6_any _).mono ?_; rintro e w9 ⟨rfl, hb9⟩
          have B9 := box (B8.out.trans (hb9.mono B8.out.size))
          clear hb9
          go_wp2
          go_ret
          exact ⟨rfl, B9.out⟩
      · skip
        obtain ⟨⟨r0, r1, r2, r3, r4⟩, _⟩ := C2.out
        go_wp2_with fail
        refine (rFQ_is hm ht N1 hb S1 F2.out HX).mono ?_; rintro e w8 ⟨rfl, hb8⟩
        have B8 := box (B2.out.trans (hb8.mono B2.out.size))
        clear hb8
        go_wp2_with fail
        refine (awake6_any _).mono ?_; rintro e w9 ⟨rfl, hb9⟩
        have B9 := box (B8.out.trans (hb9.mono B8.out.size))
        clear hb9
        go_wp2
        go_ret
        exact ⟨rfl, B9.out⟩
set_option maxRecDepth 100000 in
set_option maxHeartbeats 4000000 in
theorem back6_walk (m t : ByteArray) (n : Int) (a : Option Addr) (cap : Nat) (K : List F) (b : ByteArray) (more : ByteArray) (w : World)
    (hm0 : m.size ≤ maxLen) (ht0 : t.size ≤ maxLen) (hn : (Lit.int .i64 n).wf = true) (hk : K.length ≤ maxLen) (hF : Fs w a K) (hb0 : b.size ≤ maxLen) (hmo : more.size ≤ maxLen) :
    Calls Tryz.prog 6 #[rqV m t n a cap K b, .string more] w fun e w' => e = .returned (.bool true) ∧ Below w.heap.size w w' := by
  have N1 := box (wf_i64' hn)
  have HK := box hk
  have hnw0 := below_new w (.cells #[.string m, .string t, .int .i64 n, .slice a K.length cap, .string b] 24)
  have C0 := box (C5.new (.string m) (.string t) (.int .i64 n) (.slice a K.length cap) (.string b) w 24)
  have F0 := box (hF.below hnw0)
  unfold rqV
  clear hn hk hF hnw0
  unfold maxLen at hm0 ht0 hb0
  unfold maxLen at hmo
  go_enter Tryz.func6, Tryz.ntmps6
  go_wp2_with fail
  refine (kReq_any m t n a cap K b _ hm0 ht0 hb0 HK F0).mono ?_; rintro e w1 ⟨⟨q1, rfl, hq1⟩, hb1⟩
  have C1 := box (C0.out.next hb1)
  have F1 := box (F0.out.below hb1)
  have B1 := box ((below_new w _).trans (hb1.mono (below_new w _).size))
  have hg1 := C1.out.lt
  clear hb1
  rcases q1 with _ | _
  · go_wp2
    go_ret
    exact ⟨rfl, B1.out⟩
  · have O1 := box (hq1 rfl)
    clear hq1
    by_cases hmo1 : more.size ≤ 1000
    · have hmi : ¬ (1000 : Int) < (more.size : Int) := by omega
      obtain ⟨hm1, ht1, hkp, hbb⟩ := O1.out
      have S1 := box (keep_sm6 hkp)
      have hK70 := (keep_parts hkp).1
      have hK6 : K.length ≤ 65536 := by omega
      have hm : m.size ≤ 3000 := by omega
      have ht : t.size ≤ 3000 := by omega
      have hb : b.size ≤ 1000000 := by omega
      have hbl : b.data.toList.length = b.size := by simp
      obtain ⟨U, hU⟩ : ∃ U, unfrL K = U := ⟨_, rfl⟩
      have hUK : U.length ≤ 65536 := by
        rw [← hU]; exact Nat.le_trans (Nat.le_trans (List.length_filter_le _ _) (List.length_filter_le _ _)) hK6
      have S2 : Box (Sm U) := box (by rw [← hU]; exact sm_rem (sm_rem S1.out))
      have HUU : Box (unfrL U = U) := box (by rw [← hU]; exact unfr_twice K)
      have HU := box hU
      obtain ⟨x, hx⟩ : ∃ x, bs (fmtRQ (m.data.toList, t.data.toList, n, U, b.data.toList)) = x := ⟨_, rfl⟩
      obtain ⟨gl, hgl⟩ : ∃ gl, (getL hostN U).length = gl := ⟨_, rfl⟩
      have HX := box hx
      have HG := box hgl
      have hxs : x.size ≤ 200000 := by rw [← hx, bs_size]; exact fmt_le (by omega)
      have hfx : fmtRQ (m.data.toList, t.data.toList, n, U, b.data.toList) = x.data.toList := by rw [← hx]; rfl
      have sx := same_str x
      obtain ⟨⟨c0, c1, c2, c3, c4⟩, _⟩ := C1.out
      clear hx hU hkp hm1 ht1 hbb
      go_wp2_with fail
      refine (rUnframed_any a cap K _ S1 F1).mono ?_; rintro e w2 ⟨v2, rfl, hO2, hb2⟩
      rw [HU.out] at hO2
      obtain ⟨a2, cap2, rfl, _, _⟩ := hO2.fs
      have C2 := C1.out.next hb2
      have O3 := own_only hO2 ((Only.refl w.heap.size w2).setAt 3 (.slice a2 U.length cap2)) hg1
      have C3 := box (C2.set3 (.slice a2 U.length cap2))
      have F3 := box (own_fs O3)
      have B3 := box ((B1.out.trans (hb2.mono B1.out.size)).setCell (p := ⟨w.heap.size, 3, none⟩) (Nat.le_refl _) (.slice a2 U.length cap2))
      obtain ⟨⟨d0, d1, d2, d3, d4⟩, ⟨f0, f1, f2, f3, f4⟩⟩ := C2
      clear hb2 hO2 O3 c0 c1 c2 c3 c4
      go_wp2_with fail
      refine (mFQ_is hm ht N1 hb S2 F3.out HX).mono ?_; rintro e w4 ⟨rfl, hb4⟩
      have C4 := box (C3.out.next hb4)
      have F4 := box (F3.out.below hb4)
      have B4 := box (B3.out.trans (hb4.mono B3.out.size))
      clear hb4 d0 d1 d2 d3 d4 f0 f1 f2 f3 f4
      rcases hem : x.toList.isEmpty with _ | _
      · obtain ⟨⟨c0, c1, c2, c3, c4⟩, _⟩ := C4.out
        go_wp2_with fail
        refine (rGetL_is hUK S2 F4.out HG).mono ?_; rintro e w5 ⟨⟨a5, cap5, rfl⟩, hb5⟩
        have C5' := box (C4.out.next hb5)
        have F5 := box (F4.out.below hb5)
        have B5 := box (B4.out.trans (hb5.mono B4.out.size))
        clear hb5 c0 c1 c2 c3 c4
        by_cases hg1' : gl = 1
        · subst hg1'
          have r1 : ∀ w, (Op.stringOp .add x more).run Tryz.prog w = .ok (.string (x ++ more)) w := fun w => run_string_add_sum w _ _ (by omega)
          have HR : Box (reqM (x ++ more).data.toList = ((m.data.toList, t.data.toList, n, U, b.data.toList), (x.size : Int), 0)) := box (by
            have h := request_back (q := (m.data.toList, t.data.toList, n, U, b.data.toList)) (more := more.data.toList) (by rw [hfx]; exact ne_of_empty hem) (by rw [HUU.out]; exact hgl)
            rw [hfx, HUU.out] at h
            rw [ByteArray.data_append, Array.toList_append, h]
            simp)
          have HSZ : Box ((x ++ more).size ≤ 2000000) := box (by rw [ByteArray.size_append]; omega)
          clear hfx hgl
          go_wp2_with fail
          refine (mReq_is HSZ.out HR).mono ?_; rintro e w6 ⟨⟨a6, cap6, rfl, hF6⟩, hb6⟩
          have hnw := below_new w6 (.cells #[.string m, .string t, .int .i64 n, .slice a6 U.length cap6, .string b] 24)
          have F7 := box (hF6.below hnw)
          have F8 := box ((F5.out.below hb6).below hnw)
          have hC6 := C5'.out.next hb6
          have hg6 := hC6.lt
          have hne : w.heap.size ≠ w6.heap.size := Nat.ne_of_lt hg6
          have B7 := box (B5.out.trans ((hb6.trans (hnw.mono hb6.size)).mono B5.out.size))
          obtain ⟨⟨c0, c1, c2, c3, c4⟩, _⟩ := hC6
          clear hb6 hF6 hnw
          go_wp2_with fail
          refine (kSameReq_any m t n a6 a2 cap6 cap2 U b _ hUK F7 F8).mono ?_; rintro e w8 ⟨rfl, hb8⟩
          have B8 := box (B7.out.trans (hb8.mono B7.out.size))
          clear hb8 c0 c1 c2 c3 c4
          go_wp2_with fail
          refine (awake6_any _).mono ?_; rintro e w9 ⟨rfl, hb9⟩
          have B9 := box (B8.out.trans (hb9.mono B8.out.size))
          clear hb9
          go_wp2
          go_ret
          exact ⟨rfl, B9.out⟩
        · have hg2 : ((gl : Int) != 1) = true := by rw [bne_iff_ne]; omega
          obtain ⟨⟨r0, r1, r2, r3, r4⟩, _⟩ := C5'.out
          go_wp2_with fail
          refine (rFQ_is hm ht N1 hb S2 F5.out HX).mono ?_; rintro e w8 ⟨rfl, hb8⟩
          have B8 := box (B5.out.trans (hb8.mono B5.out.size))
          clear hb8
          go_wp2_with fail
          refine (awake6_any _).mono ?_; rintro e w9 ⟨rfl, hb9⟩
          have B9 := box (B8.out.trans (hb9.mono B8.out.size))
          clear hb9
          go_wp2
          go_ret
          exact ⟨rfl, B9.out⟩
      · skip
        obtain ⟨⟨r0, r1, r2, r3, r4⟩, _⟩ := C4.out
        go_wp2_with fail
        refine (rFQ_is hm ht N1 hb S2 F4.out HX).mono ?_; rintro e w8 ⟨rfl, hb8⟩
        have B8 := box (B4.out.trans (hb8.mono B4.out.size))
        clear hb8
        go_wp2_with fail
        refine (awake6_any _).mono ?_; rintro e w9 ⟨rfl, hb9⟩
        have B9 := box (B8.out.trans (hb9.mono B8.out.size))
        clear hb9
        go_wp2
        go_ret
        exact ⟨rfl, B9.out⟩
    · have hmi : (1000 : Int) < (more.size : Int) := by omega
      go_wp2
      go_ret
      exact ⟨rfl, B1.out⟩
end
section
open Go.RowKit
theorem fmtS_le {r b m : List UInt8} {n s : Int} {L : List F} (hb : b.length ≤ 100000) : (fmtRS (n, s, r, L, b) m).length ≤ 200000 := by
  unfold fmtRS joinedL
  simp only
  split
  · simp
  · split
    · simp
    · rw [List.length_append]
      split
      · omega
      · simp; omega
set_option maxRecDepth 100000 in
set_option maxHeartbeats 4000000 in
theorem replies6_walk (n s : Int) (r : ByteArray) (a : Option Addr) (cap : Nat) (K : List F) (b me more : ByteArray) (cl : Bool) (w : World)
    (hn : (Lit.int .i64 n).wf = true) (hs' : (Lit.int .i64 s).wf = true) (hr0 : r.size ≤ maxLen) (hk : K.length ≤ maxLen) (hF : Fs w a K) (hb0 : b.size ≤ maxLen) (hme0 : me.size ≤ maxLen) (hmo : more.size ≤ maxLen) :
    Calls Tryz.prog 7 #[rsV n s r a cap K b, .string me, .string more, .bool cl] w fun e w' => e = .returned (.bool true) ∧ Below w.heap.size w w' := by
  have N1 := box (wf_i64' hn)
  have N2 := box (wf_i64' hs')
  have HK := box hk
  have hnw0 := below_new w (.cells #[.int .i64 n, .int .i64 s, .string r, .slice a K.length cap, .string b] 32)
  have C0 := box (C5.new (.int .i64 n) (.int .i64 s) (.string r) (.slice a K.length cap) (.string b) w 32)
  have F0 := box (hF.below hnw0)
  unfold rsV
  clear hn hs' hk hF hnw0
  unfold maxLen at hr0 hb0 hme0 hmo
  go_enter Tryz.func7, Tryz.ntmps7
  go_wp2_with fail
  refine (kRes_any n s r a cap K b _ hr0 hb0 HK F0).mono ?_; rintro e w1 ⟨⟨q1, rfl, hq1⟩, hb1⟩
  have C1 := box (C0.out.next hb1)
  have F1 := box (F0.out.below hb1)
  have B1 := box ((below_new w _).trans (hb1.mono (below_new w _).size))
  have hg1 := C1.out.lt
  clear hb1
  rcases q1 with _ | _
  · go_wp2
    go_ret
    exact ⟨rfl, B1.out⟩
  · have O1 := box (hq1 rfl)
    clear hq1
    by_cases hme1 : me.size ≤ 100
    · have hmi : ¬ (100 : Int) < (me.size : Int) := by omega
      by_cases hmo1 : more.size ≤ 1000
      · have hoi : ¬ (1000 : Int) < (more.size : Int) := by omega
        obtain ⟨hr1, hkp, hbb⟩ := O1.out
        have S1 := box (keep_sm6 hkp)
        have hK70 := (keep_parts hkp).1
        have hr : r.size ≤ 3000 := by omega
        have hb : b.size ≤ 1000000 := by omega
        have hme : me.size ≤ 65536 := by omega
        have hbl : b.data.toList.length = b.size := by simp
        obtain ⟨U, hU⟩ : ∃ U, unfrL K = U := ⟨_, rfl⟩
        have hUK : U.length ≤ 65536 := by
          have : U.length ≤ K.length := by rw [← hU]; exact Nat.le_trans (List.length_filter_le _ _) (List.length_filter_le _ _)
          omega
        have S2 : Box (Sm U) := box (by rw [← hU]; exact sm_rem (sm_rem S1.out))
        have HUU : Box (unfrL U = U) := box (by rw [← hU]; exact unfr_twice K)
        have HU := box hU
        obtain ⟨x, hx⟩ : ∃ x, bs (fmtRS (n, s, r.data.toList, U, b.data.toList) me.data.toList) = x := ⟨_, rfl⟩
        have HX := box hx
        have hxs : x.size ≤ 200000 := by rw [← hx, bs_size]; exact fmtS_le (by omega)
        have hfx : fmtRS (n, s, r.data.toList, U, b.data.toList) me.data.toList = x.data.toList := by rw [← hx]; rfl
        have sx := same_str x
        have HSZ : Box ((x ++ more).size ≤ 2000000) := box (by rw [ByteArray.size_append]; omega)
        have r1 : ∀ w, (Op.stringOp .add x more).run Tryz.prog w = .ok (.string (x ++ more)) w := fun w => run_string_add_sum w _ _ (by omega)
        obtain ⟨⟨c0, c1, c2, c3, c4⟩, _⟩ := C1.out
        clear hx hU hkp hr1 hbb
        go_wp2_with fail
        refine (rUnframed_any a cap K _ S1 F1).mono ?_; rintro e w2 ⟨v2, rfl, hO2, hb2⟩
        rw [HU.out] at hO2
        obtain ⟨a2, cap2, rfl, _, _⟩ := hO2.fs
        have C2 := C1.out.next hb2
        have O3 := box (own_only hO2 ((Only.refl w.heap.size w2).setAt 3 (.slice a2 U.length cap2)) hg1)
        have C3 := box (C2.set3 (.slice a2 U.length cap2))
        have F3 := box (own_fs O3.out)
        have B3 := box ((B1.out.trans (hb2.mono B1.out.size)).setCell (p := ⟨w.heap.size, 3, none⟩) (Nat.le_refl _) (.slice a2 U.length cap2))
        obtain ⟨⟨d0, d1, d2, d3, d4⟩, ⟨f0, f1, f2, f3, f4⟩⟩ := C2
        clear hb2 hO2 c0 c1 c2 c3 c4
        go_wp2_with fail
        refine (mFS_is hr hme N1 N2 hb S2 F3.out HX).mono ?_; rintro e w4 ⟨rfl, hb4⟩
        have C4 := box (C3.out.next hb4)
        have F4 := box (F3.out.below hb4)
        have O4 := box (own_below O3.out hb4)
        have B4 := box (B3.out.trans (hb4.mono B3.out.size))
        clear hb4 d0 d1 d2 d3 d4 f0 f1 f2 f3 f4
        rcases hem : x.toList.isEmpty with _ | _
        · obtain ⟨nb, hnb⟩ : ∃ nb, bodilessL s me.data.toList = nb := ⟨_, rfl⟩
          have HB := box hnb
          clear hnb
          obtain ⟨⟨c0, c1, c2, c3, c4⟩, _⟩ := C4.out
          go_wp2_with fail
          refine (mBo_is hme HB).mono ?_; rintro e w5 ⟨rfl, hb5⟩
          have C5' := box (C4.out.next hb5)
          have O5 := box (own_below O4.out hb5)
          have B5 := box (B4.out.trans (hb5.mono B4.out.size))
          clear hb5 c0 c1 c2 c3 c4
          rcases nb with _ | _
          · skip
            have HR : Box (resM (x ++ more).data.toList me.data.toList cl = ((n, s, r.data.toList, U, (b : ByteArray).data.toList), (x.size : Int), 0)) := box (by
              have h := response_back (r := (n, s, r.data.toList, U, b.data.toList)) (m := me.data.toList) (more := more.data.toList) (closed := cl) (by rw [hfx]; exact ne_of_empty hem)
              simp only [HB.out, HUU.out, hfx] at h
              rw [ByteArray.data_append, Array.toList_append, h]
              simp)
            clear hfx
            have C6 := C5'
            have B6 := B5
            have F6 := box (own_fs O5.out)
            obtain ⟨⟨c0, c1, c2, c3, c4⟩, ⟨f0, f1, f2, f3, f4⟩⟩ := C5'.out
            go_wp2_with fail
            refine (mRes_is (t := r) (b := b) HSZ.out hme HR).mono ?_; rintro e w6 ⟨⟨a6, cap6, rfl, hF6⟩, hb6⟩
            have hnw := below_new w6 (.cells #[.int .i64 n, .int .i64 s, .string r, .slice a6 U.length cap6, .string b] 32)
            have F7 := box (hF6.below hnw)
            have F8 := box ((F6.out.below hb6).below hnw)
            have hC6 := C6.out.next hb6
            have hg6 := hC6.lt
            have hne : w.heap.size ≠ w6.heap.size := Nat.ne_of_lt hg6
            have B7 := box (B6.out.trans ((hb6.trans (hnw.mono hb6.size)).mono B6.out.size))
            clear c0 c1 c2 c3 c4 f0 f1 f2 f3 f4
            obtain ⟨⟨c0, c1, c2, c3, c4⟩, _⟩ := hC6
            clear hb6 hF6 hnw
            go_wp2_with fail
            refine (kSameRes_any n s r a6 a2 cap6 cap2 U b _ hUK F7 F8).mono ?_; rintro e w8 ⟨rfl, hb8⟩
            have B8 := box (B7.out.trans (hb8.mono B7.out.size))
            clear hb8 c0 c1 c2 c3 c4
            go_wp2_with fail
            refine (awake6_any _).mono ?_; rintro e w9 ⟨rfl, hb9⟩
            have B9 := box (B8.out.trans (hb9.mono B8.out.size))
            clear hb9
            go_wp2
            go_ret
            exact ⟨rfl, B9.out⟩
          · skip
            have HR : Box (resM (x ++ more).data.toList me.data.toList cl = ((n, s, r.data.toList, U, (⟨#[]⟩ : ByteArray).data.toList), (x.size : Int), 0)) := box (by
              have h := response_back (r := (n, s, r.data.toList, U, b.data.toList)) (m := me.data.toList) (more := more.data.toList) (closed := cl) (by rw [hfx]; exact ne_of_empty hem)
              simp only [HB.out, HUU.out, hfx] at h
              rw [ByteArray.data_append, Array.toList_append, h]
              simp)
            clear hfx
            have C6 := box (C5'.out.set4 (.string ⟨#[]⟩))
            have B6 := box (B5.out.setCell (p := ⟨w.heap.size, 4, none⟩) (Nat.le_refl _) (.string ⟨#[]⟩))
            have O6 := own_only O5.out ((Only.refl w.heap.size w5).setAt 4 (.string ⟨#[]⟩)) hg1
            have F6 := box (own_fs O6)
            obtain ⟨⟨c0, c1, c2, c3, c4⟩, ⟨f0, f1, f2, f3, f4⟩⟩ := C5'.out
            clear O6
            go_wp2_with fail
            refine (mRes_is (t := r) (b := ⟨#[]⟩) HSZ.out hme HR).mono ?_; rintro e w6 ⟨⟨a6, cap6, rfl, hF6⟩, hb6⟩
            have hnw := below_new w6 (.cells #[.int .i64 n, .int .i64 s, .string r, .slice a6 U.length cap6, .string ⟨#[]⟩] 32)
            have F7 := box (hF6.below hnw)
            have F8 := box ((F6.out.below hb6).below hnw)
            have hC6 := C6.out.next hb6
            have hg6 := hC6.lt
            have hne : w.heap.size ≠ w6.heap.size := Nat.ne_of_lt hg6
            have B7 := box (B6.out.trans ((hb6.trans (hnw.mono hb6.size)).mono B6.out.size))
            clear c0 c1 c2 c3 c4 f0 f1 f2 f3 f4
            obtain ⟨⟨c0, c1, c2, c3, c4⟩, _⟩ := hC6
            clear hb6 hF6 hnw
            go_wp2_with fail
            refine (kSameRes_any n s r a6 a2 cap6 cap2 U ⟨#[]⟩ _ hUK F7 F8).mono ?_; rintro e w8 ⟨rfl, hb8⟩
            have B8 := box (B7.out.trans (hb8.mono B7.out.size))
            clear hb8 c0 c1 c2 c3 c4
            go_wp2_with fail
            refine (awake6_any _).mono ?_; rintro e w9 ⟨rfl, hb9⟩
            have B9 := box (B8.out.trans (hb9.mono B8.out.size))
            clear hb9
            go_wp2
            go_ret
            exact ⟨rfl, B9.out⟩
        · obtain ⟨⟨c0, c1, c2, c3, c4⟩, _⟩ := C4.out
          go_wp2_with fail
          refine (rFS_is hr hme N1 N2 hb S2 F4.out HX).mono ?_; rintro e w8 ⟨rfl, hb8⟩
          have B8 := box (B4.out.trans (hb8.mono B4.out.size))
          clear hb8
          go_wp2_with fail
          refine (awake6_any _).mono ?_; rintro e w9 ⟨rfl, hb9⟩
          have B9 := box (B8.out.trans (hb9.mono B8.out.size))
          clear hb9
          go_wp2
          go_ret
          exact ⟨rfl, B9.out⟩
      · have hoi : (1000 : Int) < (more.size : Int) := by omega
        go_wp2
        go_ret
        exact ⟨rfl, B1.out⟩
    · have hmi : (100 : Int) < (me.size : Int) := by omega
      go_wp2
      go_ret
      exact ⟨rfl, B1.out⟩
end
end Go.Proofs.YtjabcfabenobiaaGreat.Asc
