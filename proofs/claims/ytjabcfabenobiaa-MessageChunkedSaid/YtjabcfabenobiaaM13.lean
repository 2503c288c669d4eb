/- Merged texts: MsgKeep MsgLaws MsgLaws2 MsgLaws3 MsgLaws4 MsgSpec7. -/
import Derived.Test.YtjabcfabenobiaaM06
import Derived.Test.YtjabcfabenobiaaM07
import Derived.Test.YtjabcfabenobiaaM09
import Derived.Test.YtjabcfabenobiaaM10
import Derived.Test.YtjabcfabenobiaaM11
import Derived.Test.YtjabcfabenobiaaM12
import Derived.Deep.RegionHeld3
import Derived.Deep.RegionWith
import Derived.StillTailTactics
set_option linter.unusedVariables false
set_option linter.unusedSimpArgs false
set_option maxRecDepth 100000
namespace Go.Proofs.Ytjabcfabenobiaa.Asc
section
open Go.RowKit
theorem keepF_is {a : Option Addr} {cap : Nat} {L : List F} {q : Bool} {w : World} (hl : Box (L.length ≤ maxLen)) (hF : Box (Fs w a L)) (h : Box (keepF L = q)) :
    Calls Try.prog 15 #[.slice a L.length cap] w fun e w' => e = .returned (.bool q) ∧ w = w' :=
  (keepFields_any a cap L w hl.out hF).mono fun e w' ⟨h1, h2⟩ => ⟨by rw [h1, h.out], h2⟩
/-- what a keep function answers -/
def KeepPost (P : Prop) (e : Ending) : Prop := ∃ q : Bool, e = .returned (.bool q) ∧ (q = true → P)
def okRq (m t : ByteArray) (L : List F) (b : ByteArray) : Prop := m.size ≤ 100 ∧ t.size ≤ 2100 ∧ keepF L = true ∧ b.size ≤ 2000
theorem kReq_any (m t : ByteArray) (n : Int) (a : Option Addr) (cap : Nat) (L : List F) (b : ByteArray) (w : World) (hm : m.size ≤ maxLen) (ht : t.size ≤ maxLen) (hb : b.size ≤ maxLen) (hl : Box (L.length ≤ maxLen)) (hF : Box (Fs w a L)) :
    Calls Try.prog 5 #[rqV m t n a cap L b] w fun e w' => KeepPost (okRq m t L b) e ∧ Below w.heap.size w w' := by
  unfold rqV maxLen at *
  have F1 := box (hF.out.below (below_new w (.cells #[.string m, .string t, .int .i64 n, .slice a L.length cap, .string b] 24)))
  by_cases h1 : m.size ≤ 100
  · have i1 : (m.size : Int) ≤ 100 := by omega
    by_cases h2 : t.size ≤ 2100
    · have i2 : (t.size : Int) ≤ 2100 := by omega
      rcases hk : keepF L with _ | _
      · have HK := box hk
        clear hk
        go_enter Try.func5, Try.ntmps5
        go_wp2_with fail
        refine (keepF_is hl F1 HK).mono ?_; rintro e w1 ⟨rfl, rfl⟩
        go_wp2
        go_ret
        exact ⟨⟨_, rfl, fun h => by cases h⟩, below_new _ _⟩
      · have HK := box hk
        clear hk
        by_cases h3 : b.size ≤ 2000
        · have i3 : (b.size : Int) ≤ 2000 := by omega
          go_enter Try.func5, Try.ntmps5
          go_wp2_with fail
          refine (keepF_is hl F1 HK).mono ?_; rintro e w1 ⟨rfl, rfl⟩
          go_wp2
          go_ret
          exact ⟨⟨_, rfl, fun _ => ⟨h1, h2, HK.out, h3⟩⟩, below_new _ _⟩
        · have i3 : ¬ (b.size : Int) ≤ 2000 := by omega
          go_enter Try.func5, Try.ntmps5
          go_wp2_with fail
          refine (keepF_is hl F1 HK).mono ?_; rintro e w1 ⟨rfl, rfl⟩
          go_wp2
          go_ret
          refine ⟨⟨_, rfl, fun h => ?_⟩, below_new _ _⟩
          exact absurd (of_decide_eq_true h) (by omega)
    · have i2 : ¬ (t.size : Int) ≤ 2100 := by omega
      go_enter Try.func5, Try.ntmps5
      go_wp2
      go_ret
      exact ⟨⟨_, rfl, fun h => by first | cases h | exact absurd (of_decide_eq_true h) (by omega)⟩, below_new _ _⟩
  · have i1 : ¬ (m.size : Int) ≤ 100 := by omega
    go_enter Try.func5, Try.ntmps5
    go_wp2
    go_ret
    exact ⟨⟨_, rfl, fun h => by first | cases h | exact absurd (of_decide_eq_true h) (by omega)⟩, below_new _ _⟩
theorem same_str (m : ByteArray) : (m.toList == m.toList) = true := by simp
theorem sameF_is {a b : Option Addr} {ca cb : Nat} {L : List F} {w : World} (hl : L.length ≤ 65536) (hK : Box (Fs w a L)) (hL : Box (Fs w b L)) :
    Calls Try.prog 22 #[.slice a L.length ca, .slice b L.length cb] w fun e w' => e = .returned (.bool true) ∧ Below w.heap.size w w' :=
  (SameF_any a b ca cb L L w hl hl hK hL).mono fun e w' ⟨h1, h2⟩ => ⟨by rw [h1, decide_eq_true rfl], h2⟩
theorem kSameReq_any (m t : ByteArray) (n : Int) (a a' : Option Addr) (cap cap' : Nat) (L : List F) (b : ByteArray) (w : World) (hl : L.length ≤ 65536) (hF : Box (Fs w a L)) (hF' : Box (Fs w a' L)) :
    Calls Try.prog 12 #[rqV m t n a cap L b, rqV m t n a' cap' L b] w fun e w' => e = .returned (.bool true) ∧ Below w.heap.size w w' := by
  unfold rqV
  have B1 := box ((below_new w (.cells #[.string m, .string t, .int .i64 n, .slice a L.length cap, .string b] 24)).trans ((below_new _ (.cells #[.string m, .string t, .int .i64 n, .slice a' L.length cap', .string b] 24)).mono (size_more _ _)))
  have F1 := box (hF.out.below B1.out)
  have F2 := box (hF'.out.below B1.out)
  have s1 := same_str m
  have s2 := same_str t
  have s3 := same_str b
  go_enter Try.func12, Try.ntmps12
  go_wp2_with fail
  refine (sameF_is hl F1 F2).mono ?_; rintro e w1 ⟨rfl, hb1⟩
  have B2 := box (B1.out.trans (hb1.mono B1.out.size))
  have C := (C5.new (.string m) (.string t) (.int .i64 n) (.slice a L.length cap) (.string b) w 24)
  have D := ((C5.new (.string m) (.string t) (.int .i64 n) (.slice a' L.length cap') (.string b) (w.alloc (.cells #[.string m, .string t, .int .i64 n, .slice a L.length cap, .string b] 24)) 24)).next hb1
  have C2 := (C.next (below_new _ (.cells #[.string m, .string t, .int .i64 n, .slice a' L.length cap', .string b] 24))).next hb1
  rw [show (w.alloc (.cells #[.string m, .string t, .int .i64 n, .slice a L.length cap, .string b] 24)).heap.size = w.heap.size + 1 from by simp] at D
  obtain ⟨⟨_, _, _, _, c4⟩, _⟩ := C2
  obtain ⟨⟨_, _, _, _, d4⟩, _⟩ := D
  clear C hb1
  go_wp2
  go_ret
  exact ⟨rfl, B2.out⟩
end
section
open Go.RowKit
/-- a request is returned: its parts -/
def ReqIs (m t : ByteArray) (mi : Int) (L : List F) (b : ByteArray) (n e0 : Int) (e : Ending) (w' : World) : Prop := ∃ a cap, e = .returned (.tuple #[.agg #[.string m, .string t, .int .i64 mi, .slice a L.length cap, .string b], .int .i64 n, .int .i64 e0]) ∧ Fs w' a L
theorem mReq_is {s m t b : ByteArray} {mi n e0 : Int} {L : List F} {w : World} (hs : s.size ≤ 2000000) (h : Box (reqM s.data.toList = ((m.data.toList, t.data.toList, mi, L, b.data.toList), n, e0))) :
    Calls Try.prog 9 #[.string s] w fun e w' => ReqIs m t mi L b n e0 e w' ∧ Below w.heap.size w w' :=
  (mReq_any s w hs).mono fun e w' ⟨h1, h2⟩ => by
    rw [h.out] at h1
    obtain ⟨v, he, hO⟩ := h1
    obtain ⟨a, cap, rfl, hF, _⟩ := hO.fs
    exact ⟨⟨a, cap, he, hF⟩, h2⟩
def awakeS : ByteArray := ⟨#[80, 85, 84, 32, 47, 32, 72, 84, 84, 80, 47, 49, 46, 49, 13, 10, 72, 111, 115, 116, 58, 32, 97, 13, 10, 67, 111, 110, 116, 101, 110, 116, 45, 76, 101, 110, 103, 116, 104, 58, 32, 50, 13, 10, 13, 10, 104, 105, 120]⟩
theorem awake_req : reqM awakeS.data.toList = (((⟨#[80, 85, 84]⟩ : ByteArray).data.toList, (⟨#[47]⟩ : ByteArray).data.toList, 1, [(hostN, ⟨#[97]⟩)], (⟨#[104, 105]⟩ : ByteArray).data.toList), 48, 0) := by kernel_rfl
theorem awake6_any (w : World) : Calls Try.prog 8 #[] w fun e w' => e = .returned (.bool true) ∧ Below w.heap.size w w' := by
  have HZ : awakeS.size ≤ 2000000 := by decide
  go_enter Try.func8, Try.ntmps8
  go_wp2_with fail
  refine (mReq_is (m := ⟨#[80, 85, 84]⟩) (t := ⟨#[47]⟩) (b := ⟨#[104, 105]⟩) HZ (box awake_req)).mono ?_; rintro e w1 ⟨⟨a, cap, rfl, hF⟩, hb1⟩
  have B1 := box (hb1.trans ((below_new w1 (.cells #[.string ⟨#[80, 85, 84]⟩, .string ⟨#[47]⟩, .int .i64 1, .slice a 1 cap, .string ⟨#[104, 105]⟩] 24)).mono hb1.size))
  clear hF hb1
  rw [show ([(hostN, (⟨#[97]⟩ : ByteArray))] : List F).length = 1 from rfl]
  go_wp2
  go_ret
  exact ⟨rfl, B1.out⟩
end
section
open Go.RowKit
theorem keep_sm6 {L : List F} (h : keepF L = true) : Sm L := by
  obtain ⟨h1, h2⟩ := keep_parts h
  refine ⟨by omega, fun i hi => ?_⟩
  have := h2 i hi
  omega
theorem wf_i64' {n : Int} (h : (Lit.int .i64 n).wf = true) : InI64 n := by
  unfold InI64
  simp [Lit.wf, IntKind.min, IntKind.max, IntKind.signed, IntKind.bits] at h
  omega
/-- two structs of five cells lie one behind the other, and two lists of fields -/
structure Two (w : World) (c0 c1 c2 c3 c4 d0 d1 d2 d3 d4 : Value) (a a' : Option Addr) (K L : List F) (w' : World) : Prop where
  c : C5 w.heap.size c0 c1 c2 c3 c4 w'
  d : C5 (w.heap.size + 1) d0 d1 d2 d3 d4 w'
  f : Fs w' a K
  g : Fs w' a' L
  b : Below w.heap.size w w'
section
variable {w w' w'' : World} {c0 c1 c2 c3 c4 d0 d1 d2 d3 d4 : Value} {a a' : Option Addr} {K L : List F}
theorem Two.next (h : Two w c0 c1 c2 c3 c4 d0 d1 d2 d3 d4 a a' K L w') (hb : Below w'.heap.size w' w'') : Two w c0 c1 c2 c3 c4 d0 d1 d2 d3 d4 a a' K L w'' :=
  ⟨h.c.next hb, h.d.next hb, h.f.below hb, h.g.below hb, h.b.trans (hb.mono h.b.size)⟩
theorem Two.drewN {n : Nat} (h : Two w c0 c1 c2 c3 c4 d0 d1 d2 d3 d4 a a' K L w') : Two w c0 c1 c2 c3 c4 d0 d1 d2 d3 d4 a a' K L (w'.drewN n) := h.next (below_drewN _ _)
theorem Two.new (t1 t2 : TypeId) (hF : Fs w a K) (hG : Fs w a' L) : Two w c0 c1 c2 c3 c4 d0 d1 d2 d3 d4 a a' K L ((w.alloc (.cells #[c0, c1, c2, c3, c4] t1)).alloc (.cells #[d0, d1, d2, d3, d4] t2)) := by
  have b1 := below_new w (.cells #[c0, c1, c2, c3, c4] t1)
  have b2 := below_new (w.alloc (.cells #[c0, c1, c2, c3, c4] t1)) (.cells #[d0, d1, d2, d3, d4] t2)
  have D := C5.new d0 d1 d2 d3 d4 (w.alloc (.cells #[c0, c1, c2, c3, c4] t1)) t2
  rw [show (w.alloc (.cells #[c0, c1, c2, c3, c4] t1)).heap.size = w.heap.size + 1 from by simp] at D
  exact ⟨(C5.new c0 c1 c2 c3 c4 w t1).next b2, D, (hF.below b1).below b2, (hG.below b1).below b2, b1.trans (b2.mono b1.size)⟩
theorem Two.cells (h : Two w c0 c1 c2 c3 c4 d0 d1 d2 d3 d4 a a' K L w') : w'.cell? ⟨w.heap.size, 0, none⟩ = some c0 ∧ w'.cell? ⟨w.heap.size, 1, none⟩ = some c1 ∧ w'.cell? ⟨w.heap.size, 2, none⟩ = some c2 ∧ w'.cell? ⟨w.heap.size, 3, none⟩ = some c3 ∧ w'.cell? ⟨w.heap.size, 4, none⟩ = some c4 ∧ w'.cell? ⟨w.heap.size + 1, 0, none⟩ = some d0 ∧ w'.cell? ⟨w.heap.size + 1, 1, none⟩ = some d1 ∧ w'.cell? ⟨w.heap.size + 1, 2, none⟩ = some d2 ∧ w'.cell? ⟨w.heap.size + 1, 3, none⟩ = some d3 ∧ w'.cell? ⟨w.heap.size + 1, 4, none⟩ = some d4 :=
  ⟨h.c.1.1, h.c.1.2.1, h.c.1.2.2.1, h.c.1.2.2.2.1, h.c.1.2.2.2.2, h.d.1.1, h.d.1.2.1, h.d.1.2.2.1, h.d.1.2.2.2.1, h.d.1.2.2.2.2⟩
end
theorem rFQ_is {m t b : ByteArray} {n : Int} {a : Option Addr} {cap : Nat} {L : List F} {x : ByteArray} {w : World} (hm : m.size ≤ 3000) (ht : t.size ≤ 3000) (h1 : Box (InI64 n)) (hb : b.size ≤ 1000000) (S : Box (Sm L)) (hF : Fs w a L) (h : Box (bs (fmtRQ (m.data.toList, t.data.toList, n, L, b.data.toList)) = x)) :
    Calls Try.prog 7 #[.agg #[.string m, .string t, .int .i64 n, .slice a L.length cap, .string b]] w fun e w' => e = .returned (.string x) ∧ Below w.heap.size w w' :=
  (rFmtReq_any m t n a cap L b w hm ht h1 hb S (box hF)).mono fun e w' ⟨h1, h2⟩ => ⟨by rw [h1, h.out], h2⟩
end
section
open Go.RowKit
theorem own_fs {w : World} {B n cap : Nat} {a : Option Addr} {L : List F} (h : OwnF w B (.slice a n cap) L) : Fs w a L := by
  obtain ⟨a', cap', he, hF, _⟩ := h.fs
  cases he; exact hF
theorem unfr_twice (K : List F) : unfrL (unfrL K) = unfrL K := unfr_id (unfr_no K)
end
section
open Go.RowKit
theorem fmt_le {m t b : List UInt8} {n : Int} {L : List F} (hb : b.length ≤ 100000) : (fmtRQ (m, t, n, L, b)).length ≤ 200000 := by
  unfold fmtRQ joinedL
  simp only
  split
  · simp
  · split
    · simp
    · rw [List.length_append]
      simp only [if_true]
      omega
end
section
/-- where the k-th line begins -/
def posK (st : List UInt8) (U : List F) : Nat → Nat
  | 0 => 0
  | k + 1 => st.length + 2 + (flatL (U.take k)).length
theorem flat_split (U : List F) (k : Nat) : flatL U = flatL (U.take k) ++ flatL (U.drop k) := by
  unfold flatL
  rw [← List.flatMap_append, List.take_append_drop]
theorem pos_step {x st more : List UInt8} {U : List F} (hx : x = st ++ 13 :: 10 :: (flatL U ++ more)) (hst : ∀ c ∈ st, eolB c = true) (hl : st.length ≤ 2000) (hv : U.all validF = true) {k : Nat} (hk : k ≤ U.length) :
    ∃ t, nextL (x.drop (posK st U k)) = .inr (t, x.drop (posK st U (k + 1))) ∧ posK st U (k + 1) ≤ x.length := by
  have e2 : ∀ j, j ≤ U.length → x.drop (posK st U (j + 1)) = flatL (U.drop j) ++ more := by
    intro j hj
    have : x = (st ++ 13 :: 10 :: flatL (U.take j)) ++ (flatL (U.drop j) ++ more) := by
      rw [hx, flat_split U j]; simp
    have hlen : posK st U (j + 1) = (st ++ 13 :: 10 :: flatL (U.take j)).length := by simp [posK]; omega
    rw [hlen]
    conv => lhs; rw [this]
    exact List.drop_left
  have hle : posK st U (k + 1) ≤ x.length := by
    rw [hx, flat_split U k]
    simp [posK]; omega
  match k, hk with
  | 0, _ =>
    refine ⟨st, ?_, hle⟩
    rw [e2 0 (Nat.zero_le _)]
    show nextL (x.drop 0) = _
    rw [List.drop_zero, List.drop_zero, hx, next_ok hst hl]
  | j + 1, hk =>
    have hj : j < U.length := hk
    obtain ⟨h1, h2, h3⟩ := line_next (List.all_eq_true.mp hv _ (List.getElem_mem hj)) (flatL (U.drop (j + 1)) ++ more)
    refine ⟨lineL (U[j]'hj).1.data.toList (U[j]'hj).2.data.toList, ?_, hle⟩
    rw [e2 j (by omega), e2 (j + 1) hk, List.drop_eq_getElem_cons hj, flat_cons]
    exact h1
def postM : List UInt8 := [80, 79, 83, 84]
/-- what is read of a request with a length, and of the same in chunks -/
theorem chunked_both {t b : List UInt8} {v z : Int} {K : List F} (hne : fmtRQ (postM, t, v, K, b) ≠ []) (hKK : unfrL K = K) (hsm : (fmtRQ (postM, t, v, K, b)).length ≤ 15900 + b.length) (hb : b.length ≤ 100000) :
    ∃ (st more : List UInt8), fmtRQ (postM, t, v, K, b) = st ++ 13 :: 10 :: (flatL K ++ more) ∧ (∀ c ∈ st, eolB c = true) ∧ st.length ≤ 2000 ∧ K.all validF = true ∧
      reqM (fmtRQ (postM, t, v, K, b)) = (if hostE K v = true then (zeroRQ, 0, 6) else ((postM, t, v, K, b), ((fmtRQ (postM, t, v, K, b)).length : Int), 0)) ∧
      reqM (st ++ [13, 10] ++ flatL K ++ teLine ++ [13, 10] ++ encodeL b z) = (if hostE K v = true then (zeroRQ, 0, 6) else ((postM, t, v, K, b), ((st ++ [13, 10] ++ flatL K ++ teLine ++ [13, 10] ++ encodeL b z).length : Int), 0)) := by
  have hlb : lengthB postM b = true := by unfold lengthB postM; simp
  have hf : fmtRQ (postM, t, v, K, b) = joinedL (fmtReqL postM t v) K b true true := by unfold fmtRQ; simp only [hlb]
  rw [hf] at hne hsm ⊢
  obtain ⟨h1, h2, h3, h4, h5, h6⟩ := joined_ne hne
  rw [hKK] at h2 h4 h5 h6
  obtain ⟨g1, g2⟩ := fmtReq_ne h1
  have hst : startE true (fmtReqL postM t v) = 0 := by unfold startE; rw [if_pos rfl, g2]
  obtain ⟨he, hl⟩ := start_eol hst
  have hno : NoFr K := by rw [← hKK]; exact unfr_no K
  simp only [if_true] at h6
  rw [h6] at hsm ⊢
  rw [List.length_append] at hsm
  have hlen : (fmtReqL postM t v).length + 2 + (flatL K).length + 30 ≤ 16000 := by
    unfold outL6 clenL at hsm
    simp at hsm
    have : clN.data.toList.length = 14 := rfl
    simp at this
    omega
  refine ⟨fmtReqL postM t v, (clenL (b.length : Int)) ++ [13, 10] ++ b, ?_, he, hl, h4, request_read g2 hno h4 h2 (by omega) h5, request_chunked g2 hno h4 h2 (by omega) hlen⟩
  unfold outL6
  simp
end
end Go.Proofs.Ytjabcfabenobiaa.Asc
