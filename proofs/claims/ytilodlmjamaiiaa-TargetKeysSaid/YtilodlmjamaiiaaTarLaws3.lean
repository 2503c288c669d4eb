/- The walks of the laws TargetKeys and TargetForms. -/
import Derived.Test.YtilodlmjamaiiaaTarLaws
set_option linter.unusedVariables false
set_option linter.unusedSimpArgs false
namespace Go.Proofs.Ytilodlmjamaiiaa.Asc
open Go.RowKit

/-- a word for the cells of a URI at a block's start -/
def UC (g : Nat) (h : ByteArray) (n : Int) (p q : ByteArray) (b : Bool) (w : World) : Prop :=
  w.cell? ⟨g, 0, none⟩ = some (.string h) ∧ w.cell? ⟨g, 1, none⟩ = some (.int .i64 n) ∧ w.cell? ⟨g, 2, none⟩ = some (.string p) ∧ w.cell? ⟨g, 3, none⟩ = some (.string q) ∧ w.cell? ⟨g, 4, none⟩ = some (.bool b)
theorem flat3 {a0 a1 a2 a3 a4 b0 b1 b2 b3 b4 c0 c1 c2 c3 c4 : Prop} (a : a0 ∧ a1 ∧ a2 ∧ a3 ∧ a4) (b : b0 ∧ b1 ∧ b2 ∧ b3 ∧ b4) (c : c0 ∧ c1 ∧ c2 ∧ c3 ∧ c4) :
    a0 ∧ a1 ∧ a2 ∧ a3 ∧ a4 ∧ b0 ∧ b1 ∧ b2 ∧ b3 ∧ b4 ∧ c0 ∧ c1 ∧ c2 ∧ c3 ∧ c4 :=
  ⟨a.1, a.2.1, a.2.2.1, a.2.2.2.1, a.2.2.2.2, b.1, b.2.1, b.2.2.1, b.2.2.2.1, b.2.2.2.2, c.1, c.2.1, c.2.2.1, c.2.2.2.1, c.2.2.2.2⟩
set_option maxHeartbeats 2000000 in
theorem keys4_in (x : ByteArray) (n : Int) (p q : ByteArray) (b : Bool) (s : ByteArray) (w : World) (hx : x.size ≤ 300) (hp : p.size ≤ 3000) (hq : q.size ≤ 3000) (hs : s.size ≤ 3000) (hn : Box (InI64 n)) :
    Calls Try.prog 5 #[uV x n p q b, .string s] w fun e w' => e = .returned (.bool true) ∧ Below w.heap.size w w' := by
  obtain ⟨x2, n2, p2, q2, b2, k, hr⟩ : ∃ x2 n2 p2 q2 b2 k, resV (resL (x.data.toList, n, p.data.toList, q.data.toList, b) s.data.toList) = .tuple #[uV x2 n2 p2 q2 b2, .bool k] := ⟨_, _, _, _, _, _, rfl⟩
  have HR := box hr
  obtain ⟨key, hk⟩ : ∃ key, bs (keyL (x.data.toList, n, p.data.toList, q.data.toList, b)) = key := ⟨_, rfl⟩
  have HK := box hk
  clear hr hk
  have U0 := box (UF.new x n p q b w 23)
  have B0 := box (below_alloc1 w (.cells #[.string x, .int .i64 n, .string p, .string q, .bool b] 23))
  unfold uV
  go_enter Try.func5, Try.ntmps5
  go_wp2_with fail
  refine (tResolve_any x n p q b s _ (by omega) (by omega) hn).mono ?_; rintro e w1 ⟨rfl, hb1⟩; rw [HR.out]
  unfold uV
  have U1 := box (U0.out.below hb1 U0.out.lt)
  have B1 := box (B0.out.trans (hb1.mono B0.out.size))
  have C1 := box (B1.out.alloc B1.out.size (.cells #[.string x2, .int .i64 n2, .string p2, .string q2, .bool b2] 23))
  have V1 := box (U1.out.below (below_alloc1 w1 (.cells #[.string x2, .int .i64 n2, .string p2, .string q2, .bool b2] 23)) U1.out.lt)
  have A1 := box (UF.new x2 n2 p2 q2 b2 w1 23)
  clear hb1
  have hl1 := U1.out.lt
  obtain ⟨⟨u0, u1, u2, u3, u4⟩, _⟩ := V1.out
  go_wp2_with fail
  refine (rResolve_any x n p q b s _ (by omega) (by omega) hn).mono ?_; rintro e w2 ⟨rfl, hb2⟩; rw [HR.out]
  unfold uV
  have U2 := box (V1.out.below hb2 V1.out.lt)
  have A2 := box (A1.out.below hb2 A1.out.lt)
  have B2 := box (C1.out.trans (hb2.mono C1.out.size))
  have C2 := box (B2.out.alloc B2.out.size (.cells #[.string x2, .int .i64 n2, .string p2, .string q2, .bool b2] 23))
  have U3 := box (U2.out.below (below_alloc1 w2 (.cells #[.string x2, .int .i64 n2, .string p2, .string q2, .bool b2] 23)) U2.out.lt)
  have A3 := box (A2.out.below (below_alloc1 w2 (.cells #[.string x2, .int .i64 n2, .string p2, .string q2, .bool b2] 23)) A2.out.lt)
  have D3 := box (UF.new x2 n2 p2 q2 b2 w2 23)
  have hl2 := U2.out.lt
  have hl3 := A2.out.lt
  clear hb2 u0 u1 u2 u3 u4
  have U4 := box (U3.out.below (Below.refl _ _).drew U3.out.lt)
  have A4 := box (A3.out.below (Below.refl _ _).drew A3.out.lt)
  have D4 := box (D3.out.below (Below.refl _ _).drew D3.out.lt)
  have C4 := box (C2.out.drew)
  go_wp2
  go_region_held3 (fun w' => w'.cell? ⟨w.heap.size, 0, none⟩ = some (.string x) ∧ w'.cell? ⟨w.heap.size, 1, none⟩ = some (.int .i64 n) ∧ w'.cell? ⟨w.heap.size, 2, none⟩ = some (.string p) ∧ w'.cell? ⟨w.heap.size, 3, none⟩ = some (.string q) ∧ w'.cell? ⟨w.heap.size, 4, none⟩ = some (.bool b) ∧ w'.cell? ⟨w1.heap.size, 0, none⟩ = some (.string x2) ∧ w'.cell? ⟨w1.heap.size, 1, none⟩ = some (.int .i64 n2) ∧ w'.cell? ⟨w1.heap.size, 2, none⟩ = some (.string p2) ∧ w'.cell? ⟨w1.heap.size, 3, none⟩ = some (.string q2) ∧ w'.cell? ⟨w1.heap.size, 4, none⟩ = some (.bool b2) ∧ w'.cell? ⟨w2.heap.size, 0, none⟩ = some (.string x2) ∧ w'.cell? ⟨w2.heap.size, 1, none⟩ = some (.int .i64 n2) ∧ w'.cell? ⟨w2.heap.size, 2, none⟩ = some (.string p2) ∧ w'.cell? ⟨w2.heap.size, 3, none⟩ = some (.string q2) ∧ w'.cell? ⟨w2.heap.size, 4, none⟩ = some (.bool b2))
    (first | exact flat3 U7.out.1 A7.out.1 D7.out.1 | exact flat3 U6.out.1 A6.out.1 D6.out.1 | exact flat3 U5.out.1 A5.out.1 D5.out.1 | exact flat3 U4.out.1 A4.out.1 D4.out.1 | exact flat3 U3.out.1 A3.out.1 D3.out.1 | go_keep)
    (first | (go_at_call 21; refine (tKey_any x n p q b _ (by omega) (by omega) (by omega) hn).mono ?_; rintro e w5 ⟨rfl, hb5⟩; rw [HK.out]; have U5 := box (U4.out.below hb5 U4.out.lt); have A5 := box (A4.out.below hb5 A4.out.lt); have D5 := box (D4.out.below hb5 D4.out.lt); have C5 := box (C4.out.trans (hb5.mono C4.out.size)); clear hb5) | (go_at_call 22; refine (rKey_any x n p q b _ (by omega) (by omega) (by omega) hn).mono ?_; rintro e w6 ⟨rfl, hb6⟩; rw [HK.out]; have U6 := box (U5.out.below hb6 U5.out.lt); have A6 := box (A5.out.below hb6 A5.out.lt); have D6 := box (D5.out.below hb6 D5.out.lt); have C6 := box (C5.out.trans (hb6.mono C5.out.size)); clear hb6) | (go_at_call 12; refine (awake4_any _).mono ?_; rintro e w7 ⟨rfl, hb7⟩; have U7 := box (U6.out.below hb7 U6.out.lt); have A7 := box (A6.out.below hb7 A6.out.lt); have D7 := box (D6.out.below hb7 D6.out.lt); have C7 := box (C6.out.trans (hb7.mono C6.out.size)); clear hb7))
  go_wp2
  go_ret
  exact ⟨rfl, C7.out⟩
theorem in_i64 {n : Int} (h : (Lit.int .i64 n).wf = true) : InI64 n := by
  unfold InI64
  simp [Lit.wf, IntKind.min, IntKind.max, IntKind.bits, IntKind.signed] at h
  omega
theorem keys4_walk (x : ByteArray) (n : Int) (p q : ByteArray) (b : Bool) (s : ByteArray) (w : World) (hx : x.size ≤ maxLen) (hn : (Lit.int .i64 n).wf = true) (hp : p.size ≤ maxLen) (hq : q.size ≤ maxLen) (hs : s.size ≤ maxLen) :
    Calls Try.prog 5 #[uV x n p q b, .string s] w fun e w' => e = .returned (.bool true) ∧ Below w.heap.size w w' := by
  unfold maxLen at hx hp hq hs
  by_cases h1 : x.size ≤ 300
  · have h1i : ¬ (300 : Int) < (x.size : Int) := by omega
    by_cases h2 : p.size ≤ 3000
    · have h2i : ¬ (3000 : Int) < (p.size : Int) := by omega
      by_cases h3 : q.size ≤ 3000
      · have h3i : ¬ (3000 : Int) < (q.size : Int) := by omega
        by_cases h4 : s.size ≤ 3000
        · exact keys4_in x n p q b s w h1 h2 h3 h4 (box (in_i64 hn))
        · have h4i : (3000 : Int) < (s.size : Int) := by omega
          unfold uV
          go_enter Try.func5, Try.ntmps5
          go_wp2
          go_ret
          exact ⟨rfl, below_alloc1 _ _⟩
      · have h3i : (3000 : Int) < (q.size : Int) := by omega
        unfold uV
        go_enter Try.func5, Try.ntmps5
        go_wp2
        go_ret
        exact ⟨rfl, below_alloc1 _ _⟩
    · have h2i : (3000 : Int) < (p.size : Int) := by omega
      unfold uV
      go_enter Try.func5, Try.ntmps5
      go_wp2
      go_ret
      exact ⟨rfl, below_alloc1 _ _⟩
  · have h1i : (300 : Int) < (x.size : Int) := by omega
    unfold uV
    go_enter Try.func5, Try.ntmps5
    go_wp2
    go_ret
    exact ⟨rfl, below_alloc1 _ _⟩
set_option maxHeartbeats 1000000 in
theorem forms4_in (t h : ByteArray) (b : Bool) (w : World) (ht : t.size ≤ 1000) (hh : h.size ≤ 300) (h0 : 0 < t.size) (hne : t.toList.isEmpty = false) (h47 : ((t[0].toNat : Int) != 47) = false) :
    Calls Try.prog 9 #[.string t, .string h, .bool b] w fun e w' => e = .returned (.bool true) ∧ Below w.heap.size w w' := by
  have hhd : t.data.toList.head? = some 47 := head_is h0 (by simpa using h47)
  have HHD := box hhd
  have h0i : (0 : Int) < (t.size : Int) := by omega
  obtain ⟨x2, n2, p2, q2, b2, e2, hu⟩ : ∃ x2 n2 p2 q2 b2 e2, uriL t.data.toList h.data.toList = ((x2, n2, p2, q2, b2), e2) := ⟨_, _, _, _, _, _, rfl⟩
  have HU := box hu
  clear hhd hu
  go_enter Try.func9, Try.ntmps9
  go_wp2
  go_loop [7] (fun i => ∃ k : Nat, k ≤ h.size ∧ i = .int .i64 k ∧ ∀ c ∈ h.data.toList.take k, endB c = true) (fun i => h.size - (intOf i).toNat)
  case atStart => exact ⟨0, Nat.zero_le _, rfl, by simp⟩
  case round =>
    obtain ⟨k, hk, rfl, hend⟩ := hrel
    have HEND := box hend
    clear hend
    by_cases hlt : k < h.size
    · have hlti : (k : Int) < (h.size : Int) := by omega
      rcases h1 : ((h[k].toNat : Int) == 47) with _ | _
      · rcases h2 : ((h[k].toNat : Int) == 63) with _ | _
        · have HN : Box (∀ c ∈ h.data.toList.take (k + 1), endB c = true) := box (by
            rw [take_snoc h k hlt]
            intro c hc
            rcases List.mem_append.mp hc with e | e
            · exact HEND.out c e
            · simp only [List.mem_singleton] at e
              subst e
              unfold endB
              have e1 : h[k] ≠ 47 := by intro e; rw [e] at h1; simp at h1
              have e2 : h[k] ≠ 63 := by intro e; rw [e] at h2; simp at h2
              simp [e1, e2])
          go_wp2
          go_round
          case rel => exact ⟨k + 1, by omega, by go_num, HN.out⟩
          case measure => simp [intOf]; omega
        · go_wp2
          go_ret
          exact ⟨rfl, Below.refl _ _⟩
      · go_wp2
        go_ret
        exact ⟨rfl, Below.refl _ _⟩
    · have HA : Box (∀ c ∈ h.data.toList, endB c = true) := box (by
        have := HEND.out
        rwa [List.take_of_length_le (by simp; omega)] at this)
      have hlti : ¬ (k : Int) < (h.size : Int) := by omega
      rcases b with _ | _
      · have HF : Box (∀ o : List UInt8, uriL ((⟨#[104, 116, 116, 112, 58, 47, 47]⟩ : ByteArray) ++ h ++ t).data.toList o = ((x2, n2, p2, q2, b2), e2)) := box (fun o => by
          have := uri_forms (s := http) (p := t.data.toList) (a := h.data.toList) (o := o) rfl (by decide) HHD.out HA.out
          rw [HU.out] at this
          rw [← this]
          congr 1 <;> simp [ByteArray.data_append, http])
        have HFS : Box (((⟨#[104, 116, 116, 112, 58, 47, 47]⟩ : ByteArray) ++ h ++ t).size ≤ 49000) := box (by
          rw [ByteArray.size_append, ByteArray.size_append]
          show 7 + h.size + t.size ≤ 49000; omega)
        go_wp2_with fail
        refine (tParse_any t h _ (by omega) (by omega)).mono ?_; rintro e w1 ⟨rfl, hb1⟩; rw [HU.out]
        unfold uriV uV
        have A1 := box (UF.new (bs x2) n2 (bs p2) (bs q2) b2 w1 23)
        have B1 := box (hb1.alloc hb1.size (.cells #[.string (bs x2), .int .i64 n2, .string (bs p2), .string (bs q2), .bool b2] 23))
        clear hb1
        go_wp2_with fail
        refine (tParse_any _ _ _ HFS.out (by decide)).mono ?_; rintro e w3 ⟨rfl, hb3⟩; rw [HF.out]
        unfold uriV uV
        have A3 := A1.out.below hb3 A1.out.lt
        have hlt3 := A3.lt
        obtain ⟨⟨u0, u1, u2, u3, u4⟩, _⟩ := A3
        have B3 := box ((B1.out.trans (hb3.mono B1.out.size)).alloc (B1.out.trans (hb3.mono B1.out.size)).size (.cells #[.string (bs x2), .int .i64 n2, .string (bs p2), .string (bs q2), .bool b2] 23))
        clear hb3
        go_wp2_with fail
        refine (awake4_any _).mono ?_; rintro e w4 ⟨rfl, hb4⟩
        have B4 := box (B3.out.trans (hb4.mono B3.out.size))
        clear hb4
        go_wp2
        go_ret
        exact ⟨rfl, B4.out⟩
      · have HF : Box (∀ o : List UInt8, uriL ((⟨#[72, 84, 84, 80, 58, 47, 47]⟩ : ByteArray) ++ h ++ t).data.toList o = ((x2, n2, p2, q2, b2), e2)) := box (fun o => by
          have := uri_forms (s := [72, 84, 84, 80, 58, 47, 47]) (p := t.data.toList) (a := h.data.toList) (o := o) rfl (by decide) HHD.out HA.out
          rw [HU.out] at this
          rw [← this]
          congr 1 <;> simp [ByteArray.data_append])
        have HFS : Box (((⟨#[72, 84, 84, 80, 58, 47, 47]⟩ : ByteArray) ++ h ++ t).size ≤ 49000) := box (by
          rw [ByteArray.size_append, ByteArray.size_append]
          show 7 + h.size + t.size ≤ 49000; omega)
        go_wp2_with fail
        refine (tParse_any t h _ (by omega) (by omega)).mono ?_; rintro e w1 ⟨rfl, hb1⟩; rw [HU.out]
        unfold uriV uV
        have A1 := box (UF.new (bs x2) n2 (bs p2) (bs q2) b2 w1 23)
        have B1 := box (hb1.alloc hb1.size (.cells #[.string (bs x2), .int .i64 n2, .string (bs p2), .string (bs q2), .bool b2] 23))
        clear hb1
        go_wp2_with fail
        refine (tParse_any _ _ _ HFS.out (by decide)).mono ?_; rintro e w3 ⟨rfl, hb3⟩; rw [HF.out]
        unfold uriV uV
        have A3 := A1.out.below hb3 A1.out.lt
        have hlt3 := A3.lt
        obtain ⟨⟨u0, u1, u2, u3, u4⟩, _⟩ := A3
        have B3 := box ((B1.out.trans (hb3.mono B1.out.size)).alloc (B1.out.trans (hb3.mono B1.out.size)).size (.cells #[.string (bs x2), .int .i64 n2, .string (bs p2), .string (bs q2), .bool b2] 23))
        clear hb3
        go_wp2_with fail
        refine (awake4_any _).mono ?_; rintro e w4 ⟨rfl, hb4⟩
        have B4 := box (B3.out.trans (hb4.mono B3.out.size))
        clear hb4
        go_wp2
        go_ret
        exact ⟨rfl, B4.out⟩
theorem forms4_walk (t h : ByteArray) (b : Bool) (w : World) (ht : t.size ≤ maxLen) (hh : h.size ≤ maxLen) :
    Calls Try.prog 9 #[.string t, .string h, .bool b] w fun e w' => e = .returned (.bool true) ∧ Below w.heap.size w w' := by
  unfold maxLen at ht hh
  by_cases h1 : t.size ≤ 1000
  · have h1i : ¬ (1000 : Int) < (t.size : Int) := by omega
    by_cases h2 : h.size ≤ 300
    · have h2i : ¬ (300 : Int) < (h.size : Int) := by omega
      rcases he : t.toList.isEmpty with _ | _
      · have h0 := pos_of he
        have h0i : (0 : Int) < (t.size : Int) := by omega
        rcases h47 : ((t[0].toNat : Int) != 47) with _ | _
        · exact forms4_in t h b w h1 h2 h0 he h47
        · go_enter Try.func9, Try.ntmps9
          go_wp2
          go_ret
          exact ⟨rfl, Below.refl _ _⟩
      · go_enter Try.func9, Try.ntmps9
        go_wp2
        go_ret
        exact ⟨rfl, Below.refl _ _⟩
    · have h2i : (300 : Int) < (h.size : Int) := by omega
      go_enter Try.func9, Try.ntmps9
      go_wp2
      go_ret
      exact ⟨rfl, Below.refl _ _⟩
  · have h1i : (1000 : Int) < (t.size : Int) := by omega
    go_enter Try.func9, Try.ntmps9
    go_wp2
    go_ret
    exact ⟨rfl, Below.refl _ _⟩

end Go.Proofs.Ytilodlmjamaiiaa.Asc
