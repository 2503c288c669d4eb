/- The contracts of package etag's Of, parseAll and List. (Made by tools/geneta4.py.) -/
import Derived.Test.YtchbhpfloinbdaaEtaMine
import Derived.Test.YtchbhpfloinbdaaEtaRef3
import Derived.Test.YtchbhpfloinbdaaLstIdx
set_option linter.unusedVariables false
set_option linter.unusedSimpArgs false
set_option maxRecDepth 100000
namespace Go.Proofs.Ytchbhpfloinbdaa.Asc
open Go.RowKit

theorem mFirst21_is {a : Option Addr} {cap : Nat} {L : List F} {x : ByteArray} {q : Bool} {w : World} (hl : L.length ≤ 65536) (S : Box (Sm L)) (hF : Box (Fs w a L)) (h : Box (firstV etN L = .tuple #[.string x, .bool q])) :
    Calls Try.prog 30 #[.slice a L.length cap, .string etN] w fun e w' => e = .returned (.tuple #[.string x, .bool q]) ∧ Below w.heap.size w w' :=
  (First_any a cap L etN w hl S (box (by decide)) hF).mono fun e w' ⟨h1, h2⟩ => ⟨by rw [h1, h.out], h2⟩
theorem mOfE_in (a : Option Addr) (cap : Nat) (L : List F) (w : World) (v : ByteArray) (f : Bool) (S : Box (Sm L)) (hvz : v.size ≤ 65000) (hF : Box (Fs w a L)) (HF : Box (firstV etN L = .tuple #[.string v, .bool f])) :
    Calls Try.prog 14 #[.slice a L.length cap] w fun e w' => e = .returned (tgV (parE v.data.toList)) ∧ Below w.heap.size w w' := by
  have hl := S.out.1
  have B0 := box (below_new w (.cells #[.bool false, .string ⟨#[]⟩] 23))
  have hF1 := box (hF.out.below B0.out)
  obtain ⟨b, t, q, hq⟩ := tgV_cases (parE v.data.toList)
  have HQ := box hq
  clear hq
  go_enter Try.func14, Try.ntmps14
  go_wp2_with fail
  refine (mFirst21_is hl S hF1 HF).mono ?_; rintro e w1 ⟨rfl, hb1⟩
  have B1 := box (B0.out.trans (hb1.mono B0.out.size))
  have C1 := box ((T2.new (.bool false) (.string ⟨#[]⟩) w 23).next hb1)
  clear hb1
  go_wp2_with fail
  refine (mParE_is hvz HQ).mono ?_; rintro e w2 ⟨rfl, hb2⟩
  have B2 := box (B1.out.trans (hb2.mono B1.out.size))
  obtain ⟨⟨r0, r1⟩, ⟨f0, f1⟩⟩ := C1.out.next hb2
  clear hb2
  go_wp2
  (try simp only [Exit.inBlock, Exit.then])
  refine bodyPost_ret (v := .tuple #[.agg #[.bool b, .string t], .bool q]) (by rw [results_cell_tmp rfl]; go_simp) rfl ?_
  exact ⟨by rw [HQ.out], by first | exact set2_below B2.out (Nat.le_refl _) _ _ | exact B2.out⟩
theorem mOfE_any (a : Option Addr) (cap : Nat) (L : List F) (w : World) (S : Box (Sm L)) (hv : Box (∀ x ∈ getL etN L, x.size ≤ 65000)) (hF : Box (Fs w a L)) :
    Calls Try.prog 14 #[.slice a L.length cap] w fun e w' => e = .returned (tgV (ofM21 L)) ∧ Below w.heap.size w w' := by
  cases hg : getL etN L with
  | nil =>
    refine (mOfE_in a cap L w ⟨#[]⟩ false S (by decide) hF (box (by unfold firstV; rw [hg]))).mono fun e w' ⟨h1, h2⟩ => ⟨?_, h2⟩
    rw [h1, show ofM21 L = none from by unfold ofM21; rw [hg]]; rfl
  | cons v r =>
    refine (mOfE_in a cap L w v true S (hv.out v (by rw [hg]; simp)) hF (box (by unfold firstV; rw [hg]))).mono fun e w' ⟨h1, h2⟩ => ⟨?_, h2⟩
    rw [h1, show ofM21 L = parE v.data.toList from by unfold ofM21; rw [hg]]
/-- the tags of a list's members, without the star -/
def listA (K : List ByteArray) : List ET × Bool := if K.length = 0 ∨ 64 ≤ K.length then ([], false) else match parAll K with | some es => (es, true) | none => ([], false)
theorem listM_A {K : List ByteArray} (h : starM K = false) : listM K = ((listA K).1, false, (listA K).2) := by
  unfold listM listA
  rw [h, if_neg (by simp)]
  split
  · rfl
  · rcases parAll K with _ | es <;> rfl
theorem listA_size {K : List ByteArray} (h2 : K.length = 0 ∨ 64 ≤ K.length) : listA K = ([], false) := by unfold listA; rw [if_pos h2]
theorem listA_bad {K : List ByteArray} {k : Nat} (hk : k < K.length) (he : parE K[k].data.toList = none) : listA K = ([], false) := by
  unfold listA
  split
  · rfl
  · rw [parAll_bad hk he]
theorem listA_end {K : List ByteArray} {k : Nat} {es : List ET} (h0 : ¬ (K.length = 0 ∨ 64 ≤ K.length)) (hk : K.length ≤ k) (he : parAll (K.take k) = some es) : listA K = (es, true) := by
  rw [List.take_of_length_le hk] at he
  unfold listA; rw [if_neg h0, he]
def listAV (w w' : World) (x : List ET × Bool) (e : Ending) : Prop := ∃ v, e = .returned (.tuple #[v, .bool x.2]) ∧ OwnE w' w.heap.size v x.1
set_option maxHeartbeats 4000000 in
theorem parseAll_any (a1 : Option Addr) (cap1 : Nat) (K : List ByteArray) (w : World) (hkl : K.length ≤ 65536) (HSZ : Box (∀ m ∈ K, m.size ≤ 65000)) (S1 : Box (Ss w a1 K)) :
    Calls Try.prog 33 #[.slice a1 K.length cap1] w fun e w' => listAV w w' (listA K) e ∧ Below w.heap.size w w' := by
  by_cases h0 : K.length = 0
  · have e2 : ((K.length : Int) == 0) = true := by rw [h0]; rfl
    have HM : Box (listA K = ([], false)) := box (listA_size (.inl h0))
    clear h0
    go_enter Try.func33, Try.ntmps33
    go_wp2
    go_ret2
    exact ⟨⟨_, by rw [HM.out]; rfl, by rw [HM.out]; exact OwnE.nil _ _⟩, Below.refl _ _⟩
  · have e2 : ((K.length : Int) == 0) = false := by rw [beq_eq_false_iff_ne]; omega
    by_cases h64 : 64 ≤ K.length
    · have e3 : (64 : Int) ≤ (K.length : Int) := by omega
      have HM : Box (listA K = ([], false)) := box (listA_size (.inr h64))
      clear h0 h64
      go_enter Try.func33, Try.ntmps33
      go_wp2
      go_ret2
      exact ⟨⟨_, by rw [HM.out]; rfl, by rw [HM.out]; exact OwnE.nil _ _⟩, Below.refl _ _⟩
    · have e3 : ¬ (64 : Int) ≤ (K.length : Int) := by omega
      have H0 : Box (¬ (K.length = 0 ∨ 64 ≤ K.length)) := box (by omega)
      clear h0 h64
      go_enter Try.func33, Try.ntmps33
      go_wp2
      go_loopw [4, 6, 7, 8, 19] (fun v _ _ _ i wr => EtRel K w v i wr) (fun _ _ _ _ i _ => K.length - (intOf i).toNat)
      case atStart => exact ⟨0, [], rfl, Nat.zero_le _, Nat.le_refl _, rfl, OwnE.nil _ _, Below.refl _ _⟩
      case round =>
        obtain ⟨k, es, rfl, hk, hez, hpa, hO, hbel⟩ := hrel
        have HPA := box hpa
        obtain ⟨av, cv, rfl, _, _⟩ := hO.es
        have O0 := box hO
        have BL := box hbel
        have SS := S1.out.below hbel
        have hes6 : es.length ≤ 65536 := by omega
        have HEZ := box hez
        clear hO hbel hpa hez
        by_cases hlt : k < K.length
        · have hji : (k : Int) < (K.length : Int) := by omega
          obtain ⟨m, hm⟩ : ∃ m, K[k] = m := ⟨_, rfl⟩
          have hmz : m.size ≤ 65000 := by rw [← hm]; exact HSZ.out _ (List.getElem_mem hlt)
          obtain ⟨g, off, hga, cA⟩ := SS k hlt
          cases hga
          rw [hm] at cA
          cases hp : parE m.data.toList with
          | none =>
            have HQ : Box (tgV (parE m.data.toList) = .tuple #[.agg #[.bool false, .string ⟨#[]⟩], .bool false]) := box (by rw [hp]; rfl)
            have HM : Box (listA K = ([], false)) := box (listA_bad hlt (by rw [hm]; exact hp))
            clear SS hm hp
            go_wp2_with fail
            refine (mParE_is hmz HQ).mono ?_; rintro e w3 ⟨rfl, hb3⟩
            have B3 := box (BL.out.trans (hb3.mono BL.out.size))
            clear hb3 cA
            go_wp2
            go_ret2
            exact ⟨⟨_, by rw [HM.out]; rfl, by rw [HM.out]; exact OwnE.nil _ _⟩, B3.out.alloc B3.out.size _⟩
          | some e =>
            obtain ⟨b, t⟩ := e
            have HQ : Box (tgV (parE m.data.toList) = .tuple #[.agg #[.bool b, .string t], .bool true]) := box (by rw [hp]; rfl)
            have HN : Box (parAll (K.take (k + 1)) = some (es ++ [(b, t)])) := box (parAll_next hlt HPA.out (by rw [hm]; exact hp))
            clear SS hm hp
            go_wp2_with fail
            refine (mParE_is hmz HQ).mono ?_; rintro e w3 ⟨rfl, hb3⟩
            have O3 := box (own_below O0.out hb3)
            have B3 := box (BL.out.trans (hb3.mono BL.out.size))
            clear hb3 cA
            go_wp2_with (at_builtin; refine wpList_append_etag _ rfl (.tmp 30) (.tmp 32) rfl w.heap.size _ es rfl ?a1 _ _ rfl b t ?b1 ?b2 ?c1 ?d1 ?_)
            case a1 => exact own_below (own_below O3.out (below_new _ _)) (below_new _ _)
            case b1 => go_simp
            case b2 => go_simp
            case c1 => omega
            case d1 => have := B3.out.size; simp; omega
            intro v5 w5 hO5 hb5
            have O5 := box hO5
            have B5 := box (((B3.out.alloc B3.out.size _).alloc (B3.out.alloc B3.out.size _).size _).trans hb5)
            clear hO5 hb5
            go_wp2
            go_roundw
            case rel => exact ⟨k + 1, _, by go_num, hlt, by have := HEZ.out; rw [List.length_append]; simp; omega, HN.out, O5.out, B5.out⟩
            case measure => simp [intOf]; omega
        · have hji : ¬ (k : Int) < (K.length : Int) := by omega
          have HM : Box (listA K = (es, true)) := box (listA_end H0.out (by omega) HPA.out)
          clear SS
          go_wp2
          go_ret2
          exact ⟨⟨_, by rw [HM.out]; rfl, by rw [HM.out]; exact O0.out⟩, BL.out⟩
set_option maxHeartbeats 4000000 in
theorem mListE_any (a : Option Addr) (cap : Nat) (L : List F) (nm : ByteArray) (w : World) (S : Box (Sm L)) (hv : Box (∀ x ∈ getL nm L, x.size ≤ 65000)) (M : Box (nm.size ≤ 65536)) (hF : Box (Fs w a L)) :
    Calls Try.prog 16 #[.slice a L.length cap, .string nm] w fun e w' => listV w w' (listM (allB nm L)) e ∧ Below w.heap.size w w' := by
  have hall := allB_small21 hv.out
  have hkl : (allB nm L).length ≤ 64 := by unfold allB allL; rw [List.length_map, List.length_take]; omega
  obtain ⟨K, hK⟩ : ∃ K, allB nm L = K := ⟨_, rfl⟩
  have HKK := box hK
  rw [hK] at hall hkl ⊢
  have HSZ := box hall
  clear hK hall
  by_cases h1 : K.length = 1
  · obtain ⟨x, hx⟩ : ∃ x, K = [x] := by
      match K, h1 with
      | [x], _ => exact ⟨x, rfl⟩
    have hst := star_at hx
    have e1 : ((K.length : Int) == 1) = true := by rw [h1]; rfl
    have e2 : ((K.length : Int) == 0) = false := by rw [h1]; rfl
    have e3 : ¬ (64 : Int) ≤ (K.length : Int) := by omega
    have hK0 : ∀ h : 0 < K.length, K[0] = x := by intro h; simp only [hx, List.getElem_cons_zero]
    have hp : 0 < K.length := by omega
    have hpi : (0 : Int) < (K.length : Int) := by omega
    have H0 : Box (¬ (K.length = 0 ∨ 64 ≤ K.length)) := box (by omega)
    clear h1 hx
    cases hq : (x.toList == [42]) with
    | true =>
      have HM : Box (listM K = ([], true, true)) := box (listM_star (by rw [hst, hq]))
      clear hst
      go_enter Try.func16, Try.ntmps16
      go_wp2_with fail
      refine (mAll_is S hv M hF.out HKK).mono ?_; rintro e w1 ⟨a1, cap1, rfl, hS1, hb1⟩
      have S1 := box hS1
      have B1 := box hb1
      clear hb1
      obtain ⟨g, off, rfl, c0⟩ := hS1 0 hp
      rw [hK0 hp] at c0
      rw [Nat.add_zero] at c0
      clear hS1 hK0
      go_wp2
      go_ret3
      exact ⟨⟨_, by rw [HM.out]; rfl, by rw [HM.out]; exact OwnE.nil _ _⟩, B1.out⟩
    | false =>
      have HM : Box (listM K = ((listA K).1, false, (listA K).2)) := box (listM_A (by rw [hst, hq]))
      obtain ⟨⟨es, f⟩, hes⟩ : ∃ p, listA K = p := ⟨_, rfl⟩
      have HES := box hes
      clear hst hes
      go_enter Try.func16, Try.ntmps16
      go_wp2_with fail
      refine (mAll_is S hv M hF.out HKK).mono ?_; rintro e w1 ⟨a1, cap1, rfl, hS1, hb1⟩
      have S1 := box hS1
      have B1 := box hb1
      clear hb1
      obtain ⟨g0, off0, rfl, c0⟩ := hS1 0 hp
      rw [hK0 hp] at c0
      rw [Nat.add_zero] at c0
      have hk6 : K.length ≤ 65536 := by omega
      clear hS1 hK0
      go_wp2_with fail
      refine (parseAll_any _ _ K _ hk6 HSZ S1).mono ?_; rintro e w2 ⟨hv2, hb2⟩
      rw [HES.out] at hv2
      obtain ⟨v2, rfl, hO2⟩ := hv2
      have O2 := box hO2
      have B2 := box (B1.out.trans (hb2.mono B1.out.size))
      clear hO2 hb2
      go_wp2
      go_ret3
      exact ⟨⟨_, by rw [HM.out, HES.out]; rfl, by rw [HM.out, HES.out]; exact own_le O2.out B1.out.size⟩, B2.out⟩
  · have HM : Box (listM K = ((listA K).1, false, (listA K).2)) := box (listM_A (star_len h1))
    have e1 : ((K.length : Int) == 1) = false := by rw [beq_eq_false_iff_ne]; omega
    obtain ⟨⟨es, f⟩, hes⟩ : ∃ p, listA K = p := ⟨_, rfl⟩
    have HES := box hes
    have hk6 : K.length ≤ 65536 := by omega
    clear h1 hes
    go_enter Try.func16, Try.ntmps16
    go_wp2_with fail
    refine (mAll_is S hv M hF.out HKK).mono ?_; rintro e w1 ⟨a1, cap1, rfl, hS1, hb1⟩
    have S1 := box hS1
    have B1 := box hb1
    clear hb1
    clear hS1
    go_wp2_with fail
    refine (parseAll_any _ _ K _ hk6 HSZ S1).mono ?_; rintro e w2 ⟨hv2, hb2⟩
    rw [HES.out] at hv2
    obtain ⟨v2, rfl, hO2⟩ := hv2
    have O2 := box hO2
    have B2 := box (B1.out.trans (hb2.mono B1.out.size))
    clear hO2 hb2
    go_wp2
    go_ret3
    exact ⟨⟨_, by rw [HM.out, HES.out]; rfl, by rw [HM.out, HES.out]; exact own_le O2.out B1.out.size⟩, B2.out⟩

end Go.Proofs.Ytchbhpfloinbdaa.Asc
