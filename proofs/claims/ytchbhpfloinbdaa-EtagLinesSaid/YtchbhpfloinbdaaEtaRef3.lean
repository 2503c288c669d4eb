/- The contracts of the reference's ETagOf and ETagList. (Made by tools/geneta2.py.) -/
import Derived.Test.YtchbhpfloinbdaaEtaRef2
import Derived.Test.YtchbhpfloinbdaaEtaSpec2
import Derived.Test.YtchbhpfloinbdaaLisLaws
import Derived.Test.YtchbhpfloinbdaaLstGet
import Derived.Test.YtchbhpfloinbdaaOnly
import Derived.OwnWalk
set_option linter.unusedVariables false
set_option linter.unusedSimpArgs false
set_option maxRecDepth 100000
namespace Go.Proofs.Ytchbhpfloinbdaa.Asc
open Go.RowKit

def etN : ByteArray := ⟨#[69, 84, 97, 103]⟩
/-- 21.1: the tag of the first field named ETag -/
def ofM21 (L : List F) : Option ET := match getL etN L with | [] => none | v :: _ => parE v.data.toList
theorem allB_small21 {nm : ByteArray} {L : List F} (hv : ∀ x ∈ getL nm L, x.size ≤ 65000) : ∀ m ∈ allB nm L, m.size ≤ 65000 := by
  intro m hm
  unfold allB allL at hm
  obtain ⟨l, hl, rfl⟩ := List.mem_map.mp hm
  have h1 := List.mem_of_mem_take hl
  unfold allF at h1
  obtain ⟨v, hv2, h2⟩ := List.mem_flatMap.mp h1
  have h3 := split_small h2
  have h4 := hv v hv2
  have hz : v.data.toList.length = v.size := by simp
  rw [bs_size]; omega
theorem rFirst21_is {a : Option Addr} {cap : Nat} {L : List F} {x : ByteArray} {q : Bool} {w : World} (hl : L.length ≤ 65536) (S : Box (Sm L)) (hF : Box (Fs w a L)) (h : Box (firstV etN L = .tuple #[.string x, .bool q])) :
    Calls Try.prog 31 #[.slice a L.length cap, .string etN] w fun e w' => e = .returned (.tuple #[.string x, .bool q]) ∧ Below w.heap.size w w' :=
  (rFirst_any a cap L etN w hl S (box (by decide)) hF).mono fun e w' ⟨h1, h2⟩ => ⟨by rw [h1, h.out], h2⟩
theorem tgV_cases (o : Option ET) : ∃ b t q, tgV o = .tuple #[.agg #[.bool b, .string t], .bool q] := by
  cases o with
  | none => exact ⟨_, _, _, rfl⟩
  | some e => exact ⟨_, _, _, rfl⟩
theorem rOfE_any (a : Option Addr) (cap : Nat) (L : List F) (w : World) (S : Box (Sm L)) (hv : Box (∀ x ∈ getL etN L, x.size ≤ 65000)) (hF : Box (Fs w a L)) :
    Calls Try.prog 15 #[.slice a L.length cap] w fun e w' => e = .returned (tgV (ofM21 L)) ∧ Below w.heap.size w w' := by
  have hl := S.out.1
  have B0 := box (below_new w (.cells #[.bool false, .string ⟨#[]⟩] 23))
  have hF1 := box (hF.out.below B0.out)
  cases hg : getL etN L with
  | nil =>
    have HO : Box (ofM21 L = none) := box (by unfold ofM21; rw [hg])
    have HF : Box (firstV etN L = .tuple #[.string ⟨#[]⟩, .bool false]) := box (by unfold firstV; rw [hg])
    clear hg
    go_enter Try.func15, Try.ntmps15
    go_wp2_with fail
    refine (rFirst21_is hl S hF1 HF).mono ?_; rintro e w1 ⟨rfl, hb1⟩
    have B1 := box (B0.out.trans (hb1.mono B0.out.size))
    obtain ⟨⟨r0, r1⟩, ⟨f0, f1⟩⟩ := (T2.new (.bool false) (.string ⟨#[]⟩) w 23).next hb1
    clear hb1
    go_wp2
    (try simp only [Exit.inBlock, Exit.then])
    refine bodyPost_ret (v := tgV none) (by rw [results_cell_tmp rfl]; go_simp; rfl) rfl ?_
    exact ⟨by rw [HO.out], by first | exact B1.out | exact set2_below B1.out (Nat.le_refl _) _ _⟩
  | cons v r =>
    have hvz : v.size ≤ 65000 := hv.out v (by rw [hg]; simp)
    have HO : Box (ofM21 L = parE v.data.toList) := box (by unfold ofM21; rw [hg])
    have HF : Box (firstV etN L = .tuple #[.string v, .bool true]) := box (by unfold firstV; rw [hg])
    obtain ⟨b, t, q, hq⟩ := tgV_cases (parE v.data.toList)
    have HQ := box hq
    clear hg hq hv
    go_enter Try.func15, Try.ntmps15
    go_wp2_with fail
    refine (rFirst21_is hl S hF1 HF).mono ?_; rintro e w1 ⟨rfl, hb1⟩
    have B1 := box (B0.out.trans (hb1.mono B0.out.size))
    have C1 := box ((T2.new (.bool false) (.string ⟨#[]⟩) w 23).next hb1)
    clear hb1
    go_wp2_with fail
    refine (rParE_is hvz HQ).mono ?_; rintro e w2 ⟨rfl, hb2⟩
    have B2 := box (B1.out.trans (hb2.mono B1.out.size))
    obtain ⟨⟨r0, r1⟩, ⟨f0, f1⟩⟩ := C1.out.next hb2
    clear hb2
    go_wp2
    (try simp only [Exit.inBlock, Exit.then])
    refine bodyPost_ret (v := .tuple #[.agg #[.bool b, .string t], .bool q]) (by rw [results_cell_tmp rfl]; go_simp) rfl ?_
    exact ⟨by rw [HO.out, HQ.out], by first | exact set2_below B2.out (Nat.le_refl _) _ _ | exact B2.out⟩
def EtRel (K : List ByteArray) (w1 : World) (v i : Value) (wr : World) : Prop :=
  ∃ (k : Nat) (es : List ET), i = .int .i64 k ∧ k ≤ K.length ∧ es.length ≤ k ∧ parAll (K.take k) = some es ∧ OwnE wr w1.heap.size v es ∧ Below w1.heap.size w1 wr
def listV (w w' : World) (x : List ET × Bool × Bool) (e : Ending) : Prop := ∃ v, e = .returned (.tuple #[v, .bool x.2.1, .bool x.2.2]) ∧ OwnE w' w.heap.size v x.1
theorem star_at {K : List ByteArray} {x : ByteArray} (h : K = [x]) : starM K = (x.toList == [42]) := by
  unfold starM
  rw [Bool.eq_iff_iff, decide_eq_true_iff, beq_iff_eq, toList_data, h]
  constructor
  · intro e; rw [(List.cons.inj e).1]; try rfl
  · intro e; rw [bs_of x, e]; rfl
theorem star_len {K : List ByteArray} (h : K.length ≠ 1) : starM K = false := by
  unfold starM
  rw [decide_eq_false_iff_not]; intro e; exact h (by rw [e]; rfl)
theorem listM_star {K : List ByteArray} (h : starM K = true) : listM K = ([], true, true) := by unfold listM; rw [if_pos h]
theorem listM_size {K : List ByteArray} (h : starM K = false) (h2 : K.length = 0 ∨ 64 ≤ K.length) : listM K = ([], false, false) := by unfold listM; rw [h, if_neg (by simp), if_pos h2]
theorem listM_bad {K : List ByteArray} {k : Nat} (h : starM K = false) (hk : k < K.length) (he : parE K[k].data.toList = none) : listM K = ([], false, false) := by
  unfold listM; rw [h, if_neg (by simp)]
  split
  · rfl
  · rw [parAll_bad hk he]
theorem listM_end {K : List ByteArray} {k : Nat} {es : List ET} (h : starM K = false) (h0 : ¬ (K.length = 0 ∨ 64 ≤ K.length)) (hk : K.length ≤ k) (he : parAll (K.take k) = some es) : listM K = (es, false, true) := by
  rw [List.take_of_length_le hk] at he
  unfold listM; rw [h, if_neg (by simp), if_neg h0, he]
set_option maxHeartbeats 4000000 in
theorem rListE_any (a : Option Addr) (cap : Nat) (L : List F) (nm : ByteArray) (w : World) (S : Box (Sm L)) (hv : Box (∀ x ∈ getL nm L, x.size ≤ 65000)) (M : Box (nm.size ≤ 65536)) (hF : Box (Fs w a L)) :
    Calls Try.prog 17 #[.slice a L.length cap, .string nm] w fun e w' => listV w w' (listM (allB nm L)) e ∧ Below w.heap.size w w' := by
  have hall := allB_small21 hv.out
  have hkl : (allB nm L).length ≤ 64 := by unfold allB allL; rw [List.length_map, List.length_take]; omega
  obtain ⟨K, hK⟩ : ∃ K, allB nm L = K := ⟨_, rfl⟩
  have HKK := box hK
  rw [hK] at hall hkl ⊢
  have HSZ := box hall
  clear hK hall
  by_cases h1 : K.length = 1
  · obtain ⟨x, hx⟩ : ∃ x, K = [x] := by
      match K, h1 with
      | [x], _ => exact ⟨x, rfl⟩
    have hst := star_at hx
    have e1 : ((K.length : Int) == 1) = true := by rw [h1]; rfl
    have e2 : ((K.length : Int) == 0) = false := by rw [h1]; rfl
    have e3 : ¬ (64 : Int) ≤ (K.length : Int) := by omega
    have hK0 : ∀ h : 0 < K.length, K[0] = x := by intro h; simp only [hx, List.getElem_cons_zero]
    have hp : 0 < K.length := by omega
    have hpi : (0 : Int) < (K.length : Int) := by omega
    have H0 : Box (¬ (K.length = 0 ∨ 64 ≤ K.length)) := box (by omega)
    clear h1 hx
    cases hq : (x.toList == [42]) with
    | true =>
      have HM : Box (listM K = ([], true, true)) := box (listM_star (by rw [hst, hq]))
      clear hst
      go_enter Try.func17, Try.ntmps17
      go_wp2_with fail
      refine (rAll_is S hv M hF.out HKK).mono ?_; rintro e w1 ⟨a1, cap1, rfl, hS1, hb1⟩
      have S1 := box hS1
      have B1 := box hb1
      clear hb1
      obtain ⟨g, off, rfl, c0⟩ := hS1 0 hp
      rw [hK0 hp] at c0
      rw [Nat.add_zero] at c0
      clear hS1 hK0
      go_wp2
      go_ret3
      exact ⟨⟨_, by rw [HM.out]; rfl, by rw [HM.out]; exact OwnE.nil _ _⟩, B1.out⟩
    | false =>
      have HST : Box (starM K = false) := box (by rw [hst, hq])
      clear hst
      go_enter Try.func17, Try.ntmps17
      go_wp2_with fail
      refine (rAll_is S hv M hF.out HKK).mono ?_; rintro e w1 ⟨a1, cap1, rfl, hS1, hb1⟩
      have S1 := box hS1
      have B1 := box hb1
      clear hb1
      obtain ⟨g0, off0, rfl, c0⟩ := hS1 0 hp
      rw [hK0 hp] at c0
      rw [Nat.add_zero] at c0
      clear hS1 hK0
      go_wp2
      go_loopw [8, 9, 10, 11] (fun v i _ _ wr => EtRel K w1 v i wr) (fun v i _ _ _ => K.length - (intOf i).toNat)
      case atStart => exact ⟨0, [], rfl, Nat.zero_le _, Nat.le_refl _, rfl, OwnE.nil _ _, Below.refl _ _⟩
      case round =>
        obtain ⟨k, es, rfl, hk, hez, hpa, hO, hbel⟩ := hrel
        have HPA := box hpa
        obtain ⟨av, cv, rfl, _, _⟩ := hO.es
        have O0 := box hO
        have BL := box hbel
        have SS := S1.out.below hbel
        have hes6 : es.length ≤ 65536 := by omega
        have HEZ := box hez
        clear hO hbel hpa hez
        by_cases hlt : k < K.length
        · have hji : (k : Int) < (K.length : Int) := by omega
          obtain ⟨m, hm⟩ : ∃ m, K[k] = m := ⟨_, rfl⟩
          have hmz : m.size ≤ 65000 := by rw [← hm]; exact HSZ.out _ (List.getElem_mem hlt)
          obtain ⟨g, off, hga, cA⟩ := SS k hlt
          cases hga
          rw [hm] at cA
          cases hp : parE m.data.toList with
          | none =>
            have HQ : Box (tgV (parE m.data.toList) = .tuple #[.agg #[.bool false, .string ⟨#[]⟩], .bool false]) := box (by rw [hp]; rfl)
            have HM : Box (listM K = ([], false, false)) := box (listM_bad HST.out hlt (by rw [hm]; exact hp))
            clear SS hm hp
            go_wp2_with fail
            refine (rParE_is hmz HQ).mono ?_; rintro e w3 ⟨rfl, hb3⟩
            have B3 := box (BL.out.trans (hb3.mono BL.out.size))
            clear hb3 cA
            go_wp2
            go_ret3
            exact ⟨⟨_, by rw [HM.out]; rfl, by rw [HM.out]; exact OwnE.nil _ _⟩, B1.out.trans ((B3.out.alloc B3.out.size _).mono B1.out.size)⟩
          | some e =>
            obtain ⟨b, t⟩ := e
            have HQ : Box (tgV (parE m.data.toList) = .tuple #[.agg #[.bool b, .string t], .bool true]) := box (by rw [hp]; rfl)
            have HN : Box (parAll (K.take (k + 1)) = some (es ++ [(b, t)])) := box (parAll_next hlt HPA.out (by rw [hm]; exact hp))
            clear SS hm hp
            go_wp2_with fail
            refine (rParE_is hmz HQ).mono ?_; rintro e w3 ⟨rfl, hb3⟩
            have O3 := box (own_below O0.out hb3)
            have B3 := box (BL.out.trans (hb3.mono BL.out.size))
            clear hb3 cA
            go_wp2_with (at_builtin; refine wpList_append_etag _ rfl (.tmp 48) (.tmp 50) rfl w1.heap.size _ es rfl ?a1 _ _ rfl b t ?b1 ?b2 ?c1 ?d1 ?_)
            case a1 => exact own_below (own_below O3.out (below_new _ _)) (below_new _ _)
            case b1 => go_simp
            case b2 => go_simp
            case c1 => omega
            case d1 => have := B3.out.size; simp; omega
            intro v5 w5 hO5 hb5
            have O5 := box hO5
            have B5 := box (((B3.out.alloc B3.out.size _).alloc (B3.out.alloc B3.out.size _).size _).trans hb5)
            clear hO5 hb5
            go_wp2
            go_roundw
            case rel => exact ⟨k + 1, _, by go_num, hlt, by have := HEZ.out; rw [List.length_append]; simp; omega, HN.out, O5.out, B5.out⟩
            case measure => simp [intOf]; omega
        · have hji : ¬ (k : Int) < (K.length : Int) := by omega
          have HM : Box (listM K = (es, false, true)) := box (listM_end HST.out H0.out (by omega) HPA.out)
          clear SS
          go_wp2
          go_ret3
          exact ⟨⟨_, by rw [HM.out]; rfl, by rw [HM.out]; exact own_le O0.out B1.out.size⟩, B1.out.trans (BL.out.mono B1.out.size)⟩
  · have HST : Box (starM K = false) := box (star_len h1)
    have e1 : ((K.length : Int) == 1) = false := by rw [beq_eq_false_iff_ne]; omega
    by_cases h0 : K.length = 0
    · have e2 : ((K.length : Int) == 0) = true := by rw [h0]; rfl
      have HM : Box (listM K = ([], false, false)) := box (listM_size HST.out (.inl h0))
      clear h0 h1
      go_enter Try.func17, Try.ntmps17
      go_wp2_with fail
      refine (rAll_is S hv M hF.out HKK).mono ?_; rintro e w1 ⟨a1, cap1, rfl, hS1, hb1⟩
      have S1 := box hS1
      have B1 := box hb1
      clear hb1
      clear hS1
      go_wp2
      go_ret3
      exact ⟨⟨_, by rw [HM.out]; rfl, by rw [HM.out]; exact OwnE.nil _ _⟩, B1.out⟩
    · have e2 : ((K.length : Int) == 0) = false := by rw [beq_eq_false_iff_ne]; omega
      by_cases h64 : 64 ≤ K.length
      · have e3 : (64 : Int) ≤ (K.length : Int) := by omega
        have HM : Box (listM K = ([], false, false)) := box (listM_size HST.out (.inr h64))
        clear h0 h1 h64
        go_enter Try.func17, Try.ntmps17
        go_wp2_with fail
        refine (rAll_is S hv M hF.out HKK).mono ?_; rintro e w1 ⟨a1, cap1, rfl, hS1, hb1⟩
        have S1 := box hS1
        have B1 := box hb1
        clear hb1
        clear hS1
        go_wp2
        go_ret3
        exact ⟨⟨_, by rw [HM.out]; rfl, by rw [HM.out]; exact OwnE.nil _ _⟩, B1.out⟩
      · have e3 : ¬ (64 : Int) ≤ (K.length : Int) := by omega
        have H0 : Box (¬ (K.length = 0 ∨ 64 ≤ K.length)) := box (by omega)
        clear h0 h1 h64
        go_enter Try.func17, Try.ntmps17
        go_wp2_with fail
        refine (rAll_is S hv M hF.out HKK).mono ?_; rintro e w1 ⟨a1, cap1, rfl, hS1, hb1⟩
        have S1 := box hS1
        have B1 := box hb1
        clear hb1
        clear hS1
        go_wp2
        go_loopw [8, 9, 10, 11] (fun v i _ _ wr => EtRel K w1 v i wr) (fun v i _ _ _ => K.length - (intOf i).toNat)
        case atStart => exact ⟨0, [], rfl, Nat.zero_le _, Nat.le_refl _, rfl, OwnE.nil _ _, Below.refl _ _⟩
        case round =>
          obtain ⟨k, es, rfl, hk, hez, hpa, hO, hbel⟩ := hrel
          have HPA := box hpa
          obtain ⟨av, cv, rfl, _, _⟩ := hO.es
          have O0 := box hO
          have BL := box hbel
          have SS := S1.out.below hbel
          have hes6 : es.length ≤ 65536 := by omega
          have HEZ := box hez
          clear hO hbel hpa hez
          by_cases hlt : k < K.length
          · have hji : (k : Int) < (K.length : Int) := by omega
            obtain ⟨m, hm⟩ : ∃ m, K[k] = m := ⟨_, rfl⟩
            have hmz : m.size ≤ 65000 := by rw [← hm]; exact HSZ.out _ (List.getElem_mem hlt)
            obtain ⟨g, off, rfl, cA⟩ := SS k hlt
            rw [hm] at cA
            cases hp : parE m.data.toList with
            | none =>
              have HQ : Box (tgV (parE m.data.toList) = .tuple #[.agg #[.bool false, .string ⟨#[]⟩], .bool false]) := box (by rw [hp]; rfl)
              have HM : Box (listM K = ([], false, false)) := box (listM_bad HST.out hlt (by rw [hm]; exact hp))
              clear SS hm hp
              go_wp2_with fail
              refine (rParE_is hmz HQ).mono ?_; rintro e w3 ⟨rfl, hb3⟩
              have B3 := box (BL.out.trans (hb3.mono BL.out.size))
              clear hb3 cA
              go_wp2
              go_ret3
              exact ⟨⟨_, by rw [HM.out]; rfl, by rw [HM.out]; exact OwnE.nil _ _⟩, B1.out.trans ((B3.out.alloc B3.out.size _).mono B1.out.size)⟩
            | some e =>
              obtain ⟨b, t⟩ := e
              have HQ : Box (tgV (parE m.data.toList) = .tuple #[.agg #[.bool b, .string t], .bool true]) := box (by rw [hp]; rfl)
              have HN : Box (parAll (K.take (k + 1)) = some (es ++ [(b, t)])) := box (parAll_next hlt HPA.out (by rw [hm]; exact hp))
              clear SS hm hp
              go_wp2_with fail
              refine (rParE_is hmz HQ).mono ?_; rintro e w3 ⟨rfl, hb3⟩
              have O3 := box (own_below O0.out hb3)
              have B3 := box (BL.out.trans (hb3.mono BL.out.size))
              clear hb3 cA
              go_wp2_with (at_builtin; refine wpList_append_etag _ rfl (.tmp 48) (.tmp 50) rfl w1.heap.size _ es rfl ?a1 _ _ rfl b t ?b1 ?b2 ?c1 ?d1 ?_)
              case a1 => exact own_below (own_below O3.out (below_new _ _)) (below_new _ _)
              case b1 => go_simp
              case b2 => go_simp
              case c1 => omega
              case d1 => have := B3.out.size; simp; omega
              intro v5 w5 hO5 hb5
              have O5 := box hO5
              have B5 := box (((B3.out.alloc B3.out.size _).alloc (B3.out.alloc B3.out.size _).size _).trans hb5)
              clear hO5 hb5
              go_wp2
              go_roundw
              case rel => exact ⟨k + 1, _, by go_num, hlt, by have := HEZ.out; rw [List.length_append]; simp; omega, HN.out, O5.out, B5.out⟩
              case measure => simp [intOf]; omega
          · have hji : ¬ (k : Int) < (K.length : Int) := by omega
            have HM : Box (listM K = (es, false, true)) := box (listM_end HST.out H0.out (by omega) HPA.out)
            clear SS
            go_wp2
            go_ret3
            exact ⟨⟨_, by rw [HM.out]; rfl, by rw [HM.out]; exact own_le O0.out B1.out.size⟩, B1.out.trans (BL.out.mono B1.out.size)⟩

end Go.Proofs.Ytchbhpfloinbdaa.Asc
