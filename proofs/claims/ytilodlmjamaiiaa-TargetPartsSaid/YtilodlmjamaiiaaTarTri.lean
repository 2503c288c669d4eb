/- The contracts of package target's parseTriplet and appendTriplet. -/
import Derived.Test.YtilodlmjamaiiaaTarByt
import Derived.Test.YtilodlmjamaiiaaTarNorm
set_option linter.unusedVariables false
set_option linter.unusedSimpArgs false
namespace Go.Proofs.Ytilodlmjamaiiaa.Asc
open Go.RowKit

/-- what parseTriplet returns: the byte of the triplet that begins the list -/
def tripleL : List UInt8 → Option UInt8
  | _ :: a :: b :: _ => if (hexB a && hexB b) = true then some (UInt8.ofNat (tripN a b)) else none
  | _ => none
def trV : Option UInt8 → Value
  | some y => .tuple #[.int .u8 y.toNat, .bool true]
  | none => .tuple #[.int .u8 0, .bool false]
theorem tHex_t {c : UInt8} {p : Int} (h : Box (hexB c = true)) (hp : Box (hexI c.toNat = p)) (w : World) :
    Calls Try.prog 50 #[.int .u8 c.toNat] w fun e w' => e = .returned (.tuple #[.int .u8 p, .bool true]) ∧ w = w' :=
  (tHex_any c w).mono fun e w' ⟨h1, h2⟩ => ⟨by rw [h1]; unfold hexV; rw [h.out, if_pos rfl, hp.out], h2⟩
theorem tHex_f {c : UInt8} (h : Box (hexB c = false)) (w : World) :
    Calls Try.prog 50 #[.int .u8 c.toNat] w fun e w' => e = .returned (.tuple #[.int .u8 0, .bool false]) ∧ w = w' :=
  (tHex_any c w).mono fun e w' ⟨h1, h2⟩ => ⟨by rw [h1]; unfold hexV; rw [h.out, if_neg (by simp)], h2⟩
theorem shl4 : ∀ x : Fin 16, IntKind.u8.wrap (((x.1 : Nat) : Int) * 2 ^ 4) = ((x.1 : Nat) : Int) * 16 := by decide +kernel
theorem or_low : ∀ x y : Fin 16, bits .or .u8 (((x.1 : Nat) : Int) * 16) ((y.1 : Nat) : Int) = ((x.1 : Nat) : Int) * 16 + ((y.1 : Nat) : Int) := by decide +kernel
theorem tTriplet_any (s : ByteArray) (w : World) (hs : s.size ≤ 65536) :
    Calls Try.prog 33 #[.string s] w fun e w' => e = .returned (trV (tripleL s.data.toList)) ∧ w = w' := by
  by_cases h3 : s.size < 3
  · have HE : Box (tripleL s.data.toList = none) := box (by
      have hz : s.data.toList.length = s.size := by simp
      match s.data.toList, hz with
      | [], _ => rfl
      | [_], _ => rfl
      | [_, _], _ => rfl
      | _ :: _ :: _ :: _, hz => simp at hz; omega)
    have h3i : (s.size : Int) < 3 := by omega
    go_enter Try.func33, Try.ntmps33
    go_wp2
    go_ret2
    exact ⟨by rw [HE.out]; rfl, rfl⟩
  · have hk1 : 1 < s.size := by omega
    have hk2 : 2 < s.size := by omega
    have hE : s.data.toList = s[0] :: s[1] :: s[2] :: s.data.toList.drop 3 := by
      have h0 := drop_cons s 0 (by omega)
      rw [List.drop_zero, drop_cons s 1 (by omega), drop_cons s 2 (by omega)] at h0
      exact h0
    have HE : Box (tripleL s.data.toList = if (hexB s[1] && hexB s[2]) = true then some (UInt8.ofNat (tripN s[1] s[2])) else none) := box (by rw [hE]; rfl)
    have h3i : ¬ (s.size : Int) < 3 := by omega
    have h1i : (1 : Int) < (s.size : Int) := by omega
    have h2i : (2 : Int) < (s.size : Int) := by omega
    clear hE
    obtain ⟨a, ha⟩ : ∃ a, s[1] = a := ⟨_, rfl⟩
    obtain ⟨b, hb⟩ : ∃ b, s[2] = b := ⟨_, rfl⟩
    have HA := box ha
    have HB := box hb
    rw [ha, hb] at HE
    clear ha hb
    obtain ⟨p, hp⟩ : ∃ p, hexI (a.toNat) = p := ⟨_, rfl⟩
    obtain ⟨q, hq⟩ : ∃ q, hexI (b.toNat) = q := ⟨_, rfl⟩
    have HP := box hp
    have HQ := box hq
    clear hp hq
    rcases h1 : hexB a with _ | _
    · have H1 := box h1
      rw [h1] at HE
      clear h1
      rcases h2 : hexB b with _ | _
      · have H2 := box h2
        clear h2
        go_enter Try.func33, Try.ntmps33
        go_wp2_with fail
        rw [HA.out]
        refine (tHex_f H1 _).mono ?_; rintro e w1 ⟨rfl, rfl⟩
        go_wp2_with fail
        rw [HB.out]
        refine (tHex_f H2 _).mono ?_; rintro e w1 ⟨rfl, rfl⟩
        go_wp2
        go_ret2
        exact ⟨by rw [HE.out]; rfl, rfl⟩
      · have H2 := box h2
        clear h2
        go_enter Try.func33, Try.ntmps33
        go_wp2_with fail
        rw [HA.out]
        refine (tHex_f H1 _).mono ?_; rintro e w1 ⟨rfl, rfl⟩
        go_wp2_with fail
        rw [HB.out]
        refine (tHex_t H2 HQ _).mono ?_; rintro e w1 ⟨rfl, rfl⟩
        go_wp2
        go_ret2
        exact ⟨by rw [HE.out]; rfl, rfl⟩
    · have H1 := box h1
      rw [h1] at HE
      rcases h2 : hexB b with _ | _
      · have H2 := box h2
        rw [h2] at HE
        clear h1 h2
        go_enter Try.func33, Try.ntmps33
        go_wp2_with fail
        rw [HA.out]
        refine (tHex_t H1 HP _).mono ?_; rintro e w1 ⟨rfl, rfl⟩
        go_wp2_with fail
        rw [HB.out]
        refine (tHex_f H2 _).mono ?_; rintro e w1 ⟨rfl, rfl⟩
        go_wp2
        go_ret2
        exact ⟨by rw [HE.out]; rfl, rfl⟩
      · have H2 := box h2
        rw [h2] at HE
        have b1 := hex_bd h1
        have b2 := hex_bd h2
        rw [HP.out] at b1
        rw [HQ.out] at b2
        clear h1 h2
        have hv : ((UInt8.ofNat (tripN a b)).toNat : Int) = p * 16 + q := by
          have e : tripN a b = (p * 16 + q).toNat := by unfold tripN; rw [HP.out, HQ.out]
          rw [e, UInt8.toNat_ofNat', Nat.mod_eq_of_lt (by omega)]; omega
        have HV := box hv
        have s4 : IntKind.u8.wrap (p * 2 ^ 4) = p * 16 := by
          have := shl4 ⟨p.toNat, by omega⟩
          rw [show ((p.toNat : Nat) : Int) = p from by omega] at this; exact this
        have o4 : bits .or .u8 (p * 16) q = p * 16 + q := by
          have := or_low ⟨p.toNat, by omega⟩ ⟨q.toNat, by omega⟩
          rw [show ((p.toNat : Nat) : Int) = p from by omega, show ((q.toNat : Nat) : Int) = q from by omega] at this; exact this
        have S4 := box s4
        have O4 := box o4
        clear hv s4 o4
        obtain ⟨b11, b12⟩ := b1
        obtain ⟨b21, b22⟩ := b2
        go_enter Try.func33, Try.ntmps33
        go_wp2_with fail
        rw [HA.out]
        refine (tHex_t H1 HP _).mono ?_; rintro e w1 ⟨rfl, rfl⟩
        go_wp2_with fail
        rw [HB.out]
        refine (tHex_t H2 HQ _).mono ?_; rintro e w1 ⟨rfl, rfl⟩
        go_wp2
        go_ret2
        refine ⟨?_, rfl⟩
        show Ending.returned (.tuple #[.int .u8 (bits .or .u8 (p * 16) q), .bool true]) = _
        rw [O4.out, HE.out, ← HV.out]; rfl

/-- a call returns a slice of its own, in a block not below B, that holds the bytes l -/
def OwnRet (B : Nat) (l : List UInt8) (w : World) (e : Ending) (w' : World) : Prop := ∃ v, e = .returned v ∧ Own w' B v l ∧ Below B w w'
theorem tAppendTrip_un (y : UInt8) (w : World) (B : Nat) (v : Value) (acc : List UInt8) (hB : B ≤ w.heap.size) (O : Box (Own w B v acc)) (hl : acc.length ≤ 65530) (HU : Box (unresI y.toNat = true)) :
    Calls Try.prog 34 #[v, .int .u8 y.toNat] w (OwnRet B (acc ++ tripL y.toNat) w) := by
  go_enter Try.func34, Try.ntmps34
  go_wp2_with fail
  refine (tUnreserved_any y _).mono ?_; rintro e w1 ⟨rfl, rfl⟩; rw [HU.out]
  go_wp2_with (at_builtin; refine wpList_append_byte _ rfl (.tmp 7) (.tmp 9) rfl B _ acc rfl (Own.alloc O.out _) _ rfl _ y rfl (cell_new _ _ _ _ rfl) (by omega) (Nat.le_trans hB (size_more _ _)) ?_; intro v' w3 hO1 hb1)
  have O1 := box hO1
  have B1 := box (((Below.refl B w).alloc hB _).trans hb1)
  clear hO1 hb1
  go_ret
  refine ⟨_, rfl, ?_, B1.out⟩
  rw [trip_un HU.out]; exact O1.out
theorem tAppendTrip_no (y : UInt8) (w : World) (B : Nat) (v : Value) (acc : List UInt8) (hB : B ≤ w.heap.size) (O : Box (Own w B v acc)) (hl : acc.length ≤ 65530) (HU : Box (unresI y.toNat = false)) :
    Calls Try.prog 34 #[v, .int .u8 y.toNat] w (OwnRet B (acc ++ tripL y.toNat) w) := by
  have hy255 := y.toNat_lt
  obtain ⟨m, hm⟩ : ∃ m, y.toNat % 16 = m := ⟨_, rfl⟩
  obtain ⟨d, hd⟩ : ∃ d, y.toNat / 16 = d := ⟨_, rfl⟩
  have hm16 : m < 16 := by omega
  have hd16 : d < 16 := by omega
  have hm16i : (m : Int) < 16 := by omega
  have hd16i : (d : Int) < 16 := by omega
  have hbits : bits .and .u8 (y.toNat : Int) 15 = (m : Int) := by have := and15 ⟨y.toNat, by omega⟩; simp only at this; rw [this, hm]
  have hdiv : (y.toNat : Int) / 16 = (d : Int) := by omega
  have HM := box hm
  have HD := box hd
  clear hm hd
  go_enter Try.func34, Try.ntmps34
  go_wp2_with fail
  refine (tUnreserved_any y _).mono ?_; rintro e w1 ⟨rfl, rfl⟩; rw [HU.out]
  go_wp2_with fail
  go_region_held3 (fun w' => True) (first | trivial) (first | (refine step_append_b3 _ rfl (.tmp 11) (.tmp 18) rfl B _ acc (by rfl) ?_ _ _ (by rfl) 37 (hexS[d]'hd16) (hexS[m]'hm16) ?_ ?_ ?_ ?_ ?_ ?_; (exact Own.alloc (Own.drewN O.out) _); (exact (cell_new3 _ _ _ _ _ _ rfl).1); (exact (cell_new3 _ _ _ _ _ _ rfl).2.1); (exact (cell_new3 _ _ _ _ _ _ rfl).2.2); omega; (exact Nat.le_trans hB (size_more _ _)); intro v4 w4 hO4 hb4; have O4 := box hO4; have B4 := box ((((Below.refl B w).trans ((below_drewN _ _).mono hB)).alloc hB _).trans hb4); clear hO4 hb4))
  all_goals
    clear hbits hdiv
    go_wp2
    go_ret
    refine ⟨_, rfl, ?_, B4.out⟩
    rw [trip_no HU.out, HD.out, HM.out, ← hexS_at ⟨d, hd16⟩, ← hexS_at ⟨m, hm16⟩]
    exact O4.out
theorem tAppendTrip_any (y : UInt8) (w : World) (B : Nat) (v : Value) (acc : List UInt8) (hB : B ≤ w.heap.size) (O : Box (Own w B v acc)) (hl : acc.length ≤ 65530) :
    Calls Try.prog 34 #[v, .int .u8 y.toNat] w (OwnRet B (acc ++ tripL y.toNat) w) := by
  rcases h : unresI y.toNat with _ | _
  · exact tAppendTrip_no y w B v acc hB O hl (box h)
  · exact tAppendTrip_un y w B v acc hB O hl (box h)

end Go.Proofs.Ytilodlmjamaiiaa.Asc
