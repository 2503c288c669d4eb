/- Merged texts: ParMine MedMine LanMT CodMine VarRule VarVal VarAxP. -/
import Derived.Test.YtcnohcbhnldglaaM01
import Derived.Test.YtcnohcbhnldglaaM02
import Derived.Test.YtcnohcbhnldglaaM03
import Derived.Test.YtcnohcbhnldglaaM04
import Derived.Test.YtcnohcbhnldglaaM06
import Derived.Test.YtcnohcbhnldglaaM07
import Derived.Test.YtcnohcbhnldglaaM08
import Derived.Test.YtcnohcbhnldglaaM09
import Derived.Test.YtcnohcbhnldglaaM10
import Derived.Test.YtcnohcbhnldglaaM12
import Derived.Handy
import Derived.OwnWalk
set_option linter.unusedVariables false
set_option linter.unusedSimpArgs false
set_option maxRecDepth 100000
namespace Go.Proofs.Ytcnohcbhnldglaa.Asc
section
open Go.RowKit
/-- what a token or a quoted string stands for -/
def contO (l : List UInt8) : Option (List UInt8) := if tokL l = true then some l else unqL l
theorem cont_nil : contO [] = none := rfl
theorem cut2_nil {x : List UInt8} (h : cutB 61 x = false) : cut2 61 x = [] := by
  rcases idx_cases x 61 with hi | ⟨o, hi, ho⟩
  · exact (cut_no hi).2.1
  · rw [(cut_at hi).2.2.2] at h; exact absurd h (by decide)
theorem param_cont0 {x : List UInt8} (h : contO (cut2 61 x) = none) : paramL x = none := by
  unfold paramL
  split
  · rfl
  · unfold contO at h
    split at h
    · cases h
    · rename_i q; rw [if_neg q, h]
theorem param_cont1 {x : List UInt8} (h : tokL (cut1 61 x) = false) : paramL x = none := by
  unfold paramL; rw [if_pos (.inr h)]
theorem param_cont2 {x u : List UInt8} (h : tokL (cut1 61 x) = true) (hu : contO (cut2 61 x) = some u) : paramL x = some (bs (lowL (cut1 61 x)), bs u) := by
  have hb : cutB 61 x = true := by
    rcases q : cutB 61 x with _ | _
    · rw [cut2_nil q, cont_nil] at hu; cases hu
    · rfl
  unfold paramL
  rw [if_neg (by rw [hb, h]; simp)]
  unfold contO at hu
  split at hu
  · rename_i q; rw [if_pos q]; cases hu; rfl
  · rename_i q; rw [if_neg q, hu]
theorem aToken_is {s : ByteArray} {b : Bool} {w : World} (hs : s.size ≤ maxLen) (h : Box (tokL s.data.toList = b)) :
    Calls Try.prog 48 #[.string s] w fun e w' => e = .returned (.bool b) ∧ w = w' :=
  (Token_any s w hs).mono fun e w' ⟨h1, h2⟩ => ⟨by rw [h1, h.out], h2⟩
theorem aUnq_is {s : ByteArray} {o : Option (List UInt8)} {w : World} (hs : s.size ≤ 4294967296) (h : Box (unqL s.data.toList = o)) :
    Calls Try.prog 40 #[.string s] w fun e w' => e = .returned (optV o) ∧ Below w.heap.size w w' :=
  (Unquote_any s w hs).mono fun e w' ⟨h1, h2⟩ => ⟨by rw [h1, h.out], h2⟩
theorem aLower_is {s x : ByteArray} {w : World} (hs : s.size ≤ 4294967296) (h : Box (bs (lowL s.data.toList) = x)) :
    Calls Try.prog 49 #[.string s] w fun e w' => e = .returned (.string x) ∧ Below w.heap.size w w' :=
  (Lower_any s w hs).mono fun e w' ⟨h1, h2⟩ => ⟨by rw [h1, ← h.out]; rfl, h2⟩
theorem parseContent_is (s : ByteArray) (o : Option (List UInt8)) (w : World) (hs : s.size ≤ 4294967296) (h : Box (contO s.data.toList = o)) :
    Calls Try.prog 88 #[.string s] w fun e w' => e = .returned (optV o) ∧ Below w.heap.size w w' := by
  have hm : s.size ≤ maxLen := by unfold maxLen; omega
  have HM := box hm
  clear hm
  rcases htk : tokL s.data.toList with _ | _
  · have HT := box htk
    have hu : unqL s.data.toList = o := by
      have := h.out
      unfold contO at this
      rwa [if_neg (by rw [htk]; decide)] at this
    have HU := box hu
    clear htk hu h
    rcases o with _ | u
    · go_enter Try.func88, Try.ntmps88
      go_wp2_with fail
      refine (aToken_is HM.out HT).mono ?_; rintro e w1 ⟨rfl, rfl⟩
      go_wp2_with fail
      refine (aUnq_is hs HU).mono ?_; rintro e w2 ⟨rfl, hb⟩
      have B := box hb
      clear hb
      unfold optV
      go_wp2
      go_ret2
      exact ⟨rfl, B.out⟩
    · go_enter Try.func88, Try.ntmps88
      go_wp2_with fail
      refine (aToken_is HM.out HT).mono ?_; rintro e w1 ⟨rfl, rfl⟩
      go_wp2_with fail
      refine (aUnq_is hs HU).mono ?_; rintro e w2 ⟨rfl, hb⟩
      have B := box hb
      clear hb
      unfold optV
      go_wp2
      go_ret2
      exact ⟨rfl, B.out⟩
  · have HT := box htk
    have ho : o = some s.data.toList := by
      rw [← h.out]; unfold contO; rw [if_pos htk]
    subst ho
    clear htk h
    go_enter Try.func88, Try.ntmps88
    go_wp2_with fail
    refine (aToken_is HM.out HT).mono ?_; rintro e w1 ⟨rfl, rfl⟩
    go_wp2
    go_ret2
    exact ⟨rfl, Below.refl _ _⟩
def pieceV : Option F → Value
  | some f => .tuple #[.string f.1, .string f.2, .bool true]
  | none => .tuple #[.string ⟨#[]⟩, .string ⟨#[]⟩, .bool false]
set_option maxHeartbeats 1000000 in
theorem parsePiece_is (x : ByteArray) (o : Option F) (w : World) (hs : x.size ≤ 65000) (h : Box (paramL x.data.toList = o)) :
    Calls Try.prog 86 #[.string x] w fun e w' => e = .returned (pieceV o) ∧ Below w.heap.size w w' := by
  have hm : x.size ≤ maxLen := by unfold maxLen; omega
  obtain ⟨n, hn⟩ : ∃ n, bs (cut1 61 x.data.toList) = n := ⟨_, rfl⟩
  obtain ⟨f, hf⟩ : ∃ f, bs (cut2 61 x.data.toList) = f := ⟨_, rfl⟩
  obtain ⟨b, hb⟩ : ∃ b, cutB 61 x.data.toList = b := ⟨_, rfl⟩
  have HV : Box (cutV 61 x.data.toList = .tuple #[.string n, .string f, .bool b]) := box (by unfold cutV; rw [hn, hf, hb])
  have hxl : x.data.toList.length = x.size := by simp
  have hnz : n.size ≤ 65000 := by
    rw [← hn, bs_size]
    have : (cut1 61 x.data.toList).length ≤ x.data.toList.length := by unfold cut1; exact (List.takeWhile_sublist _).length_le
    omega
  have hfz : f.size ≤ 65000 := by
    rw [← hf, bs_size]
    have : (cut2 61 x.data.toList).length ≤ x.data.toList.length := by
      unfold cut2; rw [List.length_drop]; have := (List.dropWhile_sublist (· != (61 : UInt8)) (l := x.data.toList)).length_le; omega
    omega
  have hn1 : n.data.toList = cut1 61 x.data.toList := by rw [← hn]; rfl
  have hf1 : f.data.toList = cut2 61 x.data.toList := by rw [← hf]; rfl
  have hnm : n.size ≤ maxLen := by unfold maxLen; omega
  have hn4 : n.size ≤ 4294967296 := by omega
  have hf4 : f.size ≤ 4294967296 := by omega
  have HNM := box hnm
  have HN4 := box hn4
  have HF4 := box hf4
  have HM := box hm
  clear hn hf hb hxl hnm hn4 hf4 hm hnz hfz hs
  rcases hc : contO (cut2 61 x.data.toList) with _ | u
  · have HC : Box (contO f.data.toList = none) := box (by rw [hf1, hc])
    obtain rfl : o = none := by rw [← h.out]; exact param_cont0 hc
    clear hc hn1 hf1 h
    go_enter Try.func86, Try.ntmps86
    go_wp2_with fail
    refine (Cut_any x 61 _ HM.out).mono ?_; rintro e w1 ⟨rfl, hb1⟩; rw [HV.out]
    have B1 := box hb1
    clear hb1
    go_wp2_with fail
    refine (parseContent_is f none _ HF4.out HC).mono ?_; rintro e w2 ⟨rfl, hb2⟩
    have B2 := box (B1.out.trans (hb2.mono B1.out.size))
    clear hb2
    unfold optV
    go_wp2
    go_ret3
    exact ⟨rfl, B2.out⟩
  · have HC : Box (contO f.data.toList = some u) := box (by rw [hf1, hc])
    rcases ht : tokL (cut1 61 x.data.toList) with _ | _
    · have HT : Box (tokL n.data.toList = false) := box (by rw [hn1, ht])
      obtain rfl : o = none := by rw [← h.out]; exact param_cont1 ht
      clear hc ht hn1 hf1 h
      go_enter Try.func86, Try.ntmps86
      go_wp2_with fail
      refine (Cut_any x 61 _ HM.out).mono ?_; rintro e w1 ⟨rfl, hb1⟩; rw [HV.out]
      have B1 := box hb1
      clear hb1
      go_wp2_with fail
      refine (parseContent_is f (some u) _ HF4.out HC).mono ?_; rintro e w2 ⟨rfl, hb2⟩
      have B2 := box (B1.out.trans (hb2.mono B1.out.size))
      clear hb2
      unfold optV
      go_wp2_with fail
      refine (aToken_is HNM.out HT).mono ?_; rintro e w3 ⟨rfl, rfl⟩
      go_wp2
      go_ret3
      exact ⟨rfl, B2.out⟩
    · have HT : Box (tokL n.data.toList = true) := box (by rw [hn1, ht])
      obtain ⟨nm, hnm⟩ : ∃ nm, bs (lowL n.data.toList) = nm := ⟨_, rfl⟩
      have HL := box hnm
      obtain ⟨ub, hub⟩ : ∃ ub, bs u = ub := ⟨_, rfl⟩
      have HU : Box (optV (some u) = .tuple #[.string ub, .bool true]) := box (by rw [← hub]; rfl)
      obtain rfl : o = some (nm, ub) := by rw [← h.out, param_cont2 ht hc, ← hnm, hn1, hub]
      clear hc ht hn1 hf1 h hnm hub
      go_enter Try.func86, Try.ntmps86
      go_wp2_with fail
      refine (Cut_any x 61 _ HM.out).mono ?_; rintro e w1 ⟨rfl, hb1⟩; rw [HV.out]
      have B1 := box hb1
      clear hb1
      go_wp2_with fail
      refine (parseContent_is f (some u) _ HF4.out HC).mono ?_; rintro e w2 ⟨rfl, hb2⟩; rw [HU.out]
      have B2 := box (B1.out.trans (hb2.mono B1.out.size))
      clear hb2
      go_wp2_with fail
      refine (aToken_is HNM.out HT).mono ?_; rintro e w3 ⟨rfl, rfl⟩
      go_wp2_with fail
      refine (aLower_is HN4.out HL).mono ?_; rintro e w4 ⟨rfl, hb4⟩
      have B4 := box (B2.out.trans (hb4.mono B2.out.size))
      clear hb4
      go_wp2
      go_ret3
      exact ⟨rfl, B4.out⟩
def ParRelM (T : Option (List F)) (B n : Nat) (w : World) (r m v : Value) (wr : World) : Prop :=
  ∃ (acc : List F) (t : ByteArray) (b : Bool), r = .string t ∧ m = .bool b ∧ acc.length + t.size ≤ n ∧ T = parF (moreL 59 b t.data.toList) acc ∧ OwnP wr B v acc ∧ Below B w wr
set_option maxHeartbeats 4000000 in
theorem mPar_any (s : ByteArray) (w : World) (hs : s.size ≤ 65000) :
    Calls Try.prog 84 #[.string s] w fun e w' => parW w w' s.data.toList e := by
  obtain ⟨p, r0, m0, hp⟩ : ∃ p r m, pcL 59 s.data.toList = (p, r, m) := ⟨_, _, _, rfl⟩
  have HV : Box (pcV 59 s.data.toList = .tuple #[.string (bs p), .string (bs r0), .bool m0]) := box (by unfold pcV; rw [hp])
  have hcut : cutL 59 s.data.toList = p :: moreL 59 m0 r0 := by
    have := cutL_pc (sep := 59) (by decide) s.data.toList
    rwa [hp] at this
  have HQ := box hcut
  have hsz := pcF_size 59 s.data.toList 0 []
  rw [show pcF 59 0 s.data.toList [] = (p, r0, m0) from hp] at hsz
  simp only [List.length_nil, Nat.zero_add] at hsz
  rw [show s.data.toList.length = s.size from by simp] at hsz
  have hrz : (bs r0).size ≤ 65000 := by rw [bs_size]; omega
  have hpz : (bs p).size ≤ maxLen := by rw [bs_size]; unfold maxLen; omega
  clear hp hcut hsz
  by_cases ht : trimL p = []
  · have HT : Box (bs (trimL (bs p).data.toList) = ⟨#[]⟩) := box (by rw [bs_toList, ht]; rfl)
    have HN := box (par_none0 HQ.out ht)
    clear ht
    go_enter Try.func84, Try.ntmps84
    go_wp2_with fail
    refine (pieceCut_any s 59 _ hs).mono ?_; rintro e w1 ⟨rfl, hb1⟩
    rw [HV.out]
    have B1 := box hb1
    clear hb1
    go_wp2_with fail
    refine (aTrim_is hpz HT).mono ?_; rintro e w2 ⟨rfl, rfl⟩
    go_wp2
    go_ret3
    exact parW_none HN.out B1.out
  · obtain ⟨x0, hx0⟩ : ∃ x0, bs (trimL p) = x0 := ⟨_, rfl⟩
    have HT : Box (bs (trimL (bs p).data.toList) = x0) := box (by rw [bs_toList, hx0])
    have hxe : x0.toList.isEmpty = false := by
      rw [← hx0, toList_bs]
      cases h : trimL p with
      | nil => exact absurd h ht
      | cons c r => rfl
    have HX0 := box hx0
    have HNE := box ht
    obtain ⟨T, hT⟩ : ∃ T, parF (moreL 59 m0 r0) [] = T := ⟨_, rfl⟩
    have HTT := box hT
    clear hx0 ht hT
    go_enter Try.func84, Try.ntmps84
    go_wp2_with fail
    refine (pieceCut_any s 59 _ hs).mono ?_; rintro e w1 ⟨rfl, hb1⟩
    rw [HV.out]
    have B1 := box hb1
    have hB1 := hb1.size
    clear hb1
    go_wp2_with fail
    refine (aTrim_is hpz HT).mono ?_; rintro e w2 ⟨rfl, rfl⟩
    go_wp2
    go_loopw [6, 7, 9] (fun r m v wr => ParRelM T w1.heap.size 65000 w1 r m v wr) (fun r m _ _ => msr m r)
    case atStart => exact ⟨[], bs r0, m0, rfl, rfl, by simpa using hrz, by rw [bs_toList]; exact HTT.out.symm, OwnP.nil _ _, Below.refl _ _⟩
    case round =>
      obtain ⟨acc, t, b, rfl, rfl, hat, hTM, hO, hbel⟩ := hrel
      have O0 := box hO
      have BL := box hbel
      have HM := box hTM
      have hBw := hbel.size
      obtain ⟨av, cv, rfl, _, _⟩ := hO.fs
      clear hO hbel hTM
      rcases b with _ | _
      · have HD : Box (parA s.data.toList = x0 ∧ parB s.data.toList = acc ∧ parO s.data.toList = true) := box (by
          have := par_some HQ.out HNE.out (HTT.out.trans HM.out)
          rwa [HX0.out] at this)
        go_wp2
        go_ret3
        obtain ⟨d1, d2, d3⟩ := HD.out
        exact ⟨_, by rw [d1, d3]; rfl, by rw [d2]; exact Go.Joins.ownsRow_le O0.out hB1, B1.out.trans (BL.out.mono hB1)⟩
      · have ht6 : t.size ≤ 65000 := by omega
        obtain ⟨p, r, m, hp⟩ : ∃ p r m, pcL 59 t.data.toList = (p, r, m) := ⟨_, _, _, rfl⟩
        have HV : Box (pcV 59 t.data.toList = .tuple #[.string (bs p), .string (bs r), .bool m]) := box (by unfold pcV; rw [hp])
        have hcut : T = parF (p :: moreL 59 m r) acc := by
          have := cutL_pc (sep := 59) (by decide) t.data.toList
          rw [hp] at this
          rw [HM.out]
          show parF (cutL 59 t.data.toList) acc = _
          rw [this]
        have hsz := pcF_size 59 t.data.toList 0 []
        rw [show pcF 59 0 t.data.toList [] = (p, r, m) from hp] at hsz
        simp only [List.length_nil, Nat.zero_add] at hsz
        rw [show t.data.toList.length = t.size from by simp] at hsz
        have hrz : acc.length + (bs r).size ≤ 65000 := by rw [bs_size]; omega
        have hms : Box (msr (.bool m) (.string (bs r)) < t.size + 1) := box (by
          cases m
          · exact Nat.zero_lt_succ _
          · show (bs r).size + 1 < t.size + 1
            rw [bs_size]; have := hsz.2 rfl; omega)
        have hpz : (bs p).size ≤ maxLen := by rw [bs_size]; unfold maxLen; omega
        have HSZ := box hsz.1
        have HCut := box hcut
        clear hp hcut hsz HM
        by_cases htr : trimL p = []
        · have HTr : Box (bs (trimL (bs p).data.toList) = ⟨#[]⟩) := box (by rw [bs_toList, htr]; rfl)
          have HN : Box (T = parF (moreL 59 m (bs r).data.toList) acc) := box (by rw [HCut.out, parF_skip htr, bs_toList])
          clear HCut htr
          go_wp2_with fail
          refine (pieceCut_any t 59 _ ht6).mono ?_; rintro e w3 ⟨rfl, hb3⟩
          rw [HV.out]
          have O3 := box (own_below O0.out hb3)
          have B3 := box (BL.out.trans (hb3.mono hBw))
          clear hb3
          go_wp2_with fail
          refine (aTrim_is hpz HTr).mono ?_; rintro e w4 ⟨rfl, rfl⟩
          go_wp2
          go_roundw
          case rel => exact ⟨acc, bs r, m, rfl, rfl, hrz, HN.out, O3.out, B3.out⟩
          case measure => exact hms.out
        · obtain ⟨x, hx⟩ : ∃ x, bs (trimL p) = x := ⟨_, rfl⟩
          have hxd : x.data.toList = trimL p := by rw [← hx]; rfl
          have HTr : Box (bs (trimL (bs p).data.toList) = x) := box (by rw [bs_toList, hx])
          have hxe : x.toList.isEmpty = false := by
            rw [← hx, toList_bs]
            cases h : trimL p with
            | nil => exact absurd h htr
            | cons c r => rfl
          have hxz : x.size ≤ 65000 := by
            have h1 := trim_le p
            have h2 : x.size = (trimL p).length := by rw [← hx, bs_size]
            have := HSZ.out
            omega
          have hp1 : 1 ≤ p.length := by
            cases h : p with
            | nil => rw [h] at htr; exact absurd rfl htr
            | cons c r => simp
          have hmz : acc.length + 1 + (bs r).size ≤ 65000 := by rw [bs_size]; have := HSZ.out; omega
          rcases hpm : paramL x.data.toList with _ | f
          · have HP := box hpm
            have HB := box (par_none1 HQ.out HNE.out (HTT.out.trans (HCut.out.trans (parF_bad htr (by rw [← hxd]; exact hpm)))))
            clear HCut hx hxd hpm htr
            go_wp2_with fail
            refine (pieceCut_any t 59 _ ht6).mono ?_; rintro e w3 ⟨rfl, hb3⟩
            rw [HV.out]
            have B3 := box (BL.out.trans (hb3.mono hBw))
            clear hb3
            go_wp2_with fail
            refine (aTrim_is hpz HTr).mono ?_; rintro e w4 ⟨rfl, rfl⟩
            go_wp2_with fail
            refine (parsePiece_is x none _ hxz HP).mono ?_; rintro e w5 ⟨rfl, hb5⟩
            have B5 := box (B3.out.trans (hb5.mono B3.out.size))
            clear hb5
            unfold pieceV
            go_wp2
            go_ret3
            exact parW_none HB.out (B1.out.trans (B5.out.mono hB1))
          · have HP := box hpm
            obtain ⟨nm, ub⟩ := f
            have HN : Box (T = parF (moreL 59 m (bs r).data.toList) (acc ++ [(nm, ub)])) := box (by rw [HCut.out, parF_step htr (by rw [← hxd]; exact hpm), bs_toList])
            have hml : Box ((acc ++ [(nm, ub)]).length + (bs r).size ≤ 65000) := box (by rw [List.length_append]; simp only [List.length_cons, List.length_nil]; omega)
            clear HCut hx hxd hpm htr
            go_wp2_with fail
            refine (pieceCut_any t 59 _ ht6).mono ?_; rintro e w3 ⟨rfl, hb3⟩
            rw [HV.out]
            have O3 := box (own_below O0.out hb3)
            have B3 := box (BL.out.trans (hb3.mono hBw))
            clear hb3
            go_wp2_with fail
            refine (aTrim_is hpz HTr).mono ?_; rintro e w4 ⟨rfl, rfl⟩
            go_wp2_with fail
            refine (parsePiece_is x (some (nm, ub)) _ hxz HP).mono ?_; rintro e w5 ⟨rfl, hb5⟩
            have O5 := box (own_below O3.out hb5)
            have B5 := box (B3.out.trans (hb5.mono B3.out.size))
            clear hb5
            unfold pieceV
            go_wp2_with (at_builtin; refine wpList_append_prm _ rfl (.tmp 44) (.tmp 48) rfl w1.heap.size _ acc rfl ?a1 _ _ rfl nm ub ?b1 ?b2 ?c1 ?d1 ?_)
            case a1 => exact own_below O5.out (below_new _ _)
            case b1 => go_simp
            case b2 => go_simp
            case c1 => omega
            case d1 => have := B5.out.size; simp; omega
            intro v6 w6 hO6 hb6
            have O6 := box hO6
            have B6 := box ((B5.out.alloc B5.out.size _).trans hb6)
            clear hO6 hb6
            go_wp2
            go_roundw
            case rel => exact ⟨acc ++ [(nm, ub)], bs r, m, rfl, rfl, hml.out, HN.out, O6.out, B6.out⟩
            case measure => exact hms.out
end
section
open Go.RowKit
/-- Parse of param with its results as letters -/
theorem mParO_is {s x : ByteArray} {K : List F} {b : Bool} {w : World} (hs : s.size ≤ 65000) (h : Box (parA s.data.toList = x ∧ parB s.data.toList = K ∧ parO s.data.toList = b)) :
    Calls Try.prog 84 #[.string s] w fun e w' => ∃ a cap, e = .returned (.tuple #[.string x, .slice a K.length cap, .bool b]) ∧ OwnP w' w.heap.size (.slice a K.length cap) K ∧ Below w.heap.size w w' :=
  (mPar_any s w hs).mono fun e w' ⟨v, h1, h2, h3⟩ => by
    obtain ⟨rfl, rfl, rfl⟩ := h.out
    obtain ⟨a, cap, rfl, hS, hc⟩ := h2.fs
    exact ⟨a, cap, h1, h2, h3⟩
theorem tok_nil : tokL [] = false := rfl
/-- a range without a slash is none, by its empty subtype -/
theorem type_as (v : List UInt8) : typeL v = if tokL (cut1 47 v) = false ∨ tokL (cut2 47 v) = false then none
    else if cut1 47 v = [42] ∧ cut2 47 v ≠ [42] then none else some (bs (lowL (cut1 47 v)), bs (lowL (cut2 47 v))) := by
  unfold typeL
  rcases hb : cutB 47 v with _ | _
  · have : cut2 47 v = [] := by
      rcases idx_cases v 47 with hi | ⟨o, hi, ho⟩
      · exact (cut_no hi).2.1
      · rw [(cut_at hi).2.2.2] at hb; exact absurd hb (by decide)
    rw [this, tok_nil]
    simp
  · rcases h1 : tokL (cut1 47 v) with _ | _ <;> rcases h2 : tokL (cut2 47 v) with _ | _ <;> simp
theorem mRange_0 (s x : ByteArray) (K : List F) (w : World) (hs : s.size ≤ 65000) (H : Box (parA s.data.toList = x ∧ parB s.data.toList = K ∧ parO s.data.toList = false)) (HR : Box (rangeL s.data.toList = none)) :
    Calls Try.prog 83 #[.string s] w fun e w' => medW w w' (rangeL s.data.toList) e := by
  go_enter Try.func83, Try.ntmps83
  go_wp2_with fail
  refine (mParO_is hs H).mono ?_; rintro e w1 ⟨a1, cap1, rfl, hO1, hb1⟩
  have O1 := box hO1
  have C1 := box ((C3.new (.string ⟨#[]⟩) (.string ⟨#[]⟩) (.slice none 0 0) w 104).next hb1)
  have B1 := box ((below_new w _).trans (hb1.mono (below_new w _).size))
  clear hO1 hb1
  obtain ⟨⟨r0, r1, r2⟩, ⟨f0, f1, f2⟩⟩ := C1.out
  go_wp2
  (try simp only [Exit.inBlock, Exit.then])
  refine bodyPost_ret (v := .tuple #[.agg #[.string ⟨#[]⟩, .string ⟨#[]⟩, .slice none 0 0], .bool false]) (by rw [results_cell_tmp rfl]; go_simp) rfl ?_
  exact medW_none HR (below3 B1.out (Nat.le_refl _) _ _ _)
theorem mRange_1 (s x m n : ByteArray) (K : List F) (q : Bool) (w : World) (hs : s.size ≤ 65000) (H : Box (parA s.data.toList = x ∧ parB s.data.toList = K ∧ parO s.data.toList = true)) (HXM : Box (x.size ≤ maxLen)) (HMM : Box (m.size ≤ maxLen)) (HNM : Box (n.size ≤ maxLen)) (HV : Box (cutV 47 x.data.toList = .tuple #[.string m, .string n, .bool q])) (HT1 : Box (tokL m.data.toList = false)) (HR : Box (rangeL s.data.toList = none)) :
    Calls Try.prog 83 #[.string s] w fun e w' => medW w w' (rangeL s.data.toList) e := by
  go_enter Try.func83, Try.ntmps83
  go_wp2_with fail
  refine (mParO_is hs H).mono ?_; rintro e w1 ⟨a1, cap1, rfl, hO1, hb1⟩
  have O1 := box hO1
  have C1 := box ((C3.new (.string ⟨#[]⟩) (.string ⟨#[]⟩) (.slice none 0 0) w 104).next hb1)
  have B1 := box ((below_new w _).trans (hb1.mono (below_new w _).size))
  clear hO1 hb1
  go_wp2_with fail
  refine (Cut_any x 47 _ HXM.out).mono ?_; rintro e w2 ⟨rfl, hb2⟩; rw [HV.out]
  have O2 := box (own_below O1.out hb2)
  have C2 := box (C1.out.next hb2)
  have B2 := box (B1.out.trans (hb2.mono B1.out.size))
  clear hb2 O1 C1 B1
  go_wp2_with fail
  refine (aToken_is HMM.out HT1).mono ?_; rintro e w3 ⟨rfl, rfl⟩
  obtain ⟨⟨r0, r1, r2⟩, ⟨f0, f1, f2⟩⟩ := C2.out
  go_wp2
  (try simp only [Exit.inBlock, Exit.then])
  refine bodyPost_ret (v := .tuple #[.agg #[.string ⟨#[]⟩, .string ⟨#[]⟩, .slice none 0 0], .bool false]) (by rw [results_cell_tmp rfl]; go_simp) rfl ?_
  exact medW_none HR (below3 B2.out (Nat.le_refl _) _ _ _)
theorem mRange_2 (s x m n : ByteArray) (K : List F) (q : Bool) (w : World) (hs : s.size ≤ 65000) (H : Box (parA s.data.toList = x ∧ parB s.data.toList = K ∧ parO s.data.toList = true)) (HXM : Box (x.size ≤ maxLen)) (HMM : Box (m.size ≤ maxLen)) (HNM : Box (n.size ≤ maxLen)) (HV : Box (cutV 47 x.data.toList = .tuple #[.string m, .string n, .bool q])) (HT1 : Box (tokL m.data.toList = true)) (HT2 : Box (tokL n.data.toList = false)) (HR : Box (rangeL s.data.toList = none)) :
    Calls Try.prog 83 #[.string s] w fun e w' => medW w w' (rangeL s.data.toList) e := by
  go_enter Try.func83, Try.ntmps83
  go_wp2_with fail
  refine (mParO_is hs H).mono ?_; rintro e w1 ⟨a1, cap1, rfl, hO1, hb1⟩
  have O1 := box hO1
  have C1 := box ((C3.new (.string ⟨#[]⟩) (.string ⟨#[]⟩) (.slice none 0 0) w 104).next hb1)
  have B1 := box ((below_new w _).trans (hb1.mono (below_new w _).size))
  clear hO1 hb1
  go_wp2_with fail
  refine (Cut_any x 47 _ HXM.out).mono ?_; rintro e w2 ⟨rfl, hb2⟩; rw [HV.out]
  have O2 := box (own_below O1.out hb2)
  have C2 := box (C1.out.next hb2)
  have B2 := box (B1.out.trans (hb2.mono B1.out.size))
  clear hb2 O1 C1 B1
  go_wp2_with fail
  refine (aToken_is HMM.out HT1).mono ?_; rintro e w3 ⟨rfl, rfl⟩
  go_wp2_with fail
  refine (aToken_is HNM.out HT2).mono ?_; rintro e w3 ⟨rfl, rfl⟩
  obtain ⟨⟨r0, r1, r2⟩, ⟨f0, f1, f2⟩⟩ := C2.out
  go_wp2
  (try simp only [Exit.inBlock, Exit.then])
  refine bodyPost_ret (v := .tuple #[.agg #[.string ⟨#[]⟩, .string ⟨#[]⟩, .slice none 0 0], .bool false]) (by rw [results_cell_tmp rfl]; go_simp) rfl ?_
  exact medW_none HR (below3 B2.out (Nat.le_refl _) _ _ _)
theorem mRange_3 (s x m n : ByteArray) (K : List F) (q : Bool) (w : World) (hs : s.size ≤ 65000) (H : Box (parA s.data.toList = x ∧ parB s.data.toList = K ∧ parO s.data.toList = true)) (HXM : Box (x.size ≤ maxLen)) (HMM : Box (m.size ≤ maxLen)) (HNM : Box (n.size ≤ maxLen)) (HV : Box (cutV 47 x.data.toList = .tuple #[.string m, .string n, .bool q])) (HT1 : Box (tokL m.data.toList = true)) (HT2 : Box (tokL n.data.toList = true)) (q1 : (m.toList == [42]) = true) (q2 : (n.toList == [42]) = false) (HR : Box (rangeL s.data.toList = none)) :
    Calls Try.prog 83 #[.string s] w fun e w' => medW w w' (rangeL s.data.toList) e := by
  have q3 : (n.toList != [42]) = true := by unfold bne; rw [q2]; rfl
  go_enter Try.func83, Try.ntmps83
  go_wp2_with fail
  refine (mParO_is hs H).mono ?_; rintro e w1 ⟨a1, cap1, rfl, hO1, hb1⟩
  have O1 := box hO1
  have C1 := box ((C3.new (.string ⟨#[]⟩) (.string ⟨#[]⟩) (.slice none 0 0) w 104).next hb1)
  have B1 := box ((below_new w _).trans (hb1.mono (below_new w _).size))
  clear hO1 hb1
  go_wp2_with fail
  refine (Cut_any x 47 _ HXM.out).mono ?_; rintro e w2 ⟨rfl, hb2⟩; rw [HV.out]
  have O2 := box (own_below O1.out hb2)
  have C2 := box (C1.out.next hb2)
  have B2 := box (B1.out.trans (hb2.mono B1.out.size))
  clear hb2 O1 C1 B1
  go_wp2_with fail
  refine (aToken_is HMM.out HT1).mono ?_; rintro e w3 ⟨rfl, rfl⟩
  go_wp2_with fail
  refine (aToken_is HNM.out HT2).mono ?_; rintro e w3 ⟨rfl, rfl⟩
  obtain ⟨⟨r0, r1, r2⟩, ⟨f0, f1, f2⟩⟩ := C2.out
  go_wp2
  (try simp only [Exit.inBlock, Exit.then])
  refine bodyPost_ret (v := .tuple #[.agg #[.string ⟨#[]⟩, .string ⟨#[]⟩, .slice none 0 0], .bool false]) (by rw [results_cell_tmp rfl]; go_simp) rfl ?_
  exact medW_none HR (below3 B2.out (Nat.le_refl _) _ _ _)
theorem mRange_4 (s x m n : ByteArray) (K : List F) (q : Bool) (w : World) (hs : s.size ≤ 65000) (H : Box (parA s.data.toList = x ∧ parB s.data.toList = K ∧ parO s.data.toList = true)) (HXM : Box (x.size ≤ maxLen)) (HMM : Box (m.size ≤ maxLen)) (HNM : Box (n.size ≤ maxLen)) (HV : Box (cutV 47 x.data.toList = .tuple #[.string m, .string n, .bool q])) (HT1 : Box (tokL m.data.toList = true)) (HT2 : Box (tokL n.data.toList = true)) (b1 b2 : Bool) (q1 : (m.toList == [42]) = b1) (q2 : (n.toList == [42]) = b2) (hb : b1 = false ∨ b2 = true) (hm4 : m.size ≤ 4294967296) (hn4 : n.size ≤ 4294967296)
    (nm sb : ByteArray) (HL1 : Box (bs (lowL m.data.toList) = nm)) (HL2 : Box (bs (lowL n.data.toList) = sb)) (HR : Box (rangeL s.data.toList = some (nm, sb, K))) :
    Calls Try.prog 83 #[.string s] w fun e w' => medW w w' (rangeL s.data.toList) e := by
  have q3 : (n.toList != [42]) = !b2 := by unfold bne; rw [q2]
  rcases b1 with _ | _ <;> rcases b2 with _ | _
  all_goals first | (exfalso; simp at hb; done) | skip
  all_goals
    go_enter Try.func83, Try.ntmps83
    go_wp2_with fail
    refine (mParO_is hs H).mono ?_; rintro e w1 ⟨a1, cap1, rfl, hO1, hb1⟩
    have O1 := box hO1
    have C1 := box ((C3.new (.string ⟨#[]⟩) (.string ⟨#[]⟩) (.slice none 0 0) w 104).next hb1)
    have B1 := box ((below_new w _).trans (hb1.mono (below_new w _).size))
    clear hO1 hb1
    go_wp2_with fail
    refine (Cut_any x 47 _ HXM.out).mono ?_; rintro e w2 ⟨rfl, hb2⟩; rw [HV.out]
    have O2 := box (own_below O1.out hb2)
    have C2 := box (C1.out.next hb2)
    have B2 := box (B1.out.trans (hb2.mono B1.out.size))
    clear hb2 O1 C1 B1
    go_wp2_with fail
    refine (aToken_is HMM.out HT1).mono ?_; rintro e w3 ⟨rfl, rfl⟩
    go_wp2_with fail
    refine (aToken_is HNM.out HT2).mono ?_; rintro e w3 ⟨rfl, rfl⟩
    go_wp2_with fail
    refine (aLower_is hm4 HL1).mono ?_; rintro e w4 ⟨rfl, hb4⟩
    go_wp2_with fail
    refine (aLower_is hn4 HL2).mono ?_; rintro e w5 ⟨rfl, hb5⟩
    have hb6 := hb4.trans (hb5.mono hb4.size)
    have O6 := own_below O2.out hb6
    have B6 := B2.out.trans (hb6.mono B2.out.size)
    obtain ⟨⟨r0, r1, r2⟩, ⟨f0, f1, f2⟩⟩ := C2.out.next hb6
    clear hb4 hb5 hb6
    go_wp2
    (try simp only [Exit.inBlock, Exit.then])
    refine bodyPost_ret (v := .tuple #[.agg #[.string nm, .string sb, .slice a1 K.length cap1], .bool true]) (by rw [results_cell_tmp rfl]; go_simp) rfl ?_
    exact medW_some HR (own_le (own_only O6 (only3 _ _ _ _ _) (by simp)) (by simp)) (below3 B6 (Nat.le_refl _) _ _ _)
theorem mRange_any (s : ByteArray) (w : World) (hs : s.size ≤ 65000) :
    Calls Try.prog 83 #[.string s] w fun e w' => medW w w' (rangeL s.data.toList) e := by
  obtain ⟨x, hx⟩ : ∃ x, parA s.data.toList = x := ⟨_, rfl⟩
  obtain ⟨K, hK⟩ : ∃ K, parB s.data.toList = K := ⟨_, rfl⟩
  have hxz : x.size ≤ 65000 := by rw [← hx]; exact Nat.le_trans (parA_size s) hs
  rcases hb : parO s.data.toList with _ | _
  · exact mRange_0 s x K w hs (box ⟨hx, hK, hb⟩) (box (range_par hb))
  · obtain ⟨m, hm⟩ : ∃ m, bs (cut1 47 x.data.toList) = m := ⟨_, rfl⟩
    obtain ⟨n, hn⟩ : ∃ n, bs (cut2 47 x.data.toList) = n := ⟨_, rfl⟩
    have HV : Box (cutV 47 x.data.toList = .tuple #[.string m, .string n, .bool (cutB 47 x.data.toList)]) := box (by unfold cutV; rw [hm, hn])
    have hxl : x.data.toList.length = x.size := by simp
    have hmz : m.size ≤ 65000 := by
      rw [← hm, bs_size]
      have : (cut1 47 x.data.toList).length ≤ x.data.toList.length := by unfold cut1; exact (List.takeWhile_sublist _).length_le
      omega
    have hnz : n.size ≤ 65000 := by
      rw [← hn, bs_size]
      have : (cut2 47 x.data.toList).length ≤ x.data.toList.length := by
        unfold cut2; rw [List.length_drop]; have := (List.dropWhile_sublist (· != (47 : UInt8)) (l := x.data.toList)).length_le; omega
      omega
    have hm1 : m.data.toList = cut1 47 x.data.toList := by rw [← hm]; rfl
    have hn1 : n.data.toList = cut2 47 x.data.toList := by rw [← hn]; rfl
    have hr := range_type hb hx
    rw [type_as, ← hm1, ← hn1, hK] at hr
    have H := box (And.intro hx (And.intro hK hb))
    have m1 : Box (x.size ≤ maxLen) := box (by unfold maxLen; omega)
    have m2 : Box (m.size ≤ maxLen) := box (by unfold maxLen; omega)
    have m3 : Box (n.size ≤ maxLen) := box (by unfold maxLen; omega)
    rcases h1 : tokL m.data.toList with _ | _
    · rw [if_pos (.inl h1)] at hr
      exact mRange_1 s x m n K _ w hs H m1 m2 m3 HV (box h1) (box hr)
    · rcases h2 : tokL n.data.toList with _ | _
      · rw [if_pos (.inr h2)] at hr
        exact mRange_2 s x m n K _ w hs H m1 m2 m3 HV (box h1) (box h2) (box hr)
      · rw [if_neg (by rw [h1, h2]; simp)] at hr
        rcases q1 : (m.toList == [42]) with _ | _
        · rw [if_neg (fun h => by have := (star_is q1).1 h.1; cases this)] at hr
          exact mRange_4 s x m n K _ w hs H m1 m2 m3 HV (box h1) (box h2) _ _ q1 rfl (.inl rfl) (by omega) (by omega) _ _ (box rfl) (box rfl) (box hr)
        · rcases q2 : (n.toList == [42]) with _ | _
          · rw [if_pos ⟨(star_is q1).2 rfl, fun h => by have := (star_is q2).1 h; cases this⟩] at hr
            exact mRange_3 s x m n K _ w hs H m1 m2 m3 HV (box h1) (box h2) q1 q2 (box hr)
          · rw [if_neg (fun h => h.2 ((star_is q2).2 rfl))] at hr
            exact mRange_4 s x m n K _ w hs H m1 m2 m3 HV (box h1) (box h2) _ _ q1 q2 (.inr rfl) (by omega) (by omega) _ _ (box rfl) (box rfl) (box hr)
theorem mRange_is {s : ByteArray} {a b : ByteArray} {L : List F} {q : Bool} {w : World} (hs : s.size ≤ 65000) (h : Box (ofM (rangeL s.data.toList) = (a, b, L) ∧ (rangeL s.data.toList).isSome = q)) :
    Calls Try.prog 83 #[.string s] w fun e w' => ∃ p cap, e = .returned (.tuple #[.agg #[.string a, .string b, .slice p L.length cap], .bool q]) ∧ OwnP w' w.heap.size (.slice p L.length cap) L ∧ Below w.heap.size w w' :=
  (mRange_any s w hs).mono fun e w' ⟨v, h1, h2, h3⟩ => by
    rw [h.out.1] at h1 h2
    rw [h.out.2] at h1
    obtain ⟨p, cap, rfl, _, _⟩ := h2.fs
    exact ⟨p, cap, h1, h2, h3⟩
/-- a range with a star for its type has one for its subtype -/
theorem range_stars {l : List UInt8} {a b : ByteArray} {L : List F} (h : rangeL l = some (a, b, L)) (ha : a = star) : b = star := by
  unfold rangeL at h
  split at h
  · cases h
  · rename_i v K _
    rw [type_as] at h
    split at h
    · cases h
    · rename_i x y hxy
      split at hxy
      · cases hxy
      · rename_i ht
        split at hxy
        · cases hxy
        · rename_i hs
          simp only [Option.some.injEq, Prod.mk.injEq] at hxy h
          obtain ⟨rfl, rfl⟩ := hxy
          obtain ⟨rfl, rfl, _⟩ := h
          have t1 : tokL (cut1 47 v) = true := by
            rcases q : tokL (cut1 47 v) with _ | _
            · exact absurd (.inl q) ht
            · rfl
          have e1 : lowL (cut1 47 v) = [42] := bs_inj (b := [42]) ha
          have e2 := (low_star t1).1 e1
          have e3 : cut2 47 v = [42] := by
            rcases Classical.em (cut2 47 v = [42]) with q | q
            · exact q
            · exact absurd ⟨e2, q⟩ hs
          rw [e3]; rfl
theorem media_alt (l : List UInt8) : mediaL l = if (rangeL l).isSome = true then (if (ofM (rangeL l)).2.1 = star then none else some (ofM (rangeL l))) else none := by
  rw [media_cases]
  cases h : rangeL l with
  | none => rfl
  | some x =>
    obtain ⟨a, b, L⟩ := x
    show (if a = star ∨ b = star then none else some (a, b, L)) = (if b = star then none else some (a, b, L))
    by_cases hb : b = star
    · rw [if_pos (.inr hb), if_pos hb]
    · rw [if_neg (fun q => q.elim (fun ha => hb (range_stars h ha)) hb), if_neg hb]
set_option maxHeartbeats 1000000 in
theorem mMedia_any (s : ByteArray) (w : World) (hs : s.size ≤ 65000) :
    Calls Try.prog 81 #[.string s] w fun e w' => medW w w' (mediaL s.data.toList) e := by
  obtain ⟨⟨a, b, L⟩, hM⟩ : ∃ m, ofM (rangeL s.data.toList) = m := ⟨_, rfl⟩
  obtain ⟨q, hq⟩ : ∃ q, (rangeL s.data.toList).isSome = q := ⟨_, rfl⟩
  have H := box (And.intro hM hq)
  have HC := media_alt s.data.toList
  rw [hM, hq] at HC
  clear hM hq
  rcases q with _ | _
  · have HR : Box (mediaL s.data.toList = none) := box (by rw [HC]; rfl)
    clear HC
    go_enter Try.func81, Try.ntmps81
    go_wp2_with fail
    refine (mRange_is hs H).mono ?_; rintro e w1 ⟨p, cap, rfl, hO1, hb1⟩
    have C1 := box (((C3.new (.string ⟨#[]⟩) (.string ⟨#[]⟩) (.slice none 0 0) w 104).next hb1).next (below_new w1 (.cells #[.string a, .string b, .slice p L.length cap] 104)))
    have B1 := box (((below_new w _).trans (hb1.mono (below_new w _).size)).alloc ((below_new w _).trans (hb1.mono (below_new w _).size)).size (.cells #[.string a, .string b, .slice p L.length cap] 104))
    have O1 := box (own_below hO1 (below_new w1 (.cells #[.string a, .string b, .slice p L.length cap] 104)))
    clear hO1 hb1
    obtain ⟨⟨r0, r1, r2⟩, ⟨f0, f1, f2⟩⟩ := C1.out
    go_wp2
    (try simp only [Exit.inBlock, Exit.then])
    refine bodyPost_ret (v := .tuple #[.agg #[.string ⟨#[]⟩, .string ⟨#[]⟩, .slice none 0 0], .bool false]) (by rw [results_cell_tmp rfl]; go_simp) rfl ?_
    exact medW_none HR (below3 B1.out (Nat.le_refl _) _ _ _)
  · rcases h2 : (b.toList == [42]) with _ | _
    · have HR : Box (mediaL s.data.toList = some (a, b, L)) := box (by
        rw [HC, if_pos rfl, if_neg (by intro e; have := (star_eq h2).mp e; simp at this)])
      clear HC
      go_enter Try.func81, Try.ntmps81
      go_wp2_with fail
      refine (mRange_is hs H).mono ?_; rintro e w1 ⟨p, cap, rfl, hO1, hb1⟩
      have C1 := box (((C3.new (.string ⟨#[]⟩) (.string ⟨#[]⟩) (.slice none 0 0) w 104).next hb1).next (below_new w1 (.cells #[.string a, .string b, .slice p L.length cap] 104)))
      have B1 := box (((below_new w _).trans (hb1.mono (below_new w _).size)).alloc ((below_new w _).trans (hb1.mono (below_new w _).size)).size (.cells #[.string a, .string b, .slice p L.length cap] 104))
      have O1 := box (own_below hO1 (below_new w1 (.cells #[.string a, .string b, .slice p L.length cap] 104)))
      clear hO1 hb1
      obtain ⟨⟨r0, r1, r2⟩, ⟨f0, f1, f2⟩⟩ := C1.out
      go_wp2
      (try simp only [Exit.inBlock, Exit.then])
      refine bodyPost_ret (v := .tuple #[.agg #[.string a, .string b, .slice p L.length cap], .bool true]) (by rw [results_cell_tmp rfl]; go_simp) rfl ?_
      exact medW_some HR (own_le (own_only O1.out (only3 _ _ _ _ _) (by simp)) (by simp)) (below3 B1.out (Nat.le_refl _) _ _ _)
    · have HR : Box (mediaL s.data.toList = none) := box (by rw [HC, if_pos rfl, if_pos ((star_eq h2).mpr rfl)])
      clear HC
      go_enter Try.func81, Try.ntmps81
      go_wp2_with fail
      refine (mRange_is hs H).mono ?_; rintro e w1 ⟨p, cap, rfl, hO1, hb1⟩
      have C1 := box (((C3.new (.string ⟨#[]⟩) (.string ⟨#[]⟩) (.slice none 0 0) w 104).next hb1).next (below_new w1 (.cells #[.string a, .string b, .slice p L.length cap] 104)))
      have B1 := box (((below_new w _).trans (hb1.mono (below_new w _).size)).alloc ((below_new w _).trans (hb1.mono (below_new w _).size)).size (.cells #[.string a, .string b, .slice p L.length cap] 104))
      have O1 := box (own_below hO1 (below_new w1 (.cells #[.string a, .string b, .slice p L.length cap] 104)))
      clear hO1 hb1
      obtain ⟨⟨r0, r1, r2⟩, ⟨f0, f1, f2⟩⟩ := C1.out
      go_wp2
      (try simp only [Exit.inBlock, Exit.then])
      refine bodyPost_ret (v := .tuple #[.agg #[.string ⟨#[]⟩, .string ⟨#[]⟩, .slice none 0 0], .bool false]) (by rw [results_cell_tmp rfl]; go_simp) rfl ?_
      exact medW_none HR (below3 B1.out (Nat.le_refl _) _ _ _)
end
section
open Go.RowKit
theorem mLetter_any (b : Int) (w : World) (h0 : 0 ≤ b) (h1 : b ≤ 255) :
    Calls Try.prog 99 #[.int .u8 b] w fun e w' => e = .returned (.bool (lettI b)) ∧ w = w' := by
  go_enter Try.func99, Try.ntmps99
  go_wp2
  all_goals (go_ret; exact ⟨ret_bool (by rw [Bool.eq_iff_iff]; simp [lettI]; omega), rfl⟩)
theorem mLetterC (c : UInt8) (w : World) :
    Calls Try.prog 99 #[.int .u8 (c.toNat : Int)] w fun e w' => e = .returned (.bool (chOk true c)) ∧ w = w' :=
  (mLetter_any _ w (c_bd c).1 (c_bd c).2).mono fun e w' ⟨h1, h2⟩ => ⟨by rw [h1]; unfold chOk; rw [Bool.not_true, Bool.false_and, Bool.or_false], h2⟩
theorem mLetter_is {c : UInt8} {q : Bool} {w : World} (h : Box (lettI (c.toNat : Int) = q)) :
    Calls Try.prog 99 #[.int .u8 (c.toNat : Int)] w fun e w' => e = .returned (.bool q) ∧ w = w' :=
  (mLetter_any _ w (c_bd c).1 (c_bd c).2).mono fun e w' ⟨h1, h2⟩ => ⟨by rw [h1, h.out], h2⟩
theorem mLetDigC (c : UInt8) (w : World) :
    Calls Try.prog 100 #[.int .u8 (c.toNat : Int)] w fun e w' => e = .returned (.bool (chOk false c)) ∧ w = w' := by
  have hb := c_bd c
  have HD : Box (∀ b : Int, digitI b = decide (48 ≤ b ∧ b ≤ 57)) := box (fun _ => rfl)
  cases hl : lettI (c.toNat : Int) with
  | true =>
    have HL := box hl
    have HV : Box (chOk false c = true) := box (by unfold chOk; rw [hl]; rfl)
    clear hl
    go_enter Try.func100, Try.ntmps100
    go_wp2_with fail
    refine (mLetter_is HL).mono ?_; rintro e w1 ⟨rfl, rfl⟩
    go_wp2
    go_ret
    exact ⟨ret_bool HV.out.symm, rfl⟩
  | false =>
    have HL := box hl
    have HV : Box (chOk false c = digitI (c.toNat : Int)) := box (by unfold chOk; rw [hl]; rfl)
    clear hl
    go_enter Try.func100, Try.ntmps100
    go_wp2_with fail
    refine (mLetter_is HL).mono ?_; rintro e w1 ⟨rfl, rfl⟩
    go_wp2
    all_goals (go_ret; exact ⟨ret_bool (by rw [HV.out, HD.out, Bool.eq_iff_iff]; simp; omega), rfl⟩)
theorem mIsSub_true (s : ByteArray) (w : World) (hs : s.size ≤ 65000) :
    Calls Try.prog 98 #[.string s, .func (.func 99) #[] #[]] w fun e w' => e = .returned (.bool (subOk true s.data.toList)) ∧ w = w' := by
  have hz : s.data.toList.length = s.size := by simp
  have HE : Box (s.toList = s.data.toList) := box (toList_data s)
  by_cases h0 : s.size = 0
  · have hse : (s.toList.isEmpty) = true := by rw [HE.out]; cases hl : s.data.toList with
      | nil => rfl
      | cons a b => rw [hl] at hz; simp at hz; omega
    have hse2 : s.toList = [] := by rw [List.isEmpty_iff] at hse; exact hse
    have HV : Box (subOk true s.data.toList = false) := box (sub_size (.inl (by omega)))
    clear hz
    go_enter Try.func98, Try.ntmps98
    go_wp2
    go_ret
    exact ⟨ret_bool HV.out.symm, rfl⟩
  · have hse : (s.toList.isEmpty) = false := by rw [HE.out]; cases hl : s.data.toList with
      | nil => rw [hl] at hz; simp at hz; omega
      | cons a b => rfl
    have hse2 : ¬ s.toList = [] := by rw [List.isEmpty_eq_false_iff] at hse; exact hse
    by_cases h8 : 8 < s.size
    · have HV : Box (subOk true s.data.toList = false) := box (sub_size (.inr (by omega)))
      have h8i : (8 : Int) < (s.size : Int) := by omega
      clear hz
      go_enter Try.func98, Try.ntmps98
      go_wp2
      go_ret
      exact ⟨ret_bool HV.out.symm, rfl⟩
    · have HV : Box (subOk true s.data.toList = s.data.toList.all (chOk true)) := box (sub_chars (by omega) (by omega))
      have h8i : ¬ (8 : Int) < (s.size : Int) := by omega
      clear hz
      go_enter Try.func98, Try.ntmps98
      go_wp2
      go_loop [5, 15] (fun _ m => TagI s true m) (fun _ m => s.size - (intOf m).toNat)
      case atStart => exact ⟨0, rfl, Nat.zero_le _, rfl⟩
      case round =>
        obtain ⟨m, rfl, hm, hc⟩ := hrel
        have HM := box hc
        clear hc
        by_cases hml : m < s.size
        · have hmi : (m : Int) < (s.size : Int) := by omega
          obtain ⟨c, hcq⟩ : ∃ c, s[m] = c := ⟨_, rfl⟩
          cases hk : chOk true c with
          | true =>
            have HN := box (allC_more HM.out hml (by rw [hcq, hk]))
            have HK := box hk
            clear hk
            go_wp2_with fail
            refine (mLetterC _ _).mono ?_; rintro e w1 ⟨rfl, rfl⟩
            rw [HK.out]
            go_wp2
            go_round
            case rel => exact ⟨m + 1, by go_num, hml, HN.out⟩
            case measure => simp [intOf]; omega
          | false =>
            have HN : Box (subOk true s.data.toList = false) := box (by rw [HV.out]; exact allC_not hml (by rw [hcq, hk]))
            have HK := box hk
            clear hk
            go_wp2_with fail
            refine (mLetterC _ _).mono ?_; rintro e w1 ⟨rfl, rfl⟩
            rw [HK.out]
            go_wp2
            go_ret
            exact ⟨ret_bool HN.out.symm, rfl⟩
        · have hmi : ¬ (m : Int) < (s.size : Int) := by omega
          have HN : Box (subOk true s.data.toList = true) := box (by
            have h := HM.out
            rw [List.take_of_length_le (by simp; omega)] at h
            rw [HV.out, h])
          go_wp2
          go_ret
          exact ⟨ret_bool HN.out.symm, rfl⟩
theorem mIsSub_false (s : ByteArray) (w : World) (hs : s.size ≤ 65000) :
    Calls Try.prog 98 #[.string s, .func (.func 100) #[] #[]] w fun e w' => e = .returned (.bool (subOk false s.data.toList)) ∧ w = w' := by
  have hz : s.data.toList.length = s.size := by simp
  have HE : Box (s.toList = s.data.toList) := box (toList_data s)
  by_cases h0 : s.size = 0
  · have hse : (s.toList.isEmpty) = true := by rw [HE.out]; cases hl : s.data.toList with
      | nil => rfl
      | cons a b => rw [hl] at hz; simp at hz; omega
    have hse2 : s.toList = [] := by rw [List.isEmpty_iff] at hse; exact hse
    have HV : Box (subOk false s.data.toList = false) := box (sub_size (.inl (by omega)))
    clear hz
    go_enter Try.func98, Try.ntmps98
    go_wp2
    go_ret
    exact ⟨ret_bool HV.out.symm, rfl⟩
  · have hse : (s.toList.isEmpty) = false := by rw [HE.out]; cases hl : s.data.toList with
      | nil => rw [hl] at hz; simp at hz; omega
      | cons a b => rfl
    have hse2 : ¬ s.toList = [] := by rw [List.isEmpty_eq_false_iff] at hse; exact hse
    by_cases h8 : 8 < s.size
    · have HV : Box (subOk false s.data.toList = false) := box (sub_size (.inr (by omega)))
      have h8i : (8 : Int) < (s.size : Int) := by omega
      clear hz
      go_enter Try.func98, Try.ntmps98
      go_wp2
      go_ret
      exact ⟨ret_bool HV.out.symm, rfl⟩
    · have HV : Box (subOk false s.data.toList = s.data.toList.all (chOk false)) := box (sub_chars (by omega) (by omega))
      have h8i : ¬ (8 : Int) < (s.size : Int) := by omega
      clear hz
      go_enter Try.func98, Try.ntmps98
      go_wp2
      go_loop [5, 15] (fun _ m => TagI s false m) (fun _ m => s.size - (intOf m).toNat)
      case atStart => exact ⟨0, rfl, Nat.zero_le _, rfl⟩
      case round =>
        obtain ⟨m, rfl, hm, hc⟩ := hrel
        have HM := box hc
        clear hc
        by_cases hml : m < s.size
        · have hmi : (m : Int) < (s.size : Int) := by omega
          obtain ⟨c, hcq⟩ : ∃ c, s[m] = c := ⟨_, rfl⟩
          cases hk : chOk false c with
          | true =>
            have HN := box (allC_more HM.out hml (by rw [hcq, hk]))
            have HK := box hk
            clear hk
            go_wp2_with fail
            refine (mLetDigC _ _).mono ?_; rintro e w1 ⟨rfl, rfl⟩
            rw [HK.out]
            go_wp2
            go_round
            case rel => exact ⟨m + 1, by go_num, hml, HN.out⟩
            case measure => simp [intOf]; omega
          | false =>
            have HN : Box (subOk false s.data.toList = false) := box (by rw [HV.out]; exact allC_not hml (by rw [hcq, hk]))
            have HK := box hk
            clear hk
            go_wp2_with fail
            refine (mLetDigC _ _).mono ?_; rintro e w1 ⟨rfl, rfl⟩
            rw [HK.out]
            go_wp2
            go_ret
            exact ⟨ret_bool HN.out.symm, rfl⟩
        · have hmi : ¬ (m : Int) < (s.size : Int) := by omega
          have HN : Box (subOk false s.data.toList = true) := box (by
            have h := HM.out
            rw [List.take_of_length_le (by simp; omega)] at h
            rw [HV.out, h])
          go_wp2
          go_ret
          exact ⟨ret_bool HN.out.symm, rfl⟩
theorem mIsSub1_is {s : ByteArray} {q : Bool} {w : World} (hs : s.size ≤ 65000) (h : Box (subOk true s.data.toList = q)) :
    Calls Try.prog 98 #[.string s, .func (.func 99) #[] #[]] w fun e w' => e = .returned (.bool q) ∧ w = w' :=
  (mIsSub_true s w hs).mono fun e w' ⟨h1, h2⟩ => ⟨by rw [h1, h.out], h2⟩
theorem mIsSub0_is {s : ByteArray} {q : Bool} {w : World} (hs : s.size ≤ 65000) (h : Box (subOk false s.data.toList = q)) :
    Calls Try.prog 98 #[.string s, .func (.func 100) #[] #[]] w fun e w' => e = .returned (.bool q) ∧ w = w' :=
  (mIsSub_false s w hs).mono fun e w' ⟨h1, h2⟩ => ⟨by rw [h1, h.out], h2⟩
/-- what is left to be judged: the pieces of t, if there is a piece at all -/
def moreT (more : Bool) (t : List UInt8) : Bool := !more || (subL t).all (subOk false)
theorem cut_sub (l : List UInt8) : subL l = cut1 45 l :: (if cutB 45 l = true then subL (cut2 45 l) else []) := by
  by_cases h : cutB 45 l = true
  · rw [if_pos h]
    conv => lhs; rw [cut_join h]
    exact sub_at (cut1_not 45 l)
  · rw [if_neg h]
    have h2 : cutB 45 l = false := by cases e : cutB 45 l with
      | true => exact absurd e h
      | false => rfl
    have hn : (45 : UInt8) ∉ l := by simpa [cutB] using h2
    have e : Lib.indexByte l 45 = -1 := by
      by_cases q : Lib.indexByte l 45 = -1
      · exact q
      · exfalso
        obtain ⟨k, hk⟩ : ∃ k : Nat, Lib.indexByte l 45 = k := ⟨(Lib.indexByte l 45).toNat, by have := Lib.indexByte_ge l 45; omega⟩
        have := (cut_at hk).2.2.2
        rw [h2] at this; cases this
    rw [(cut_no e).1, sub_no hn]
theorem tag_cut (l : List UInt8) : tagL l = (subOk true (cut1 45 l) && moreT (cutB 45 l) (cut2 45 l)) := by
  unfold tagL moreT
  rw [cut_sub l]
  show (subOk true (cut1 45 l) && _) = _
  congr 1
  cases cutB 45 l <;> rfl
theorem more_cut (l : List UInt8) : moreT true l = (subOk false (cut1 45 l) && moreT (cutB 45 l) (cut2 45 l)) := by
  unfold moreT
  rw [Bool.not_true, Bool.false_or, cut_sub l, List.all_cons]
  congr 1
  cases cutB 45 l <;> rfl
theorem cut_small45 (l : List UInt8) : (cut1 45 l).length ≤ l.length ∧ (cut2 45 l).length ≤ l.length ∧ (cutB 45 l = true → (cut2 45 l).length < l.length) := by
  refine ⟨(List.takeWhile_prefix _).length_le, ?_, ?_⟩
  · unfold cut2; have := (List.dropWhile_suffix (l := l) (fun x => x != (45 : UInt8))).length_le; simp; omega
  · intro h; have := congrArg List.length (cut_join h); rw [List.length_append, List.length_cons] at this; omega
/-- the loop over the pieces: rest and more -/
def MtR (m : Bool) (n : Nat) (W : World) (t b : Value) (wr : World) : Prop :=
  ∃ (r : ByteArray) (q : Bool), t = .string r ∧ b = .bool q ∧ r.size ≤ n ∧ moreT q r.data.toList = m ∧ Below W.heap.size W wr
def boolV : Value → Bool
  | .bool b => b
  | _ => false
set_option maxHeartbeats 1000000 in
theorem mTag_any (s : ByteArray) (w : World) (hs : s.size ≤ 65000) :
    Calls Try.prog 97 #[.string s] w fun e w' => e = .returned (.bool (tagL s.data.toList)) ∧ Below w.heap.size w w' := by
  obtain ⟨v, hv⟩ : ∃ v, tagL s.data.toList = v := ⟨_, rfl⟩
  have hT := tag_cut s.data.toList
  have hC := cut_small45 s.data.toList
  have hz : s.data.toList.length = s.size := by simp
  have hsm : s.size ≤ maxLen := by unfold maxLen; omega
  rw [hv] at hT
  have HCV : Box (cutV 45 s.data.toList = .tuple #[.string (bs (cut1 45 s.data.toList)), .string (bs (cut2 45 s.data.toList)), .bool (cutB 45 s.data.toList)]) := box rfl
  obtain ⟨x, hx⟩ : ∃ x, cut1 45 s.data.toList = x := ⟨_, rfl⟩
  obtain ⟨y, hy⟩ : ∃ y, cut2 45 s.data.toList = y := ⟨_, rfl⟩
  obtain ⟨b, hb⟩ : ∃ b, cutB 45 s.data.toList = b := ⟨_, rfl⟩
  rw [hx, hy, hb] at HCV
  rw [hx, hy, hb] at hT
  rw [hx, hy] at hC
  have hxz : (bs x).size ≤ 65000 := by rw [bs_size]; omega
  have hyz : (bs y).size ≤ 65000 := by rw [bs_size]; omega
  have HV : Box (∀ q, subOk true x = q → v = (q && moreT b y)) := box (fun q hq => by rw [← hq, hT])
  have HVV := box hv
  rw [hv]
  clear hx hy hb hv hT hC hz
  go_enter Try.func97, Try.ntmps97
  go_wp2_with fail
  refine (Cut_any s 45 _ hsm).mono ?_; rintro e w1 ⟨rfl, hb1⟩
  rw [HCV.out]
  have B1 := box hb1
  clear hb1
  cases hq : subOk true x with
  | false =>
    have HQ : Box (subOk true (bs x).data.toList = false) := box hq
    have HR : Box (v = false) := box (by rw [HV.out _ hq]; rfl)
    clear hq
    go_wp2_with fail
    refine (mIsSub1_is hxz HQ).mono ?_; rintro e w2 ⟨rfl, rfl⟩
    go_wp2
    go_ret
    exact ⟨ret_bool HR.out.symm, B1.out⟩
  | true =>
    have HQ : Box (subOk true (bs x).data.toList = true) := box hq
    have HR : Box (moreT b (bs y).data.toList = v) := box (by rw [HV.out _ hq]; rfl)
    clear hq
    go_wp2_with fail
    refine (mIsSub1_is hxz HQ).mono ?_; rintro e w2 ⟨rfl, rfl⟩
    go_wp2
    go_loopw [4, 5, 6] (fun t q _ wr => MtR v 65000 w1 t q wr) (fun t q _ _ => (strLen t) + (if boolV q = true then 1 else 0))
    case atStart => exact ⟨bs y, b, rfl, rfl, hyz, HR.out, Below.refl _ _⟩
    case round =>
      obtain ⟨r, q, rfl, rfl, hr, hm, hbel⟩ := hrel
      have BL := box hbel
      have HM := box hm
      clear hm hbel
      cases q with
      | false =>
        have HF : Box (v = true) := box (by rw [← HM.out]; rfl)
        go_wp2
        go_ret
        exact ⟨ret_bool HF.out.symm, B1.out.trans (BL.out.mono B1.out.size)⟩
      | true =>
        have hT := more_cut r.data.toList
        rw [HM.out] at hT
        have hC := cut_small45 r.data.toList
        have hz : r.data.toList.length = r.size := by simp
        have hrm : r.size ≤ maxLen := by unfold maxLen; omega
        have HCV : Box (cutV 45 r.data.toList = .tuple #[.string (bs (cut1 45 r.data.toList)), .string (bs (cut2 45 r.data.toList)), .bool (cutB 45 r.data.toList)]) := box rfl
        obtain ⟨x', hx⟩ : ∃ x', cut1 45 r.data.toList = x' := ⟨_, rfl⟩
        obtain ⟨y', hy⟩ : ∃ y', cut2 45 r.data.toList = y' := ⟨_, rfl⟩
        obtain ⟨b', hb⟩ : ∃ b', cutB 45 r.data.toList = b' := ⟨_, rfl⟩
        rw [hx, hy, hb] at HCV
        rw [hx, hy, hb] at hT
        rw [hx, hy, hb] at hC
        have hxz' : (bs x').size ≤ 65000 := by rw [bs_size]; omega
        have hyz' : (bs y').size ≤ 65000 := by rw [bs_size]; omega
        have HY : Box ((bs y').size + (if b' = true then 1 else 0) < r.size + 1) := box (by
          rw [bs_size]
          cases b' with
          | true => have := hC.2.2 rfl; simp; omega
          | false => simp; omega)
        have HV2 : Box (∀ q, subOk false x' = q → v = (q && moreT b' y')) := box (fun q hq => by rw [← hq, hT])
        clear hx hy hb hT hC hz
        go_wp2_with fail
        refine (Cut_any r 45 _ hrm).mono ?_; rintro e w3 ⟨rfl, hb3⟩
        rw [HCV.out]
        have B3 := box (BL.out.trans (hb3.mono BL.out.size))
        clear hb3
        cases hq : subOk false x' with
        | false =>
          have HQ : Box (subOk false (bs x').data.toList = false) := box hq
          have HR : Box (v = false) := box (by rw [HV2.out _ hq]; rfl)
          clear hq
          go_wp2_with fail
          refine (mIsSub0_is hxz' HQ).mono ?_; rintro e w2 ⟨rfl, rfl⟩
          go_wp2
          go_ret
          exact ⟨ret_bool HR.out.symm, B1.out.trans (B3.out.mono B1.out.size)⟩
        | true =>
          have HQ : Box (subOk false (bs x').data.toList = true) := box hq
          have HR : Box (moreT b' (bs y').data.toList = v) := box (by rw [HV2.out _ hq]; rfl)
          clear hq
          go_wp2_with fail
          refine (mIsSub0_is hxz' HQ).mono ?_; rintro e w2 ⟨rfl, rfl⟩
          go_wp2
          go_roundw
          case rel => exact ⟨bs y', b', rfl, rfl, hyz', HR.out, B3.out⟩
          case measure => exact HY.out
theorem mTagM_is {s : ByteArray} {b : Bool} {w : World} (hs : s.size ≤ 65000) (h : Box (tagL s.data.toList = b)) :
    Calls Try.prog 97 #[.string s] w fun e w' => e = .returned (.bool b) ∧ Below w.heap.size w w' :=
  (mTag_any s w hs).mono fun e w' ⟨h1, h2⟩ => ⟨by rw [h1, h.out], h2⟩
end
section
open Go.RowKit
theorem mLow12_is {s x : ByteArray} {w : World} (hs : s.size ≤ 4294967296) (h : Box (bs (lowL s.data.toList) = x)) :
    Calls Try.prog 49 #[.string s] w fun e w' => e = .returned (.string x) ∧ Below w.heap.size w w' :=
  (Lower_any s w hs).mono fun e w' ⟨h1, h2⟩ => ⟨by rw [h1, ← h.out]; rfl, h2⟩
theorem mCan_any (k : Int) (s : ByteArray) (w : World) (hk : InI64 k) (hs : s.size ≤ 65536) :
    Calls Try.prog 102 #[.int .i64 k, .string s] w fun e w' => e = .returned (.string (bs (canL k s.data.toList))) ∧ Below w.heap.size w w' := by
  have hs4 : s.size ≤ 4294967296 := by omega
  obtain ⟨l, hl⟩ : ∃ l, lowL s.data.toList = l := ⟨_, rfl⟩
  have HX : Box (bs (lowL s.data.toList) = bs l) := box (by rw [hl])
  by_cases h4 : k = 4
  · subst h4
    by_cases h1 : l = xgzL
    · have HV : Box (canL 4 s.data.toList = gzL) := box (by unfold canL; rw [hl, if_pos ⟨rfl, h1⟩])
      subst h1
      clear hl
      go_enter Try.func102, Try.ntmps102
      go_wp2_with fail
      refine (mLow12_is hs4 HX).mono ?_; rintro e w1 ⟨rfl, hb1⟩; rw [show bs xgzL = ⟨#[120, 45, 103, 122, 105, 112]⟩ from rfl]
      go_wp2
      go_ret
      exact ⟨by rw [HV.out]; rfl, hb1⟩
    · have e1 : ((bs l).toList == [120, 45, 103, 122, 105, 112]) = false := by rw [bs_list]; exact beq_list (decide_eq_false h1)
      by_cases h2 : l = xcoL
      · have HV : Box (canL 4 s.data.toList = coL) := box (by unfold canL; rw [hl, if_neg (fun q => h1 q.2), if_pos ⟨rfl, h2⟩])
        subst h2
        clear hl e1
        go_enter Try.func102, Try.ntmps102
        go_wp2_with fail
        refine (mLow12_is hs4 HX).mono ?_; rintro e w1 ⟨rfl, hb1⟩; rw [show bs xcoL = ⟨#[120, 45, 99, 111, 109, 112, 114, 101, 115, 115]⟩ from rfl]
        go_wp2
        go_ret
        exact ⟨by rw [HV.out]; rfl, hb1⟩
      · have e2 : ((bs l).toList == [120, 45, 99, 111, 109, 112, 114, 101, 115, 115]) = false := by rw [bs_list]; exact beq_list (decide_eq_false h2)
        have HV : Box (canL 4 s.data.toList = l) := box (by unfold canL; rw [hl, if_neg (fun q => h1 q.2), if_neg (fun q => h2 q.2)])
        clear hl h1 h2
        go_enter Try.func102, Try.ntmps102
        go_wp2_with fail
        refine (mLow12_is hs4 HX).mono ?_; rintro e w1 ⟨rfl, hb1⟩
        go_wp2
        go_ret
        exact ⟨by rw [HV.out]; rfl, hb1⟩
  · have e4 : (k != 4) = true := by rw [bne_iff_ne]; exact h4
    have HV : Box (canL k s.data.toList = l) := box (by unfold canL; rw [hl, if_neg (fun q => h4 q.1), if_neg (fun q => h4 q.1)])
    clear hl h4
    go_enter Try.func102, Try.ntmps102
    go_wp2_with fail
    refine (mLow12_is hs4 HX).mono ?_; rintro e w1 ⟨rfl, hb1⟩
    go_wp2
    go_ret
    exact ⟨by rw [HV.out]; rfl, hb1⟩
end
section
open Go.RowKit
/-- what values that are the Same have in common -/
def formF (n x : ByteArray) : ByteArray :=
  if kindN n = 1 ∨ kindN n = 2 then bs (lowL x.data.toList) else if kindN n = 3 ∨ kindN n = 4 then bs (canL (kindN n) x.data.toList) else x
theorem form_same (n x y : ByteArray) : sameV n x y = decide (formF n x = formF n y) := by
  unfold sameV formF
  split
  · unfold foldL
    exact decide_eq_decide.2 ⟨fun h => by rw [h], fun h => bs_inj h⟩
  · split
    · exact decide_eq_decide.2 ⟨fun h => by rw [h], fun h => bs_inj h⟩
    · rfl
theorem form_size {n x : ByteArray} (h : x.size ≤ 65000) : (formF n x).size ≤ 65000 := by
  unfold formF
  have h1 : (lowL x.data.toList).length = x.size := by simp [lowL]
  split
  · rw [bs_size]; omega
  · split
    · rw [bs_size]; have := can_len (kindN n) x.data.toList; have : x.data.toList.length = x.size := by simp
      omega
    · exact h
/-- q and the first j names -/
def inN (L : List F) (j : Nat) : ByteArray → Bool := fun x => decide (x = qName) || (List.range j).any fun i => decide (atP L i = x)
theorem inN_zero (L : List F) (x : ByteArray) : andS noS qName x = inN L 0 x := by unfold andS noS inN; simp
theorem inN_more (L : List F) (j : Nat) (x : ByteArray) : andS (inN L j) (atP L j) x = inN L (j + 1) x := by
  unfold andS inN
  rw [List.range_succ, List.any_append]
  simp only [List.any_cons, List.any_nil, Bool.or_false, Bool.or_assoc]
  congr 2
  exact decide_eq_decide.2 ⟨Eq.symm, Eq.symm⟩
theorem inN_at (L : List F) (j : Nat) : (newP L j j && decide (atP L j ≠ qName)) = !inN L j (atP L j) := by
  unfold newP inN
  rw [Bool.not_or, Bool.and_comm]
  congr 1
  · simp
  · rw [Bool.eq_iff_iff, List.all_eq_true, Bool.not_eq_true', List.any_eq_false]
    constructor
    · intro h i hi; have := h i hi; simp at this; simpa using fun e => this e.symm
    · intro h i hi; have := h i hi; simp at this; simpa using fun e => this e.symm
def DiRel (L : List F) (W : World) (i : Value) (wr : World) : Prop :=
  ∃ j : Nat, i = .int .i64 j ∧ j ≤ L.length ∧ ownP L j = true ∧ Box (SSet wr W.heap.size (j + 1) (inN L j)) ∧ Box (Below W.heap.size W wr)
set_option maxHeartbeats 1000000 in
theorem distinct_any (a : Option Addr) (cap : Nat) (L : List F) (z : Bool) (w : World) (hl : L.length ≤ 65536) (hz : Box (∀ i (hi : i < L.length), L[i].1.size ≤ 65536)) (hF : Box (Fs w a L)) (hv : Box (ownP L L.length = z)) :
    Calls Try.prog 82 #[.slice a L.length cap] w fun e w' => e = .returned (.bool z) ∧ Below w.heap.size w w' := by
  obtain ⟨w2, hP, hS2, hg⟩ := (SSet.made w).put (s := ⟨#[113]⟩) (by decide) (by decide)
  have S2 : Box (SSet w2 w.heap.size 1 (inN L 0)) := box (hS2.same (inN_zero L))
  have B2 := box ((below_new w (.map #[] 0)).grown hg (below_new w _).size (fun k hk => by cases hk; exact Nat.le_refl _))
  clear hS2 hg
  have hmm := makeMap15 w
  go_enter Try.func82, Try.ntmps82
  go_wp2
  go_loopw [10] (fun i wr => DiRel L w i wr) (fun i _ => L.length - (intOf i).toNat)
  case atStart => exact ⟨0, rfl, Nat.zero_le _, rfl, S2, B2⟩
  case round =>
    obtain ⟨j, rfl, hj, ho, hS, hB⟩ := hrel
    have HO := box ho
    clear ho
    by_cases hlt : j < L.length
    · obtain ⟨g, off, rfl, c0, c1⟩ := (hF.out.below hB.out) j hlt
      have hs1 := hz.out j hlt
      have hat := atP_is hlt
      obtain ⟨⟨nm, v⟩, hnm⟩ : ∃ p, L[j] = p := ⟨_, rfl⟩
      rw [hnm] at c0 c1 hs1 hat
      simp only at c0 c1 hs1 hat
      have hno : (newP L j j && decide (atP L j ≠ qName)) = !inN L j nm := by rw [inN_at, hat]
      have hsm : nm.size ≤ maxLen := by unfold maxLen; omega
      have HSM := box hsm
      clear hsm
      have hjm : j + 1 < maxLen := by unfold maxLen; omega
      have HJM := box hjm
      clear hjm
      have hw1 := hS.out.lt
      have BN := box (below_new wr (.cells #[.string nm, .string v] 108))
      have S3 := box (hS.out.below BN.out hw1)
      have B3 := box (hB.out.trans (BN.out.mono (Nat.le_of_lt hw1)))
      obtain ⟨q, hq⟩ : ∃ q, inN L j nm = q := ⟨_, rfl⟩
      rw [hq] at hno
      have HQ := box hq
      have HN := box hno
      clear hq hno
      go_wp2_with fail
      refine (add_any w.heap.size (j + 1) (inN L j) nm q _ HSM.out HJM.out S3 HQ).mono ?_; rintro e w4 ⟨rfl, hS4, hb4⟩
      have S4 : Box (SSet w4 w.heap.size (j + 1 + 1) (inN L (j + 1))) := box (hS4.same (fun x => by rw [← hat]; exact inN_more L j x))
      have B4 := box (B3.out.trans hb4)
      clear hS4 hb4 c0 c1 hat hnm
      cases q with
      | true =>
        have HZ : Box (z = false) := box (by
          rw [← hv.out]
          exact range_no (f := fun i => newP L i i && decide (atP L i ≠ qName)) hlt HN.out)
        go_wp2
        go_ret
        exact ⟨by rw [HZ.out]; rfl, B4.out⟩
      | false =>
        have HO2 : Box (ownP L (j + 1) = true) := box (by rw [ownP_more, HO.out, HN.out]; rfl)
        go_wp2
        go_roundw
        case rel => exact ⟨j + 1, by go_num, by omega, HO2.out, S4, B4⟩
        case measure => simp [intOf]; omega
    · obtain rfl : j = L.length := by omega
      have HZ : Box (z = true) := box (by rw [← hv.out]; exact HO.out)
      go_wp2
      go_ret
      exact ⟨by rw [HZ.out]; rfl, hB.out⟩
theorem mMedia15_is {x a b : ByteArray} {L : List F} {q : Bool} {w : World} (hx : x.size ≤ 65000) (h : Box (ofM (mediaL x.data.toList) = (a, b, L) ∧ (mediaL x.data.toList).isSome = q)) :
    Calls Try.prog 81 #[.string x] w fun e w' => ∃ p c, e = .returned (.tuple #[.agg #[.string a, .string b, .slice p L.length c], .bool q]) ∧ Fs w' p L ∧ Below w.heap.size w w' := by
  refine (mMedia_any x w hx).mono ?_
  rintro e w' ⟨v, rfl, hO, hb⟩
  obtain ⟨h1, h2⟩ := h.out
  rw [h1] at hO ⊢
  obtain ⟨p, c, rfl, hF, _⟩ := hO.fs
  exact ⟨p, c, by rw [h2], hF, hb⟩
theorem mCan15_is {k : Int} {s x : ByteArray} {w : World} (hk : InI64 k) (hs : s.size ≤ 65000) (h : Box (bs (canL k s.data.toList) = x)) :
    Calls Try.prog 102 #[.int .i64 k, .string s] w fun e w' => e = .returned (.string x) ∧ Below w.heap.size w w' :=
  (mCan_any k s w hk (by omega)).mono fun e w' ⟨h1, h2⟩ => ⟨by rw [h1, h.out], h2⟩
theorem aText15_is {s : ByteArray} {b : Bool} {w : World} (hs : s.size ≤ maxLen) (h : Box (textL s.data.toList = b)) :
    Calls Try.prog 56 #[.string s] w fun e w' => e = .returned (.bool b) ∧ w = w' :=
  (Text_any s w hs).mono fun e w' ⟨h1, h2⟩ => ⟨by rw [h1, h.out], h2⟩
theorem mKind15_is {n : ByteArray} {k : Int} {w : World} (hn : n.size ≤ 65000) (h : Box (kindN n = k)) :
    Calls Try.prog 50 #[.string n] w fun e w' => e = .returned (.int .i64 k) ∧ Below w.heap.size w w' :=
  (mKind_any n w (by omega)).mono fun e w' ⟨h1, h2⟩ => ⟨by rw [h1, h.out], h2⟩
/-- a method form: what it returns for the axis n -/
def FormIs (n : ByteArray) (fn : Nat) (r : Value) : Prop := ∀ (x : ByteArray) (w : World), x.size ≤ 65000 →
  Calls Try.prog fn #[r, .string x] w fun e w' => e = .returned (.tuple #[.string (formF n x), .bool (valueV n x)]) ∧ Below w.heap.size w w'
set_option maxHeartbeats 1000000 in
theorem form1_any (n : ByteArray) (hk : kindN n = 1) : FormIs n 80 (.agg #[]) := by
  intro x w hx
  obtain ⟨⟨ta, tb, L⟩, hM⟩ : ∃ m, ofM (mediaL x.data.toList) = m := ⟨_, rfl⟩
  obtain ⟨q, hq⟩ : ∃ q, (mediaL x.data.toList).isSome = q := ⟨_, rfl⟩
  have HM := box (And.intro hM hq)
  obtain ⟨z, hz⟩ : ∃ z, ownP L L.length = z := ⟨_, rfl⟩
  have HV : Box (valueV n x = (q && z)) := box (by unfold valueV; rw [if_pos hk, hM, hq]; exact congrArg _ hz)
  have HF : Box (bs (lowL x.data.toList) = formF n x) := box (by unfold formF; rw [if_pos (.inl hk)])
  obtain ⟨hL6, hsz, _⟩ := media_len hM
  have HSZ : Box (∀ i (hi : i < L.length), L[i].1.size ≤ 65536) := box (fun i hi => by have := (hsz i hi).1; omega)
  have hL7 : L.length ≤ 65536 := by omega
  have HZ := box hz
  have hx4 : x.size ≤ 4294967296 := by omega
  clear hM hq hL6 hsz hz hk
  have B0 := box (below_new w (.cells #[] 76))
  rw [HV.out]
  generalize formF n x = f at HF
  clear HV
  go_enter Try.func80, Try.ntmps80
  go_wp2_with fail
  refine (mMedia15_is hx HM).mono ?_; rintro e w2 ⟨p, c, rfl, hF, hb2⟩
  have B2 := box (B0.out.trans (hb2.mono B0.out.size))
  have F2 := box hF
  have hs2 := B2.out.size
  clear hb2 hF
  have BN := box (below_new w2 (.cells #[.string ta, .string tb, .slice p L.length c] 104))
  have hC := C3.new (.string ta) (.string tb) (.slice p L.length c) w2 104
  have B3 := box (B2.out.trans (BN.out.mono hs2))
  go_wp2_with fail
  refine (aLower_is hx4 HF).mono ?_; rintro e w3 ⟨rfl, hb3⟩
  have B4 := box (B3.out.trans (hb3.mono B3.out.size))
  have F4 := box (F2.out.below (BN.out.trans (hb3.mono BN.out.size)))
  obtain ⟨⟨r0, r1, r2⟩, _⟩ := hC.next hb3
  clear hC hb3
  cases q with
  | false =>
    go_wp2
    go_ret2
    exact ⟨rfl, B4.out⟩
  | true =>
    go_wp2_with fail
    refine (distinct_any p c L z _ hL7 HSZ F4 HZ).mono ?_; rintro e w5 ⟨rfl, hb5⟩
    have B5 := box (B4.out.trans (hb5.mono B4.out.size))
    clear hb5
    go_wp2
    go_ret2
    exact ⟨rfl, B5.out⟩
theorem form2_any (n : ByteArray) (hk : kindN n = 2) : FormIs n 96 (.agg #[]) := by
  intro x w hx
  obtain ⟨q, hq⟩ : ∃ q, tagL x.data.toList = q := ⟨_, rfl⟩
  have HV : Box (valueV n x = q) := box (by unfold valueV; rw [if_neg (by omega), if_pos hk, hq])
  have HF : Box (bs (lowL x.data.toList) = formF n x) := box (by unfold formF; rw [if_pos (.inr hk)])
  have HQ := box hq
  have hx4 : x.size ≤ 4294967296 := by omega
  clear hq hk
  have B0 := box (below_new w (.cells #[] 77))
  rw [HV.out]
  generalize formF n x = f at HF
  clear HV
  go_enter Try.func96, Try.ntmps96
  go_wp2_with fail
  refine (aLower_is hx4 HF).mono ?_; rintro e w3 ⟨rfl, hb3⟩
  have B4 := box (B0.out.trans (hb3.mono B0.out.size))
  clear hb3
  go_wp2_with fail
  refine (mTagM_is hx HQ).mono ?_; rintro e w5 ⟨rfl, hb5⟩
  have B5 := box (B4.out.trans (hb5.mono B4.out.size))
  clear hb5
  go_wp2
  go_ret2
  exact ⟨rfl, B5.out⟩
theorem form3_any (n : ByteArray) (k : Int) (h34 : k = 3 ∨ k = 4) (hk : kindN n = k) : FormIs n 101 (.agg #[.int .i64 k]) := by
  intro x w hx
  obtain ⟨q, hq⟩ : ∃ q, tokL x.data.toList = q := ⟨_, rfl⟩
  obtain ⟨z, hz⟩ : ∃ z, (!(x.toList == [42])) = z := ⟨_, rfl⟩
  have HV : Box (valueV n x = (q && z)) := box (by
    unfold valueV; rw [if_neg (by omega), if_neg (by omega), if_pos (by omega), hq, ← hz, show ([42] : List UInt8) = star.toList from by rw [toList_data]; rfl, ne_toList])
  have HF : Box (bs (canL k x.data.toList) = formF n x) := box (by unfold formF; rw [if_neg (by omega), if_pos (by omega), hk])
  have HQ := box hq
  have hk64 : InI64 k := by constructor <;> omega
  have HX : Box (x.size ≤ maxLen) := box (by unfold maxLen; omega)
  clear hq hk
  have B0 := box (below_new w (.cells #[.int .i64 k] 79))
  rw [HV.out]
  generalize formF n x = f at HF
  clear HV h34
  go_enter Try.func101, Try.ntmps101
  go_wp2_with fail
  refine (mCan15_is hk64 hx HF).mono ?_; rintro e w3 ⟨rfl, hb3⟩
  have B4 := box (B0.out.trans (hb3.mono B0.out.size))
  clear hb3
  go_wp2_with fail
  refine (aToken_is HX.out HQ).mono ?_; rintro e w5 ⟨rfl, rfl⟩
  cases q with
  | false =>
    go_wp2
    go_ret2
    exact ⟨rfl, B4.out⟩
  | true =>
    go_wp2
    go_ret2
    exact ⟨rfl, B4.out⟩
theorem from1_any (m k : Int) (w : World) : Calls Try.prog 17 #[.int .i64 m, .int .i64 k] w fun e w' => e = .returned (.bool (decide (1 ≤ k) && decide (k ≤ m))) ∧ w = w' := by
  by_cases h : 1 ≤ k
  · rw [decide_eq_true h]
    go_enter Try.func17, Try.ntmps17
    go_wp2
    go_ret
    exact ⟨rfl, rfl⟩
  · rw [decide_eq_false h]
    go_enter Try.func17, Try.ntmps17
    go_wp2
    go_ret
    exact ⟨rfl, rfl⟩
theorem from1_is {m k : Int} {q : Bool} {w : World} (h : Box ((decide (1 ≤ k) && decide (k ≤ m)) = q)) : Calls Try.prog 17 #[.int .i64 m, .int .i64 k] w fun e w' => e = .returned (.bool q) ∧ w = w' :=
  (from1_any m k w).mono fun e w' ⟨h1, h2⟩ => ⟨by rw [h1, h.out], h2⟩
set_option maxHeartbeats 1000000 in
theorem form0_any (n : ByteArray) (hk : kindN n = 0) : FormIs n 103 (.agg #[]) := by
  intro x w hx
  obtain ⟨p, hp⟩ : ∃ p, (decide (1 ≤ (x.size : Int)) && decide ((x.size : Int) ≤ 100)) = p := ⟨_, rfl⟩
  obtain ⟨q, hq⟩ : ∃ q, textL x.data.toList = q := ⟨_, rfl⟩
  obtain ⟨t, ht⟩ : ∃ t, bs (trimL x.data.toList) = t := ⟨_, rfl⟩
  obtain ⟨z, hz⟩ : ∃ z, (t.toList == x.toList) = z := ⟨_, rfl⟩
  have HV : Box (valueV n x = (p && q && z)) := box (by
    unfold valueV
    rw [if_neg (by omega), if_neg (by omega), if_neg (by omega), hq, ← hp, ← hz, ← ht, toList_bs]
    congr 1
    · congr 1
      congr 1
      · exact decide_eq_decide.2 (by omega)
      · exact decide_eq_decide.2 (by omega)
    · rw [toList_data]
      by_cases e : trimL x.data.toList = x.data.toList
      · rw [decide_eq_true e, beq_iff_eq.2 e]
      · rw [decide_eq_false e, beq_eq_false_iff_ne.2 e])
  have HF : Box (formF n x = x) := box (by unfold formF; rw [if_neg (by omega), if_neg (by omega)])
  have HP := box hp
  have HQ := box hq
  have HT := box ht
  have HX : Box (x.size ≤ maxLen) := box (by unfold maxLen; omega)
  clear hp hq ht hk
  have B0 := box (below_new w (.cells #[] 80))
  rw [HV.out, HF.out]
  clear HV HF
  go_enter Try.func103, Try.ntmps103
  go_wp2_with fail
  refine (from1_is HP).mono ?_; rintro e w3 ⟨rfl, rfl⟩
  cases p with
  | false =>
    go_wp2
    go_ret2
    exact ⟨rfl, B0.out⟩
  | true =>
    go_wp2_with fail
    refine (aText15_is HX.out HQ).mono ?_; rintro e w5 ⟨rfl, rfl⟩
    cases q with
    | false =>
      go_wp2
      go_ret2
      exact ⟨rfl, B0.out⟩
    | true =>
      go_wp2_with fail
      refine (aTrim_is HX.out HT).mono ?_; rintro e w6 ⟨rfl, rfl⟩
      go_wp2
      go_ret2
      exact ⟨rfl, B0.out⟩
/-- an interface value whose method form is the axis n's -/
def RuleIs (n : ByteArray) (v : Value) : Prop := ∃ (T : TypeId) (r : Value) (fn : Nat), v = .iface T r ∧ FormIs n fn r ∧
  (∀ k w, (method (k + 2) T r "variantproxy/variants.form").run Try.prog w = .ok (fn, r) w) ∧ (∀ a w, (callFunc fn a).run Try.prog w = .ok (.enter fn a) w)
theorem ruleOf_any (n : ByteArray) (w : World) (hn : n.size ≤ 65000) :
    Calls Try.prog 31 #[.string n] w fun e w' => ∃ v, e = .returned v ∧ RuleIs n v ∧ Below w.heap.size w w' := by
  rcases kind_five n with hk | hk | hk | hk | hk
  · have R : Box (RuleIs n (.iface 76 (.agg #[]))) := box ⟨_, _, _, rfl, form1_any n hk, fun k w => by rfl, fun a w => by rfl⟩
    have HK := box hk
    clear hk
    go_enter Try.func31, Try.ntmps31
    go_wp2_with fail
    refine (mKind15_is hn HK).mono ?_; rintro e w1 ⟨rfl, hb1⟩
    have B1 := box hb1
    clear hb1
    go_wp2
    go_ret
    exact ⟨_, rfl, R.out, B1.out⟩
  · have R : Box (RuleIs n (.iface 77 (.agg #[]))) := box ⟨_, _, _, rfl, form2_any n hk, fun k w => by rfl, fun a w => by rfl⟩
    have HK := box hk
    clear hk
    go_enter Try.func31, Try.ntmps31
    go_wp2_with fail
    refine (mKind15_is hn HK).mono ?_; rintro e w1 ⟨rfl, hb1⟩
    have B1 := box hb1
    clear hb1
    go_wp2
    go_ret
    exact ⟨_, rfl, R.out, B1.out⟩
  · have R : Box (RuleIs n (.iface 79 (.agg #[.int .i64 3]))) := box ⟨_, _, _, rfl, form3_any n 3 (.inl rfl) hk, fun k w => by rfl, fun a w => by rfl⟩
    have HK := box hk
    clear hk
    go_enter Try.func31, Try.ntmps31
    go_wp2_with fail
    refine (mKind15_is hn HK).mono ?_; rintro e w1 ⟨rfl, hb1⟩
    have B1 := box hb1
    clear hb1
    go_wp2
    go_ret
    exact ⟨_, rfl, R.out, B1.out⟩
  · have R : Box (RuleIs n (.iface 79 (.agg #[.int .i64 4]))) := box ⟨_, _, _, rfl, form3_any n 4 (.inr rfl) hk, fun k w => by rfl, fun a w => by rfl⟩
    have HK := box hk
    clear hk
    go_enter Try.func31, Try.ntmps31
    go_wp2_with fail
    refine (mKind15_is hn HK).mono ?_; rintro e w1 ⟨rfl, hb1⟩
    have B1 := box hb1
    clear hb1
    go_wp2
    go_ret
    exact ⟨_, rfl, R.out, B1.out⟩
  · have R : Box (RuleIs n (.iface 80 (.agg #[]))) := box ⟨_, _, _, rfl, form0_any n hk, fun k w => by rfl, fun a w => by rfl⟩
    have HK := box hk
    clear hk
    go_enter Try.func31, Try.ntmps31
    go_wp2_with fail
    refine (mKind15_is hn HK).mono ?_; rintro e w1 ⟨rfl, hb1⟩
    have B1 := box hb1
    clear hb1
    go_wp2
    go_ret
    exact ⟨_, rfl, R.out, B1.out⟩
end
section
open Go.RowKit
/-- a rule's method, one string -/
theorem form_is {n x f : ByteArray} {q : Bool} {fn : Nat} {r : Value} {w : World} (h : FormIs n fn r) (hx : x.size ≤ 65000) (hq : Box (formF n x = f ∧ valueV n x = q)) :
    Calls Try.prog fn #[r, .string x] w fun e w' => e = .returned (.tuple #[.string f, .bool q]) ∧ Below w.heap.size w w' :=
  (h x w hx).mono fun e w' ⟨h1, h2⟩ => ⟨by rw [h1, hq.out.1, hq.out.2], h2⟩
theorem mSame_any (n x y : ByteArray) (w : World) (hn : n.size ≤ 65000) (hx : x.size ≤ 65000) (hy : y.size ≤ 65000) :
    Calls Try.prog 43 #[.string n, .string x, .string y] w fun e w' => e = .returned (.bool (sameV n x y)) ∧ Below w.heap.size w w' := by
  obtain ⟨f, hf⟩ : ∃ f, formF n x = f := ⟨_, rfl⟩
  obtain ⟨q, hq⟩ : ∃ q, valueV n x = q := ⟨_, rfl⟩
  have HQ := box (And.intro hf hq)
  obtain ⟨g, hg⟩ : ∃ f, formF n y = f := ⟨_, rfl⟩
  obtain ⟨p, hp⟩ : ∃ q, valueV n y = q := ⟨_, rfl⟩
  have HP := box (And.intro hg hp)
  have HS : Box (sameV n x y = (f.toList == g.toList)) := box (by
    rw [form_same, hf, hg]
    by_cases e : f = g
    · rw [e]; simp
    · rw [decide_eq_false e]; exact (beq_eq_false_iff_ne.2 (fun h => e (by rw [toList_data, toList_data] at h; rw [bs_of f, bs_of g, h]))).symm)
  clear hf hq hg hp
  go_enter Try.func43, Try.ntmps43
  go_wp2_with fail
  refine (ruleOf_any n _ hn).mono ?_; rintro e w1 ⟨v, rfl, ⟨T, r, fn, rfl, hF, hM, hC⟩, hb1⟩
  have B1 := box hb1
  have HF := box hF
  clear hb1 hF
  go_wp2_with fail
  refine (form_is HF.out hx HQ).mono ?_; rintro e w2 ⟨rfl, hb2⟩
  have B2 := box (B1.out.trans (hb2.mono B1.out.size))
  clear hb2
  go_wp2_with fail
  refine (form_is HF.out hy HP).mono ?_; rintro e w3 ⟨rfl, hb3⟩
  have B3 := box (B2.out.trans (hb3.mono B2.out.size))
  clear hb3
  go_wp2
  go_ret
  exact ⟨by rw [HS.out]; rfl, B3.out⟩
end
section
open Go.RowKit
def lowT (n : ByteArray) : Bool := tokL n.data.toList && decide (lowL n.data.toList = n.data.toList)
theorem lowTok_any (n : ByteArray) (z : Bool) (w : World) (hn : n.size ≤ 65000) (hz : Box (lowT n = z)) :
    Calls Try.prog 30 #[.string n] w fun e w' => e = .returned (.bool z) ∧ Below w.heap.size w w' := by
  obtain ⟨q, hq⟩ : ∃ q, tokL n.data.toList = q := ⟨_, rfl⟩
  obtain ⟨x, hx⟩ : ∃ x, bs (lowL n.data.toList) = x := ⟨_, rfl⟩
  obtain ⟨p, hp⟩ : ∃ p, (x.toList == n.toList) = p := ⟨_, rfl⟩
  have HZ : Box (z = (q && p)) := box (by
    rw [← hz.out]
    unfold lowT
    rw [hq, ← hp, ← hx, toList_bs, toList_data]
    congr 1
    by_cases e : lowL n.data.toList = n.data.toList
    · rw [decide_eq_true e, beq_iff_eq.2 e]
    · rw [decide_eq_false e, beq_eq_false_iff_ne.2 e])
  have HQ := box hq
  have HX := box hx
  have HM : Box (n.size ≤ maxLen) := box (by unfold maxLen; omega)
  have hn4 : n.size ≤ 4294967296 := by omega
  clear hq hx hz
  rw [HZ.out]
  clear HZ
  go_enter Try.func30, Try.ntmps30
  go_wp2_with fail
  refine (aToken_is HM.out HQ).mono ?_; rintro e w1 ⟨rfl, rfl⟩
  cases q with
  | false =>
    go_wp2
    go_ret
    exact ⟨rfl, Below.refl _ _⟩
  | true =>
    go_wp2_with fail
    refine (aLower_is hn4 HX).mono ?_; rintro e w2 ⟨rfl, hb2⟩
    have B2 := box hb2
    clear hb2
    go_wp2
    go_ret
    exact ⟨rfl, B2.out⟩
/-- the forms of the first j values -/
def inV (n : ByteArray) (V : List ByteArray) (j : Nat) : ByteArray → Bool := fun f => (List.range j).any fun i => decide (formF n (atS V i) = f)
theorem inV_more (n : ByteArray) (V : List ByteArray) (j : Nat) (f : ByteArray) : andS (inV n V j) (formF n (atS V j)) f = inV n V (j + 1) f := by
  unfold andS inV
  rw [List.range_succ, List.any_append]
  simp only [List.any_cons, List.any_nil, Bool.or_false]
  congr 1
  exact decide_eq_decide.2 ⟨Eq.symm, Eq.symm⟩
theorem any_not_all {l : List Nat} {p q : Nat → Bool} (h : ∀ i, p i = !q i) : l.all p = !l.any q := by
  induction l with
  | nil => rfl
  | cons a l ih => rw [List.all_cons, List.any_cons, ih, h, Bool.not_or]
theorem inV_at (n : ByteArray) (V : List ByteArray) (j : Nat) : newV n V j j = !inV n V j (formF n (atS V j)) := by
  unfold newV inV
  refine any_not_all fun i => ?_
  rw [form_same]
  congr 1
  exact decide_eq_decide.2 ⟨Eq.symm, Eq.symm⟩
def VaAx (n : ByteArray) (V : List ByteArray) (W : World) (b : Nat) (i : Value) (wr : World) : Prop :=
  ∃ j : Nat, i = .int .i64 j ∧ j ≤ V.length ∧ Box (valsV n V j = true) ∧ Box (SSet wr b j (inV n V j)) ∧ Box (Below W.heap.size W wr)
set_option maxHeartbeats 2000000 in
theorem validAx_any (n : ByteArray) (a : Option Addr) (c : Nat) (V : List ByteArray) (z : Bool) (w : World) (hn : n.size ≤ 65000) (hl : V.length ≤ 65536) (hz : Box (∀ i (hi : i < V.length), V[i].size ≤ 65000)) (hF : Box (Ss w a V)) (hv : Box (validA (n, V) = z)) :
    Calls Try.prog 18 #[.agg #[.string n, .slice a V.length c]] w fun e w' => e = .returned (.bool z) ∧ Below w.heap.size w w' := by
  obtain ⟨q, hq⟩ : ∃ q, lowT n = q := ⟨_, rfl⟩
  obtain ⟨p, hp⟩ : ∃ p, (decide (1 ≤ (V.length : Int)) && decide ((V.length : Int) ≤ 16)) = p := ⟨_, rfl⟩
  have HH : Box (headV n V = (q && p)) := box (by
    unfold headV
    rw [← hq, ← hp]
    unfold lowT
    rw [Bool.and_assoc (tokL n.data.toList && decide (lowL n.data.toList = n.data.toList))]
    congr 1
    congr 1
    · exact decide_eq_decide.2 (by omega)
    · exact decide_eq_decide.2 (by omega))
  have HQ := box hq
  have HP := box hp
  have B0 := box (below_new w (.cells #[.string n, .slice a V.length c] 33))
  have hC := C2.new (.string n) (.slice a V.length c) w 33
  clear hq hp
  go_enter Try.func18, Try.ntmps18
  go_wp2_with fail
  refine (lowTok_any n q _ hn HQ).mono ?_; rintro e w1 ⟨rfl, hb1⟩
  have C1 := box (hC.next hb1)
  have B1 := box (B0.out.trans (hb1.mono B0.out.size))
  clear hC hb1
  obtain ⟨⟨r0, r1⟩, _⟩ := C1.out
  cases q with
  | false =>
    have HZ : Box (z = false) := box (by rw [← hv.out]; unfold validA; rw [show headV (n, V).1 (n, V).2 = false from HH.out]; rfl)
    go_wp2
    go_ret
    exact ⟨by rw [HZ.out]; rfl, B1.out⟩
  | true =>
    go_wp2_with fail
    refine (from1_is HP).mono ?_; rintro e w2 ⟨rfl, rfl⟩
    cases p with
    | false =>
      have HZ : Box (z = false) := box (by rw [← hv.out]; unfold validA; rw [show headV (n, V).1 (n, V).2 = false from HH.out]; rfl)
      go_wp2
      go_ret
      exact ⟨by rw [HZ.out]; rfl, B1.out⟩
    | true =>
      have HZ : Box (valsV n V V.length = z) := box (by rw [← hv.out]; unfold validA; rw [show headV (n, V).1 (n, V).2 = true from HH.out]; rfl)
      go_wp2_with fail
      refine (ruleOf_any n _ hn).mono ?_; rintro e w3 ⟨v, rfl, ⟨T, r, fn, rfl, hFm, hM, hCf⟩, hb3⟩
      have B3 := box (B1.out.trans (hb3.mono B1.out.size))
      have HF := box hFm
      obtain ⟨⟨s0, s1⟩, _⟩ := C1.out.next hb3
      clear hb3 hFm r0 r1
      have hmm := makeMap15 w3
      obtain ⟨b, hb⟩ : ∃ b, w3.heap.size = b := ⟨_, rfl⟩
      have hwb : w.heap.size ≤ b := by rw [← hb]; exact B3.out.size
      have hM3 := below_new w3 (.map #[] 0)
      have S4 : Box (SSet (w3.alloc (.map #[] 0)) b 0 (inV n V 0)) := box (by
        have h := SSet.made w3
        rw [hb] at h
        exact h.same (fun s => rfl))
      have B4 := box (B3.out.trans (hM3.mono B3.out.size))
      have t0 := (hM3.cell (cell_lt s0)).trans s0
      have t1 := (hM3.cell (cell_lt s1)).trans s1
      rw [hb] at hmm
      have HB := box hb
      clear hM3 s0 s1 hb
      go_wp2
      go_loopw [27] (fun i wr => VaAx n V w b i wr) (fun i _ => V.length - (intOf i).toNat)
      case atStart => exact ⟨0, rfl, Nat.zero_le _, box rfl, S4, B4⟩
      case round =>
        obtain ⟨j, rfl, hj, HO, hS, hB⟩ := hrel
        clear t0 t1
        by_cases hlt : j < V.length
        · obtain ⟨g, off, rfl, c0⟩ := (hF.out.below hB.out) j hlt
          have hs1 := hz.out j hlt
          have hat := atS_is hlt
          have hno := inV_at n V j
          have hmo := valsV_more n V j
          obtain ⟨x, hx⟩ : ∃ x, V[j] = x := ⟨_, rfl⟩
          rw [hx] at c0 hs1 hat
          rw [hat] at hno hmo
          obtain ⟨f, hf⟩ : ∃ f, formF n x = f := ⟨_, rfl⟩
          obtain ⟨p, hp⟩ : ∃ p, valueV n x = p := ⟨_, rfl⟩
          obtain ⟨d, hd⟩ : ∃ d, inV n V j f = d := ⟨_, rfl⟩
          rw [hf, hd] at hno
          rw [hp, hno] at hmo
          have HMO := box hmo
          have HFP := box (And.intro hf hp)
          have HD := box hd
          have HSM : Box (f.size ≤ maxLen) := box (by
            have := form_size (n := n) hs1
            rw [hf] at this
            unfold maxLen; omega)
          have HJM : Box (j < maxLen) := box (by unfold maxLen; omega)
          have HIN : Box (∀ g, andS (inV n V j) f g = inV n V (j + 1) g) := box (fun g => by rw [← hf, ← hat]; exact inV_more n V j g)
          have hw1 := hS.out.lt
          clear hno hmo hf hp hd hat hx
          go_wp2_with fail
          refine (form_is HF.out hs1 HFP).mono ?_; rintro e w5 ⟨rfl, hb5⟩
          have S5 := box (hS.out.below hb5 hw1)
          have B5 := box (hB.out.trans (hb5.mono (Nat.le_trans hwb (Nat.le_of_lt hw1))))
          clear hb5 c0
          cases p with
          | false =>
            have HZ2 : Box (z = false) := box (by
              rw [← HZ.out]
              exact vals_no hlt (by
                have := HMO.out
                rw [valsV_more, HO.out] at this
                simpa using this))
            go_wp2
            go_ret
            exact ⟨by rw [HZ2.out]; rfl, B5.out⟩
          | true =>
            go_wp2_with fail
            refine (add_any b j (inV n V j) f d _ HSM.out HJM.out S5 HD).mono ?_; rintro e w6 ⟨rfl, hS6, hb6⟩
            have S6 := box (hS6.same HIN.out)
            have B6 := box (B5.out.trans (hb6.mono hwb))
            clear hS6 hb6
            cases d with
            | true =>
              have HZ2 : Box (z = false) := box (by
                rw [← HZ.out]
                exact vals_no hlt (by
                  have := HMO.out
                  rw [valsV_more, HO.out] at this
                  simpa using this))
              go_wp2
              go_ret
              exact ⟨by rw [HZ2.out]; rfl, B6.out⟩
            | false =>
              have HO2 : Box (valsV n V (j + 1) = true) := box (by rw [HMO.out, HO.out]; rfl)
              go_wp2
              go_roundw
              case rel => exact ⟨j + 1, by go_num, by omega, HO2, S6, B6⟩
              case measure => simp [intOf]; omega
        · obtain rfl : j = V.length := by omega
          have HZ2 : Box (z = true) := box (by rw [← HZ.out]; exact HO.out)
          go_wp2
          go_ret
          exact ⟨by rw [HZ2.out]; rfl, hB.out⟩
/-- the names of the first j axes -/
def inA (L : List AX) (j : Nat) : ByteArray → Bool := fun x => (List.range j).any fun i => decide ((atA L i).1 = x)
theorem inA_more (L : List AX) (j : Nat) (x : ByteArray) : andS (inA L j) (atA L j).1 x = inA L (j + 1) x := by
  unfold andS inA
  rw [List.range_succ, List.any_append]
  simp only [List.any_cons, List.any_nil, Bool.or_false]
  congr 1
  exact decide_eq_decide.2 ⟨Eq.symm, Eq.symm⟩
theorem inA_at (L : List AX) (j : Nat) : newA L j j = !inA L j (atA L j).1 := by
  unfold newA inA
  refine any_not_all fun i => ?_
  by_cases e : (atA L j).1 = (atA L i).1
  · simp [e]
  · rw [decide_eq_true e, decide_eq_false (fun h => e h.symm)]; rfl
def VaLi (L : List AX) (W : World) (i : Value) (wr : World) : Prop :=
  ∃ j : Nat, i = .int .i64 j ∧ j ≤ L.length ∧ Box (axesV L j = true) ∧ Box (SSet wr W.heap.size j (inA L j)) ∧ Box (Below W.heap.size W wr)
set_option maxHeartbeats 2000000 in
theorem mValid_any (a : Option Addr) (cap : Nat) (L : List AX) (w : World) (hl : L.length ≤ 65536) (hz : Box (smallA L)) (hF : Box (Axs w a L)) :
    Calls Try.prog 10 #[.slice a L.length cap] w fun e w' => e = .returned (.bool (validX L)) ∧ Below w.heap.size w w' := by
  obtain ⟨z, hv⟩ : ∃ z, validX L = z := ⟨_, rfl⟩
  obtain ⟨p, hp⟩ : ∃ p, (decide (1 ≤ (L.length : Int)) && decide ((L.length : Int) ≤ 4)) = p := ⟨_, rfl⟩
  have HV : Box (z = (p && axesV L L.length)) := box (by
    rw [← hv, ← hp]
    unfold validX
    congr 1
    congr 1
    · exact decide_eq_decide.2 (by omega)
    · exact decide_eq_decide.2 (by omega))
  have HP := box hp
  rw [hv]
  clear hp hv
  have hmm := makeMap15 w
  have S1 : Box (SSet (w.alloc (.map #[] 0)) w.heap.size 0 (inA L 0)) := box ((SSet.made w).same (fun s => rfl))
  have B1 := box (below_new w (.map #[] 0))
  go_enter Try.func10, Try.ntmps10
  go_wp2_with fail
  refine (from1_is HP).mono ?_; rintro e w1 ⟨rfl, rfl⟩
  cases p with
  | false =>
    go_wp2
    go_ret
    exact ⟨by rw [HV.out]; rfl, Below.refl _ _⟩
  | true =>
    have HZ : Box (axesV L L.length = z) := box (by rw [HV.out]; rfl)
    clear HV
    go_wp2
    go_loopw [13] (fun i wr => VaLi L w i wr) (fun i _ => L.length - (intOf i).toNat)
    case atStart => exact ⟨0, rfl, Nat.zero_le _, box rfl, S1, B1⟩
    case round =>
      obtain ⟨j, rfl, hj, HO, hS, hB⟩ := hrel
      by_cases hlt : j < L.length
      · obtain ⟨g, off, u, rfl, c0, c1, b, cc, rfl, hss, _⟩ := (hF.out.below hB.out) j hlt
        obtain ⟨z1, z2, z3⟩ := hz.out j hlt
        have hat := atA_is hlt
        have hno := inA_at L j
        have hmo := axesV_more L j
        have hin := inA_more L j
        obtain ⟨⟨nm, V⟩, hx⟩ : ∃ x, L[j] = x := ⟨_, rfl⟩
        rw [hx] at hat
        have e1 : L[j].1 = nm := by rw [hx]
        have e2 : L[j].2 = V := by rw [hx]
        rw [e1] at c0 z1
        have z4 : ∀ i (hi : i < V.length), V[i].size ≤ 65000 := fun i hi => by subst e2; exact z3 i hi
        clear z3
        rw [e2] at c1 z2 hss
        rw [hat] at hno hmo hin
        simp only at hno hin
        obtain ⟨p, hp⟩ : ∃ p, validA (nm, V) = p := ⟨_, rfl⟩
        obtain ⟨d, hd⟩ : ∃ d, inA L j nm = d := ⟨_, rfl⟩
        rw [hd] at hno
        rw [hp, hno] at hmo
        have HMO := box hmo
        have HPV := box hp
        have HD := box hd
        have HIN := box hin
        have HSM : Box (nm.size ≤ maxLen) := box (by unfold maxLen; omega)
        have HJM : Box (j < maxLen) := box (by unfold maxLen; omega)
        have HZ4 := box z4
        have hw1 := hS.out.lt
        have BN := box (below_new wr (.cells #[.string nm, .slice b V.length cc] 33))
        have hC := C2.new (.string nm) (.slice b V.length cc) wr 33
        have HSS := box (hss.below BN.out)
        clear hno hmo hp hd hin hat hx e1 e2 z4 hss
        go_wp2_with fail
        refine (validAx_any nm b cc V p _ z1 z2 HZ4 HSS HPV).mono ?_; rintro e w5 ⟨rfl, hb5⟩
        have hb6 := BN.out.trans (hb5.mono BN.out.size)
        have S5 := box (hS.out.below hb6 hw1)
        have B5 := box (hB.out.trans (hb6.mono (Nat.le_of_lt hw1)))
        obtain ⟨⟨r0, r1⟩, _⟩ := hC.next hb5
        clear hb5 hb6 c0 c1 hC
        cases p with
        | false =>
          have HZ2 : Box (z = false) := box (by
            rw [← HZ.out]
            exact axes_no hlt (by
              have := HMO.out
              rw [axesV_more, HO.out] at this
              simpa using this))
          go_wp2
          go_ret
          exact ⟨by rw [HZ2.out]; rfl, B5.out⟩
        | true =>
          go_wp2_with fail
          refine (add_any w.heap.size j (inA L j) nm d _ HSM.out HJM.out S5 HD).mono ?_; rintro e w6 ⟨rfl, hS6, hb6⟩
          have S6 := box (hS6.same HIN.out)
          have B6 := box (B5.out.trans hb6)
          clear hS6 hb6 r0 r1
          cases d with
          | true =>
            have HZ2 : Box (z = false) := box (by
              rw [← HZ.out]
              exact axes_no hlt (by
                have := HMO.out
                rw [axesV_more, HO.out] at this
                simpa using this))
            go_wp2
            go_ret
            exact ⟨by rw [HZ2.out]; rfl, B6.out⟩
          | false =>
            have HO2 : Box (axesV L (j + 1) = true) := box (by rw [HMO.out, HO.out]; rfl)
            go_wp2
            go_roundw
            case rel => exact ⟨j + 1, by go_num, by omega, HO2, S6, B6⟩
            case measure => simp [intOf]; omega
      · obtain rfl : j = L.length := by omega
        have HZ2 : Box (z = true) := box (by rw [← HZ.out]; exact HO.out)
        go_wp2
        go_ret
        exact ⟨by rw [HZ2.out]; rfl, hB.out⟩
end
end Go.Proofs.Ytcnohcbhnldglaa.Asc
