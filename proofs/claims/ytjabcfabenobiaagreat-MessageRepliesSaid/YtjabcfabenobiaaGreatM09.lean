/- Merged texts: StaParse StaRef StaRef2 MsgRef3 LstSame LstRem MsgMem. -/
import Derived.Test.YtjabcfabenobiaaGreatM04
import Derived.Test.YtjabcfabenobiaaGreatM05
import Derived.Test.YtjabcfabenobiaaGreatM06
import Derived.Test.YtjabcfabenobiaaGreatM07
import Derived.Test.YtjabcfabenobiaaGreatM08
import Derived.Laws.EntriesVeiled
import Derived.Laws.ResultCell
import Derived.OwnWalk
set_option linter.unusedVariables false
set_option linter.unusedSimpArgs false
set_option maxRecDepth 100000
namespace Go.Proofs.YtjabcfabenobiaaGreat.Asc
section
open Go.RowKit
theorem results_tmp4 {fn : Func} {t u v x : Tmp} (h : fn.results = #[.tmp t, .tmp u, .tmp v, .tmp x]) (tmps : Array Value) (P : Program) (w : World) :
    (results fn tmps).run P w = .ok (.tuple #[tmps.getD t undef, tmps.getD u undef, tmps.getD v undef, tmps.getD x undef]) w := by
  simp [results, h]
def reqV (p : List UInt8 × List UInt8 × Int × Int) : Value := .tuple #[.string (bs p.1), .string (bs p.2.1), .int .i64 p.2.2.1, .int .i64 p.2.2.2]
def staV (p : Int × Int × List UInt8 × Int) : Value := .tuple #[.int .i64 p.1, .int .i64 p.2.1, .string (bs p.2.2.1), .int .i64 p.2.2.2]
theorem ret_req {p q : List UInt8 × List UInt8 × Int × Int} (h : p = q) : Ending.returned (reqV q) = .returned (reqV p) := by rw [h]
theorem ret_sta {p q : Int × Int × List UInt8 × Int} (h : p = q) : Ending.returned (staV q) = .returned (staV p) := by rw [h]
theorem len_of (s : ByteArray) : s.data.toList.length = s.size := by simp
theorem long_of {s : ByteArray} {n : Nat} (h : n < s.size) : n < s.data.toList.length := by rw [len_of]; exact h
theorem nlong_of {s : ByteArray} {n : Nat} (h : ¬ n < s.size) : ¬ n < s.data.toList.length := by rw [len_of]; exact h
theorem bs_le {l m : List UInt8} (h : l.length ≤ m.length) (hm : ¬ 2000 < m.length) : (bs l).size ≤ maxLen := by rw [bs_size]; unfold maxLen; omega
theorem bne0 {a : Int} (h : a ≠ 0) : (a != 0) = true := by simpa using h
theorem bne1 {a : Int} (h : a = 0) : (a != 0) = false := by simpa using h
theorem ParseRequest_any (s : ByteArray) (w : World) (hs : s.size ≤ maxLen) :
    Calls Tryz.prog 62 #[.string s] w fun e w' => e = .returned (reqV (reqL s.data.toList)) ∧ Below w.heap.size w w' := by
  by_cases hl : 2000 < s.size
  · unfold maxLen at hs
    go_enter Tryz.func62, Tryz.ntmps62
    go_wp2
    ((try simp only [Exit.inBlock, Exit.then]); refine bodyPost_ret (results_tmp4 rfl _ _ _) rfl ?_)
    exact ⟨ret_req (req_long (long_of hl)), Below.refl _ _⟩
  · have HS := Lib.hid hs
    have HL := Lib.hid (nlong_of hl)
    have hle : s.size ≤ 2000 := by omega
    have H2 := Lib.hid (bs_le (cut2_le 32 s.data.toList) HL.out)
    have H1 := Lib.hid (bs_le (cut1_le 32 s.data.toList) HL.out)
    have H21 := Lib.hid (bs_le (Nat.le_trans (cut1_le 32 (cut2 32 s.data.toList)) (cut2_le 32 s.data.toList)) HL.out)
    have H22 := Lib.hid (bs_le (Nat.le_trans (cut2_le 32 (cut2 32 s.data.toList)) (cut2_le 32 s.data.toList)) HL.out)
    clear hs
    rcases ht : tokL (cut1 32 s.data.toList) with _ | _
    · have HT := Lib.hid ht
      go_enter Tryz.func62, Tryz.ntmps62
      go_wp2_with fail
      refine (Cut_any _ 32 _ HS.out).mono ?_; rintro e w1 ⟨rfl, hb1⟩; unfold cutV
      go_wp2_with fail
      refine (Cut_any _ 32 _ H2.out).mono ?_; rintro e w2 ⟨rfl, hb2⟩; rw [bs_toList]; unfold cutV
      have b2 := hb1.trans (hb2.mono hb1.size)
      clear hb1 hb2
      go_wp2_with fail
      refine (Token_any _ _ H1.out).mono ?_; rintro e w3 ⟨rfl, rfl⟩; rw [bs_toList]
      go_wp2
      ((try simp only [Exit.inBlock, Exit.then]); refine bodyPost_ret (results_tmp4 rfl _ _ _) rfl ?_)
      exact ⟨ret_req (req_bad HL.out (by rw [HT.out]; rfl)), b2⟩
    · have HT := Lib.hid ht
      rcases hv : visL (cut1 32 (cut2 32 s.data.toList)) with _ | _
      · have HV := Lib.hid hv
        go_enter Tryz.func62, Tryz.ntmps62
        go_wp2_with fail
        refine (Cut_any _ 32 _ HS.out).mono ?_; rintro e w1 ⟨rfl, hb1⟩; unfold cutV
        go_wp2_with fail
        refine (Cut_any _ 32 _ H2.out).mono ?_; rintro e w2 ⟨rfl, hb2⟩; rw [bs_toList]; unfold cutV
        have b2 := hb1.trans (hb2.mono hb1.size)
        clear hb1 hb2
        go_wp2_with fail
        refine (Token_any _ _ H1.out).mono ?_; rintro e w3 ⟨rfl, rfl⟩; rw [bs_toList]
        go_wp2_with fail
        refine (isTarget_any _ _ H21.out).mono ?_; rintro e w3 ⟨rfl, rfl⟩; rw [bs_toList]
        go_wp2
        ((try simp only [Exit.inBlock, Exit.then]); refine bodyPost_ret (results_tmp4 rfl _ _ _) rfl ?_)
        exact ⟨ret_req (req_bad HL.out (by rw [HT.out, HV.out]; rfl)), b2⟩
      · have HV := Lib.hid hv
        by_cases hE : verE (cut2 32 (cut2 32 s.data.toList)) = 0
        · have HE := Lib.hid hE
          have hE2 := bne1 hE
          clear hE
          go_enter Tryz.func62, Tryz.ntmps62
          go_wp2_with fail
          refine (Cut_any _ 32 _ HS.out).mono ?_; rintro e w1 ⟨rfl, hb1⟩; unfold cutV
          go_wp2_with fail
          refine (Cut_any _ 32 _ H2.out).mono ?_; rintro e w2 ⟨rfl, hb2⟩; rw [bs_toList]; unfold cutV
          have b2 := hb1.trans (hb2.mono hb1.size)
          clear hb1 hb2
          go_wp2_with fail
          refine (Token_any _ _ H1.out).mono ?_; rintro e w3 ⟨rfl, rfl⟩; rw [bs_toList]
          go_wp2_with fail
          refine (isTarget_any _ _ H21.out).mono ?_; rintro e w3 ⟨rfl, rfl⟩; rw [bs_toList]
          go_wp2_with fail
          refine (parseVersion_any _ _ H22.out).mono ?_; rintro e w3 ⟨rfl, rfl⟩; rw [bs_toList]; unfold verV
          go_wp2
          ((try simp only [Exit.inBlock, Exit.then]); refine bodyPost_ret (results_tmp4 rfl _ _ _) rfl ?_)
          exact ⟨ret_req (req_ok HL.out HT.out HV.out HE.out), b2⟩
        · have HE := Lib.hid hE
          have hE2 := bne0 hE
          clear hE
          go_enter Tryz.func62, Tryz.ntmps62
          go_wp2_with fail
          refine (Cut_any _ 32 _ HS.out).mono ?_; rintro e w1 ⟨rfl, hb1⟩; unfold cutV
          go_wp2_with fail
          refine (Cut_any _ 32 _ H2.out).mono ?_; rintro e w2 ⟨rfl, hb2⟩; rw [bs_toList]; unfold cutV
          have b2 := hb1.trans (hb2.mono hb1.size)
          clear hb1 hb2
          go_wp2_with fail
          refine (Token_any _ _ H1.out).mono ?_; rintro e w3 ⟨rfl, rfl⟩; rw [bs_toList]
          go_wp2_with fail
          refine (isTarget_any _ _ H21.out).mono ?_; rintro e w3 ⟨rfl, rfl⟩; rw [bs_toList]
          go_wp2_with fail
          refine (parseVersion_any _ _ H22.out).mono ?_; rintro e w3 ⟨rfl, rfl⟩; rw [bs_toList]; unfold verV
          go_wp2
          ((try simp only [Exit.inBlock, Exit.then]); refine bodyPost_ret (results_tmp4 rfl _ _ _) rfl ?_)
          exact ⟨ret_req (req_ver HL.out HT.out HV.out HE.out), b2⟩
def codeV (l : List UInt8) : Value := .tuple #[.int .i64 ((codeL l).getD 0), .bool (codeL l).isSome]
theorem code_none {l : List UInt8} (h : numL l = none) : codeL l = none := by unfold codeL; rw [h]
theorem code_some {l : List UInt8} {n : Int} (h : numL l = some n) : codeL l = if l.length = 3 ∧ 100 ≤ n ∧ n ≤ 599 then some n else none := by unfold codeL; rw [h]
theorem ret_no {l : List UInt8} (h : codeL l = none) : Ending.returned (.tuple #[.int .i64 0, .bool false]) = .returned (codeV l) := by unfold codeV; rw [h]; rfl
theorem ret_yes {l : List UInt8} {n : Int} (h : codeL l = some n) : Ending.returned (.tuple #[.int .i64 n, .bool true]) = .returned (codeV l) := by unfold codeV; rw [h]; rfl
theorem parseCode_any (s : ByteArray) (w : World) (hs : s.size ≤ maxLen) :
    Calls Tryz.prog 87 #[.string s] w fun e w' => e = .returned (codeV s.data.toList) ∧ w = w' := by
  have HS := Lib.hid hs
  clear hs
  rcases hn : numL s.data.toList with _ | n
  · have HN := Lib.hid hn
    clear hn
    go_enter Tryz.func87, Tryz.ntmps87
    go_wp2_with fail
    refine (Number_any _ _ HS.out).mono ?_; rintro e w1 ⟨rfl, rfl⟩; rw [HN.out, show numT none = .tuple #[.int .i64 0, .bool false] from rfl]
    go_wp2
    all_goals
      go_ret2
      exact ⟨ret_no (code_none HN.out), rfl⟩
  · have HN := Lib.hid hn
    clear hn
    by_cases hz : s.size = 3
    · have HZ := Lib.hid hz
      have hb : ((s.size : Int) != 3) = false := by simp [hz]
      clear hz
      by_cases h1 : n < 100
      · go_enter Tryz.func87, Tryz.ntmps87
        go_wp2_with fail
        refine (Number_any _ _ HS.out).mono ?_; rintro e w1 ⟨rfl, rfl⟩; rw [HN.out, show numT (some n) = .tuple #[.int .i64 n, .bool true] from rfl]
        go_wp2
        go_ret2
        exact ⟨ret_no (by rw [code_some HN.out, if_neg (by omega)]), rfl⟩
      · by_cases h2 : 599 < n
        · go_enter Tryz.func87, Tryz.ntmps87
          go_wp2_with fail
          refine (Number_any _ _ HS.out).mono ?_; rintro e w1 ⟨rfl, rfl⟩; rw [HN.out, show numT (some n) = .tuple #[.int .i64 n, .bool true] from rfl]
          go_wp2
          go_ret2
          exact ⟨ret_no (by rw [code_some HN.out, if_neg (by omega)]), rfl⟩
        · go_enter Tryz.func87, Tryz.ntmps87
          go_wp2_with fail
          refine (Number_any _ _ HS.out).mono ?_; rintro e w1 ⟨rfl, rfl⟩; rw [HN.out, show numT (some n) = .tuple #[.int .i64 n, .bool true] from rfl]
          go_wp2
          go_ret2
          exact ⟨ret_yes (by rw [code_some HN.out, if_pos ⟨by rw [len_of]; exact HZ.out, by omega, by omega⟩]), rfl⟩
    · have hb : ((s.size : Int) != 3) = true := by simpa using fun h => hz (by omega)
      have HZ := Lib.hid hz
      clear hz
      go_enter Tryz.func87, Tryz.ntmps87
      go_wp2_with fail
      refine (Number_any _ _ HS.out).mono ?_; rintro e w1 ⟨rfl, rfl⟩; rw [HN.out, show numT (some n) = .tuple #[.int .i64 n, .bool true] from rfl]
      go_wp2
      go_ret2
      exact ⟨ret_no (by rw [code_some HN.out, if_neg (by rw [len_of]; exact fun h => HZ.out h.1)]), rfl⟩
theorem ParseStatus_any (s : ByteArray) (w : World) (hs : s.size ≤ maxLen) :
    Calls Tryz.prog 69 #[.string s] w fun e w' => e = .returned (staV (staL s.data.toList)) ∧ Below w.heap.size w w' := by
  by_cases hl : 2000 < s.size
  · unfold maxLen at hs
    go_enter Tryz.func69, Tryz.ntmps69
    go_wp2
    ((try simp only [Exit.inBlock, Exit.then]); refine bodyPost_ret (results_tmp4 rfl _ _ _) rfl ?_)
    exact ⟨ret_sta (sta_long (long_of hl)), Below.refl _ _⟩
  · have HS := Lib.hid hs
    have HL := Lib.hid (nlong_of hl)
    have hle : s.size ≤ 2000 := by omega
    have H2 := Lib.hid (bs_le (cut2_le 32 s.data.toList) HL.out)
    have H1 := Lib.hid (bs_le (cut1_le 32 s.data.toList) HL.out)
    have H21 := Lib.hid (bs_le (Nat.le_trans (cut1_le 32 (cut2 32 s.data.toList)) (cut2_le 32 s.data.toList)) HL.out)
    have H22 := Lib.hid (bs_le (Nat.le_trans (cut2_le 32 (cut2 32 s.data.toList)) (cut2_le 32 s.data.toList)) HL.out)
    clear hs
    rcases hB : cutB 32 (cut2 32 s.data.toList) with _ | _
    · have HB := Lib.hid hB
      go_enter Tryz.func69, Tryz.ntmps69
      go_wp2_with fail
      refine (Cut_any _ 32 _ HS.out).mono ?_; rintro e w1 ⟨rfl, hb1⟩; unfold cutV
      go_wp2_with fail
      refine (Cut_any _ 32 _ H2.out).mono ?_; rintro e w2 ⟨rfl, hb2⟩; rw [bs_toList]; unfold cutV
      have b2 := hb1.trans (hb2.mono hb1.size)
      clear hb1 hb2
      go_wp2_with fail
      refine (parseCode_any _ _ H21.out).mono ?_; rintro e w3 ⟨rfl, rfl⟩; rw [bs_toList]; unfold codeV
      go_wp2
      ((try simp only [Exit.inBlock, Exit.then]); refine bodyPost_ret (results_tmp4 rfl _ _ _) rfl ?_)
      exact ⟨ret_sta (sta_bad HL.out (by rw [HB.out]; rfl)), b2⟩
    · have HB := Lib.hid hB
      rcases hO : (codeL (cut1 32 (cut2 32 s.data.toList))).isSome with _ | _
      · have HO := Lib.hid hO
        go_enter Tryz.func69, Tryz.ntmps69
        go_wp2_with fail
        refine (Cut_any _ 32 _ HS.out).mono ?_; rintro e w1 ⟨rfl, hb1⟩; unfold cutV
        go_wp2_with fail
        refine (Cut_any _ 32 _ H2.out).mono ?_; rintro e w2 ⟨rfl, hb2⟩; rw [bs_toList]; unfold cutV
        have b2 := hb1.trans (hb2.mono hb1.size)
        clear hb1 hb2
        go_wp2_with fail
        refine (parseCode_any _ _ H21.out).mono ?_; rintro e w3 ⟨rfl, rfl⟩; rw [bs_toList]; unfold codeV
        go_wp2
        ((try simp only [Exit.inBlock, Exit.then]); refine bodyPost_ret (results_tmp4 rfl _ _ _) rfl ?_)
        exact ⟨ret_sta (sta_bad HL.out (by rw [HB.out, HO.out]; rfl)), b2⟩
      · have HO := Lib.hid hO
        rcases hT : textL (cut2 32 (cut2 32 s.data.toList)) with _ | _
        · have HT := Lib.hid hT
          go_enter Tryz.func69, Tryz.ntmps69
          go_wp2_with fail
          refine (Cut_any _ 32 _ HS.out).mono ?_; rintro e w1 ⟨rfl, hb1⟩; unfold cutV
          go_wp2_with fail
          refine (Cut_any _ 32 _ H2.out).mono ?_; rintro e w2 ⟨rfl, hb2⟩; rw [bs_toList]; unfold cutV
          have b2 := hb1.trans (hb2.mono hb1.size)
          clear hb1 hb2
          go_wp2_with fail
          refine (parseCode_any _ _ H21.out).mono ?_; rintro e w3 ⟨rfl, rfl⟩; rw [bs_toList]; unfold codeV
          go_wp2_with fail
          refine (Text_any _ _ H22.out).mono ?_; rintro e w3 ⟨rfl, rfl⟩; rw [bs_toList]
          go_wp2
          ((try simp only [Exit.inBlock, Exit.then]); refine bodyPost_ret (results_tmp4 rfl _ _ _) rfl ?_)
          exact ⟨ret_sta (sta_bad HL.out (by rw [HB.out, HO.out, HT.out]; rfl)), b2⟩
        · have HT := Lib.hid hT
          by_cases hE : verE (cut1 32 s.data.toList) = 0
          · have HE := Lib.hid hE
            have hE2 := bne1 hE
            clear hE
            go_enter Tryz.func69, Tryz.ntmps69
            go_wp2_with fail
            refine (Cut_any _ 32 _ HS.out).mono ?_; rintro e w1 ⟨rfl, hb1⟩; unfold cutV
            go_wp2_with fail
            refine (Cut_any _ 32 _ H2.out).mono ?_; rintro e w2 ⟨rfl, hb2⟩; rw [bs_toList]; unfold cutV
            have b2 := hb1.trans (hb2.mono hb1.size)
            clear hb1 hb2
            go_wp2_with fail
            refine (parseCode_any _ _ H21.out).mono ?_; rintro e w3 ⟨rfl, rfl⟩; rw [bs_toList]; unfold codeV
            go_wp2_with fail
            refine (Text_any _ _ H22.out).mono ?_; rintro e w3 ⟨rfl, rfl⟩; rw [bs_toList]
            go_wp2_with fail
            refine (parseVersion_any _ _ H1.out).mono ?_; rintro e w3 ⟨rfl, rfl⟩; rw [bs_toList]; unfold verV
            go_wp2
            ((try simp only [Exit.inBlock, Exit.then]); refine bodyPost_ret (results_tmp4 rfl _ _ _) rfl ?_)
            exact ⟨ret_sta (sta_ok HL.out (by rw [HB.out, HO.out, HT.out]; rfl) HE.out), b2⟩
          · have HE := Lib.hid hE
            have hE2 := bne0 hE
            clear hE
            go_enter Tryz.func69, Tryz.ntmps69
            go_wp2_with fail
            refine (Cut_any _ 32 _ HS.out).mono ?_; rintro e w1 ⟨rfl, hb1⟩; unfold cutV
            go_wp2_with fail
            refine (Cut_any _ 32 _ H2.out).mono ?_; rintro e w2 ⟨rfl, hb2⟩; rw [bs_toList]; unfold cutV
            have b2 := hb1.trans (hb2.mono hb1.size)
            clear hb1 hb2
            go_wp2_with fail
            refine (parseCode_any _ _ H21.out).mono ?_; rintro e w3 ⟨rfl, rfl⟩; rw [bs_toList]; unfold codeV
            go_wp2_with fail
            refine (Text_any _ _ H22.out).mono ?_; rintro e w3 ⟨rfl, rfl⟩; rw [bs_toList]
            go_wp2_with fail
            refine (parseVersion_any _ _ H1.out).mono ?_; rintro e w3 ⟨rfl, rfl⟩; rw [bs_toList]; unfold verV
            go_wp2
            ((try simp only [Exit.inBlock, Exit.then]); refine bodyPost_ret (results_tmp4 rfl _ _ _) rfl ?_)
            exact ⟨ret_sta (sta_ver HL.out (by rw [HB.out, HO.out, HT.out]; rfl) HE.out), b2⟩
end
section
open Go.RowKit
theorem rIndex_0 (s : ByteArray) (w : World) (hs : s.size ≤ maxLen) :
    Calls Tryz.prog 51 #[.string s, .int .u8 32, .int .i64 0] w fun e w' => e = .returned (.int .i64 (idxF s.data.toList 32 0)) ∧ w = w' :=
  rIndex_any s 32 32 0 w hs (Nat.zero_le _) rfl
theorem rIndex_s (s : ByteArray) (f : Nat) (w : World) (hs : s.size ≤ maxLen) (hf : f < s.size) :
    Calls Tryz.prog 51 #[.string s, .int .u8 32, .int .i64 ((f : Int) + 1)] w fun e w' => e = .returned (.int .i64 (idxF s.data.toList 32 (f + 1))) ∧ w = w' := by
  have h := rIndex_any s 32 32 (f + 1) w hs hf rfl
  rwa [show (((f + 1 : Nat)) : Int) = (f : Int) + 1 from by push_cast; rfl] at h
/-- two places of a space, and what they cut -/
theorem two_cut {s : ByteArray} {i j : Nat} (hi : idxF s.data.toList 32 0 = i) (hj : idxF s.data.toList 32 (i + 1) = j) :
    i < s.size ∧ i + 1 ≤ j ∧ j < s.size ∧ s.extract 0 i = bs (cut1 32 s.data.toList) ∧ s.extract (i + 1) j = bs (cut1 32 (cut2 32 s.data.toList)) ∧ s.extract (j + 1) s.size = bs (cut2 32 (cut2 32 s.data.toList)) := by
  have hz := len_of s
  obtain ⟨o1, h1, h2, h3⟩ := idxF_some (l := s.data.toList) (c := 32) (k := 0) (by rw [hi]; omega)
  rw [hi] at h2
  have e1 : i = o1 := by omega
  subst e1
  rw [List.drop_zero] at h1
  have c1 := cut_at h1
  obtain ⟨o2, h4, h5, h6⟩ := idxF_some (l := s.data.toList) (c := 32) (k := i + 1) (by rw [hj]; omega)
  rw [hj] at h5
  have e2 : j = i + 1 + o2 := by omega
  subst e2
  rw [← c1.2.2.1] at h4
  have c2 := cut_at h4
  refine ⟨by omega, by omega, by omega, ?_, ?_, ?_⟩
  · rw [ext_bs, c1.2.1, List.drop_zero]
  · rw [ext_bs, c2.2.1, c1.2.2.1, List.drop_take]; congr 2; omega
  · rw [ext_bs, c2.2.2.1, c1.2.2.1, List.take_of_length_le (by omega), List.drop_drop]; congr 2
theorem one_cut {s : ByteArray} {i : Nat} (hi : idxF s.data.toList 32 0 = i) : i < s.size ∧ cut2 32 s.data.toList = s.data.toList.drop (i + 1) := by
  have hz := len_of s
  obtain ⟨o1, h1, h2, h3⟩ := idxF_some (l := s.data.toList) (c := 32) (k := 0) (by rw [hi]; omega)
  rw [hi] at h2
  have e1 : i = o1 := by omega
  subst e1
  rw [List.drop_zero] at h1
  exact ⟨by omega, (cut_at h1).2.2.1⟩
theorem rPR_tok (s : ByteArray) (w : World) (i j : Nat) (HS : Hid (s.size ≤ maxLen)) (HL : Hid (¬ 2000 < s.data.toList.length)) (hle : s.size ≤ 2000)
    (HI : Hid (idxF s.data.toList 32 0 = i)) (HJ : Hid (idxF s.data.toList 32 (i + 1) = j)) (hilt : i < s.size) (q1 : i + 1 ≤ j) (q2 : j < s.size)
    (X1 : Box (s.extract 0 i = bs (cut1 32 s.data.toList))) (X2 : Box (s.extract (i + 1) j = bs (cut1 32 (cut2 32 s.data.toList)))) (X3 : Box (s.extract (j + 1) s.size = bs (cut2 32 (cut2 32 s.data.toList))))
    (Z1 : Box ((s.extract 0 i).size ≤ maxLen)) (Z2 : Box ((s.extract (i + 1) j).size ≤ maxLen)) (Z3 : Box ((s.extract (j + 1) s.size).size ≤ maxLen))
    (HT : Hid (tokL (cut1 32 s.data.toList) = false)) : Calls Tryz.prog 29 #[.string s] w fun e w' => e = .returned (reqV (reqL s.data.toList)) ∧ Below w.heap.size w w' := by
  go_enter Tryz.func29, Tryz.ntmps29
  go_wp2_with fail
  refine (rIndex_0 _ _ HS.out).mono ?_; rintro e w1 ⟨rfl, rfl⟩; rw [HI.out]
  go_wp2_with fail
  refine (rIndex_s _ _ _ HS.out hilt).mono ?_; rintro e w1 ⟨rfl, rfl⟩; rw [HJ.out]
  go_wp2_with fail
  refine (rToken_any _ _ Z1.out).mono ?_; rintro e w1 ⟨rfl, rfl⟩; rw [show (s.extract 0 i).data.toList = cut1 32 s.data.toList from by rw [X1.out]; rfl, HT.out]
  go_wp2
  ((try simp only [Exit.inBlock, Exit.then]); refine bodyPost_ret (results_tmp4 rfl _ _ _) rfl ?_)
  exact ⟨ret_req (req_bad HL.out (by rw [HT.out]; rfl)), Below.refl _ _⟩
theorem rPR_vis (s : ByteArray) (w : World) (i j : Nat) (HS : Hid (s.size ≤ maxLen)) (HL : Hid (¬ 2000 < s.data.toList.length)) (hle : s.size ≤ 2000)
    (HI : Hid (idxF s.data.toList 32 0 = i)) (HJ : Hid (idxF s.data.toList 32 (i + 1) = j)) (hilt : i < s.size) (q1 : i + 1 ≤ j) (q2 : j < s.size)
    (X1 : Box (s.extract 0 i = bs (cut1 32 s.data.toList))) (X2 : Box (s.extract (i + 1) j = bs (cut1 32 (cut2 32 s.data.toList)))) (X3 : Box (s.extract (j + 1) s.size = bs (cut2 32 (cut2 32 s.data.toList))))
    (Z1 : Box ((s.extract 0 i).size ≤ maxLen)) (Z2 : Box ((s.extract (i + 1) j).size ≤ maxLen)) (Z3 : Box ((s.extract (j + 1) s.size).size ≤ maxLen))
    (HT : Hid (tokL (cut1 32 s.data.toList) = true)) (HV : Hid (visL (cut1 32 (cut2 32 s.data.toList)) = false)) : Calls Tryz.prog 29 #[.string s] w fun e w' => e = .returned (reqV (reqL s.data.toList)) ∧ Below w.heap.size w w' := by
  go_enter Tryz.func29, Tryz.ntmps29
  go_wp2_with fail
  refine (rIndex_0 _ _ HS.out).mono ?_; rintro e w1 ⟨rfl, rfl⟩; rw [HI.out]
  go_wp2_with fail
  refine (rIndex_s _ _ _ HS.out hilt).mono ?_; rintro e w1 ⟨rfl, rfl⟩; rw [HJ.out]
  go_wp2_with fail
  refine (rToken_any _ _ Z1.out).mono ?_; rintro e w1 ⟨rfl, rfl⟩; rw [show (s.extract 0 i).data.toList = cut1 32 s.data.toList from by rw [X1.out]; rfl, HT.out]
  go_wp2_with fail
  refine (rVisible_any _ _ Z2.out).mono ?_; rintro e w1 ⟨rfl, rfl⟩; rw [show (s.extract (i + 1) j).data.toList = cut1 32 (cut2 32 s.data.toList) from by rw [X2.out]; rfl, HV.out]
  go_wp2
  ((try simp only [Exit.inBlock, Exit.then]); refine bodyPost_ret (results_tmp4 rfl _ _ _) rfl ?_)
  exact ⟨ret_req (req_bad HL.out (by rw [HT.out, HV.out]; rfl)), Below.refl _ _⟩
theorem rPR_ok (s : ByteArray) (w : World) (i j : Nat) (HS : Hid (s.size ≤ maxLen)) (HL : Hid (¬ 2000 < s.data.toList.length)) (hle : s.size ≤ 2000)
    (HI : Hid (idxF s.data.toList 32 0 = i)) (HJ : Hid (idxF s.data.toList 32 (i + 1) = j)) (hilt : i < s.size) (q1 : i + 1 ≤ j) (q2 : j < s.size)
    (X1 : Box (s.extract 0 i = bs (cut1 32 s.data.toList))) (X2 : Box (s.extract (i + 1) j = bs (cut1 32 (cut2 32 s.data.toList)))) (X3 : Box (s.extract (j + 1) s.size = bs (cut2 32 (cut2 32 s.data.toList))))
    (Z1 : Box ((s.extract 0 i).size ≤ maxLen)) (Z2 : Box ((s.extract (i + 1) j).size ≤ maxLen)) (Z3 : Box ((s.extract (j + 1) s.size).size ≤ maxLen))
    (HT : Hid (tokL (cut1 32 s.data.toList) = true)) (HV : Hid (visL (cut1 32 (cut2 32 s.data.toList)) = true)) (HE : Hid (verE (cut2 32 (cut2 32 s.data.toList)) = 0)) : Calls Tryz.prog 29 #[.string s] w fun e w' => e = .returned (reqV (reqL s.data.toList)) ∧ Below w.heap.size w w' := by
  go_enter Tryz.func29, Tryz.ntmps29
  go_wp2_with fail
  refine (rIndex_0 _ _ HS.out).mono ?_; rintro e w1 ⟨rfl, rfl⟩; rw [HI.out]
  go_wp2_with fail
  refine (rIndex_s _ _ _ HS.out hilt).mono ?_; rintro e w1 ⟨rfl, rfl⟩; rw [HJ.out]
  go_wp2_with fail
  refine (rToken_any _ _ Z1.out).mono ?_; rintro e w1 ⟨rfl, rfl⟩; rw [show (s.extract 0 i).data.toList = cut1 32 s.data.toList from by rw [X1.out]; rfl, HT.out]
  go_wp2_with fail
  refine (rVisible_any _ _ Z2.out).mono ?_; rintro e w1 ⟨rfl, rfl⟩; rw [show (s.extract (i + 1) j).data.toList = cut1 32 (cut2 32 s.data.toList) from by rw [X2.out]; rfl, HV.out]
  go_wp2_with fail
  refine (rversion_any _ _ Z3.out).mono ?_; rintro e w1 ⟨rfl, rfl⟩; rw [show (s.extract (j + 1) s.size).data.toList = cut2 32 (cut2 32 s.data.toList) from by rw [X3.out]; rfl]; unfold verV
  rw [HE.out]
  go_wp2
  go_quiet (fail)
  go_wp2
  ((try simp only [Exit.inBlock, Exit.then]); refine bodyPost_ret (results_tmp4 rfl _ _ _) rfl ?_)
  refine ⟨?_, below_drewN _ _⟩
  rw [req_ok HL.out HT.out HV.out HE.out]
  show Ending.returned (.tuple #[.string (s.extract 0 i), .string (s.extract (i + 1) j), .int .i64 (verM (cut2 32 (cut2 32 s.data.toList))), .int .i64 0]) = _
  rw [X1.out, X2.out]; rfl
theorem rPR_ver (s : ByteArray) (w : World) (i j : Nat) (HS : Hid (s.size ≤ maxLen)) (HL : Hid (¬ 2000 < s.data.toList.length)) (hle : s.size ≤ 2000)
    (HI : Hid (idxF s.data.toList 32 0 = i)) (HJ : Hid (idxF s.data.toList 32 (i + 1) = j)) (hilt : i < s.size) (q1 : i + 1 ≤ j) (q2 : j < s.size)
    (X1 : Box (s.extract 0 i = bs (cut1 32 s.data.toList))) (X2 : Box (s.extract (i + 1) j = bs (cut1 32 (cut2 32 s.data.toList)))) (X3 : Box (s.extract (j + 1) s.size = bs (cut2 32 (cut2 32 s.data.toList))))
    (Z1 : Box ((s.extract 0 i).size ≤ maxLen)) (Z2 : Box ((s.extract (i + 1) j).size ≤ maxLen)) (Z3 : Box ((s.extract (j + 1) s.size).size ≤ maxLen))
    (HT : Hid (tokL (cut1 32 s.data.toList) = true)) (HV : Hid (visL (cut1 32 (cut2 32 s.data.toList)) = true)) (HE : Hid (verE (cut2 32 (cut2 32 s.data.toList)) ≠ 0)) : Calls Tryz.prog 29 #[.string s] w fun e w' => e = .returned (reqV (reqL s.data.toList)) ∧ Below w.heap.size w w' := by
  go_enter Tryz.func29, Tryz.ntmps29
  go_wp2_with fail
  refine (rIndex_0 _ _ HS.out).mono ?_; rintro e w1 ⟨rfl, rfl⟩; rw [HI.out]
  go_wp2_with fail
  refine (rIndex_s _ _ _ HS.out hilt).mono ?_; rintro e w1 ⟨rfl, rfl⟩; rw [HJ.out]
  go_wp2_with fail
  refine (rToken_any _ _ Z1.out).mono ?_; rintro e w1 ⟨rfl, rfl⟩; rw [show (s.extract 0 i).data.toList = cut1 32 s.data.toList from by rw [X1.out]; rfl, HT.out]
  go_wp2_with fail
  refine (rVisible_any _ _ Z2.out).mono ?_; rintro e w1 ⟨rfl, rfl⟩; rw [show (s.extract (i + 1) j).data.toList = cut1 32 (cut2 32 s.data.toList) from by rw [X2.out]; rfl, HV.out]
  go_wp2_with fail
  refine (rversion_any _ _ Z3.out).mono ?_; rintro e w1 ⟨rfl, rfl⟩; rw [show (s.extract (j + 1) s.size).data.toList = cut2 32 (cut2 32 s.data.toList) from by rw [X3.out]; rfl]; unfold verV
  have hE2 := bne0 HE.out
  go_wp2
  ((try simp only [Exit.inBlock, Exit.then]); refine bodyPost_ret (results_tmp4 rfl _ _ _) rfl ?_)
  exact ⟨ret_req (req_ver HL.out HT.out HV.out HE.out), Below.refl _ _⟩
theorem rParseRequest_any (s : ByteArray) (w : World) (hs : s.size ≤ maxLen) :
    Calls Tryz.prog 29 #[.string s] w fun e w' => e = .returned (reqV (reqL s.data.toList)) ∧ Below w.heap.size w w' := by
  by_cases hl : 2000 < s.size
  · unfold maxLen at hs
    go_enter Tryz.func29, Tryz.ntmps29
    go_wp2
    ((try simp only [Exit.inBlock, Exit.then]); refine bodyPost_ret (results_tmp4 rfl _ _ _) rfl ?_)
    exact ⟨ret_req (req_long (long_of hl)), Below.refl _ _⟩
  · have HS := Lib.hid hs
    have HL := Lib.hid (nlong_of hl)
    have hle : s.size ≤ 2000 := by omega
    clear hs
    by_cases h0 : idxF s.data.toList 32 0 < 0
    · have H0 := Lib.hid (idxF_none h0)
      go_enter Tryz.func29, Tryz.ntmps29
      go_wp2_with fail
      refine (rIndex_0 _ _ HS.out).mono ?_; rintro e w1 ⟨rfl, rfl⟩
      go_wp2
      ((try simp only [Exit.inBlock, Exit.then]); refine bodyPost_ret (results_tmp4 rfl _ _ _) rfl ?_)
      exact ⟨ret_req (req_cut0 HL.out (by have := H0.out; rwa [List.drop_zero] at this)), Below.refl _ _⟩
    · obtain ⟨i, hi⟩ : ∃ i : Nat, idxF s.data.toList 32 0 = i := ⟨(idxF s.data.toList 32 0).toNat, by omega⟩
      have HI := Lib.hid hi
      have hilt : i < s.size := (one_cut hi).1
      have HC := Lib.hid (one_cut hi).2
      clear h0
      by_cases h1 : idxF s.data.toList 32 (i + 1) < 0
      · have H1 := Lib.hid (idxF_none h1)
        clear hi
        go_enter Tryz.func29, Tryz.ntmps29
        go_wp2_with fail
        refine (rIndex_0 _ _ HS.out).mono ?_; rintro e w1 ⟨rfl, rfl⟩; rw [HI.out]
        go_wp2_with fail
        refine (rIndex_s _ _ _ HS.out hilt).mono ?_; rintro e w1 ⟨rfl, rfl⟩
        go_wp2
        ((try simp only [Exit.inBlock, Exit.then]); refine bodyPost_ret (results_tmp4 rfl _ _ _) rfl ?_)
        exact ⟨ret_req (req_cut1 HL.out (by rw [HC.out]; exact H1.out)), Below.refl _ _⟩
      · obtain ⟨j, hj⟩ : ∃ j : Nat, idxF s.data.toList 32 (i + 1) = j := ⟨(idxF s.data.toList 32 (i + 1)).toNat, by omega⟩
        have HJ := Lib.hid hj
        obtain ⟨_, q1, q2, x1, x2, x3⟩ := two_cut hi hj
        have X1 := box x1
        have X2 := box x2
        have X3 := box x3
        have Z1 : Box ((s.extract 0 i).size ≤ maxLen) := box (by rw [X1.out]; exact bs_le (cut1_le 32 s.data.toList) HL.out)
        have Z2 : Box ((s.extract (i + 1) j).size ≤ maxLen) := box (by rw [X2.out]; exact bs_le (Nat.le_trans (cut1_le 32 (cut2 32 s.data.toList)) (cut2_le 32 s.data.toList)) HL.out)
        have Z3 : Box ((s.extract (j + 1) s.size).size ≤ maxLen) := box (by rw [X3.out]; exact bs_le (Nat.le_trans (cut2_le 32 (cut2 32 s.data.toList)) (cut2_le 32 s.data.toList)) HL.out)
        rcases ht : tokL (cut1 32 s.data.toList) with _ | _
        · exact rPR_tok s w i j HS HL hle HI HJ hilt q1 q2 X1 X2 X3 Z1 Z2 Z3 (Lib.hid ht)
        · rcases hv : visL (cut1 32 (cut2 32 s.data.toList)) with _ | _
          · exact rPR_vis s w i j HS HL hle HI HJ hilt q1 q2 X1 X2 X3 Z1 Z2 Z3 (Lib.hid ht) (Lib.hid hv)
          · by_cases hE : verE (cut2 32 (cut2 32 s.data.toList)) = 0
            · exact rPR_ok s w i j HS HL hle HI HJ hilt q1 q2 X1 X2 X3 Z1 Z2 Z3 (Lib.hid ht) (Lib.hid hv) (Lib.hid hE)
            · exact rPR_ver s w i j HS HL hle HI HJ hilt q1 q2 X1 X2 X3 Z1 Z2 Z3 (Lib.hid ht) (Lib.hid hv) (Lib.hid hE)
end
section
open Go.RowKit
theorem refS_at (s : ByteArray) (h : 12 < s.size) : refS s.data.toList = ((((s[8].toNat : Int) == 32) && decide ((49 : Int) ≤ (s[9].toNat : Int)) && decide ((s[9].toNat : Int) ≤ 53) && digitI s[10].toNat && digitI s[11].toNat && ((s[12].toNat : Int) == 32) && textL (s.data.toList.drop 13))) := by
  have hz := len_of s
  unfold refS
  rw [getD_at s 8 (by omega), getD_at s 9 (by omega), getD_at s 10 (by omega), getD_at s 11 (by omega), getD_at s 12 (by omega), hz, decide_eq_true (by omega : 13 ≤ s.size), Bool.true_and]
theorem refS_short {s : ByteArray} (h : s.size < 13) : refS s.data.toList = false := by
  have hz := len_of s
  unfold refS; rw [hz, decide_eq_false (by omega)]; rfl
set_option maxHeartbeats 400000 in
theorem rPS_no (s : ByteArray) (w : World) (HL : Hid (¬ 2000 < s.data.toList.length)) (hle : s.size ≤ 2000) (g8 : 8 < s.size) (g9 : 9 < s.size) (g10 : 10 < s.size) (g11 : 11 < s.size) (g12 : 12 < s.size) (g13 : 13 ≤ s.size)
    (Z1 : Box ((s.extract 13 s.size).size ≤ maxLen)) (Z2 : Box ((s.extract 0 8).size ≤ maxLen)) (Z3 : Box ((s.extract 9 12).size ≤ maxLen))
    (X1 : Box (s.extract 13 s.size = bs (s.data.toList.drop 13))) (X2 : Box ((s.extract 0 8).data.toList = s.data.toList.take 8)) (X3 : Box ((s.extract 9 12).data.toList = (s.data.toList.take 12).drop 9))
    (HR : Box (refS s.data.toList = ((((s[8].toNat : Int) == 32) && decide ((49 : Int) ≤ (s[9].toNat : Int)) && decide ((s[9].toNat : Int) ≤ 53) && digitI s[10].toNat && digitI s[11].toNat && ((s[12].toNat : Int) == 32) && textL (s.data.toList.drop 13))))) (HT : Box (textL (s.data.toList.drop 13) = false)) : Calls Tryz.prog 34 #[.string s] w fun e w' => e = .returned (staV (staL s.data.toList)) ∧ Below w.heap.size w w' := by
  go_enter Tryz.func34, Tryz.ntmps34
  go_wp2_with (first | (go_at_call 59; refine (rDigit_c _ _).mono ?_; rintro e w' ⟨rfl, rfl⟩) | (go_at_call 60; refine (rText_any _ _ Z1.out).mono ?_; rintro e w' ⟨rfl, rfl⟩; rw [X1.out, bs_toList, HT.out]))
  all_goals
    ((try simp only [Exit.inBlock, Exit.then]); refine bodyPost_ret (results_tmp4 rfl _ _ _) rfl ?_)
    exact ⟨ret_sta (sta_ref_no HL.out (by rw [HR.out, HT.out]; simp)), Below.refl _ _⟩
set_option maxHeartbeats 1000000 in
theorem rPS_yes (s : ByteArray) (w : World) (HL : Hid (¬ 2000 < s.data.toList.length)) (hle : s.size ≤ 2000) (g8 : 8 < s.size) (g9 : 9 < s.size) (g10 : 10 < s.size) (g11 : 11 < s.size) (g12 : 12 < s.size) (g13 : 13 ≤ s.size)
    (Z1 : Box ((s.extract 13 s.size).size ≤ maxLen)) (Z2 : Box ((s.extract 0 8).size ≤ maxLen)) (Z3 : Box ((s.extract 9 12).size ≤ maxLen))
    (X1 : Box (s.extract 13 s.size = bs (s.data.toList.drop 13))) (X2 : Box ((s.extract 0 8).data.toList = s.data.toList.take 8)) (X3 : Box ((s.extract 9 12).data.toList = (s.data.toList.take 12).drop 9))
    (HR : Box (refS s.data.toList = ((((s[8].toNat : Int) == 32) && decide ((49 : Int) ≤ (s[9].toNat : Int)) && decide ((s[9].toNat : Int) ≤ 53) && digitI s[10].toNat && digitI s[11].toNat && ((s[12].toNat : Int) == 32) && textL (s.data.toList.drop 13))))) (HT : Box (textL (s.data.toList.drop 13) = true)) : Calls Tryz.prog 34 #[.string s] w fun e w' => e = .returned (staV (staL s.data.toList)) ∧ Below w.heap.size w w' := by
  go_enter Tryz.func34, Tryz.ntmps34
  go_wp2_with (first | (go_at_call 59; refine (rDigit_c _ _).mono ?_; rintro e w' ⟨rfl, rfl⟩) | (go_at_call 60; refine (rText_any _ _ Z1.out).mono ?_; rintro e w' ⟨rfl, rfl⟩; rw [X1.out, bs_toList, HT.out]))
  · have hr : refS s.data.toList = true := by rw [HR.out, HT.out]; simp [*]
    have HRR := box hr
    obtain ⟨n, hn⟩ := refS_num hr
    have HN := box hn
    clear hr hn
    refine (rversion_any _ _ Z2.out).mono ?_; rintro e w1 ⟨rfl, rfl⟩; rw [X2.out]; unfold verV
    by_cases hE : verE (s.data.toList.take 8) = 0
    · have HE := box hE
      clear hE
      rw [HE.out]
      go_wp2_with fail
      refine (rNumber_any _ _ Z3.out).mono ?_; rintro e w1 ⟨rfl, rfl⟩; rw [X3.out, HN.out, show numT (some n) = .tuple #[.int .i64 n, .bool true] from rfl]
      go_wp2
      go_quiet (fail)
      go_wp2
      ((try simp only [Exit.inBlock, Exit.then]); refine bodyPost_ret (results_tmp4 rfl _ _ _) rfl ?_)
      refine ⟨?_, below_drewN _ _⟩
      rw [sta_ref_ok HL.out HRR.out HE.out, HN.out]
      show Ending.returned (.tuple #[.int .i64 (verM (s.data.toList.take 8)), .int .i64 n, .string (s.extract 13 s.size), .int .i64 0]) = _
      rw [X1.out]; rfl
    · have HE := box hE
      have hE2 := bne0 hE
      clear hE
      go_wp2
      ((try simp only [Exit.inBlock, Exit.then]); refine bodyPost_ret (results_tmp4 rfl _ _ _) rfl ?_)
      exact ⟨ret_sta (sta_ref_ver HL.out HRR.out HE.out), Below.refl _ _⟩
  all_goals
    ((try simp only [Exit.inBlock, Exit.then]); refine bodyPost_ret (results_tmp4 rfl _ _ _) rfl ?_)
    exact ⟨ret_sta (sta_ref_no HL.out (by rw [HR.out, HT.out]; simp [*] <;> omega)), Below.refl _ _⟩
theorem rParseStatus_any (s : ByteArray) (w : World) (hs : s.size ≤ maxLen) : Calls Tryz.prog 34 #[.string s] w fun e w' => e = .returned (staV (staL s.data.toList)) ∧ Below w.heap.size w w' := by
  by_cases hl : 2000 < s.size
  · unfold maxLen at hs
    go_enter Tryz.func34, Tryz.ntmps34
    go_wp2
    ((try simp only [Exit.inBlock, Exit.then]); refine bodyPost_ret (results_tmp4 rfl _ _ _) rfl ?_)
    exact ⟨ret_sta (sta_long (long_of hl)), Below.refl _ _⟩
  · have HS := Lib.hid hs
    have HL := Lib.hid (nlong_of hl)
    have hle : s.size ≤ 2000 := by omega
    clear hs
    by_cases h13 : s.size < 13
    · have HR := Lib.hid (refS_short h13)
      go_enter Tryz.func34, Tryz.ntmps34
      go_wp2
      ((try simp only [Exit.inBlock, Exit.then]); refine bodyPost_ret (results_tmp4 rfl _ _ _) rfl ?_)
      exact ⟨ret_sta (sta_ref_no HL.out HR.out), Below.refl _ _⟩
    · have g8 : 8 < s.size := by omega
      have g9 : 9 < s.size := by omega
      have g10 : 10 < s.size := by omega
      have g11 : 11 < s.size := by omega
      have g12 : 12 < s.size := by omega
      have g13 : 13 ≤ s.size := by omega
      have Z1 : Box ((s.extract 13 s.size).size ≤ maxLen) := box (by have := HS.out; rw [ByteArray.size_extract]; omega)
      have Z2 : Box ((s.extract 0 8).size ≤ maxLen) := box (by have := HS.out; rw [ByteArray.size_extract]; omega)
      have Z3 : Box ((s.extract 9 12).size ≤ maxLen) := box (by have := HS.out; rw [ByteArray.size_extract]; omega)
      have X2 : Box ((s.extract 0 8).data.toList = s.data.toList.take 8) := box (by rw [ext_bs, bs_toList, List.drop_zero])
      have X3 : Box ((s.extract 9 12).data.toList = (s.data.toList.take 12).drop 9) := box (by rw [ext_bs, bs_toList])
      have X1 : Box ((s.extract 13 s.size) = bs (s.data.toList.drop 13)) := box (by rw [ext_bs, List.take_of_length_le (by rw [len_of]; omega)])
      rcases hT : textL (s.data.toList.drop 13) with _ | _
      · exact rPS_no s w HL hle g8 g9 g10 g11 g12 g13 Z1 Z2 Z3 X1 X2 X3 (box (refS_at s g12)) (box hT)
      · exact rPS_yes s w HL hle g8 g9 g10 g11 g12 g13 Z1 Z2 Z3 X1 X2 X3 (box (refS_at s g12)) (box hT)
end
section
open Go.RowKit
def hdErr (c : Int) : Value := .tuple #[.string ⟨#[]⟩, .slice none 0 0, .int .i64 0, .int .i64 c]
/-- what head returns -/
def HeadPost (B : Nat) (o : Int ⊕ (List UInt8 × List F × Nat × List UInt8)) (e : Ending) (w' : World) : Prop := match o with
  | .inl c => e = .returned (hdErr c) ∧ (c = 0 → False)
  | .inr (st, L, n, r) => ∃ v, e = .returned (.tuple #[.string (bs st), v, .int .i64 n, .int .i64 0]) ∧ OwnF w' B v L
theorem rPReq_is {t a b : List UInt8} {n e0 : Int} {w : World} (hs : t.length ≤ 2000) (h : Box (reqL t = (a, b, n, e0))) :
    Calls Tryz.prog 29 #[.string (bs t)] w fun e w' => e = .returned (.tuple #[.string (bs a), .string (bs b), .int .i64 n, .int .i64 e0]) ∧ Below w.heap.size w w' :=
  (rParseRequest_any (bs t) w (by rw [bs_size]; unfold maxLen; omega)).mono fun e w' ⟨h1, h2⟩ => ⟨by rw [h1, bs_toList, h.out]; rfl, h2⟩
theorem rPSta_is {t b : List UInt8} {a n e0 : Int} {w : World} (hs : t.length ≤ 2000) (h : Box (staL t = (a, n, b, e0))) :
    Calls Tryz.prog 34 #[.string (bs t)] w fun e w' => e = .returned (.tuple #[.int .i64 a, .int .i64 n, .string (bs b), .int .i64 e0]) ∧ Below w.heap.size w w' :=
  (rParseStatus_any (bs t) w (by rw [bs_size]; unfold maxLen; omega)).mono fun e w' ⟨h1, h2⟩ => ⟨by rw [h1, bs_toList, h.out]; rfl, h2⟩
theorem rPField_is {t : List UInt8} {a1 a2 : List UInt8} {e2 : Int} {w : World} (hs : t.length ≤ 2000) (h : Box (fieldL t = (a1, a2, e2))) :
    Calls Tryz.prog 50 #[.string (bs t)] w fun e w' => e = .returned (.tuple #[.agg #[.string (bs a1), .string (bs a2)], .int .i64 e2]) ∧ Below w.heap.size w w' :=
  (rParseField_any (bs t) w (by rw [bs_size]; unfold maxLen; omega)).mono fun e w' ⟨h1, h2⟩ => ⟨by rw [h1, bs_toList, h.out]; rfl, h2⟩
def HeadRel (s : ByteArray) (rq : Bool) (w : World) (a v i j : Value) (wr : World) : Prop := ∃ (k n : Nat) (st : List UInt8) (L : List F), a = .string (bs st) ∧ OwnF wr w.heap.size v L ∧ i = .int .i64 n ∧ j = .int .i64 k ∧ n ≤ s.size ∧ k ≤ 65 ∧ L.length ≤ k ∧ headL rq s.data.toList = headF (67 - k) rq k st L n (s.data.toList.drop n) ∧ Below w.heap.size w wr
set_option maxRecDepth 100000 in
set_option maxHeartbeats 4000000 in
theorem rHead_any (s : ByteArray) (rq : Bool) (w : World) (hs : s.size ≤ 4000000) :
    Calls Tryz.prog 28 #[.string s, .bool rq] w fun e w' => HeadPost w.heap.size (headL rq s.data.toList) e w' ∧ Below w.heap.size w w' := by
  go_enter Tryz.func28, Tryz.ntmps28
  go_wp2
  go_loopw [8, 9, 10, 11] (fun a v i j wr => HeadRel s rq w a v i j wr) (fun _ _ _ j _ => 66 - (intOf j).toNat)
  case atStart => exact ⟨0, 0, [], [], rfl, OwnF.nil _ _, rfl, rfl, Nat.zero_le _, by omega, Nat.zero_le _, rfl, Below.refl _ _⟩
  case round =>
    obtain ⟨k, n, st, L, rfl, hO, rfl, rfl, hn, hk, hLk, hH, hbel⟩ := hrel
    obtain ⟨g, hg⟩ : ∃ g, 67 - k = g + 1 := ⟨66 - k, by omega⟩
    rw [hg] at hH
    have HH := box hH
    have O0 := box hO
    have BL := box hbel
    clear hH hO hbel
    rcases hx : nextL (s.data.toList.drop n) with e0 | ⟨t, r⟩
    · have HN := box hx
      have HE : Box (headL rq s.data.toList = .inl e0) := box (by rw [HH.out, head_bad hx])
      have he := err_size hx
      clear hx
      rcases he with rfl | rfl | rfl
      all_goals
        go_wp2_with fail
        refine (rNext_is hs hn HN).mono ?_; rintro e w1 ⟨rfl, rfl⟩; unfold nlV
        go_wp2
        ((try simp only [Exit.inBlock, Exit.then]); refine bodyPost_ret (results_tmp4 rfl _ _ _) rfl ?_)
        rw [HE.out]
        exact ⟨⟨rfl, by decide⟩, BL.out⟩
    · obtain ⟨nx, hnx, hns, rfl, htl⟩ := next_at hn hx
      have HN := box hx
      by_cases hl : 16000 < nx
      · have hli : (16000 : Int) < (nx : Int) := by omega
        have HE : Box (headL rq s.data.toList = .inl 4) := box (by rw [HH.out, head_long hx (.inl (by omega))])
        clear hx
        go_wp2_with fail
        refine (rNext_ok hs hn hns HN).mono ?_; rintro e w1 ⟨rfl, rfl⟩
        go_wp2
        ((try simp only [Exit.inBlock, Exit.then]); refine bodyPost_ret (results_tmp4 rfl _ _ _) rfl ?_)
        rw [HE.out]
        exact ⟨⟨rfl, by decide⟩, BL.out⟩
      · have hli : ¬ (16000 : Int) < (nx : Int) := by omega
        by_cases hk64 : 64 < k
        · have hki : (64 : Int) < (k : Int) := by omega
          have hk0 : ((k : Int) == 0) = false := by rw [beq_eq_false_iff_ne]; omega
          by_cases ht : t = []
          · subst ht
            have HE : Box (headL rq s.data.toList = .inr (st, L, n + 2, s.data.toList.drop nx)) := box (by rw [HH.out, head_done hx (by simp at hnx; omega) (by omega)])
            have HNX : Box (nx = n + 2) := box (by simp at hnx; omega)
            clear hx
            go_wp2_with fail
            refine (rNext_ok hs hn hns HN).mono ?_; rintro e w1 ⟨rfl, rfl⟩
            rw [show bs ([] : List UInt8) = (⟨#[]⟩ : ByteArray) from rfl]
            go_wp2
            ((try simp only [Exit.inBlock, Exit.then]); refine bodyPost_ret (results_tmp4 rfl _ _ _) rfl ?_)
            rw [HE.out]
            refine ⟨⟨_, ?_, O0.out⟩, BL.out⟩
            rw [← HNX.out]; rfl
          · have hte : (bs t).toList.isEmpty = false := by rw [toList_bs]; cases t <;> simp_all
            have HE : Box (headL rq s.data.toList = .inl 4) := box (by rw [HH.out, head_long hx (.inr ⟨hk64, ht⟩)])
            clear hx
            go_wp2_with fail
            refine (rNext_ok hs hn hns HN).mono ?_; rintro e w1 ⟨rfl, rfl⟩
            go_wp2
            ((try simp only [Exit.inBlock, Exit.then]); refine bodyPost_ret (results_tmp4 rfl _ _ _) rfl ?_)
            rw [HE.out]
            exact ⟨⟨rfl, by decide⟩, BL.out⟩
        · have hki : ¬ (64 : Int) < (k : Int) := by omega
          by_cases hk0' : k = 0
          · subst hk0'
            rcases rq with _ | _
            · obtain ⟨a1, a2, a3, e0, hq⟩ : ∃ a1 a2 a3 e0, staL t = (a1, a2, a3, e0) := ⟨_, _, _, _, rfl⟩
              have HQ := box hq
              have hse : startE false t = e0 := by unfold startE; rw [if_neg (by simp)]; rw [hq]
              clear hq
              rcases he0 : (e0 != 0) with _ | _
              · have e00 : e0 = 0 := by simpa using he0
                have HX := box (HH.out.trans (head_first hx (by simp; omega) (by rw [hse, e00])))
                have hgg : 67 - 1 = g := by omega
                clear hx hse e00
                go_wp2_with fail
                refine (rNext_ok hs hn hns HN).mono ?_; rintro e w1 ⟨rfl, rfl⟩
                go_wp2_with fail
                refine (rPSta_is htl HQ).mono ?_; rintro e w2 ⟨rfl, hb2⟩
                have O2 := box (own_below O0.out hb2)
                have B2 := box (BL.out.trans (hb2.mono BL.out.size))
                clear hb2
                go_wp2
                go_roundw
                case rel => exact ⟨1, nx, t, L, rfl, O2.out, rfl, by go_num, hns, by omega, by omega, by rw [hgg, HX.out, hnx], B2.out⟩
                case measure => simp [intOf]
              · have e00 : e0 ≠ 0 := by simpa using he0
                have HE : Box (headL false s.data.toList = .inl e0) := box (by rw [HH.out, head_start hx (by simp; omega) (by rw [hse]; exact e00), hse])
                have HNE := box e00
                clear hx hse e00
                go_wp2_with fail
                refine (rNext_ok hs hn hns HN).mono ?_; rintro e w1 ⟨rfl, rfl⟩
                go_wp2_with fail
                refine (rPSta_is htl HQ).mono ?_; rintro e w2 ⟨rfl, hb2⟩
                have B2 := box (BL.out.trans (hb2.mono BL.out.size))
                clear hb2
                go_wp2
                ((try simp only [Exit.inBlock, Exit.then]); refine bodyPost_ret (results_tmp4 rfl _ _ _) rfl ?_)
                rw [HE.out]
                exact ⟨⟨rfl, HNE.out⟩, B2.out⟩
            · obtain ⟨a1, a2, a3, e0, hq⟩ : ∃ a1 a2 a3 e0, reqL t = (a1, a2, a3, e0) := ⟨_, _, _, _, rfl⟩
              have HQ := box hq
              have hse : startE true t = e0 := by unfold startE; rw [if_pos rfl]; rw [hq]
              clear hq
              rcases he0 : (e0 != 0) with _ | _
              · have e00 : e0 = 0 := by simpa using he0
                have HX := box (HH.out.trans (head_first hx (by simp; omega) (by rw [hse, e00])))
                have hgg : 67 - 1 = g := by omega
                clear hx hse e00
                go_wp2_with fail
                refine (rNext_ok hs hn hns HN).mono ?_; rintro e w1 ⟨rfl, rfl⟩
                go_wp2_with fail
                refine (rPReq_is htl HQ).mono ?_; rintro e w2 ⟨rfl, hb2⟩
                have O2 := box (own_below O0.out hb2)
                have B2 := box (BL.out.trans (hb2.mono BL.out.size))
                clear hb2
                go_wp2
                go_roundw
                case rel => exact ⟨1, nx, t, L, rfl, O2.out, rfl, by go_num, hns, by omega, by omega, by rw [hgg, HX.out, hnx], B2.out⟩
                case measure => simp [intOf]
              · have e00 : e0 ≠ 0 := by simpa using he0
                have HE : Box (headL true s.data.toList = .inl e0) := box (by rw [HH.out, head_start hx (by simp; omega) (by rw [hse]; exact e00), hse])
                have HNE := box e00
                clear hx hse e00
                go_wp2_with fail
                refine (rNext_ok hs hn hns HN).mono ?_; rintro e w1 ⟨rfl, rfl⟩
                go_wp2_with fail
                refine (rPReq_is htl HQ).mono ?_; rintro e w2 ⟨rfl, hb2⟩
                have B2 := box (BL.out.trans (hb2.mono BL.out.size))
                clear hb2
                go_wp2
                ((try simp only [Exit.inBlock, Exit.then]); refine bodyPost_ret (results_tmp4 rfl _ _ _) rfl ?_)
                rw [HE.out]
                exact ⟨⟨rfl, HNE.out⟩, B2.out⟩
          · have hk0 : ((k : Int) == 0) = false := by rw [beq_eq_false_iff_ne]; omega
            by_cases ht : t = []
            · subst ht
              have HE : Box (headL rq s.data.toList = .inr (st, L, n + 2, s.data.toList.drop nx)) := box (by rw [HH.out, head_done hx (by simp at hnx; omega) (by omega)])
              have HNX : Box (nx = n + 2) := box (by simp at hnx; omega)
              clear hx
              go_wp2_with fail
              refine (rNext_ok hs hn hns HN).mono ?_; rintro e w1 ⟨rfl, rfl⟩
              rw [show bs ([] : List UInt8) = (⟨#[]⟩ : ByteArray) from rfl]
              go_wp2
              ((try simp only [Exit.inBlock, Exit.then]); refine bodyPost_ret (results_tmp4 rfl _ _ _) rfl ?_)
              rw [HE.out]
              refine ⟨⟨_, ?_, O0.out⟩, BL.out⟩
              rw [← HNX.out]; rfl
            · have hte : (bs t).toList.isEmpty = false := by rw [toList_bs]; cases t <;> simp_all
              obtain ⟨a1, a2, e2, hfl⟩ : ∃ a1 a2 e2, fieldL t = (a1, a2, e2) := ⟨_, _, _, rfl⟩
              have HF := box hfl
              rcases he2 : (e2 != 0) with _ | _
              · have e20 : e2 = 0 := by simpa using he2
                have HX := box (HH.out.trans (head_more hx (by simp; omega) (by omega) ht (by rw [hfl]; exact e20)))
                have hgg : 67 - (k + 1) = g := by omega
                rw [hfl] at HX
                clear hx e20 hfl ht
                go_wp2_with fail
                refine (rNext_ok hs hn hns HN).mono ?_; rintro e w1 ⟨rfl, rfl⟩
                go_wp2_with fail
                refine (rPField_is htl HF).mono ?_; rintro e w2 ⟨rfl, hb2⟩
                have O2 := box (own_below O0.out hb2)
                have B2 := box (BL.out.trans (hb2.mono BL.out.size))
                clear hb2
                go_wp2_with (at_builtin; refine wpList_append_fld _ rfl (.tmp 73) (.tmp 75) rfl w.heap.size _ L rfl (own_below (own_below O2.out (below_new _ _)) (below_new _ _)) _ _ rfl (bs a1) (bs a2) (by go_simp) (by go_simp) (by omega) (by have := B2.out.size; simp; omega) ?_; intro v' w3 hO3 hb3; have O3 := box hO3; have B3 := box (((B2.out.alloc B2.out.size _).alloc (B2.out.alloc B2.out.size _).size _).trans hb3); clear hO3 hb3)
                go_roundw
                case rel => exact ⟨k + 1, nx, st, L ++ [(bs a1, bs a2)], rfl, O3.out, rfl, by go_num, hns, by omega, by rw [List.length_append]; simp; omega, by rw [hgg, HX.out, hnx], B3.out⟩
                case measure => simp [intOf]; omega
              · have e20 : e2 ≠ 0 := by simpa using he2
                have HE : Box (headL rq s.data.toList = .inl e2) := box (by rw [HH.out, head_field hx (by simp; omega) (by omega) ht (by rw [hfl]; exact e20), hfl])
                have HNE := box e20
                clear hx e20 hfl ht
                go_wp2_with fail
                refine (rNext_ok hs hn hns HN).mono ?_; rintro e w1 ⟨rfl, rfl⟩
                go_wp2_with fail
                refine (rPField_is htl HF).mono ?_; rintro e w2 ⟨rfl, hb2⟩
                have B2 := box (BL.out.trans (hb2.mono BL.out.size))
                clear hb2
                go_wp2
                ((try simp only [Exit.inBlock, Exit.then]); refine bodyPost_ret (results_tmp4 rfl _ _ _) rfl ?_)
                rw [HE.out]
                exact ⟨⟨rfl, HNE.out⟩, B2.out.alloc B2.out.size _⟩
end
section
open Go.RowKit
theorem str_eq {a b : ByteArray} (h : (a.toList == b.toList) = true) : a = b := by
  rw [toList_data, toList_data] at h
  rw [bs_of a, bs_of b, eq_of_beq h]
theorem take_same {α : Type} {K L : List α} {k : Nat} (hK : k < K.length) (hL : k < L.length) (h : K.take k = L.take k) (e : K[k] = L[k]) : K.take (k + 1) = L.take (k + 1) := by
  rw [take_next hK, take_next hL, h, e]
theorem not_same {α : Type} {K L : List α} {k : Nat} (hK : k < K.length) (hL : k < L.length) (e : K[k] ≠ L[k]) : K ≠ L := by
  intro h; subst h; exact e rfl
theorem fld_eq {p q : F} (h1 : (p.1.toList == q.1.toList) = true) (h2 : (p.2.toList == q.2.toList) = true) : p = q := by
  obtain ⟨a, b⟩ := p
  obtain ⟨c, d⟩ := q
  rw [show a = c from str_eq h1, show b = d from str_eq h2]
set_option maxHeartbeats 800000 in
theorem SameF_any (a b : Option Addr) (ca cb : Nat) (K L : List F) (w : World) (hk : K.length ≤ 65536) (hl : L.length ≤ 65536) (hK : Box (Fs w a K)) (hL : Box (Fs w b L)) :
    Calls Tryz.prog 32 #[.slice a K.length ca, .slice b L.length cb] w fun e w' => e = .returned (.bool (decide (K = L))) ∧ Below w.heap.size w w' := by
  by_cases hn : K.length = L.length
  · have HN := box hn
    have hne : ((K.length : Int) != (L.length : Int)) = false := by simp [hn]
    clear hn
    go_enter Tryz.func32, Tryz.ntmps32
    go_wp2
    go_loopw [5] (fun i wr => ∃ k : Nat, k ≤ K.length ∧ i = .int .i64 k ∧ K.take k = L.take k ∧ Below w.heap.size w wr) (fun i _ => K.length - (intOf i).toNat)
    case atStart => exact ⟨0, Nat.zero_le _, rfl, rfl, Below.refl _ _⟩
    case round =>
      obtain ⟨k, hk2, rfl, hall, hbel⟩ := hrel
      have HA := box hall
      clear hall
      by_cases hlt : k < K.length
      · have hlt2 : k < L.length := by rw [← HN.out]; exact hlt
        obtain ⟨q, off, rfl, c0, c1⟩ := (hK.out.below hbel) k hlt
        obtain ⟨r, off2, rfl, d0, d1⟩ := (hL.out.below hbel) k hlt2
        rcases h1 : (K[k].1.toList == L[k].1.toList) with _ | _
        · go_wp2
          go_quiet (fail)
          go_wp2
          go_ret
          have hne2 : K[k] ≠ L[k] := fun e => by rw [e] at h1; simp at h1
          exact ⟨ret_bool (decide_eq_false (not_same hlt hlt2 hne2)).symm, hbel.trans ((below_drewN _ _).mono hbel.size)⟩
        · rcases h2 : (K[k].2.toList == L[k].2.toList) with _ | _
          · go_wp2
            go_quiet (fail)
            go_wp2
            go_ret
            have hne2 : K[k] ≠ L[k] := fun e => by rw [e] at h2; simp at h2
            exact ⟨ret_bool (decide_eq_false (not_same hlt hlt2 hne2)).symm, hbel.trans ((below_drewN _ _).mono hbel.size)⟩
          · have E := box (fld_eq h1 h2)
            go_wp2
            go_quiet (fail)
            go_wp2
            go_roundw
            case rel => exact ⟨k + 1, by omega, by go_num, take_same hlt hlt2 HA.out E.out, hbel.trans ((below_drewN _ _).mono hbel.size)⟩
            case measure => simp [intOf]; omega
      · have e : k = K.length := by omega
        have E : Box (K = L) := box (by
          have h := HA.out
          subst e
          rw [List.take_length, HN.out, List.take_length] at h
          exact h)
        clear e
        go_wp2
        go_ret
        exact ⟨ret_bool (decide_eq_true E.out).symm, hbel⟩
  · have hne : ((K.length : Int) != (L.length : Int)) = true := by simp; omega
    have HN := box hn
    clear hn
    go_enter Tryz.func32, Tryz.ntmps32
    go_wp2
    go_ret
    exact ⟨ret_bool (decide_eq_false (fun e => HN.out (by rw [e]))).symm, Below.refl _ _⟩
end
section
open Go.RowKit
/-- what the function value of Remove has captured: a variable that holds the function value of named -/
def Cap (g2 g1 : Nat) (nm : ByteArray) (w : World) : Prop := w.cell? ⟨g2, 0, none⟩ = some (nmV g1) ∧ Nm g1 nm w
theorem Cap.below {w w' : World} {g2 g1 : Nat} {nm : ByteArray} (h : Cap g2 g1 nm w) (hb : Below w.heap.size w w') : Cap g2 g1 nm w' := ⟨(hb.cell (cell_lt h.1)).trans h.1, h.2.below hb⟩
theorem rem_any (g2 g1 : Nat) (nm n v : ByteArray) (w : World) (N : Box (n.size ≤ 65536)) (M : Box (nm.size ≤ 65536)) (h : Box (Cap g2 g1 nm w)) :
    Calls Tryz.prog 101 #[.agg #[.string n, .string v], .pointer (some ⟨g2, 0, none⟩)] w fun e w' => e = .returned (.bool (!nmd nm (n, v))) ∧ Below w.heap.size w w' := by
  have c0 : w.cell? ⟨g2, 0, none⟩ = some (.func (.func 111) #[] #[.pointer (some ⟨g1, 0, none⟩)]) := h.out.1
  have hlt := cell_lt c0
  simp only at hlt
  go_enter Tryz.func101, Tryz.ntmps101
  go_wp2_with fail
  refine (clo_any g1 nm n v _ N M (box (h.out.2.below (below_new _ _)))).mono ?_; rintro e w1 ⟨rfl, hb1⟩
  go_wp2
  go_ret
  exact ⟨rfl, (below_new w _).trans (hb1.mono (below_new w _).size)⟩
theorem ans_rem (g2 g1 : Nat) (nm : ByteArray) (M : Box (nm.size ≤ 65536)) : Ans 101 (.pointer (some ⟨g2, 0, none⟩)) (fun p => !nmd nm p) (Cap g2 g1 nm) :=
  fun n v w h hn => rem_any g2 g1 nm n v w (box hn) M (box h)
theorem Remove_any (a : Option Addr) (cap : Nat) (L : List F) (nm : ByteArray) (w : World) (hl : L.length ≤ 65536) (S : Box (Sm L)) (M : Box (nm.size ≤ 65536)) (hF : Box (Fs w a L)) :
    Calls Tryz.prog 85 #[.slice a L.length cap, .string nm] w fun e w' => ∃ v, e = .returned v ∧ OwnF w' w.heap.size v (remL nm L) ∧ Below w.heap.size w w' := by
  have hmf : ∀ (fn : Fn) (first cap : Array Value) (w : World), (Instr.makeFunc fn first cap).run Tryz.prog w = .ok (.func fn first cap) w := fun _ _ _ _ => rfl
  go_enter Tryz.func85, Tryz.ntmps85
  go_wp2_with fail
  refine (named_any nm _).mono ?_; rintro e w1 ⟨rfl, rfl⟩
  unfold nmV
  go_wp2_with fail
  have C0 : Cap (w.heap.size + 1) w.heap.size nm ((w.alloc (.cells #[.string nm] 9)).alloc (.cells #[nmV w.heap.size] 97)) := by
    refine ⟨?_, (Nm.new nm w _).below (below_new _ _)⟩
    rw [World.cell?_alloc_at _ _ _ _ (by simp)]; rfl
  have CB := box C0
  have b1 : Below w.heap.size w ((w.alloc (.cells #[.string nm] 9)).alloc (.cells #[nmV w.heap.size] 97)) := (below_new w _).alloc (by simp) _
  have BB := box b1
  clear C0 b1
  refine (filterR_any a cap L _ (fun p => !nmd nm p) (Cap (w.heap.size + 1) w.heap.size nm) _ hl S (box (hF.out.below BB.out)) (box (ans_rem _ _ nm M)) (box (fun w' hb => CB.out.below hb))).mono ?_
  rintro e w2 ⟨v, rfl, hO, hb2⟩
  have O := box (Go.Joins.ownsRow_le hO BB.out.size)
  replace BB := box (BB.out.trans (hb2.mono BB.out.size))
  clear hO hb2
  go_wp2
  go_ret
  exact ⟨_, rfl, O.out, BB.out⟩
theorem rem_more {nm : ByteArray} {L : List F} {k : Nat} (h : k < L.length) : remL nm (L.take (k + 1)) = remL nm (L.take k) ++ (if nmd nm L[k] then [] else [L[k]]) := by
  unfold remL; rw [filter_more h]; cases nmd nm L[k] <;> rfl
theorem rem_le {nm : ByteArray} {L : List F} {k : Nat} : (remL nm (L.take k)).length ≤ L.length := by
  unfold remL; exact filter_le
set_option maxHeartbeats 800000 in
theorem rRemove_any (a : Option Addr) (cap : Nat) (L : List F) (nm : ByteArray) (w : World) (hl : L.length ≤ 65536) (S : Box (Sm L)) (M : Box (nm.size ≤ 65536)) (hF : Box (Fs w a L)) :
    Calls Tryz.prog 43 #[.slice a L.length cap, .string nm] w fun e w' => ∃ v, e = .returned v ∧ OwnF w' w.heap.size v (remL nm L) ∧ Below w.heap.size w w' := by
  go_enter Tryz.func43, Tryz.ntmps43
  go_wp2
  go_loopw [5, 6] (fun v i wr => ∃ k : Nat, k ≤ L.length ∧ i = .int .i64 k ∧ OwnF wr w.heap.size v (remL nm (L.take k)) ∧ Below w.heap.size w wr) (fun _ i _ => L.length - (intOf i).toNat)
  case atStart => exact ⟨0, Nat.zero_le _, rfl, OwnF.nil _ _, Below.refl _ _⟩
  case round =>
    obtain ⟨k, hk, rfl, hO, hbel⟩ := hrel
    by_cases hlt : k < L.length
    · obtain ⟨q, off, rfl, c0, c1⟩ := (hF.out.below hbel) k hlt
      have B1 := box ((S.out.2 k hlt).1)
      have O := box hO
      have BL := box hbel
      clear hO hbel
      go_wp2_with fail
      refine (rFold_any L[k].1 nm _ (small_4g B1.out) (small_4g M.out)).mono ?_; rintro e w1 ⟨rfl, hb1⟩
      have c2 := hb1.cell (p := ⟨q, off + k * 2 + 1, none⟩) (cell_lt c1)
      have c3 := hb1.cell (p := ⟨q, off + k * 2, none⟩) (cell_lt c0)
      have O1 := box (own_below O.out hb1)
      have BL1 := box (BL.out.trans (hb1.mono BL.out.size))
      have hbs := BL1.out.size
      rw [c1] at c2
      rw [c0] at c3
      clear hb1 c0 c1
      rcases hp : nmd nm L[k] with _ | _
      · rw [show foldL L[k].1.data.toList nm.data.toList = false from hp]
        have HP := box hp
        clear hp
        go_wp2_with (at_builtin; refine wpList_append_fld _ rfl (.tmp 21) (.tmp 26) rfl w.heap.size _ (remL nm (L.take k)) rfl ?a1 _ _ rfl L[k].1 L[k].2 ?b1 ?b2 ?c1 ?d1 ?_)
        case a1 => exact own_below O1.out (below_new _ _)
        case b1 => go_simp
        case b2 => go_simp
        case c1 => exact Nat.le_trans rem_le hl
        case d1 => simp; omega
        intro v' w3 hO2 hb2
        have O2 := box hO2
        clear hO2
        go_wp2
        go_roundw
        case rel => exact ⟨k + 1, by omega, by go_num, by rw [rem_more hlt, HP.out]; exact O2.out, (BL1.out.alloc BL1.out.size _).trans hb2⟩
        case measure => simp [intOf]; omega
      · rw [show foldL L[k].1.data.toList nm.data.toList = true from hp]
        have HP := box hp
        clear hp
        go_wp2
        go_roundw
        case rel => exact ⟨k + 1, by omega, by go_num, by rw [rem_more hlt, HP.out, if_pos rfl, List.append_nil]; exact O1.out, BL1.out⟩
        case measure => simp [intOf]; omega
    · have e : k = L.length := by omega
      subst e
      rw [List.take_length] at hO
      go_wp2
      go_ret
      exact ⟨_, rfl, hO, hbel⟩
end
section
open Go.RowKit
theorem results_cell_tmp2 {fn : Func} {p u x : Tmp} {ty : TypeId} (h : fn.results = #[.cell p ty, .tmp u, .tmp x]) (tmps : Array Value) (P : Program) (w : World) :
    (results fn tmps).run P w =
      ((asAddr (tmps.getD p undef)).run P w).andThen fun a w₁ => ((loadVar ty a).run P w₁).andThen fun v w₂ => .ok (.tuple #[v, tmps.getD u undef, tmps.getD x undef]) w₂ := by
  simp only [results, h]
  simp [Sem.run_bind, Result.andThen]
/-- five values lie at the block's start, and may be written -/
def C5 (g : Nat) (c0 c1 c2 c3 c4 : Value) (w : World) : Prop :=
  (w.cell? ⟨g, 0, none⟩ = some c0 ∧ w.cell? ⟨g, 1, none⟩ = some c1 ∧ w.cell? ⟨g, 2, none⟩ = some c2 ∧ w.cell? ⟨g, 3, none⟩ = some c3 ∧ w.cell? ⟨g, 4, none⟩ = some c4) ∧
  (w.frozen? ⟨g, 0, none⟩ = false ∧ w.frozen? ⟨g, 1, none⟩ = false ∧ w.frozen? ⟨g, 2, none⟩ = false ∧ w.frozen? ⟨g, 3, none⟩ = false ∧ w.frozen? ⟨g, 4, none⟩ = false)
section
variable {g B : Nat} {c0 c1 c2 c3 c4 : Value} {w w' : World}
theorem C5.new (c0 c1 c2 c3 c4 : Value) (w : World) (t : TypeId) : C5 w.heap.size c0 c1 c2 c3 c4 (w.alloc (.cells #[c0, c1, c2, c3, c4] t)) := by
  refine ⟨⟨?_, ?_, ?_, ?_, ?_⟩, ⟨?_, ?_, ?_, ?_, ?_⟩⟩
  all_goals first
    | (rw [World.cell?_alloc_mark]; rfl)
    | exact World.frozen?_alloc_at _ _ _ _ rfl
theorem C5.below (f : C5 g c0 c1 c2 c3 c4 w) (hb : Below B w w') (hg : g < B) : C5 g c0 c1 c2 c3 c4 w' := by
  obtain ⟨⟨h0, h1, h2, h3, h4⟩, ⟨f0, f1, f2, f3, f4⟩⟩ := f
  exact ⟨⟨(hb.cell hg).trans h0, (hb.cell hg).trans h1, (hb.cell hg).trans h2, (hb.cell hg).trans h3, (hb.cell hg).trans h4⟩,
    ⟨(hb.frozen hg).trans f0, (hb.frozen hg).trans f1, (hb.frozen hg).trans f2, (hb.frozen hg).trans f3, (hb.frozen hg).trans f4⟩⟩
theorem C5.lt (f : C5 g c0 c1 c2 c3 c4 w) : g < w.heap.size := cell_lt (p := ⟨g, 0, none⟩) f.1.1
theorem C5.next (f : C5 g c0 c1 c2 c3 c4 w) (hb : Below w.heap.size w w') : C5 g c0 c1 c2 c3 c4 w' := f.below hb f.lt
end
theorem Only.setAt {k : Nat} {w w' : World} (h : Only k w w') (i : Nat) (v : Value) : Only k w (w'.setCell ⟨k, i, none⟩ v) :=
  ⟨h.os, h.tape, h.output, by simpa using h.size, fun j hj hk => (Below.heap_setCell w' ⟨k, i, none⟩ v j hk).trans (h.block j hj hk)⟩
theorem only5 (k : Nat) (w : World) (v0 v1 v2 v3 v4 : Value) : Only k w (((((w.setCell ⟨k, 0, none⟩ v0).setCell ⟨k, 1, none⟩ v1).setCell ⟨k, 2, none⟩ v2).setCell ⟨k, 3, none⟩ v3).setCell ⟨k, 4, none⟩ v4) :=
  (((((Only.refl k w).setAt 0 v0).setAt 1 v1).setAt 2 v2).setAt 3 v3).setAt 4 v4
theorem own_le {w : World} {B B' : Nat} {e : TypeId} {size n : Nat} {v : Value} {xs : List Value} (h : w.ownsRow B e size v n xs) (hB : B' ≤ B) : w.ownsRow B' e size v n xs := by
  refine ⟨h.1, ?_⟩
  rcases h.2 with q | ⟨g, cap, cur, hv, hb, r⟩
  · exact .inl q
  · exact .inr ⟨g, cap, cur, hv, Nat.le_trans hB hb, r⟩
theorem below5 {w w1 : World} {g : Nat} (h : Below w.heap.size w w1) (hg : w.heap.size ≤ g) (v0 v1 v2 v3 v4 : Value) : Below w.heap.size w (((((w1.setCell ⟨g, 0, none⟩ v0).setCell ⟨g, 1, none⟩ v1).setCell ⟨g, 2, none⟩ v2).setCell ⟨g, 3, none⟩ v3).setCell ⟨g, 4, none⟩ v4) :=
  ((((h.setCell (p := ⟨g, 0, none⟩) hg v0).setCell (p := ⟨g, 1, none⟩) hg v1).setCell (p := ⟨g, 2, none⟩) hg v2).setCell (p := ⟨g, 3, none⟩) hg v3).setCell (p := ⟨g, 4, none⟩) hg v4
theorem sm_rem {nm : ByteArray} {L : List F} (h : Sm L) : Sm (remL nm L) := sm_filter h
theorem rUnframed_any (a : Option Addr) (cap : Nat) (L : List F) (w : World) (S : Box (Sm L)) (hF : Box (Fs w a L)) :
    Calls Tryz.prog 24 #[.slice a L.length cap] w fun e w' => ∃ v, e = .returned v ∧ OwnF w' w.heap.size v (unfrL L) ∧ Below w.heap.size w w' := by
  have hl := S.out.1
  have M1 : Box (clN.size ≤ 65536) := box (by decide)
  have M2 : Box (teN.size ≤ 65536) := box (by decide)
  have S2 : Box (Sm (remL clN L)) := box (sm_rem S.out)
  go_enter Tryz.func24, Tryz.ntmps24
  go_wp2_with fail
  refine (rRemove_any a cap L clN _ hl S M1 hF).mono ?_; rintro e w1 ⟨v1, rfl, hO1, hb1⟩
  obtain ⟨a1, cap1, rfl, hF1, _⟩ := hO1.fs
  have F1 := box hF1
  have B1 := box hb1
  clear hO1 hF1 hb1
  go_wp2_with fail
  refine (rRemove_any a1 cap1 _ teN _ S2.out.1 S2 M2 F1).mono ?_; rintro e w2 ⟨v2, rfl, hO2, hb2⟩
  have O2 := box (own_le hO2 B1.out.size)
  have B2 := box (B1.out.trans (hb2.mono B1.out.size))
  clear hO2 hb2
  go_wp2
  go_ret
  exact ⟨_, rfl, O2.out, B2.out⟩
theorem rBodiless_any (n : Int) (m : ByteArray) (w : World) (hm : m.size ≤ 65536) :
    Calls Tryz.prog 23 #[.int .i64 n, .string m] w fun e w' => e = .returned (.bool (bodilessL n m.data.toList)) ∧ w = w' := by
  have HE : Box (bodilessL n m.data.toList = (decide (100 ≤ n ∧ n ≤ 199) || n == 204 || n == 304 || m.toList == [72, 69, 65, 68])) := box (by rw [toList_data]; rfl)
  obtain ⟨b, hb⟩ : ∃ b, (m.toList == [72, 69, 65, 68]) = b := ⟨_, rfl⟩
  rw [hb] at HE
  rcases h4 : (n == 204) with _ | _ <;> rcases h3 : (n == 304) with _ | _ <;> by_cases h1 : 100 ≤ n <;> by_cases h2 : n ≤ 199
  all_goals
    simp only [h4, h3, h1, h2, and_true, true_and, and_false, false_and, decide_true, decide_false, Bool.or_true, Bool.true_or, Bool.false_or, Bool.or_false] at HE
    go_enter Tryz.func23, Tryz.ntmps23
    go_wp2
    go_ret
    exact ⟨ret_bool (by rw [HE.out]), rfl⟩
/-- how a body may be framed -/
theorem fr_cases (L : List F) : ((framedL L).2 = 7 ∨ (framedL L).2 = 8) ∨ ((framedL L).2 = 0 ∧ ((framedL L).1 = -1 ∨ (framedL L).1 = -2 ∨ (0 ≤ (framedL L).1 ∧ (framedL L).1 ≤ 2147483647))) := by
  have hb : ∀ l : List UInt8, (∀ c ∈ l, digitI c.toNat = true) → ∀ v : Int, 0 ≤ v ∧ v ≤ 2147483647 → 0 ≤ l.foldl (fun n c => satI n ((c.toNat : Int) - 48)) v ∧ l.foldl (fun n c => satI n ((c.toNat : Int) - 48)) v ≤ 2147483647 := by
    intro l
    induction l with
    | nil => intro _ v h; exact h
    | cons c l ih =>
      intro hd v h
      have h1 := digitI_bd (hd c (by simp))
      exact ih (fun x hx => hd x (by simp [hx])) _ (satI_bd h.1 (by omega))
  unfold framedL
  simp only
  split
  · exact .inl (.inl rfl)
  · split
    · exact .inl (.inr rfl)
    · split
      · exact .inr ⟨rfl, .inl rfl⟩
      · split
        · exact .inr ⟨rfl, .inr (.inl rfl)⟩
        · split
          · rename_i v hv
            split
            · refine .inr ⟨rfl, .inr (.inr ?_)⟩
              unfold numL at hv
              split at hv
              · rename_i hd
                cases hv
                exact hb _ (fun c hc => List.all_eq_true.mp hd.1 c hc) 0 ⟨by omega, by omega⟩
              · cases hv
            · exact .inl (.inr rfl)
          · exact .inl (.inr rfl)
end
end Go.Proofs.YtjabcfabenobiaaGreat.Asc
