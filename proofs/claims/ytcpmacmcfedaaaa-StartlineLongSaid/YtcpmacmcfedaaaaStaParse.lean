/- The contracts of the two parsers of layer 2 and of the reference's. -/
import Derived.Test.YtcpmacmcfedaaaaStaVer
import Derived.Test.YtcpmacmcfedaaaaStaSpec2
import Derived.OwnWalk
set_option linter.unusedVariables false
set_option linter.unusedSimpArgs false
namespace Go.Proofs.Ytcpmacmcfedaaaa.Asc
open Go.RowKit

theorem results_tmp4 {fn : Func} {t u v x : Tmp} (h : fn.results = #[.tmp t, .tmp u, .tmp v, .tmp x]) (tmps : Array Value) (P : Program) (w : World) :
    (results fn tmps).run P w = .ok (.tuple #[tmps.getD t undef, tmps.getD u undef, tmps.getD v undef, tmps.getD x undef]) w := by
  simp [results, h]
def reqV (p : List UInt8 × List UInt8 × Int × Int) : Value := .tuple #[.string (bs p.1), .string (bs p.2.1), .int .i64 p.2.2.1, .int .i64 p.2.2.2]
def staV (p : Int × Int × List UInt8 × Int) : Value := .tuple #[.int .i64 p.1, .int .i64 p.2.1, .string (bs p.2.2.1), .int .i64 p.2.2.2]
theorem ret_req {p q : List UInt8 × List UInt8 × Int × Int} (h : p = q) : Ending.returned (reqV q) = .returned (reqV p) := by rw [h]
theorem ret_sta {p q : Int × Int × List UInt8 × Int} (h : p = q) : Ending.returned (staV q) = .returned (staV p) := by rw [h]
theorem len_of (s : ByteArray) : s.data.toList.length = s.size := by simp
theorem long_of {s : ByteArray} {n : Nat} (h : n < s.size) : n < s.data.toList.length := by rw [len_of]; exact h
theorem nlong_of {s : ByteArray} {n : Nat} (h : ¬ n < s.size) : ¬ n < s.data.toList.length := by rw [len_of]; exact h
theorem bs_le {l m : List UInt8} (h : l.length ≤ m.length) (hm : ¬ 2000 < m.length) : (bs l).size ≤ maxLen := by rw [bs_size]; unfold maxLen; omega
theorem bne0 {a : Int} (h : a ≠ 0) : (a != 0) = true := by simpa using h
theorem bne1 {a : Int} (h : a = 0) : (a != 0) = false := by simpa using h

theorem ParseRequest_any (s : ByteArray) (w : World) (hs : s.size ≤ maxLen) :
    Calls Try.prog 8 #[.string s] w fun e w' => e = .returned (reqV (reqL s.data.toList)) ∧ Below w.heap.size w w' := by
  by_cases hl : 2000 < s.size
  · unfold maxLen at hs
    go_enter Try.func8, Try.ntmps8
    go_wp2
    ((try simp only [Exit.inBlock, Exit.then]); refine bodyPost_ret (results_tmp4 rfl _ _ _) rfl ?_)
    exact ⟨ret_req (req_long (long_of hl)), Below.refl _ _⟩
  · have HS := Lib.hid hs
    have HL := Lib.hid (nlong_of hl)
    have hle : s.size ≤ 2000 := by omega
    have H2 := Lib.hid (bs_le (cut2_le 32 s.data.toList) HL.out)
    have H1 := Lib.hid (bs_le (cut1_le 32 s.data.toList) HL.out)
    have H21 := Lib.hid (bs_le (Nat.le_trans (cut1_le 32 (cut2 32 s.data.toList)) (cut2_le 32 s.data.toList)) HL.out)
    have H22 := Lib.hid (bs_le (Nat.le_trans (cut2_le 32 (cut2 32 s.data.toList)) (cut2_le 32 s.data.toList)) HL.out)
    clear hs
    rcases ht : tokL (cut1 32 s.data.toList) with _ | _
    · have HT := Lib.hid ht
      go_enter Try.func8, Try.ntmps8
      go_wp2_with fail
      refine (Cut_any _ 32 _ HS.out).mono ?_; rintro e w1 ⟨rfl, hb1⟩; unfold cutV
      go_wp2_with fail
      refine (Cut_any _ 32 _ H2.out).mono ?_; rintro e w2 ⟨rfl, hb2⟩; rw [bs_toList]; unfold cutV
      have b2 := hb1.trans (hb2.mono hb1.size)
      clear hb1 hb2
      go_wp2_with fail
      refine (Token_any _ _ H1.out).mono ?_; rintro e w3 ⟨rfl, rfl⟩; rw [bs_toList]
      go_wp2
      ((try simp only [Exit.inBlock, Exit.then]); refine bodyPost_ret (results_tmp4 rfl _ _ _) rfl ?_)
      exact ⟨ret_req (req_bad HL.out (by rw [HT.out]; rfl)), b2⟩
    · have HT := Lib.hid ht
      rcases hv : visL (cut1 32 (cut2 32 s.data.toList)) with _ | _
      · have HV := Lib.hid hv
        go_enter Try.func8, Try.ntmps8
        go_wp2_with fail
        refine (Cut_any _ 32 _ HS.out).mono ?_; rintro e w1 ⟨rfl, hb1⟩; unfold cutV
        go_wp2_with fail
        refine (Cut_any _ 32 _ H2.out).mono ?_; rintro e w2 ⟨rfl, hb2⟩; rw [bs_toList]; unfold cutV
        have b2 := hb1.trans (hb2.mono hb1.size)
        clear hb1 hb2
        go_wp2_with fail
        refine (Token_any _ _ H1.out).mono ?_; rintro e w3 ⟨rfl, rfl⟩; rw [bs_toList]
        go_wp2_with fail
        refine (isTarget_any _ _ H21.out).mono ?_; rintro e w3 ⟨rfl, rfl⟩; rw [bs_toList]
        go_wp2
        ((try simp only [Exit.inBlock, Exit.then]); refine bodyPost_ret (results_tmp4 rfl _ _ _) rfl ?_)
        exact ⟨ret_req (req_bad HL.out (by rw [HT.out, HV.out]; rfl)), b2⟩
      · have HV := Lib.hid hv
        by_cases hE : verE (cut2 32 (cut2 32 s.data.toList)) = 0
        · have HE := Lib.hid hE
          have hE2 := bne1 hE
          clear hE
          go_enter Try.func8, Try.ntmps8
          go_wp2_with fail
          refine (Cut_any _ 32 _ HS.out).mono ?_; rintro e w1 ⟨rfl, hb1⟩; unfold cutV
          go_wp2_with fail
          refine (Cut_any _ 32 _ H2.out).mono ?_; rintro e w2 ⟨rfl, hb2⟩; rw [bs_toList]; unfold cutV
          have b2 := hb1.trans (hb2.mono hb1.size)
          clear hb1 hb2
          go_wp2_with fail
          refine (Token_any _ _ H1.out).mono ?_; rintro e w3 ⟨rfl, rfl⟩; rw [bs_toList]
          go_wp2_with fail
          refine (isTarget_any _ _ H21.out).mono ?_; rintro e w3 ⟨rfl, rfl⟩; rw [bs_toList]
          go_wp2_with fail
          refine (parseVersion_any _ _ H22.out).mono ?_; rintro e w3 ⟨rfl, rfl⟩; rw [bs_toList]; unfold verV
          go_wp2
          ((try simp only [Exit.inBlock, Exit.then]); refine bodyPost_ret (results_tmp4 rfl _ _ _) rfl ?_)
          exact ⟨ret_req (req_ok HL.out HT.out HV.out HE.out), b2⟩
        · have HE := Lib.hid hE
          have hE2 := bne0 hE
          clear hE
          go_enter Try.func8, Try.ntmps8
          go_wp2_with fail
          refine (Cut_any _ 32 _ HS.out).mono ?_; rintro e w1 ⟨rfl, hb1⟩; unfold cutV
          go_wp2_with fail
          refine (Cut_any _ 32 _ H2.out).mono ?_; rintro e w2 ⟨rfl, hb2⟩; rw [bs_toList]; unfold cutV
          have b2 := hb1.trans (hb2.mono hb1.size)
          clear hb1 hb2
          go_wp2_with fail
          refine (Token_any _ _ H1.out).mono ?_; rintro e w3 ⟨rfl, rfl⟩; rw [bs_toList]
          go_wp2_with fail
          refine (isTarget_any _ _ H21.out).mono ?_; rintro e w3 ⟨rfl, rfl⟩; rw [bs_toList]
          go_wp2_with fail
          refine (parseVersion_any _ _ H22.out).mono ?_; rintro e w3 ⟨rfl, rfl⟩; rw [bs_toList]; unfold verV
          go_wp2
          ((try simp only [Exit.inBlock, Exit.then]); refine bodyPost_ret (results_tmp4 rfl _ _ _) rfl ?_)
          exact ⟨ret_req (req_ver HL.out HT.out HV.out HE.out), b2⟩

def codeV (l : List UInt8) : Value := .tuple #[.int .i64 ((codeL l).getD 0), .bool (codeL l).isSome]
theorem code_none {l : List UInt8} (h : numL l = none) : codeL l = none := by unfold codeL; rw [h]
theorem code_some {l : List UInt8} {n : Int} (h : numL l = some n) : codeL l = if l.length = 3 ∧ 100 ≤ n ∧ n ≤ 599 then some n else none := by unfold codeL; rw [h]
theorem ret_no {l : List UInt8} (h : codeL l = none) : Ending.returned (.tuple #[.int .i64 0, .bool false]) = .returned (codeV l) := by unfold codeV; rw [h]; rfl
theorem ret_yes {l : List UInt8} {n : Int} (h : codeL l = some n) : Ending.returned (.tuple #[.int .i64 n, .bool true]) = .returned (codeV l) := by unfold codeV; rw [h]; rfl
theorem parseCode_any (s : ByteArray) (w : World) (hs : s.size ≤ maxLen) :
    Calls Try.prog 25 #[.string s] w fun e w' => e = .returned (codeV s.data.toList) ∧ w = w' := by
  have HS := Lib.hid hs
  clear hs
  rcases hn : numL s.data.toList with _ | n
  · have HN := Lib.hid hn
    clear hn
    go_enter Try.func25, Try.ntmps25
    go_wp2_with fail
    refine (Number_any _ _ HS.out).mono ?_; rintro e w1 ⟨rfl, rfl⟩; rw [HN.out, show numT none = .tuple #[.int .i64 0, .bool false] from rfl]
    go_wp2
    all_goals
      go_ret2
      exact ⟨ret_no (code_none HN.out), rfl⟩
  · have HN := Lib.hid hn
    clear hn
    by_cases hz : s.size = 3
    · have HZ := Lib.hid hz
      have hb : ((s.size : Int) != 3) = false := by simp [hz]
      clear hz
      by_cases h1 : n < 100
      · go_enter Try.func25, Try.ntmps25
        go_wp2_with fail
        refine (Number_any _ _ HS.out).mono ?_; rintro e w1 ⟨rfl, rfl⟩; rw [HN.out, show numT (some n) = .tuple #[.int .i64 n, .bool true] from rfl]
        go_wp2
        go_ret2
        exact ⟨ret_no (by rw [code_some HN.out, if_neg (by omega)]), rfl⟩
      · by_cases h2 : 599 < n
        · go_enter Try.func25, Try.ntmps25
          go_wp2_with fail
          refine (Number_any _ _ HS.out).mono ?_; rintro e w1 ⟨rfl, rfl⟩; rw [HN.out, show numT (some n) = .tuple #[.int .i64 n, .bool true] from rfl]
          go_wp2
          go_ret2
          exact ⟨ret_no (by rw [code_some HN.out, if_neg (by omega)]), rfl⟩
        · go_enter Try.func25, Try.ntmps25
          go_wp2_with fail
          refine (Number_any _ _ HS.out).mono ?_; rintro e w1 ⟨rfl, rfl⟩; rw [HN.out, show numT (some n) = .tuple #[.int .i64 n, .bool true] from rfl]
          go_wp2
          go_ret2
          exact ⟨ret_yes (by rw [code_some HN.out, if_pos ⟨by rw [len_of]; exact HZ.out, by omega, by omega⟩]), rfl⟩
    · have hb : ((s.size : Int) != 3) = true := by simpa using fun h => hz (by omega)
      have HZ := Lib.hid hz
      clear hz
      go_enter Try.func25, Try.ntmps25
      go_wp2_with fail
      refine (Number_any _ _ HS.out).mono ?_; rintro e w1 ⟨rfl, rfl⟩; rw [HN.out, show numT (some n) = .tuple #[.int .i64 n, .bool true] from rfl]
      go_wp2
      go_ret2
      exact ⟨ret_no (by rw [code_some HN.out, if_neg (by rw [len_of]; exact fun h => HZ.out h.1)]), rfl⟩

theorem ParseStatus_any (s : ByteArray) (w : World) (hs : s.size ≤ maxLen) :
    Calls Try.prog 11 #[.string s] w fun e w' => e = .returned (staV (staL s.data.toList)) ∧ Below w.heap.size w w' := by
  by_cases hl : 2000 < s.size
  · unfold maxLen at hs
    go_enter Try.func11, Try.ntmps11
    go_wp2
    ((try simp only [Exit.inBlock, Exit.then]); refine bodyPost_ret (results_tmp4 rfl _ _ _) rfl ?_)
    exact ⟨ret_sta (sta_long (long_of hl)), Below.refl _ _⟩
  · have HS := Lib.hid hs
    have HL := Lib.hid (nlong_of hl)
    have hle : s.size ≤ 2000 := by omega
    have H2 := Lib.hid (bs_le (cut2_le 32 s.data.toList) HL.out)
    have H1 := Lib.hid (bs_le (cut1_le 32 s.data.toList) HL.out)
    have H21 := Lib.hid (bs_le (Nat.le_trans (cut1_le 32 (cut2 32 s.data.toList)) (cut2_le 32 s.data.toList)) HL.out)
    have H22 := Lib.hid (bs_le (Nat.le_trans (cut2_le 32 (cut2 32 s.data.toList)) (cut2_le 32 s.data.toList)) HL.out)
    clear hs
    rcases hB : cutB 32 (cut2 32 s.data.toList) with _ | _
    · have HB := Lib.hid hB
      go_enter Try.func11, Try.ntmps11
      go_wp2_with fail
      refine (Cut_any _ 32 _ HS.out).mono ?_; rintro e w1 ⟨rfl, hb1⟩; unfold cutV
      go_wp2_with fail
      refine (Cut_any _ 32 _ H2.out).mono ?_; rintro e w2 ⟨rfl, hb2⟩; rw [bs_toList]; unfold cutV
      have b2 := hb1.trans (hb2.mono hb1.size)
      clear hb1 hb2
      go_wp2_with fail
      refine (parseCode_any _ _ H21.out).mono ?_; rintro e w3 ⟨rfl, rfl⟩; rw [bs_toList]; unfold codeV
      go_wp2
      ((try simp only [Exit.inBlock, Exit.then]); refine bodyPost_ret (results_tmp4 rfl _ _ _) rfl ?_)
      exact ⟨ret_sta (sta_bad HL.out (by rw [HB.out]; rfl)), b2⟩
    · have HB := Lib.hid hB
      rcases hO : (codeL (cut1 32 (cut2 32 s.data.toList))).isSome with _ | _
      · have HO := Lib.hid hO
        go_enter Try.func11, Try.ntmps11
        go_wp2_with fail
        refine (Cut_any _ 32 _ HS.out).mono ?_; rintro e w1 ⟨rfl, hb1⟩; unfold cutV
        go_wp2_with fail
        refine (Cut_any _ 32 _ H2.out).mono ?_; rintro e w2 ⟨rfl, hb2⟩; rw [bs_toList]; unfold cutV
        have b2 := hb1.trans (hb2.mono hb1.size)
        clear hb1 hb2
        go_wp2_with fail
        refine (parseCode_any _ _ H21.out).mono ?_; rintro e w3 ⟨rfl, rfl⟩; rw [bs_toList]; unfold codeV
        go_wp2
        ((try simp only [Exit.inBlock, Exit.then]); refine bodyPost_ret (results_tmp4 rfl _ _ _) rfl ?_)
        exact ⟨ret_sta (sta_bad HL.out (by rw [HB.out, HO.out]; rfl)), b2⟩
      · have HO := Lib.hid hO
        rcases hT : textL (cut2 32 (cut2 32 s.data.toList)) with _ | _
        · have HT := Lib.hid hT
          go_enter Try.func11, Try.ntmps11
          go_wp2_with fail
          refine (Cut_any _ 32 _ HS.out).mono ?_; rintro e w1 ⟨rfl, hb1⟩; unfold cutV
          go_wp2_with fail
          refine (Cut_any _ 32 _ H2.out).mono ?_; rintro e w2 ⟨rfl, hb2⟩; rw [bs_toList]; unfold cutV
          have b2 := hb1.trans (hb2.mono hb1.size)
          clear hb1 hb2
          go_wp2_with fail
          refine (parseCode_any _ _ H21.out).mono ?_; rintro e w3 ⟨rfl, rfl⟩; rw [bs_toList]; unfold codeV
          go_wp2_with fail
          refine (Text_any _ _ H22.out).mono ?_; rintro e w3 ⟨rfl, rfl⟩; rw [bs_toList]
          go_wp2
          ((try simp only [Exit.inBlock, Exit.then]); refine bodyPost_ret (results_tmp4 rfl _ _ _) rfl ?_)
          exact ⟨ret_sta (sta_bad HL.out (by rw [HB.out, HO.out, HT.out]; rfl)), b2⟩
        · have HT := Lib.hid hT
          by_cases hE : verE (cut1 32 s.data.toList) = 0
          · have HE := Lib.hid hE
            have hE2 := bne1 hE
            clear hE
            go_enter Try.func11, Try.ntmps11
            go_wp2_with fail
            refine (Cut_any _ 32 _ HS.out).mono ?_; rintro e w1 ⟨rfl, hb1⟩; unfold cutV
            go_wp2_with fail
            refine (Cut_any _ 32 _ H2.out).mono ?_; rintro e w2 ⟨rfl, hb2⟩; rw [bs_toList]; unfold cutV
            have b2 := hb1.trans (hb2.mono hb1.size)
            clear hb1 hb2
            go_wp2_with fail
            refine (parseCode_any _ _ H21.out).mono ?_; rintro e w3 ⟨rfl, rfl⟩; rw [bs_toList]; unfold codeV
            go_wp2_with fail
            refine (Text_any _ _ H22.out).mono ?_; rintro e w3 ⟨rfl, rfl⟩; rw [bs_toList]
            go_wp2_with fail
            refine (parseVersion_any _ _ H1.out).mono ?_; rintro e w3 ⟨rfl, rfl⟩; rw [bs_toList]; unfold verV
            go_wp2
            ((try simp only [Exit.inBlock, Exit.then]); refine bodyPost_ret (results_tmp4 rfl _ _ _) rfl ?_)
            exact ⟨ret_sta (sta_ok HL.out (by rw [HB.out, HO.out, HT.out]; rfl) HE.out), b2⟩
          · have HE := Lib.hid hE
            have hE2 := bne0 hE
            clear hE
            go_enter Try.func11, Try.ntmps11
            go_wp2_with fail
            refine (Cut_any _ 32 _ HS.out).mono ?_; rintro e w1 ⟨rfl, hb1⟩; unfold cutV
            go_wp2_with fail
            refine (Cut_any _ 32 _ H2.out).mono ?_; rintro e w2 ⟨rfl, hb2⟩; rw [bs_toList]; unfold cutV
            have b2 := hb1.trans (hb2.mono hb1.size)
            clear hb1 hb2
            go_wp2_with fail
            refine (parseCode_any _ _ H21.out).mono ?_; rintro e w3 ⟨rfl, rfl⟩; rw [bs_toList]; unfold codeV
            go_wp2_with fail
            refine (Text_any _ _ H22.out).mono ?_; rintro e w3 ⟨rfl, rfl⟩; rw [bs_toList]
            go_wp2_with fail
            refine (parseVersion_any _ _ H1.out).mono ?_; rintro e w3 ⟨rfl, rfl⟩; rw [bs_toList]; unfold verV
            go_wp2
            ((try simp only [Exit.inBlock, Exit.then]); refine bodyPost_ret (results_tmp4 rfl _ _ _) rfl ?_)
            exact ⟨ret_sta (sta_ver HL.out (by rw [HB.out, HO.out, HT.out]; rfl) HE.out), b2⟩

end Go.Proofs.Ytcpmacmcfedaaaa.Asc
