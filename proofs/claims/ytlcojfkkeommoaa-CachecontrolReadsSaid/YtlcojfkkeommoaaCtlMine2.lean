/- The contract of package cachecontrol's apply: a theorem for each name. (Made by tools/genctl2.py.) -/
import Derived.Test.YtlcojfkkeommoaaCtlMine
set_option linter.unusedVariables false
set_option linter.unusedSimpArgs false
set_option maxRecDepth 100000
namespace Go.Proofs.Ytlcojfkkeommoaa.Asc
open Go.RowKit

theorem apply_ns (g : Nat) (c : CT) (s x r : ByteArray) (w : World) (hs : s.size ≤ 65000) (HX : Box (bs (lowL (namD s.data.toList)) = x)) (HR : Box (bs (rstD s.data.toList) = r)) (hx : Box (x.toList = [110, 111, 45, 115, 116, 111, 114, 101])) (C : Box (Ct g c w)) :
    Calls Try.prog 24 #[.pointer (some ⟨g, 0, none⟩), .string s] w fun e w' => e = .returned (.tuple #[]) ∧ Ct g { c with ns := true } w' ∧ Only g w w' := by
  have h0 : (x.toList == [110, 111, 45, 115, 116, 111, 114, 101]) = true := by rw [hx.out]; decide
  go_enter Try.func24, Try.ntmps24
  go_wp2_with fail
  refine (cutName_is hs HX HR).mono ?_; rintro e w1 ⟨rfl, hb1⟩
  have C1 := C.out.next hb1
  have O1 := box (Only.of (k := g) hb1)
  clear hb1
  have CC := box (C1.set_ns true)
  obtain ⟨⟨c0, c1, c2, c3, c4, c5, c6, c7, c8, c9, c10⟩, ⟨f0, f1, f2, f3, f4, f5, f6, f7, f8, f9, f10⟩⟩ := C1
  go_wp2
  go_end0
  exact ⟨rfl, CC.out, O1.out.setAt 0 _⟩
theorem apply_nc (g : Nat) (c : CT) (s x r : ByteArray) (w : World) (hs : s.size ≤ 65000) (HX : Box (bs (lowL (namD s.data.toList)) = x)) (HR : Box (bs (rstD s.data.toList) = r)) (hx : Box (x.toList = [110, 111, 45, 99, 97, 99, 104, 101])) (C : Box (Ct g c w)) :
    Calls Try.prog 24 #[.pointer (some ⟨g, 0, none⟩), .string s] w fun e w' => e = .returned (.tuple #[]) ∧ Ct g { c with nc := true } w' ∧ Only g w w' := by
  have h0 : (x.toList == [110, 111, 45, 115, 116, 111, 114, 101]) = false := by rw [hx.out]; decide
  have h1 : (x.toList == [110, 111, 45, 99, 97, 99, 104, 101]) = true := by rw [hx.out]; decide
  go_enter Try.func24, Try.ntmps24
  go_wp2_with fail
  refine (cutName_is hs HX HR).mono ?_; rintro e w1 ⟨rfl, hb1⟩
  have C1 := C.out.next hb1
  have O1 := box (Only.of (k := g) hb1)
  clear hb1
  have CC := box (C1.set_nc true)
  obtain ⟨⟨c0, c1, c2, c3, c4, c5, c6, c7, c8, c9, c10⟩, ⟨f0, f1, f2, f3, f4, f5, f6, f7, f8, f9, f10⟩⟩ := C1
  go_wp2
  go_end0
  exact ⟨rfl, CC.out, O1.out.setAt 1 _⟩
theorem apply_mr (g : Nat) (c : CT) (s x r : ByteArray) (w : World) (hs : s.size ≤ 65000) (HX : Box (bs (lowL (namD s.data.toList)) = x)) (HR : Box (bs (rstD s.data.toList) = r)) (hx : Box (x.toList = [109, 117, 115, 116, 45, 114, 101, 118, 97, 108, 105, 100, 97, 116, 101])) (C : Box (Ct g c w)) :
    Calls Try.prog 24 #[.pointer (some ⟨g, 0, none⟩), .string s] w fun e w' => e = .returned (.tuple #[]) ∧ Ct g { c with mr := true } w' ∧ Only g w w' := by
  have h0 : (x.toList == [110, 111, 45, 115, 116, 111, 114, 101]) = false := by rw [hx.out]; decide
  have h1 : (x.toList == [110, 111, 45, 99, 97, 99, 104, 101]) = false := by rw [hx.out]; decide
  have h2 : (x.toList == [109, 117, 115, 116, 45, 114, 101, 118, 97, 108, 105, 100, 97, 116, 101]) = true := by rw [hx.out]; decide
  go_enter Try.func24, Try.ntmps24
  go_wp2_with fail
  refine (cutName_is hs HX HR).mono ?_; rintro e w1 ⟨rfl, hb1⟩
  have C1 := C.out.next hb1
  have O1 := box (Only.of (k := g) hb1)
  clear hb1
  have CC := box (C1.set_mr true)
  obtain ⟨⟨c0, c1, c2, c3, c4, c5, c6, c7, c8, c9, c10⟩, ⟨f0, f1, f2, f3, f4, f5, f6, f7, f8, f9, f10⟩⟩ := C1
  go_wp2
  go_end0
  exact ⟨rfl, CC.out, O1.out.setAt 2 _⟩
theorem apply_pr (g : Nat) (c : CT) (s x r : ByteArray) (w : World) (hs : s.size ≤ 65000) (HX : Box (bs (lowL (namD s.data.toList)) = x)) (HR : Box (bs (rstD s.data.toList) = r)) (hx : Box (x.toList = [112, 114, 111, 120, 121, 45, 114, 101, 118, 97, 108, 105, 100, 97, 116, 101])) (C : Box (Ct g c w)) :
    Calls Try.prog 24 #[.pointer (some ⟨g, 0, none⟩), .string s] w fun e w' => e = .returned (.tuple #[]) ∧ Ct g { c with pr := true } w' ∧ Only g w w' := by
  have h0 : (x.toList == [110, 111, 45, 115, 116, 111, 114, 101]) = false := by rw [hx.out]; decide
  have h1 : (x.toList == [110, 111, 45, 99, 97, 99, 104, 101]) = false := by rw [hx.out]; decide
  have h2 : (x.toList == [109, 117, 115, 116, 45, 114, 101, 118, 97, 108, 105, 100, 97, 116, 101]) = false := by rw [hx.out]; decide
  have h3 : (x.toList == [112, 114, 111, 120, 121, 45, 114, 101, 118, 97, 108, 105, 100, 97, 116, 101]) = true := by rw [hx.out]; decide
  go_enter Try.func24, Try.ntmps24
  go_wp2_with fail
  refine (cutName_is hs HX HR).mono ?_; rintro e w1 ⟨rfl, hb1⟩
  have C1 := C.out.next hb1
  have O1 := box (Only.of (k := g) hb1)
  clear hb1
  have CC := box (C1.set_pr true)
  obtain ⟨⟨c0, c1, c2, c3, c4, c5, c6, c7, c8, c9, c10⟩, ⟨f0, f1, f2, f3, f4, f5, f6, f7, f8, f9, f10⟩⟩ := C1
  go_wp2
  go_end0
  exact ⟨rfl, CC.out, O1.out.setAt 3 _⟩
theorem apply_pv (g : Nat) (c : CT) (s x r : ByteArray) (w : World) (hs : s.size ≤ 65000) (HX : Box (bs (lowL (namD s.data.toList)) = x)) (HR : Box (bs (rstD s.data.toList) = r)) (hx : Box (x.toList = [112, 114, 105, 118, 97, 116, 101])) (C : Box (Ct g c w)) :
    Calls Try.prog 24 #[.pointer (some ⟨g, 0, none⟩), .string s] w fun e w' => e = .returned (.tuple #[]) ∧ Ct g { c with pv := true } w' ∧ Only g w w' := by
  have h0 : (x.toList == [110, 111, 45, 115, 116, 111, 114, 101]) = false := by rw [hx.out]; decide
  have h1 : (x.toList == [110, 111, 45, 99, 97, 99, 104, 101]) = false := by rw [hx.out]; decide
  have h2 : (x.toList == [109, 117, 115, 116, 45, 114, 101, 118, 97, 108, 105, 100, 97, 116, 101]) = false := by rw [hx.out]; decide
  have h3 : (x.toList == [112, 114, 111, 120, 121, 45, 114, 101, 118, 97, 108, 105, 100, 97, 116, 101]) = false := by rw [hx.out]; decide
  have h4 : (x.toList == [112, 114, 105, 118, 97, 116, 101]) = true := by rw [hx.out]; decide
  go_enter Try.func24, Try.ntmps24
  go_wp2_with fail
  refine (cutName_is hs HX HR).mono ?_; rintro e w1 ⟨rfl, hb1⟩
  have C1 := C.out.next hb1
  have O1 := box (Only.of (k := g) hb1)
  clear hb1
  have CC := box (C1.set_pv true)
  obtain ⟨⟨c0, c1, c2, c3, c4, c5, c6, c7, c8, c9, c10⟩, ⟨f0, f1, f2, f3, f4, f5, f6, f7, f8, f9, f10⟩⟩ := C1
  go_wp2
  go_end0
  exact ⟨rfl, CC.out, O1.out.setAt 4 _⟩
theorem apply_pb (g : Nat) (c : CT) (s x r : ByteArray) (w : World) (hs : s.size ≤ 65000) (HX : Box (bs (lowL (namD s.data.toList)) = x)) (HR : Box (bs (rstD s.data.toList) = r)) (hx : Box (x.toList = [112, 117, 98, 108, 105, 99])) (C : Box (Ct g c w)) :
    Calls Try.prog 24 #[.pointer (some ⟨g, 0, none⟩), .string s] w fun e w' => e = .returned (.tuple #[]) ∧ Ct g { c with pb := true } w' ∧ Only g w w' := by
  have h0 : (x.toList == [110, 111, 45, 115, 116, 111, 114, 101]) = false := by rw [hx.out]; decide
  have h1 : (x.toList == [110, 111, 45, 99, 97, 99, 104, 101]) = false := by rw [hx.out]; decide
  have h2 : (x.toList == [109, 117, 115, 116, 45, 114, 101, 118, 97, 108, 105, 100, 97, 116, 101]) = false := by rw [hx.out]; decide
  have h3 : (x.toList == [112, 114, 111, 120, 121, 45, 114, 101, 118, 97, 108, 105, 100, 97, 116, 101]) = false := by rw [hx.out]; decide
  have h4 : (x.toList == [112, 114, 105, 118, 97, 116, 101]) = false := by rw [hx.out]; decide
  have h5 : (x.toList == [112, 117, 98, 108, 105, 99]) = true := by rw [hx.out]; decide
  go_enter Try.func24, Try.ntmps24
  go_wp2_with fail
  refine (cutName_is hs HX HR).mono ?_; rintro e w1 ⟨rfl, hb1⟩
  have C1 := C.out.next hb1
  have O1 := box (Only.of (k := g) hb1)
  clear hb1
  have CC := box (C1.set_pb true)
  obtain ⟨⟨c0, c1, c2, c3, c4, c5, c6, c7, c8, c9, c10⟩, ⟨f0, f1, f2, f3, f4, f5, f6, f7, f8, f9, f10⟩⟩ := C1
  go_wp2
  go_end0
  exact ⟨rfl, CC.out, O1.out.setAt 5 _⟩
theorem apply_oc (g : Nat) (c : CT) (s x r : ByteArray) (w : World) (hs : s.size ≤ 65000) (HX : Box (bs (lowL (namD s.data.toList)) = x)) (HR : Box (bs (rstD s.data.toList) = r)) (hx : Box (x.toList = [111, 110, 108, 121, 45, 105, 102, 45, 99, 97, 99, 104, 101, 100])) (C : Box (Ct g c w)) :
    Calls Try.prog 24 #[.pointer (some ⟨g, 0, none⟩), .string s] w fun e w' => e = .returned (.tuple #[]) ∧ Ct g { c with oc := true } w' ∧ Only g w w' := by
  have h0 : (x.toList == [110, 111, 45, 115, 116, 111, 114, 101]) = false := by rw [hx.out]; decide
  have h1 : (x.toList == [110, 111, 45, 99, 97, 99, 104, 101]) = false := by rw [hx.out]; decide
  have h2 : (x.toList == [109, 117, 115, 116, 45, 114, 101, 118, 97, 108, 105, 100, 97, 116, 101]) = false := by rw [hx.out]; decide
  have h3 : (x.toList == [112, 114, 111, 120, 121, 45, 114, 101, 118, 97, 108, 105, 100, 97, 116, 101]) = false := by rw [hx.out]; decide
  have h4 : (x.toList == [112, 114, 105, 118, 97, 116, 101]) = false := by rw [hx.out]; decide
  have h5 : (x.toList == [112, 117, 98, 108, 105, 99]) = false := by rw [hx.out]; decide
  have h6 : (x.toList == [111, 110, 108, 121, 45, 105, 102, 45, 99, 97, 99, 104, 101, 100]) = true := by rw [hx.out]; decide
  go_enter Try.func24, Try.ntmps24
  go_wp2_with fail
  refine (cutName_is hs HX HR).mono ?_; rintro e w1 ⟨rfl, hb1⟩
  have C1 := C.out.next hb1
  have O1 := box (Only.of (k := g) hb1)
  clear hb1
  have CC := box (C1.set_oc true)
  obtain ⟨⟨c0, c1, c2, c3, c4, c5, c6, c7, c8, c9, c10⟩, ⟨f0, f1, f2, f3, f4, f5, f6, f7, f8, f9, f10⟩⟩ := C1
  go_wp2
  go_end0
  exact ⟨rfl, CC.out, O1.out.setAt 6 _⟩
theorem apply_ma1 (g : Nat) (c : CT) (s x r : ByteArray) (n : Int) (w : World) (hs : s.size ≤ 65000) (HX : Box (bs (lowL (namD s.data.toList)) = x)) (HR : Box (bs (rstD s.data.toList) = r)) (hr : r.size ≤ 65000) (HN : Box (numD 0 0 r.data.toList = n)) (hx : Box (x.toList = [109, 97, 120, 45, 97, 103, 101])) (hc : c.ma = -1) (C : Box (Ct g c w)) :
    Calls Try.prog 24 #[.pointer (some ⟨g, 0, none⟩), .string s] w fun e w' => e = .returned (.tuple #[]) ∧ Ct g { c with ma := n } w' ∧ Only g w w' := by
  have h0 : (x.toList == [110, 111, 45, 115, 116, 111, 114, 101]) = false := by rw [hx.out]; decide
  have h1 : (x.toList == [110, 111, 45, 99, 97, 99, 104, 101]) = false := by rw [hx.out]; decide
  have h2 : (x.toList == [109, 117, 115, 116, 45, 114, 101, 118, 97, 108, 105, 100, 97, 116, 101]) = false := by rw [hx.out]; decide
  have h3 : (x.toList == [112, 114, 111, 120, 121, 45, 114, 101, 118, 97, 108, 105, 100, 97, 116, 101]) = false := by rw [hx.out]; decide
  have h4 : (x.toList == [112, 114, 105, 118, 97, 116, 101]) = false := by rw [hx.out]; decide
  have h5 : (x.toList == [112, 117, 98, 108, 105, 99]) = false := by rw [hx.out]; decide
  have h6 : (x.toList == [111, 110, 108, 121, 45, 105, 102, 45, 99, 97, 99, 104, 101, 100]) = false := by rw [hx.out]; decide
  have h7 : (x.toList == [109, 97, 120, 45, 97, 103, 101]) = true := by rw [hx.out]; decide
  have HC := box hc
  clear hc
  go_enter Try.func24, Try.ntmps24
  go_wp2_with fail
  refine (cutName_is hs HX HR).mono ?_; rintro e w1 ⟨rfl, hb1⟩
  have C1 := box ((C.out.next hb1).drewN 1)
  have O1 := box ((Only.of (k := g) hb1).trans (Only.of (below_drewN w1 1)))
  clear hb1
  go_wp2
  go_region_held3 (fun _ => True) (trivial) (first
    | (go_at_call 37; refine (setFirst_yes g 7 n _ (by rw [← HC.out]; exact C2.out.1.2.2.2.2.2.2.2.1) C2.out.2.2.2.2.2.2.2.2.1).mono ?_; rintro e w3 ⟨rfl, rfl⟩)
    | (go_at_call 38; refine (number_is hr HN).mono ?_; rintro e w2 ⟨rfl, hb2⟩; have C2 := box (C1.out.next hb2); have O2 := box (O1.out.trans (Only.of (k := g) hb2)); clear hb2))
  go_wp2
  go_end0
  exact ⟨rfl, C2.out.set_ma n, O2.out.setAt 7 _⟩
theorem apply_ma0 (g : Nat) (c : CT) (s x r : ByteArray) (n : Int) (w : World) (hs : s.size ≤ 65000) (HX : Box (bs (lowL (namD s.data.toList)) = x)) (HR : Box (bs (rstD s.data.toList) = r)) (hr : r.size ≤ 65000) (HN : Box (numD 0 0 r.data.toList = n)) (hx : Box (x.toList = [109, 97, 120, 45, 97, 103, 101])) (hc : (c.ma == -1) = false) (C : Box (Ct g c w)) :
    Calls Try.prog 24 #[.pointer (some ⟨g, 0, none⟩), .string s] w fun e w' => e = .returned (.tuple #[]) ∧ Ct g c w' ∧ Only g w w' := by
  have h0 : (x.toList == [110, 111, 45, 115, 116, 111, 114, 101]) = false := by rw [hx.out]; decide
  have h1 : (x.toList == [110, 111, 45, 99, 97, 99, 104, 101]) = false := by rw [hx.out]; decide
  have h2 : (x.toList == [109, 117, 115, 116, 45, 114, 101, 118, 97, 108, 105, 100, 97, 116, 101]) = false := by rw [hx.out]; decide
  have h3 : (x.toList == [112, 114, 111, 120, 121, 45, 114, 101, 118, 97, 108, 105, 100, 97, 116, 101]) = false := by rw [hx.out]; decide
  have h4 : (x.toList == [112, 114, 105, 118, 97, 116, 101]) = false := by rw [hx.out]; decide
  have h5 : (x.toList == [112, 117, 98, 108, 105, 99]) = false := by rw [hx.out]; decide
  have h6 : (x.toList == [111, 110, 108, 121, 45, 105, 102, 45, 99, 97, 99, 104, 101, 100]) = false := by rw [hx.out]; decide
  have h7 : (x.toList == [109, 97, 120, 45, 97, 103, 101]) = true := by rw [hx.out]; decide
  have HC := box hc
  clear hc
  go_enter Try.func24, Try.ntmps24
  go_wp2_with fail
  refine (cutName_is hs HX HR).mono ?_; rintro e w1 ⟨rfl, hb1⟩
  have C1 := box ((C.out.next hb1).drewN 1)
  have O1 := box ((Only.of (k := g) hb1).trans (Only.of (below_drewN w1 1)))
  clear hb1
  go_wp2
  go_region_held3 (fun _ => True) (trivial) (first
    | (go_at_call 37; refine (setFirst_no g 7 n c.ma _ (C2.out.1.2.2.2.2.2.2.2.1) HC.out).mono ?_; rintro e w3 ⟨rfl, rfl⟩)
    | (go_at_call 38; refine (number_is hr HN).mono ?_; rintro e w2 ⟨rfl, hb2⟩; have C2 := box (C1.out.next hb2); have O2 := box (O1.out.trans (Only.of (k := g) hb2)); clear hb2))
  go_wp2
  go_end0
  exact ⟨rfl, C2.out, O2.out⟩
theorem apply_sm1 (g : Nat) (c : CT) (s x r : ByteArray) (n : Int) (w : World) (hs : s.size ≤ 65000) (HX : Box (bs (lowL (namD s.data.toList)) = x)) (HR : Box (bs (rstD s.data.toList) = r)) (hr : r.size ≤ 65000) (HN : Box (numD 0 0 r.data.toList = n)) (hx : Box (x.toList = [115, 45, 109, 97, 120, 97, 103, 101])) (hc : c.sm = -1) (C : Box (Ct g c w)) :
    Calls Try.prog 24 #[.pointer (some ⟨g, 0, none⟩), .string s] w fun e w' => e = .returned (.tuple #[]) ∧ Ct g { c with sm := n } w' ∧ Only g w w' := by
  have h0 : (x.toList == [110, 111, 45, 115, 116, 111, 114, 101]) = false := by rw [hx.out]; decide
  have h1 : (x.toList == [110, 111, 45, 99, 97, 99, 104, 101]) = false := by rw [hx.out]; decide
  have h2 : (x.toList == [109, 117, 115, 116, 45, 114, 101, 118, 97, 108, 105, 100, 97, 116, 101]) = false := by rw [hx.out]; decide
  have h3 : (x.toList == [112, 114, 111, 120, 121, 45, 114, 101, 118, 97, 108, 105, 100, 97, 116, 101]) = false := by rw [hx.out]; decide
  have h4 : (x.toList == [112, 114, 105, 118, 97, 116, 101]) = false := by rw [hx.out]; decide
  have h5 : (x.toList == [112, 117, 98, 108, 105, 99]) = false := by rw [hx.out]; decide
  have h6 : (x.toList == [111, 110, 108, 121, 45, 105, 102, 45, 99, 97, 99, 104, 101, 100]) = false := by rw [hx.out]; decide
  have h7 : (x.toList == [109, 97, 120, 45, 97, 103, 101]) = false := by rw [hx.out]; decide
  have h8 : (x.toList == [115, 45, 109, 97, 120, 97, 103, 101]) = true := by rw [hx.out]; decide
  have HC := box hc
  clear hc
  go_enter Try.func24, Try.ntmps24
  go_wp2_with fail
  refine (cutName_is hs HX HR).mono ?_; rintro e w1 ⟨rfl, hb1⟩
  have C1 := box ((C.out.next hb1).drewN 1)
  have O1 := box ((Only.of (k := g) hb1).trans (Only.of (below_drewN w1 1)))
  clear hb1
  go_wp2
  go_region_held3 (fun _ => True) (trivial) (first
    | (go_at_call 37; refine (setFirst_yes g 8 n _ (by rw [← HC.out]; exact C2.out.1.2.2.2.2.2.2.2.2.1) C2.out.2.2.2.2.2.2.2.2.2.1).mono ?_; rintro e w3 ⟨rfl, rfl⟩)
    | (go_at_call 38; refine (number_is hr HN).mono ?_; rintro e w2 ⟨rfl, hb2⟩; have C2 := box (C1.out.next hb2); have O2 := box (O1.out.trans (Only.of (k := g) hb2)); clear hb2))
  go_wp2
  go_end0
  exact ⟨rfl, C2.out.set_sm n, O2.out.setAt 8 _⟩
theorem apply_sm0 (g : Nat) (c : CT) (s x r : ByteArray) (n : Int) (w : World) (hs : s.size ≤ 65000) (HX : Box (bs (lowL (namD s.data.toList)) = x)) (HR : Box (bs (rstD s.data.toList) = r)) (hr : r.size ≤ 65000) (HN : Box (numD 0 0 r.data.toList = n)) (hx : Box (x.toList = [115, 45, 109, 97, 120, 97, 103, 101])) (hc : (c.sm == -1) = false) (C : Box (Ct g c w)) :
    Calls Try.prog 24 #[.pointer (some ⟨g, 0, none⟩), .string s] w fun e w' => e = .returned (.tuple #[]) ∧ Ct g c w' ∧ Only g w w' := by
  have h0 : (x.toList == [110, 111, 45, 115, 116, 111, 114, 101]) = false := by rw [hx.out]; decide
  have h1 : (x.toList == [110, 111, 45, 99, 97, 99, 104, 101]) = false := by rw [hx.out]; decide
  have h2 : (x.toList == [109, 117, 115, 116, 45, 114, 101, 118, 97, 108, 105, 100, 97, 116, 101]) = false := by rw [hx.out]; decide
  have h3 : (x.toList == [112, 114, 111, 120, 121, 45, 114, 101, 118, 97, 108, 105, 100, 97, 116, 101]) = false := by rw [hx.out]; decide
  have h4 : (x.toList == [112, 114, 105, 118, 97, 116, 101]) = false := by rw [hx.out]; decide
  have h5 : (x.toList == [112, 117, 98, 108, 105, 99]) = false := by rw [hx.out]; decide
  have h6 : (x.toList == [111, 110, 108, 121, 45, 105, 102, 45, 99, 97, 99, 104, 101, 100]) = false := by rw [hx.out]; decide
  have h7 : (x.toList == [109, 97, 120, 45, 97, 103, 101]) = false := by rw [hx.out]; decide
  have h8 : (x.toList == [115, 45, 109, 97, 120, 97, 103, 101]) = true := by rw [hx.out]; decide
  have HC := box hc
  clear hc
  go_enter Try.func24, Try.ntmps24
  go_wp2_with fail
  refine (cutName_is hs HX HR).mono ?_; rintro e w1 ⟨rfl, hb1⟩
  have C1 := box ((C.out.next hb1).drewN 1)
  have O1 := box ((Only.of (k := g) hb1).trans (Only.of (below_drewN w1 1)))
  clear hb1
  go_wp2
  go_region_held3 (fun _ => True) (trivial) (first
    | (go_at_call 37; refine (setFirst_no g 8 n c.sm _ (C2.out.1.2.2.2.2.2.2.2.2.1) HC.out).mono ?_; rintro e w3 ⟨rfl, rfl⟩)
    | (go_at_call 38; refine (number_is hr HN).mono ?_; rintro e w2 ⟨rfl, hb2⟩; have C2 := box (C1.out.next hb2); have O2 := box (O1.out.trans (Only.of (k := g) hb2)); clear hb2))
  go_wp2
  go_end0
  exact ⟨rfl, C2.out, O2.out⟩
theorem apply_mf1 (g : Nat) (c : CT) (s x r : ByteArray) (n : Int) (w : World) (hs : s.size ≤ 65000) (HX : Box (bs (lowL (namD s.data.toList)) = x)) (HR : Box (bs (rstD s.data.toList) = r)) (hr : r.size ≤ 65000) (HN : Box (numD 2147483647 2147483647 r.data.toList = n)) (hx : Box (x.toList = [109, 105, 110, 45, 102, 114, 101, 115, 104])) (hc : c.mf = -1) (C : Box (Ct g c w)) :
    Calls Try.prog 24 #[.pointer (some ⟨g, 0, none⟩), .string s] w fun e w' => e = .returned (.tuple #[]) ∧ Ct g { c with mf := n } w' ∧ Only g w w' := by
  have h0 : (x.toList == [110, 111, 45, 115, 116, 111, 114, 101]) = false := by rw [hx.out]; decide
  have h1 : (x.toList == [110, 111, 45, 99, 97, 99, 104, 101]) = false := by rw [hx.out]; decide
  have h2 : (x.toList == [109, 117, 115, 116, 45, 114, 101, 118, 97, 108, 105, 100, 97, 116, 101]) = false := by rw [hx.out]; decide
  have h3 : (x.toList == [112, 114, 111, 120, 121, 45, 114, 101, 118, 97, 108, 105, 100, 97, 116, 101]) = false := by rw [hx.out]; decide
  have h4 : (x.toList == [112, 114, 105, 118, 97, 116, 101]) = false := by rw [hx.out]; decide
  have h5 : (x.toList == [112, 117, 98, 108, 105, 99]) = false := by rw [hx.out]; decide
  have h6 : (x.toList == [111, 110, 108, 121, 45, 105, 102, 45, 99, 97, 99, 104, 101, 100]) = false := by rw [hx.out]; decide
  have h7 : (x.toList == [109, 97, 120, 45, 97, 103, 101]) = false := by rw [hx.out]; decide
  have h8 : (x.toList == [115, 45, 109, 97, 120, 97, 103, 101]) = false := by rw [hx.out]; decide
  have h9 : (x.toList == [109, 105, 110, 45, 102, 114, 101, 115, 104]) = true := by rw [hx.out]; decide
  have HC := box hc
  clear hc
  go_enter Try.func24, Try.ntmps24
  go_wp2_with fail
  refine (cutName_is hs HX HR).mono ?_; rintro e w1 ⟨rfl, hb1⟩
  have C1 := box ((C.out.next hb1).drewN 1)
  have O1 := box ((Only.of (k := g) hb1).trans (Only.of (below_drewN w1 1)))
  clear hb1
  go_wp2
  go_region_held3 (fun _ => True) (trivial) (first
    | (go_at_call 37; refine (setFirst_yes g 9 n _ (by rw [← HC.out]; exact C2.out.1.2.2.2.2.2.2.2.2.2.1) C2.out.2.2.2.2.2.2.2.2.2.2.1).mono ?_; rintro e w3 ⟨rfl, rfl⟩)
    | (go_at_call 38; refine (number_is hr HN).mono ?_; rintro e w2 ⟨rfl, hb2⟩; have C2 := box (C1.out.next hb2); have O2 := box (O1.out.trans (Only.of (k := g) hb2)); clear hb2))
  go_wp2
  go_end0
  exact ⟨rfl, C2.out.set_mf n, O2.out.setAt 9 _⟩
theorem apply_mf0 (g : Nat) (c : CT) (s x r : ByteArray) (n : Int) (w : World) (hs : s.size ≤ 65000) (HX : Box (bs (lowL (namD s.data.toList)) = x)) (HR : Box (bs (rstD s.data.toList) = r)) (hr : r.size ≤ 65000) (HN : Box (numD 2147483647 2147483647 r.data.toList = n)) (hx : Box (x.toList = [109, 105, 110, 45, 102, 114, 101, 115, 104])) (hc : (c.mf == -1) = false) (C : Box (Ct g c w)) :
    Calls Try.prog 24 #[.pointer (some ⟨g, 0, none⟩), .string s] w fun e w' => e = .returned (.tuple #[]) ∧ Ct g c w' ∧ Only g w w' := by
  have h0 : (x.toList == [110, 111, 45, 115, 116, 111, 114, 101]) = false := by rw [hx.out]; decide
  have h1 : (x.toList == [110, 111, 45, 99, 97, 99, 104, 101]) = false := by rw [hx.out]; decide
  have h2 : (x.toList == [109, 117, 115, 116, 45, 114, 101, 118, 97, 108, 105, 100, 97, 116, 101]) = false := by rw [hx.out]; decide
  have h3 : (x.toList == [112, 114, 111, 120, 121, 45, 114, 101, 118, 97, 108, 105, 100, 97, 116, 101]) = false := by rw [hx.out]; decide
  have h4 : (x.toList == [112, 114, 105, 118, 97, 116, 101]) = false := by rw [hx.out]; decide
  have h5 : (x.toList == [112, 117, 98, 108, 105, 99]) = false := by rw [hx.out]; decide
  have h6 : (x.toList == [111, 110, 108, 121, 45, 105, 102, 45, 99, 97, 99, 104, 101, 100]) = false := by rw [hx.out]; decide
  have h7 : (x.toList == [109, 97, 120, 45, 97, 103, 101]) = false := by rw [hx.out]; decide
  have h8 : (x.toList == [115, 45, 109, 97, 120, 97, 103, 101]) = false := by rw [hx.out]; decide
  have h9 : (x.toList == [109, 105, 110, 45, 102, 114, 101, 115, 104]) = true := by rw [hx.out]; decide
  have HC := box hc
  clear hc
  go_enter Try.func24, Try.ntmps24
  go_wp2_with fail
  refine (cutName_is hs HX HR).mono ?_; rintro e w1 ⟨rfl, hb1⟩
  have C1 := box ((C.out.next hb1).drewN 1)
  have O1 := box ((Only.of (k := g) hb1).trans (Only.of (below_drewN w1 1)))
  clear hb1
  go_wp2
  go_region_held3 (fun _ => True) (trivial) (first
    | (go_at_call 37; refine (setFirst_no g 9 n c.mf _ (C2.out.1.2.2.2.2.2.2.2.2.2.1) HC.out).mono ?_; rintro e w3 ⟨rfl, rfl⟩)
    | (go_at_call 38; refine (number_is hr HN).mono ?_; rintro e w2 ⟨rfl, hb2⟩; have C2 := box (C1.out.next hb2); have O2 := box (O1.out.trans (Only.of (k := g) hb2)); clear hb2))
  go_wp2
  go_end0
  exact ⟨rfl, C2.out, O2.out⟩
theorem apply_ms1 (g : Nat) (c : CT) (s x r : ByteArray) (n : Int) (w : World) (hs : s.size ≤ 65000) (HX : Box (bs (lowL (namD s.data.toList)) = x)) (HR : Box (bs (rstD s.data.toList) = r)) (hr : r.size ≤ 65000) (HN : Box (numD 2147483647 0 r.data.toList = n)) (hx : Box (x.toList = [109, 97, 120, 45, 115, 116, 97, 108, 101])) (hc : c.ms = -1) (C : Box (Ct g c w)) :
    Calls Try.prog 24 #[.pointer (some ⟨g, 0, none⟩), .string s] w fun e w' => e = .returned (.tuple #[]) ∧ Ct g { c with ms := n } w' ∧ Only g w w' := by
  have h0 : (x.toList == [110, 111, 45, 115, 116, 111, 114, 101]) = false := by rw [hx.out]; decide
  have h1 : (x.toList == [110, 111, 45, 99, 97, 99, 104, 101]) = false := by rw [hx.out]; decide
  have h2 : (x.toList == [109, 117, 115, 116, 45, 114, 101, 118, 97, 108, 105, 100, 97, 116, 101]) = false := by rw [hx.out]; decide
  have h3 : (x.toList == [112, 114, 111, 120, 121, 45, 114, 101, 118, 97, 108, 105, 100, 97, 116, 101]) = false := by rw [hx.out]; decide
  have h4 : (x.toList == [112, 114, 105, 118, 97, 116, 101]) = false := by rw [hx.out]; decide
  have h5 : (x.toList == [112, 117, 98, 108, 105, 99]) = false := by rw [hx.out]; decide
  have h6 : (x.toList == [111, 110, 108, 121, 45, 105, 102, 45, 99, 97, 99, 104, 101, 100]) = false := by rw [hx.out]; decide
  have h7 : (x.toList == [109, 97, 120, 45, 97, 103, 101]) = false := by rw [hx.out]; decide
  have h8 : (x.toList == [115, 45, 109, 97, 120, 97, 103, 101]) = false := by rw [hx.out]; decide
  have h9 : (x.toList == [109, 105, 110, 45, 102, 114, 101, 115, 104]) = false := by rw [hx.out]; decide
  have h10 : (x.toList == [109, 97, 120, 45, 115, 116, 97, 108, 101]) = true := by rw [hx.out]; decide
  have HC := box hc
  clear hc
  go_enter Try.func24, Try.ntmps24
  go_wp2_with fail
  refine (cutName_is hs HX HR).mono ?_; rintro e w1 ⟨rfl, hb1⟩
  have C1 := box ((C.out.next hb1).drewN 1)
  have O1 := box ((Only.of (k := g) hb1).trans (Only.of (below_drewN w1 1)))
  clear hb1
  go_wp2
  go_region_held3 (fun _ => True) (trivial) (first
    | (go_at_call 37; refine (setFirst_yes g 10 n _ (by rw [← HC.out]; exact C2.out.1.2.2.2.2.2.2.2.2.2.2) C2.out.2.2.2.2.2.2.2.2.2.2.2).mono ?_; rintro e w3 ⟨rfl, rfl⟩)
    | (go_at_call 38; refine (number_is hr HN).mono ?_; rintro e w2 ⟨rfl, hb2⟩; have C2 := box (C1.out.next hb2); have O2 := box (O1.out.trans (Only.of (k := g) hb2)); clear hb2))
  go_wp2
  go_end0
  exact ⟨rfl, C2.out.set_ms n, O2.out.setAt 10 _⟩
theorem apply_ms0 (g : Nat) (c : CT) (s x r : ByteArray) (n : Int) (w : World) (hs : s.size ≤ 65000) (HX : Box (bs (lowL (namD s.data.toList)) = x)) (HR : Box (bs (rstD s.data.toList) = r)) (hr : r.size ≤ 65000) (HN : Box (numD 2147483647 0 r.data.toList = n)) (hx : Box (x.toList = [109, 97, 120, 45, 115, 116, 97, 108, 101])) (hc : (c.ms == -1) = false) (C : Box (Ct g c w)) :
    Calls Try.prog 24 #[.pointer (some ⟨g, 0, none⟩), .string s] w fun e w' => e = .returned (.tuple #[]) ∧ Ct g c w' ∧ Only g w w' := by
  have h0 : (x.toList == [110, 111, 45, 115, 116, 111, 114, 101]) = false := by rw [hx.out]; decide
  have h1 : (x.toList == [110, 111, 45, 99, 97, 99, 104, 101]) = false := by rw [hx.out]; decide
  have h2 : (x.toList == [109, 117, 115, 116, 45, 114, 101, 118, 97, 108, 105, 100, 97, 116, 101]) = false := by rw [hx.out]; decide
  have h3 : (x.toList == [112, 114, 111, 120, 121, 45, 114, 101, 118, 97, 108, 105, 100, 97, 116, 101]) = false := by rw [hx.out]; decide
  have h4 : (x.toList == [112, 114, 105, 118, 97, 116, 101]) = false := by rw [hx.out]; decide
  have h5 : (x.toList == [112, 117, 98, 108, 105, 99]) = false := by rw [hx.out]; decide
  have h6 : (x.toList == [111, 110, 108, 121, 45, 105, 102, 45, 99, 97, 99, 104, 101, 100]) = false := by rw [hx.out]; decide
  have h7 : (x.toList == [109, 97, 120, 45, 97, 103, 101]) = false := by rw [hx.out]; decide
  have h8 : (x.toList == [115, 45, 109, 97, 120, 97, 103, 101]) = false := by rw [hx.out]; decide
  have h9 : (x.toList == [109, 105, 110, 45, 102, 114, 101, 115, 104]) = false := by rw [hx.out]; decide
  have h10 : (x.toList == [109, 97, 120, 45, 115, 116, 97, 108, 101]) = true := by rw [hx.out]; decide
  have HC := box hc
  clear hc
  go_enter Try.func24, Try.ntmps24
  go_wp2_with fail
  refine (cutName_is hs HX HR).mono ?_; rintro e w1 ⟨rfl, hb1⟩
  have C1 := box ((C.out.next hb1).drewN 1)
  have O1 := box ((Only.of (k := g) hb1).trans (Only.of (below_drewN w1 1)))
  clear hb1
  go_wp2
  go_region_held3 (fun _ => True) (trivial) (first
    | (go_at_call 37; refine (setFirst_no g 10 n c.ms _ (C2.out.1.2.2.2.2.2.2.2.2.2.2) HC.out).mono ?_; rintro e w3 ⟨rfl, rfl⟩)
    | (go_at_call 38; refine (number_is hr HN).mono ?_; rintro e w2 ⟨rfl, hb2⟩; have C2 := box (C1.out.next hb2); have O2 := box (O1.out.trans (Only.of (k := g) hb2)); clear hb2))
  go_wp2
  go_end0
  exact ⟨rfl, C2.out, O2.out⟩
theorem apply_no (g : Nat) (c : CT) (s x r : ByteArray) (w : World) (hs : s.size ≤ 65000) (HX : Box (bs (lowL (namD s.data.toList)) = x)) (HR : Box (bs (rstD s.data.toList) = r)) (h0 : (x.toList == [110, 111, 45, 115, 116, 111, 114, 101]) = false) (h1 : (x.toList == [110, 111, 45, 99, 97, 99, 104, 101]) = false) (h2 : (x.toList == [109, 117, 115, 116, 45, 114, 101, 118, 97, 108, 105, 100, 97, 116, 101]) = false) (h3 : (x.toList == [112, 114, 111, 120, 121, 45, 114, 101, 118, 97, 108, 105, 100, 97, 116, 101]) = false) (h4 : (x.toList == [112, 114, 105, 118, 97, 116, 101]) = false) (h5 : (x.toList == [112, 117, 98, 108, 105, 99]) = false) (h6 : (x.toList == [111, 110, 108, 121, 45, 105, 102, 45, 99, 97, 99, 104, 101, 100]) = false) (h7 : (x.toList == [109, 97, 120, 45, 97, 103, 101]) = false) (h8 : (x.toList == [115, 45, 109, 97, 120, 97, 103, 101]) = false) (h9 : (x.toList == [109, 105, 110, 45, 102, 114, 101, 115, 104]) = false) (h10 : (x.toList == [109, 97, 120, 45, 115, 116, 97, 108, 101]) = false) (C : Box (Ct g c w)) :
    Calls Try.prog 24 #[.pointer (some ⟨g, 0, none⟩), .string s] w fun e w' => e = .returned (.tuple #[]) ∧ Ct g c w' ∧ Only g w w' := by
  go_enter Try.func24, Try.ntmps24
  go_wp2_with fail
  refine (cutName_is hs HX HR).mono ?_; rintro e w1 ⟨rfl, hb1⟩
  have C1 := C.out.next hb1
  have O1 := box (Only.of (k := g) hb1)
  clear hb1
  have CC := box C1
  clear C1
  go_wp2
  go_end0
  exact ⟨rfl, CC.out, O1.out⟩
theorem step_ns (c : CT) (r : List UInt8) : stepC c nsN r = { c with ns := true } := by
  have n1 : ¬ (nsN = ncN) := by decide
  have n2 : ¬ (nsN = mrN) := by decide
  have n3 : ¬ (nsN = prN) := by decide
  have n4 : ¬ (nsN = pvN) := by decide
  have n5 : ¬ (nsN = pbN) := by decide
  have n6 : ¬ (nsN = ocN) := by decide
  have n7 : ¬ (nsN = maN) := by decide
  have n8 : ¬ (nsN = smN) := by decide
  have n9 : ¬ (nsN = mfN) := by decide
  have n10 : ¬ (nsN = msN) := by decide
  simp [stepC, n1, n2, n3, n4, n5, n6, n7, n8, n9, n10]
theorem step_nc (c : CT) (r : List UInt8) : stepC c ncN r = { c with nc := true } := by
  have n0 : ¬ (ncN = nsN) := by decide
  have n2 : ¬ (ncN = mrN) := by decide
  have n3 : ¬ (ncN = prN) := by decide
  have n4 : ¬ (ncN = pvN) := by decide
  have n5 : ¬ (ncN = pbN) := by decide
  have n6 : ¬ (ncN = ocN) := by decide
  have n7 : ¬ (ncN = maN) := by decide
  have n8 : ¬ (ncN = smN) := by decide
  have n9 : ¬ (ncN = mfN) := by decide
  have n10 : ¬ (ncN = msN) := by decide
  simp [stepC, n0, n2, n3, n4, n5, n6, n7, n8, n9, n10]
theorem step_mr (c : CT) (r : List UInt8) : stepC c mrN r = { c with mr := true } := by
  have n0 : ¬ (mrN = nsN) := by decide
  have n1 : ¬ (mrN = ncN) := by decide
  have n3 : ¬ (mrN = prN) := by decide
  have n4 : ¬ (mrN = pvN) := by decide
  have n5 : ¬ (mrN = pbN) := by decide
  have n6 : ¬ (mrN = ocN) := by decide
  have n7 : ¬ (mrN = maN) := by decide
  have n8 : ¬ (mrN = smN) := by decide
  have n9 : ¬ (mrN = mfN) := by decide
  have n10 : ¬ (mrN = msN) := by decide
  simp [stepC, n0, n1, n3, n4, n5, n6, n7, n8, n9, n10]
theorem step_pr (c : CT) (r : List UInt8) : stepC c prN r = { c with pr := true } := by
  have n0 : ¬ (prN = nsN) := by decide
  have n1 : ¬ (prN = ncN) := by decide
  have n2 : ¬ (prN = mrN) := by decide
  have n4 : ¬ (prN = pvN) := by decide
  have n5 : ¬ (prN = pbN) := by decide
  have n6 : ¬ (prN = ocN) := by decide
  have n7 : ¬ (prN = maN) := by decide
  have n8 : ¬ (prN = smN) := by decide
  have n9 : ¬ (prN = mfN) := by decide
  have n10 : ¬ (prN = msN) := by decide
  simp [stepC, n0, n1, n2, n4, n5, n6, n7, n8, n9, n10]
theorem step_pv (c : CT) (r : List UInt8) : stepC c pvN r = { c with pv := true } := by
  have n0 : ¬ (pvN = nsN) := by decide
  have n1 : ¬ (pvN = ncN) := by decide
  have n2 : ¬ (pvN = mrN) := by decide
  have n3 : ¬ (pvN = prN) := by decide
  have n5 : ¬ (pvN = pbN) := by decide
  have n6 : ¬ (pvN = ocN) := by decide
  have n7 : ¬ (pvN = maN) := by decide
  have n8 : ¬ (pvN = smN) := by decide
  have n9 : ¬ (pvN = mfN) := by decide
  have n10 : ¬ (pvN = msN) := by decide
  simp [stepC, n0, n1, n2, n3, n5, n6, n7, n8, n9, n10]
theorem step_pb (c : CT) (r : List UInt8) : stepC c pbN r = { c with pb := true } := by
  have n0 : ¬ (pbN = nsN) := by decide
  have n1 : ¬ (pbN = ncN) := by decide
  have n2 : ¬ (pbN = mrN) := by decide
  have n3 : ¬ (pbN = prN) := by decide
  have n4 : ¬ (pbN = pvN) := by decide
  have n6 : ¬ (pbN = ocN) := by decide
  have n7 : ¬ (pbN = maN) := by decide
  have n8 : ¬ (pbN = smN) := by decide
  have n9 : ¬ (pbN = mfN) := by decide
  have n10 : ¬ (pbN = msN) := by decide
  simp [stepC, n0, n1, n2, n3, n4, n6, n7, n8, n9, n10]
theorem step_oc (c : CT) (r : List UInt8) : stepC c ocN r = { c with oc := true } := by
  have n0 : ¬ (ocN = nsN) := by decide
  have n1 : ¬ (ocN = ncN) := by decide
  have n2 : ¬ (ocN = mrN) := by decide
  have n3 : ¬ (ocN = prN) := by decide
  have n4 : ¬ (ocN = pvN) := by decide
  have n5 : ¬ (ocN = pbN) := by decide
  have n7 : ¬ (ocN = maN) := by decide
  have n8 : ¬ (ocN = smN) := by decide
  have n9 : ¬ (ocN = mfN) := by decide
  have n10 : ¬ (ocN = msN) := by decide
  simp [stepC, n0, n1, n2, n3, n4, n5, n7, n8, n9, n10]
theorem step_ma1 (c : CT) (r : List UInt8) (h : c.ma = -1) : stepC c maN r = { c with ma := numD 0 0 r } := by
  have n0 : ¬ (maN = nsN) := by decide
  have n1 : ¬ (maN = ncN) := by decide
  have n2 : ¬ (maN = mrN) := by decide
  have n3 : ¬ (maN = prN) := by decide
  have n4 : ¬ (maN = pvN) := by decide
  have n5 : ¬ (maN = pbN) := by decide
  have n6 : ¬ (maN = ocN) := by decide
  have n8 : ¬ (maN = smN) := by decide
  have n9 : ¬ (maN = mfN) := by decide
  have n10 : ¬ (maN = msN) := by decide
  simp [stepC, h, n0, n1, n2, n3, n4, n5, n6, n8, n9, n10]
theorem step_ma0 (c : CT) (r : List UInt8) (h : ¬ c.ma = -1) : stepC c maN r = c := by
  have n0 : ¬ (maN = nsN) := by decide
  have n1 : ¬ (maN = ncN) := by decide
  have n2 : ¬ (maN = mrN) := by decide
  have n3 : ¬ (maN = prN) := by decide
  have n4 : ¬ (maN = pvN) := by decide
  have n5 : ¬ (maN = pbN) := by decide
  have n6 : ¬ (maN = ocN) := by decide
  have n8 : ¬ (maN = smN) := by decide
  have n9 : ¬ (maN = mfN) := by decide
  have n10 : ¬ (maN = msN) := by decide
  simp [stepC, h, n0, n1, n2, n3, n4, n5, n6, n8, n9, n10]
theorem step_sm1 (c : CT) (r : List UInt8) (h : c.sm = -1) : stepC c smN r = { c with sm := numD 0 0 r } := by
  have n0 : ¬ (smN = nsN) := by decide
  have n1 : ¬ (smN = ncN) := by decide
  have n2 : ¬ (smN = mrN) := by decide
  have n3 : ¬ (smN = prN) := by decide
  have n4 : ¬ (smN = pvN) := by decide
  have n5 : ¬ (smN = pbN) := by decide
  have n6 : ¬ (smN = ocN) := by decide
  have n7 : ¬ (smN = maN) := by decide
  have n9 : ¬ (smN = mfN) := by decide
  have n10 : ¬ (smN = msN) := by decide
  simp [stepC, h, n0, n1, n2, n3, n4, n5, n6, n7, n9, n10]
theorem step_sm0 (c : CT) (r : List UInt8) (h : ¬ c.sm = -1) : stepC c smN r = c := by
  have n0 : ¬ (smN = nsN) := by decide
  have n1 : ¬ (smN = ncN) := by decide
  have n2 : ¬ (smN = mrN) := by decide
  have n3 : ¬ (smN = prN) := by decide
  have n4 : ¬ (smN = pvN) := by decide
  have n5 : ¬ (smN = pbN) := by decide
  have n6 : ¬ (smN = ocN) := by decide
  have n7 : ¬ (smN = maN) := by decide
  have n9 : ¬ (smN = mfN) := by decide
  have n10 : ¬ (smN = msN) := by decide
  simp [stepC, h, n0, n1, n2, n3, n4, n5, n6, n7, n9, n10]
theorem step_mf1 (c : CT) (r : List UInt8) (h : c.mf = -1) : stepC c mfN r = { c with mf := numD 2147483647 2147483647 r } := by
  have n0 : ¬ (mfN = nsN) := by decide
  have n1 : ¬ (mfN = ncN) := by decide
  have n2 : ¬ (mfN = mrN) := by decide
  have n3 : ¬ (mfN = prN) := by decide
  have n4 : ¬ (mfN = pvN) := by decide
  have n5 : ¬ (mfN = pbN) := by decide
  have n6 : ¬ (mfN = ocN) := by decide
  have n7 : ¬ (mfN = maN) := by decide
  have n8 : ¬ (mfN = smN) := by decide
  have n10 : ¬ (mfN = msN) := by decide
  simp [stepC, h, n0, n1, n2, n3, n4, n5, n6, n7, n8, n10]
theorem step_mf0 (c : CT) (r : List UInt8) (h : ¬ c.mf = -1) : stepC c mfN r = c := by
  have n0 : ¬ (mfN = nsN) := by decide
  have n1 : ¬ (mfN = ncN) := by decide
  have n2 : ¬ (mfN = mrN) := by decide
  have n3 : ¬ (mfN = prN) := by decide
  have n4 : ¬ (mfN = pvN) := by decide
  have n5 : ¬ (mfN = pbN) := by decide
  have n6 : ¬ (mfN = ocN) := by decide
  have n7 : ¬ (mfN = maN) := by decide
  have n8 : ¬ (mfN = smN) := by decide
  have n10 : ¬ (mfN = msN) := by decide
  simp [stepC, h, n0, n1, n2, n3, n4, n5, n6, n7, n8, n10]
theorem step_ms1 (c : CT) (r : List UInt8) (h : c.ms = -1) : stepC c msN r = { c with ms := numD 2147483647 0 r } := by
  have n0 : ¬ (msN = nsN) := by decide
  have n1 : ¬ (msN = ncN) := by decide
  have n2 : ¬ (msN = mrN) := by decide
  have n3 : ¬ (msN = prN) := by decide
  have n4 : ¬ (msN = pvN) := by decide
  have n5 : ¬ (msN = pbN) := by decide
  have n6 : ¬ (msN = ocN) := by decide
  have n7 : ¬ (msN = maN) := by decide
  have n8 : ¬ (msN = smN) := by decide
  have n9 : ¬ (msN = mfN) := by decide
  simp [stepC, h, n0, n1, n2, n3, n4, n5, n6, n7, n8, n9]
theorem step_ms0 (c : CT) (r : List UInt8) (h : ¬ c.ms = -1) : stepC c msN r = c := by
  have n0 : ¬ (msN = nsN) := by decide
  have n1 : ¬ (msN = ncN) := by decide
  have n2 : ¬ (msN = mrN) := by decide
  have n3 : ¬ (msN = prN) := by decide
  have n4 : ¬ (msN = pvN) := by decide
  have n5 : ¬ (msN = pbN) := by decide
  have n6 : ¬ (msN = ocN) := by decide
  have n7 : ¬ (msN = maN) := by decide
  have n8 : ¬ (msN = smN) := by decide
  have n9 : ¬ (msN = mfN) := by decide
  simp [stepC, h, n0, n1, n2, n3, n4, n5, n6, n7, n8, n9]
theorem step_no (c : CT) (x r : List UInt8) (n0 : ¬ (x = nsN)) (n1 : ¬ (x = ncN)) (n2 : ¬ (x = mrN)) (n3 : ¬ (x = prN)) (n4 : ¬ (x = pvN)) (n5 : ¬ (x = pbN)) (n6 : ¬ (x = ocN)) (n7 : ¬ (x = maN)) (n8 : ¬ (x = smN)) (n9 : ¬ (x = mfN)) (n10 : ¬ (x = msN)) : stepC c x r = c := by
  simp [stepC, n0, n1, n2, n3, n4, n5, n6, n7, n8, n9, n10]
theorem apply_any (g : Nat) (c c2 : CT) (s : ByteArray) (w : World) (hs : s.size ≤ 65000) (h2 : Box (stepC c (lowL (namD s.data.toList)) (rstD s.data.toList) = c2)) (C : Box (Ct g c w)) :
    Calls Try.prog 24 #[.pointer (some ⟨g, 0, none⟩), .string s] w fun e w' => e = .returned (.tuple #[]) ∧ Ct g c2 w' ∧ Only g w w' := by
  obtain ⟨X, hX⟩ : ∃ X, lowL (namD s.data.toList) = X := ⟨_, rfl⟩
  obtain ⟨R, hR⟩ : ∃ R, rstD s.data.toList = R := ⟨_, rfl⟩
  have HX : Box (bs (lowL (namD s.data.toList)) = bs X) := box (by rw [hX])
  have HR : Box (bs (rstD s.data.toList) = bs R) := box (by rw [hR])
  have hr : (bs R).size ≤ 65000 := by
    have e1 : (bs R).size = R.length := by unfold bs; rfl
    have e2 : s.data.toList.length = s.size := by simp
    have := rst_len s.data.toList
    rw [e1, ← hR]; omega
  have hd : (bs R).data.toList = R := bs_toList R
  rw [hX, hR] at h2
  have h2 := h2.out
  subst h2
  by_cases e0 : X = nsN
  · rw [e0, step_ns]
    exact apply_ns g c s (bs X) (bs R) w hs HX HR (box (by rw [toList_bs]; exact e0)) C
  by_cases e1 : X = ncN
  · rw [e1, step_nc]
    exact apply_nc g c s (bs X) (bs R) w hs HX HR (box (by rw [toList_bs]; exact e1)) C
  by_cases e2 : X = mrN
  · rw [e2, step_mr]
    exact apply_mr g c s (bs X) (bs R) w hs HX HR (box (by rw [toList_bs]; exact e2)) C
  by_cases e3 : X = prN
  · rw [e3, step_pr]
    exact apply_pr g c s (bs X) (bs R) w hs HX HR (box (by rw [toList_bs]; exact e3)) C
  by_cases e4 : X = pvN
  · rw [e4, step_pv]
    exact apply_pv g c s (bs X) (bs R) w hs HX HR (box (by rw [toList_bs]; exact e4)) C
  by_cases e5 : X = pbN
  · rw [e5, step_pb]
    exact apply_pb g c s (bs X) (bs R) w hs HX HR (box (by rw [toList_bs]; exact e5)) C
  by_cases e6 : X = ocN
  · rw [e6, step_oc]
    exact apply_oc g c s (bs X) (bs R) w hs HX HR (box (by rw [toList_bs]; exact e6)) C
  by_cases e7 : X = maN
  · by_cases q : c.ma = -1
    · rw [e7, step_ma1 c R q]
      exact apply_ma1 g c s (bs X) (bs R) _ w hs HX HR hr (box (by rw [hd])) (box (by rw [toList_bs]; exact e7)) q C
    · rw [e7, step_ma0 c R q]
      exact apply_ma0 g c s (bs X) (bs R) _ w hs HX HR hr (box rfl) (box (by rw [toList_bs]; exact e7)) (beq_eq_false_iff_ne.2 q) C
  by_cases e8 : X = smN
  · by_cases q : c.sm = -1
    · rw [e8, step_sm1 c R q]
      exact apply_sm1 g c s (bs X) (bs R) _ w hs HX HR hr (box (by rw [hd])) (box (by rw [toList_bs]; exact e8)) q C
    · rw [e8, step_sm0 c R q]
      exact apply_sm0 g c s (bs X) (bs R) _ w hs HX HR hr (box rfl) (box (by rw [toList_bs]; exact e8)) (beq_eq_false_iff_ne.2 q) C
  by_cases e9 : X = mfN
  · by_cases q : c.mf = -1
    · rw [e9, step_mf1 c R q]
      exact apply_mf1 g c s (bs X) (bs R) _ w hs HX HR hr (box (by rw [hd])) (box (by rw [toList_bs]; exact e9)) q C
    · rw [e9, step_mf0 c R q]
      exact apply_mf0 g c s (bs X) (bs R) _ w hs HX HR hr (box rfl) (box (by rw [toList_bs]; exact e9)) (beq_eq_false_iff_ne.2 q) C
  by_cases e10 : X = msN
  · by_cases q : c.ms = -1
    · rw [e10, step_ms1 c R q]
      exact apply_ms1 g c s (bs X) (bs R) _ w hs HX HR hr (box (by rw [hd])) (box (by rw [toList_bs]; exact e10)) q C
    · rw [e10, step_ms0 c R q]
      exact apply_ms0 g c s (bs X) (bs R) _ w hs HX HR hr (box rfl) (box (by rw [toList_bs]; exact e10)) (beq_eq_false_iff_ne.2 q) C
  rw [step_no c X R e0 e1 e2 e3 e4 e5 e6 e7 e8 e9 e10]
  exact apply_no g c s (bs X) (bs R) w hs HX HR (by rw [toList_bs]; exact beq_eq_false_iff_ne.2 e0) (by rw [toList_bs]; exact beq_eq_false_iff_ne.2 e1) (by rw [toList_bs]; exact beq_eq_false_iff_ne.2 e2) (by rw [toList_bs]; exact beq_eq_false_iff_ne.2 e3) (by rw [toList_bs]; exact beq_eq_false_iff_ne.2 e4) (by rw [toList_bs]; exact beq_eq_false_iff_ne.2 e5) (by rw [toList_bs]; exact beq_eq_false_iff_ne.2 e6) (by rw [toList_bs]; exact beq_eq_false_iff_ne.2 e7) (by rw [toList_bs]; exact beq_eq_false_iff_ne.2 e8) (by rw [toList_bs]; exact beq_eq_false_iff_ne.2 e9) (by rw [toList_bs]; exact beq_eq_false_iff_ne.2 e10) C

end Go.Proofs.Ytlcojfkkeommoaa.Asc
