/- Merged texts: CtlMine2 CtlMine3 DatMine DatMine2 DatMine3 DatMine4 DatMine5. -/
import Derived.Test.YtiogngfemelifaaDoorZs01
import Derived.Test.YtiogngfemelifaaDoorZs03
import Derived.Test.YtiogngfemelifaaDoorZs04
import Derived.Test.YtiogngfemelifaaDoorZs06
import Derived.Test.YtiogngfemelifaaDoorZs07
import Derived.Test.YtiogngfemelifaaDoorZs09
import Derived.BigQuiet
import Derived.Deep.RegionHeld3
import Derived.OwnWalk
set_option linter.unusedVariables false
set_option linter.unusedSimpArgs false
set_option maxRecDepth 100000
namespace Go.Proofs.YtiogngfemelifaaDoor.Asc
section
open Go.RowKit
theorem apply_ns (g : Nat) (c : CT) (s x r : ByteArray) (w : World) (hs : s.size ≤ 65000) (HX : Box (bs (lowL (namD s.data.toList)) = x)) (HR : Box (bs (rstD s.data.toList) = r)) (hx : Box (x.toList = [110, 111, 45, 115, 116, 111, 114, 101])) (C : Box (Ct g c w)) :
    Calls Tryd.prog 17 #[.pointer (some ⟨g, 0, none⟩), .string s] w fun e w' => e = .returned (.tuple #[]) ∧ Ct g { c with ns := true } w' ∧ Only g w w' := by
  have h0 : (x.toList == [110, 111, 45, 115, 116, 111, 114, 101]) = true := by rw [hx.out]; decide
  go_enter Tryd.func17, Tryd.ntmps17
  go_wp2_with fail
  refine (cutName_is hs HX HR).mono ?_; rintro e w1 ⟨rfl, hb1⟩
  have C1 := C.out.next hb1
  have O1 := box (Only.of (k := g) hb1)
  clear hb1
  have CC := box (C1.set_ns true)
  obtain ⟨⟨c0, c1, c2, c3, c4, c5, c6, c7, c8, c9, c10⟩, ⟨f0, f1, f2, f3, f4, f5, f6, f7, f8, f9, f10⟩⟩ := C1
  go_wp2
  go_end0
  exact ⟨rfl, CC.out, O1.out.setAt 0 _⟩
theorem apply_nc (g : Nat) (c : CT) (s x r : ByteArray) (w : World) (hs : s.size ≤ 65000) (HX : Box (bs (lowL (namD s.data.toList)) = x)) (HR : Box (bs (rstD s.data.toList) = r)) (hx : Box (x.toList = [110, 111, 45, 99, 97, 99, 104, 101])) (C : Box (Ct g c w)) :
    Calls Tryd.prog 17 #[.pointer (some ⟨g, 0, none⟩), .string s] w fun e w' => e = .returned (.tuple #[]) ∧ Ct g { c with nc := true } w' ∧ Only g w w' := by
  have h0 : (x.toList == [110, 111, 45, 115, 116, 111, 114, 101]) = false := by rw [hx.out]; decide
  have h1 : (x.toList == [110, 111, 45, 99, 97, 99, 104, 101]) = true := by rw [hx.out]; decide
  go_enter Tryd.func17, Tryd.ntmps17
  go_wp2_with fail
  refine (cutName_is hs HX HR).mono ?_; rintro e w1 ⟨rfl, hb1⟩
  have C1 := C.out.next hb1
  have O1 := box (Only.of (k := g) hb1)
  clear hb1
  have CC := box (C1.set_nc true)
  obtain ⟨⟨c0, c1, c2, c3, c4, c5, c6, c7, c8, c9, c10⟩, ⟨f0, f1, f2, f3, f4, f5, f6, f7, f8, f9, f10⟩⟩ := C1
  go_wp2
  go_end0
  exact ⟨rfl, CC.out, O1.out.setAt 1 _⟩
theorem apply_mr (g : Nat) (c : CT) (s x r : ByteArray) (w : World) (hs : s.size ≤ 65000) (HX : Box (bs (lowL (namD s.data.toList)) = x)) (HR : Box (bs (rstD s.data.toList) = r)) (hx : Box (x.toList = [109, 117, 115, 116, 45, 114, 101, 118, 97, 108, 105, 100, 97, 116, 101])) (C : Box (Ct g c w)) :
    Calls Tryd.prog 17 #[.pointer (some ⟨g, 0, none⟩), .string s] w fun e w' => e = .returned (.tuple #[]) ∧ Ct g { c with mr := true } w' ∧ Only g w w' := by
  have h0 : (x.toList == [110, 111, 45, 115, 116, 111, 114, 101]) = false := by rw [hx.out]; decide
  have h1 : (x.toList == [110, 111, 45, 99, 97, 99, 104, 101]) = false := by rw [hx.out]; decide
  have h2 : (x.toList == [109, 117, 115, 116, 45, 114, 101, 118, 97, 108, 105, 100, 97, 116, 101]) = true := by rw [hx.out]; decide
  go_enter Tryd.func17, Tryd.ntmps17
  go_wp2_with fail
  refine (cutName_is hs HX HR).mono ?_; rintro e w1 ⟨rfl, hb1⟩
  have C1 := C.out.next hb1
  have O1 := box (Only.of (k := g) hb1)
  clear hb1
  have CC := box (C1.set_mr true)
  obtain ⟨⟨c0, c1, c2, c3, c4, c5, c6, c7, c8, c9, c10⟩, ⟨f0, f1, f2, f3, f4, f5, f6, f7, f8, f9, f10⟩⟩ := C1
  go_wp2
  go_end0
  exact ⟨rfl, CC.out, O1.out.setAt 2 _⟩
theorem apply_pr (g : Nat) (c : CT) (s x r : ByteArray) (w : World) (hs : s.size ≤ 65000) (HX : Box (bs (lowL (namD s.data.toList)) = x)) (HR : Box (bs (rstD s.data.toList) = r)) (hx : Box (x.toList = [112, 114, 111, 120, 121, 45, 114, 101, 118, 97, 108, 105, 100, 97, 116, 101])) (C : Box (Ct g c w)) :
    Calls Tryd.prog 17 #[.pointer (some ⟨g, 0, none⟩), .string s] w fun e w' => e = .returned (.tuple #[]) ∧ Ct g { c with pr := true } w' ∧ Only g w w' := by
  have h0 : (x.toList == [110, 111, 45, 115, 116, 111, 114, 101]) = false := by rw [hx.out]; decide
  have h1 : (x.toList == [110, 111, 45, 99, 97, 99, 104, 101]) = false := by rw [hx.out]; decide
  have h2 : (x.toList == [109, 117, 115, 116, 45, 114, 101, 118, 97, 108, 105, 100, 97, 116, 101]) = false := by rw [hx.out]; decide
  have h3 : (x.toList == [112, 114, 111, 120, 121, 45, 114, 101, 118, 97, 108, 105, 100, 97, 116, 101]) = true := by rw [hx.out]; decide
  go_enter Tryd.func17, Tryd.ntmps17
  go_wp2_with fail
  refine (cutName_is hs HX HR).mono ?_; rintro e w1 ⟨rfl, hb1⟩
  have C1 := C.out.next hb1
  have O1 := box (Only.of (k := g) hb1)
  clear hb1
  have CC := box (C1.set_pr true)
  obtain ⟨⟨c0, c1, c2, c3, c4, c5, c6, c7, c8, c9, c10⟩, ⟨f0, f1, f2, f3, f4, f5, f6, f7, f8, f9, f10⟩⟩ := C1
  go_wp2
  go_end0
  exact ⟨rfl, CC.out, O1.out.setAt 3 _⟩
theorem apply_pv (g : Nat) (c : CT) (s x r : ByteArray) (w : World) (hs : s.size ≤ 65000) (HX : Box (bs (lowL (namD s.data.toList)) = x)) (HR : Box (bs (rstD s.data.toList) = r)) (hx : Box (x.toList = [112, 114, 105, 118, 97, 116, 101])) (C : Box (Ct g c w)) :
    Calls Tryd.prog 17 #[.pointer (some ⟨g, 0, none⟩), .string s] w fun e w' => e = .returned (.tuple #[]) ∧ Ct g { c with pv := true } w' ∧ Only g w w' := by
  have h0 : (x.toList == [110, 111, 45, 115, 116, 111, 114, 101]) = false := by rw [hx.out]; decide
  have h1 : (x.toList == [110, 111, 45, 99, 97, 99, 104, 101]) = false := by rw [hx.out]; decide
  have h2 : (x.toList == [109, 117, 115, 116, 45, 114, 101, 118, 97, 108, 105, 100, 97, 116, 101]) = false := by rw [hx.out]; decide
  have h3 : (x.toList == [112, 114, 111, 120, 121, 45, 114, 101, 118, 97, 108, 105, 100, 97, 116, 101]) = false := by rw [hx.out]; decide
  have h4 : (x.toList == [112, 114, 105, 118, 97, 116, 101]) = true := by rw [hx.out]; decide
  go_enter Tryd.func17, Tryd.ntmps17
  go_wp2_with fail
  refine (cutName_is hs HX HR).mono ?_; rintro e w1 ⟨rfl, hb1⟩
  have C1 := C.out.next hb1
  have O1 := box (Only.of (k := g) hb1)
  clear hb1
  have CC := box (C1.set_pv true)
  obtain ⟨⟨c0, c1, c2, c3, c4, c5, c6, c7, c8, c9, c10⟩, ⟨f0, f1, f2, f3, f4, f5, f6, f7, f8, f9, f10⟩⟩ := C1
  go_wp2
  go_end0
  exact ⟨rfl, CC.out, O1.out.setAt 4 _⟩
theorem apply_pb (g : Nat) (c : CT) (s x r : ByteArray) (w : World) (hs : s.size ≤ 65000) (HX : Box (bs (lowL (namD s.data.toList)) = x)) (HR : Box (bs (rstD s.data.toList) = r)) (hx : Box (x.toList = [112, 117, 98, 108, 105, 99])) (C : Box (Ct g c w)) :
    Calls Tryd.prog 17 #[.pointer (some ⟨g, 0, none⟩), .string s] w fun e w' => e = .returned (.tuple #[]) ∧ Ct g { c with pb := true } w' ∧ Only g w w' := by
  have h0 : (x.toList == [110, 111, 45, 115, 116, 111, 114, 101]) = false := by rw [hx.out]; decide
  have h1 : (x.toList == [110, 111, 45, 99, 97, 99, 104, 101]) = false := by rw [hx.out]; decide
  have h2 : (x.toList == [109, 117, 115, 116, 45, 114, 101, 118, 97, 108, 105, 100, 97, 116, 101]) = false := by rw [hx.out]; decide
  have h3 : (x.toList == [112, 114, 111, 120, 121, 45, 114, 101, 118, 97, 108, 105, 100, 97, 116, 101]) = false := by rw [hx.out]; decide
  have h4 : (x.toList == [112, 114, 105, 118, 97, 116, 101]) = false := by rw [hx.out]; decide
  have h5 : (x.toList == [112, 117, 98, 108, 105, 99]) = true := by rw [hx.out]; decide
  go_enter Tryd.func17, Tryd.ntmps17
  go_wp2_with fail
  refine (cutName_is hs HX HR).mono ?_; rintro e w1 ⟨rfl, hb1⟩
  have C1 := C.out.next hb1
  have O1 := box (Only.of (k := g) hb1)
  clear hb1
  have CC := box (C1.set_pb true)
  obtain ⟨⟨c0, c1, c2, c3, c4, c5, c6, c7, c8, c9, c10⟩, ⟨f0, f1, f2, f3, f4, f5, f6, f7, f8, f9, f10⟩⟩ := C1
  go_wp2
  go_end0
  exact ⟨rfl, CC.out, O1.out.setAt 5 _⟩
theorem apply_oc (g : Nat) (c : CT) (s x r : ByteArray) (w : World) (hs : s.size ≤ 65000) (HX : Box (bs (lowL (namD s.data.toList)) = x)) (HR : Box (bs (rstD s.data.toList) = r)) (hx : Box (x.toList = [111, 110, 108, 121, 45, 105, 102, 45, 99, 97, 99, 104, 101, 100])) (C : Box (Ct g c w)) :
    Calls Tryd.prog 17 #[.pointer (some ⟨g, 0, none⟩), .string s] w fun e w' => e = .returned (.tuple #[]) ∧ Ct g { c with oc := true } w' ∧ Only g w w' := by
  have h0 : (x.toList == [110, 111, 45, 115, 116, 111, 114, 101]) = false := by rw [hx.out]; decide
  have h1 : (x.toList == [110, 111, 45, 99, 97, 99, 104, 101]) = false := by rw [hx.out]; decide
  have h2 : (x.toList == [109, 117, 115, 116, 45, 114, 101, 118, 97, 108, 105, 100, 97, 116, 101]) = false := by rw [hx.out]; decide
  have h3 : (x.toList == [112, 114, 111, 120, 121, 45, 114, 101, 118, 97, 108, 105, 100, 97, 116, 101]) = false := by rw [hx.out]; decide
  have h4 : (x.toList == [112, 114, 105, 118, 97, 116, 101]) = false := by rw [hx.out]; decide
  have h5 : (x.toList == [112, 117, 98, 108, 105, 99]) = false := by rw [hx.out]; decide
  have h6 : (x.toList == [111, 110, 108, 121, 45, 105, 102, 45, 99, 97, 99, 104, 101, 100]) = true := by rw [hx.out]; decide
  go_enter Tryd.func17, Tryd.ntmps17
  go_wp2_with fail
  refine (cutName_is hs HX HR).mono ?_; rintro e w1 ⟨rfl, hb1⟩
  have C1 := C.out.next hb1
  have O1 := box (Only.of (k := g) hb1)
  clear hb1
  have CC := box (C1.set_oc true)
  obtain ⟨⟨c0, c1, c2, c3, c4, c5, c6, c7, c8, c9, c10⟩, ⟨f0, f1, f2, f3, f4, f5, f6, f7, f8, f9, f10⟩⟩ := C1
  go_wp2
  go_end0
  exact ⟨rfl, CC.out, O1.out.setAt 6 _⟩
theorem apply_ma1 (g : Nat) (c : CT) (s x r : ByteArray) (n : Int) (w : World) (hs : s.size ≤ 65000) (HX : Box (bs (lowL (namD s.data.toList)) = x)) (HR : Box (bs (rstD s.data.toList) = r)) (hr : r.size ≤ 65000) (HN : Box (numD 0 0 r.data.toList = n)) (hx : Box (x.toList = [109, 97, 120, 45, 97, 103, 101])) (hc : c.ma = -1) (C : Box (Ct g c w)) :
    Calls Tryd.prog 17 #[.pointer (some ⟨g, 0, none⟩), .string s] w fun e w' => e = .returned (.tuple #[]) ∧ Ct g { c with ma := n } w' ∧ Only g w w' := by
  have h0 : (x.toList == [110, 111, 45, 115, 116, 111, 114, 101]) = false := by rw [hx.out]; decide
  have h1 : (x.toList == [110, 111, 45, 99, 97, 99, 104, 101]) = false := by rw [hx.out]; decide
  have h2 : (x.toList == [109, 117, 115, 116, 45, 114, 101, 118, 97, 108, 105, 100, 97, 116, 101]) = false := by rw [hx.out]; decide
  have h3 : (x.toList == [112, 114, 111, 120, 121, 45, 114, 101, 118, 97, 108, 105, 100, 97, 116, 101]) = false := by rw [hx.out]; decide
  have h4 : (x.toList == [112, 114, 105, 118, 97, 116, 101]) = false := by rw [hx.out]; decide
  have h5 : (x.toList == [112, 117, 98, 108, 105, 99]) = false := by rw [hx.out]; decide
  have h6 : (x.toList == [111, 110, 108, 121, 45, 105, 102, 45, 99, 97, 99, 104, 101, 100]) = false := by rw [hx.out]; decide
  have h7 : (x.toList == [109, 97, 120, 45, 97, 103, 101]) = true := by rw [hx.out]; decide
  have HC := box hc
  clear hc
  go_enter Tryd.func17, Tryd.ntmps17
  go_wp2_with fail
  refine (cutName_is hs HX HR).mono ?_; rintro e w1 ⟨rfl, hb1⟩
  have C1 := box ((C.out.next hb1).drewN 1)
  have O1 := box ((Only.of (k := g) hb1).trans (Only.of (below_drewN w1 1)))
  clear hb1
  go_wp2
  go_region_held3 (fun _ => True) (trivial) (first
    | (go_at_call 31; refine (setFirst_yes g 7 n _ (by rw [← HC.out]; exact C2.out.1.2.2.2.2.2.2.2.1) C2.out.2.2.2.2.2.2.2.2.1).mono ?_; rintro e w3 ⟨rfl, rfl⟩)
    | (go_at_call 32; refine (number_is hr HN).mono ?_; rintro e w2 ⟨rfl, hb2⟩; have C2 := box (C1.out.next hb2); have O2 := box (O1.out.trans (Only.of (k := g) hb2)); clear hb2))
  go_wp2
  go_end0
  exact ⟨rfl, C2.out.set_ma n, O2.out.setAt 7 _⟩
theorem apply_ma0 (g : Nat) (c : CT) (s x r : ByteArray) (n : Int) (w : World) (hs : s.size ≤ 65000) (HX : Box (bs (lowL (namD s.data.toList)) = x)) (HR : Box (bs (rstD s.data.toList) = r)) (hr : r.size ≤ 65000) (HN : Box (numD 0 0 r.data.toList = n)) (hx : Box (x.toList = [109, 97, 120, 45, 97, 103, 101])) (hc : (c.ma == -1) = false) (C : Box (Ct g c w)) :
    Calls Tryd.prog 17 #[.pointer (some ⟨g, 0, none⟩), .string s] w fun e w' => e = .returned (.tuple #[]) ∧ Ct g c w' ∧ Only g w w' := by
  have h0 : (x.toList == [110, 111, 45, 115, 116, 111, 114, 101]) = false := by rw [hx.out]; decide
  have h1 : (x.toList == [110, 111, 45, 99, 97, 99, 104, 101]) = false := by rw [hx.out]; decide
  have h2 : (x.toList == [109, 117, 115, 116, 45, 114, 101, 118, 97, 108, 105, 100, 97, 116, 101]) = false := by rw [hx.out]; decide
  have h3 : (x.toList == [112, 114, 111, 120, 121, 45, 114, 101, 118, 97, 108, 105, 100, 97, 116, 101]) = false := by rw [hx.out]; decide
  have h4 : (x.toList == [112, 114, 105, 118, 97, 116, 101]) = false := by rw [hx.out]; decide
  have h5 : (x.toList == [112, 117, 98, 108, 105, 99]) = false := by rw [hx.out]; decide
  have h6 : (x.toList == [111, 110, 108, 121, 45, 105, 102, 45, 99, 97, 99, 104, 101, 100]) = false := by rw [hx.out]; decide
  have h7 : (x.toList == [109, 97, 120, 45, 97, 103, 101]) = true := by rw [hx.out]; decide
  have HC := box hc
  clear hc
  go_enter Tryd.func17, Tryd.ntmps17
  go_wp2_with fail
  refine (cutName_is hs HX HR).mono ?_; rintro e w1 ⟨rfl, hb1⟩
  have C1 := box ((C.out.next hb1).drewN 1)
  have O1 := box ((Only.of (k := g) hb1).trans (Only.of (below_drewN w1 1)))
  clear hb1
  go_wp2
  go_region_held3 (fun _ => True) (trivial) (first
    | (go_at_call 31; refine (setFirst_no g 7 n c.ma _ (C2.out.1.2.2.2.2.2.2.2.1) HC.out).mono ?_; rintro e w3 ⟨rfl, rfl⟩)
    | (go_at_call 32; refine (number_is hr HN).mono ?_; rintro e w2 ⟨rfl, hb2⟩; have C2 := box (C1.out.next hb2); have O2 := box (O1.out.trans (Only.of (k := g) hb2)); clear hb2))
  go_wp2
  go_end0
  exact ⟨rfl, C2.out, O2.out⟩
theorem apply_sm1 (g : Nat) (c : CT) (s x r : ByteArray) (n : Int) (w : World) (hs : s.size ≤ 65000) (HX : Box (bs (lowL (namD s.data.toList)) = x)) (HR : Box (bs (rstD s.data.toList) = r)) (hr : r.size ≤ 65000) (HN : Box (numD 0 0 r.data.toList = n)) (hx : Box (x.toList = [115, 45, 109, 97, 120, 97, 103, 101])) (hc : c.sm = -1) (C : Box (Ct g c w)) :
    Calls Tryd.prog 17 #[.pointer (some ⟨g, 0, none⟩), .string s] w fun e w' => e = .returned (.tuple #[]) ∧ Ct g { c with sm := n } w' ∧ Only g w w' := by
  have h0 : (x.toList == [110, 111, 45, 115, 116, 111, 114, 101]) = false := by rw [hx.out]; decide
  have h1 : (x.toList == [110, 111, 45, 99, 97, 99, 104, 101]) = false := by rw [hx.out]; decide
  have h2 : (x.toList == [109, 117, 115, 116, 45, 114, 101, 118, 97, 108, 105, 100, 97, 116, 101]) = false := by rw [hx.out]; decide
  have h3 : (x.toList == [112, 114, 111, 120, 121, 45, 114, 101, 118, 97, 108, 105, 100, 97, 116, 101]) = false := by rw [hx.out]; decide
  have h4 : (x.toList == [112, 114, 105, 118, 97, 116, 101]) = false := by rw [hx.out]; decide
  have h5 : (x.toList == [112, 117, 98, 108, 105, 99]) = false := by rw [hx.out]; decide
  have h6 : (x.toList == [111, 110, 108, 121, 45, 105, 102, 45, 99, 97, 99, 104, 101, 100]) = false := by rw [hx.out]; decide
  have h7 : (x.toList == [109, 97, 120, 45, 97, 103, 101]) = false := by rw [hx.out]; decide
  have h8 : (x.toList == [115, 45, 109, 97, 120, 97, 103, 101]) = true := by rw [hx.out]; decide
  have HC := box hc
  clear hc
  go_enter Tryd.func17, Tryd.ntmps17
  go_wp2_with fail
  refine (cutName_is hs HX HR).mono ?_; rintro e w1 ⟨rfl, hb1⟩
  have C1 := box ((C.out.next hb1).drewN 1)
  have O1 := box ((Only.of (k := g) hb1).trans (Only.of (below_drewN w1 1)))
  clear hb1
  go_wp2
  go_region_held3 (fun _ => True) (trivial) (first
    | (go_at_call 31; refine (setFirst_yes g 8 n _ (by rw [← HC.out]; exact C2.out.1.2.2.2.2.2.2.2.2.1) C2.out.2.2.2.2.2.2.2.2.2.1).mono ?_; rintro e w3 ⟨rfl, rfl⟩)
    | (go_at_call 32; refine (number_is hr HN).mono ?_; rintro e w2 ⟨rfl, hb2⟩; have C2 := box (C1.out.next hb2); have O2 := box (O1.out.trans (Only.of (k := g) hb2)); clear hb2))
  go_wp2
  go_end0
  exact ⟨rfl, C2.out.set_sm n, O2.out.setAt 8 _⟩
theorem apply_sm0 (g : Nat) (c : CT) (s x r : ByteArray) (n : Int) (w : World) (hs : s.size ≤ 65000) (HX : Box (bs (lowL (namD s.data.toList)) = x)) (HR : Box (bs (rstD s.data.toList) = r)) (hr : r.size ≤ 65000) (HN : Box (numD 0 0 r.data.toList = n)) (hx : Box (x.toList = [115, 45, 109, 97, 120, 97, 103, 101])) (hc : (c.sm == -1) = false) (C : Box (Ct g c w)) :
    Calls Tryd.prog 17 #[.pointer (some ⟨g, 0, none⟩), .string s] w fun e w' => e = .returned (.tuple #[]) ∧ Ct g c w' ∧ Only g w w' := by
  have h0 : (x.toList == [110, 111, 45, 115, 116, 111, 114, 101]) = false := by rw [hx.out]; decide
  have h1 : (x.toList == [110, 111, 45, 99, 97, 99, 104, 101]) = false := by rw [hx.out]; decide
  have h2 : (x.toList == [109, 117, 115, 116, 45, 114, 101, 118, 97, 108, 105, 100, 97, 116, 101]) = false := by rw [hx.out]; decide
  have h3 : (x.toList == [112, 114, 111, 120, 121, 45, 114, 101, 118, 97, 108, 105, 100, 97, 116, 101]) = false := by rw [hx.out]; decide
  have h4 : (x.toList == [112, 114, 105, 118, 97, 116, 101]) = false := by rw [hx.out]; decide
  have h5 : (x.toList == [112, 117, 98, 108, 105, 99]) = false := by rw [hx.out]; decide
  have h6 : (x.toList == [111, 110, 108, 121, 45, 105, 102, 45, 99, 97, 99, 104, 101, 100]) = false := by rw [hx.out]; decide
  have h7 : (x.toList == [109, 97, 120, 45, 97, 103, 101]) = false := by rw [hx.out]; decide
  have h8 : (x.toList == [115, 45, 109, 97, 120, 97, 103, 101]) = true := by rw [hx.out]; decide
  have HC := box hc
  clear hc
  go_enter Tryd.func17, Tryd.ntmps17
  go_wp2_with fail
  refine (cutName_is hs HX HR).mono ?_; rintro e w1 ⟨rfl, hb1⟩
  have C1 := box ((C.out.next hb1).drewN 1)
  have O1 := box ((Only.of (k := g) hb1).trans (Only.of (below_drewN w1 1)))
  clear hb1
  go_wp2
  go_region_held3 (fun _ => True) (trivial) (first
    | (go_at_call 31; refine (setFirst_no g 8 n c.sm _ (C2.out.1.2.2.2.2.2.2.2.2.1) HC.out).mono ?_; rintro e w3 ⟨rfl, rfl⟩)
    | (go_at_call 32; refine (number_is hr HN).mono ?_; rintro e w2 ⟨rfl, hb2⟩; have C2 := box (C1.out.next hb2); have O2 := box (O1.out.trans (Only.of (k := g) hb2)); clear hb2))
  go_wp2
  go_end0
  exact ⟨rfl, C2.out, O2.out⟩
theorem apply_mf1 (g : Nat) (c : CT) (s x r : ByteArray) (n : Int) (w : World) (hs : s.size ≤ 65000) (HX : Box (bs (lowL (namD s.data.toList)) = x)) (HR : Box (bs (rstD s.data.toList) = r)) (hr : r.size ≤ 65000) (HN : Box (numD 2147483647 2147483647 r.data.toList = n)) (hx : Box (x.toList = [109, 105, 110, 45, 102, 114, 101, 115, 104])) (hc : c.mf = -1) (C : Box (Ct g c w)) :
    Calls Tryd.prog 17 #[.pointer (some ⟨g, 0, none⟩), .string s] w fun e w' => e = .returned (.tuple #[]) ∧ Ct g { c with mf := n } w' ∧ Only g w w' := by
  have h0 : (x.toList == [110, 111, 45, 115, 116, 111, 114, 101]) = false := by rw [hx.out]; decide
  have h1 : (x.toList == [110, 111, 45, 99, 97, 99, 104, 101]) = false := by rw [hx.out]; decide
  have h2 : (x.toList == [109, 117, 115, 116, 45, 114, 101, 118, 97, 108, 105, 100, 97, 116, 101]) = false := by rw [hx.out]; decide
  have h3 : (x.toList == [112, 114, 111, 120, 121, 45, 114, 101, 118, 97, 108, 105, 100, 97, 116, 101]) = false := by rw [hx.out]; decide
  have h4 : (x.toList == [112, 114, 105, 118, 97, 116, 101]) = false := by rw [hx.out]; decide
  have h5 : (x.toList == [112, 117, 98, 108, 105, 99]) = false := by rw [hx.out]; decide
  have h6 : (x.toList == [111, 110, 108, 121, 45, 105, 102, 45, 99, 97, 99, 104, 101, 100]) = false := by rw [hx.out]; decide
  have h7 : (x.toList == [109, 97, 120, 45, 97, 103, 101]) = false := by rw [hx.out]; decide
  have h8 : (x.toList == [115, 45, 109, 97, 120, 97, 103, 101]) = false := by rw [hx.out]; decide
  have h9 : (x.toList == [109, 105, 110, 45, 102, 114, 101, 115, 104]) = true := by rw [hx.out]; decide
  have HC := box hc
  clear hc
  go_enter Tryd.func17, Tryd.ntmps17
  go_wp2_with fail
  refine (cutName_is hs HX HR).mono ?_; rintro e w1 ⟨rfl, hb1⟩
  have C1 := box ((C.out.next hb1).drewN 1)
  have O1 := box ((Only.of (k := g) hb1).trans (Only.of (below_drewN w1 1)))
  clear hb1
  go_wp2
  go_region_held3 (fun _ => True) (trivial) (first
    | (go_at_call 31; refine (setFirst_yes g 9 n _ (by rw [← HC.out]; exact C2.out.1.2.2.2.2.2.2.2.2.2.1) C2.out.2.2.2.2.2.2.2.2.2.2.1).mono ?_; rintro e w3 ⟨rfl, rfl⟩)
    | (go_at_call 32; refine (number_is hr HN).mono ?_; rintro e w2 ⟨rfl, hb2⟩; have C2 := box (C1.out.next hb2); have O2 := box (O1.out.trans (Only.of (k := g) hb2)); clear hb2))
  go_wp2
  go_end0
  exact ⟨rfl, C2.out.set_mf n, O2.out.setAt 9 _⟩
theorem apply_mf0 (g : Nat) (c : CT) (s x r : ByteArray) (n : Int) (w : World) (hs : s.size ≤ 65000) (HX : Box (bs (lowL (namD s.data.toList)) = x)) (HR : Box (bs (rstD s.data.toList) = r)) (hr : r.size ≤ 65000) (HN : Box (numD 2147483647 2147483647 r.data.toList = n)) (hx : Box (x.toList = [109, 105, 110, 45, 102, 114, 101, 115, 104])) (hc : (c.mf == -1) = false) (C : Box (Ct g c w)) :
    Calls Tryd.prog 17 #[.pointer (some ⟨g, 0, none⟩), .string s] w fun e w' => e = .returned (.tuple #[]) ∧ Ct g c w' ∧ Only g w w' := by
  have h0 : (x.toList == [110, 111, 45, 115, 116, 111, 114, 101]) = false := by rw [hx.out]; decide
  have h1 : (x.toList == [110, 111, 45, 99, 97, 99, 104, 101]) = false := by rw [hx.out]; decide
  have h2 : (x.toList == [109, 117, 115, 116, 45, 114, 101, 118, 97, 108, 105, 100, 97, 116, 101]) = false := by rw [hx.out]; decide
  have h3 : (x.toList == [112, 114, 111, 120, 121, 45, 114, 101, 118, 97, 108, 105, 100, 97, 116, 101]) = false := by rw [hx.out]; decide
  have h4 : (x.toList == [112, 114, 105, 118, 97, 116, 101]) = false := by rw [hx.out]; decide
  have h5 : (x.toList == [112, 117, 98, 108, 105, 99]) = false := by rw [hx.out]; decide
  have h6 : (x.toList == [111, 110, 108, 121, 45, 105, 102, 45, 99, 97, 99, 104, 101, 100]) = false := by rw [hx.out]; decide
  have h7 : (x.toList == [109, 97, 120, 45, 97, 103, 101]) = false := by rw [hx.out]; decide
  have h8 : (x.toList == [115, 45, 109, 97, 120, 97, 103, 101]) = false := by rw [hx.out]; decide
  have h9 : (x.toList == [109, 105, 110, 45, 102, 114, 101, 115, 104]) = true := by rw [hx.out]; decide
  have HC := box hc
  clear hc
  go_enter Tryd.func17, Tryd.ntmps17
  go_wp2_with fail
  refine (cutName_is hs HX HR).mono ?_; rintro e w1 ⟨rfl, hb1⟩
  have C1 := box ((C.out.next hb1).drewN 1)
  have O1 := box ((Only.of (k := g) hb1).trans (Only.of (below_drewN w1 1)))
  clear hb1
  go_wp2
  go_region_held3 (fun _ => True) (trivial) (first
    | (go_at_call 31; refine (setFirst_no g 9 n c.mf _ (C2.out.1.2.2.2.2.2.2.2.2.2.1) HC.out).mono ?_; rintro e w3 ⟨rfl, rfl⟩)
    | (go_at_call 32; refine (number_is hr HN).mono ?_; rintro e w2 ⟨rfl, hb2⟩; have C2 := box (C1.out.next hb2); have O2 := box (O1.out.trans (Only.of (k := g) hb2)); clear hb2))
  go_wp2
  go_end0
  exact ⟨rfl, C2.out, O2.out⟩
theorem apply_ms1 (g : Nat) (c : CT) (s x r : ByteArray) (n : Int) (w : World) (hs : s.size ≤ 65000) (HX : Box (bs (lowL (namD s.data.toList)) = x)) (HR : Box (bs (rstD s.data.toList) = r)) (hr : r.size ≤ 65000) (HN : Box (numD 2147483647 0 r.data.toList = n)) (hx : Box (x.toList = [109, 97, 120, 45, 115, 116, 97, 108, 101])) (hc : c.ms = -1) (C : Box (Ct g c w)) :
    Calls Tryd.prog 17 #[.pointer (some ⟨g, 0, none⟩), .string s] w fun e w' => e = .returned (.tuple #[]) ∧ Ct g { c with ms := n } w' ∧ Only g w w' := by
  have h0 : (x.toList == [110, 111, 45, 115, 116, 111, 114, 101]) = false := by rw [hx.out]; decide
  have h1 : (x.toList == [110, 111, 45, 99, 97, 99, 104, 101]) = false := by rw [hx.out]; decide
  have h2 : (x.toList == [109, 117, 115, 116, 45, 114, 101, 118, 97, 108, 105, 100, 97, 116, 101]) = false := by rw [hx.out]; decide
  have h3 : (x.toList == [112, 114, 111, 120, 121, 45, 114, 101, 118, 97, 108, 105, 100, 97, 116, 101]) = false := by rw [hx.out]; decide
  have h4 : (x.toList == [112, 114, 105, 118, 97, 116, 101]) = false := by rw [hx.out]; decide
  have h5 : (x.toList == [112, 117, 98, 108, 105, 99]) = false := by rw [hx.out]; decide
  have h6 : (x.toList == [111, 110, 108, 121, 45, 105, 102, 45, 99, 97, 99, 104, 101, 100]) = false := by rw [hx.out]; decide
  have h7 : (x.toList == [109, 97, 120, 45, 97, 103, 101]) = false := by rw [hx.out]; decide
  have h8 : (x.toList == [115, 45, 109, 97, 120, 97, 103, 101]) = false := by rw [hx.out]; decide
  have h9 : (x.toList == [109, 105, 110, 45, 102, 114, 101, 115, 104]) = false := by rw [hx.out]; decide
  have h10 : (x.toList == [109, 97, 120, 45, 115, 116, 97, 108, 101]) = true := by rw [hx.out]; decide
  have HC := box hc
  clear hc
  go_enter Tryd.func17, Tryd.ntmps17
  go_wp2_with fail
  refine (cutName_is hs HX HR).mono ?_; rintro e w1 ⟨rfl, hb1⟩
  have C1 := box ((C.out.next hb1).drewN 1)
  have O1 := box ((Only.of (k := g) hb1).trans (Only.of (below_drewN w1 1)))
  clear hb1
  go_wp2
  go_region_held3 (fun _ => True) (trivial) (first
    | (go_at_call 31; refine (setFirst_yes g 10 n _ (by rw [← HC.out]; exact C2.out.1.2.2.2.2.2.2.2.2.2.2) C2.out.2.2.2.2.2.2.2.2.2.2.2).mono ?_; rintro e w3 ⟨rfl, rfl⟩)
    | (go_at_call 32; refine (number_is hr HN).mono ?_; rintro e w2 ⟨rfl, hb2⟩; have C2 := box (C1.out.next hb2); have O2 := box (O1.out.trans (Only.of (k := g) hb2)); clear hb2))
  go_wp2
  go_end0
  exact ⟨rfl, C2.out.set_ms n, O2.out.setAt 10 _⟩
theorem apply_ms0 (g : Nat) (c : CT) (s x r : ByteArray) (n : Int) (w : World) (hs : s.size ≤ 65000) (HX : Box (bs (lowL (namD s.data.toList)) = x)) (HR : Box (bs (rstD s.data.toList) = r)) (hr : r.size ≤ 65000) (HN : Box (numD 2147483647 0 r.data.toList = n)) (hx : Box (x.toList = [109, 97, 120, 45, 115, 116, 97, 108, 101])) (hc : (c.ms == -1) = false) (C : Box (Ct g c w)) :
    Calls Tryd.prog 17 #[.pointer (some ⟨g, 0, none⟩), .string s] w fun e w' => e = .returned (.tuple #[]) ∧ Ct g c w' ∧ Only g w w' := by
  have h0 : (x.toList == [110, 111, 45, 115, 116, 111, 114, 101]) = false := by rw [hx.out]; decide
  have h1 : (x.toList == [110, 111, 45, 99, 97, 99, 104, 101]) = false := by rw [hx.out]; decide
  have h2 : (x.toList == [109, 117, 115, 116, 45, 114, 101, 118, 97, 108, 105, 100, 97, 116, 101]) = false := by rw [hx.out]; decide
  have h3 : (x.toList == [112, 114, 111, 120, 121, 45, 114, 101, 118, 97, 108, 105, 100, 97, 116, 101]) = false := by rw [hx.out]; decide
  have h4 : (x.toList == [112, 114, 105, 118, 97, 116, 101]) = false := by rw [hx.out]; decide
  have h5 : (x.toList == [112, 117, 98, 108, 105, 99]) = false := by rw [hx.out]; decide
  have h6 : (x.toList == [111, 110, 108, 121, 45, 105, 102, 45, 99, 97, 99, 104, 101, 100]) = false := by rw [hx.out]; decide
  have h7 : (x.toList == [109, 97, 120, 45, 97, 103, 101]) = false := by rw [hx.out]; decide
  have h8 : (x.toList == [115, 45, 109, 97, 120, 97, 103, 101]) = false := by rw [hx.out]; decide
  have h9 : (x.toList == [109, 105, 110, 45, 102, 114, 101, 115, 104]) = false := by rw [hx.out]; decide
  have h10 : (x.toList == [109, 97, 120, 45, 115, 116, 97, 108, 101]) = true := by rw [hx.out]; decide
  have HC := box hc
  clear hc
  go_enter Tryd.func17, Tryd.ntmps17
  go_wp2_with fail
  refine (cutName_is hs HX HR).mono ?_; rintro e w1 ⟨rfl, hb1⟩
  have C1 := box ((C.out.next hb1).drewN 1)
  have O1 := box ((Only.of (k := g) hb1).trans (Only.of (below_drewN w1 1)))
  clear hb1
  go_wp2
  go_region_held3 (fun _ => True) (trivial) (first
    | (go_at_call 31; refine (setFirst_no g 10 n c.ms _ (C2.out.1.2.2.2.2.2.2.2.2.2.2) HC.out).mono ?_; rintro e w3 ⟨rfl, rfl⟩)
    | (go_at_call 32; refine (number_is hr HN).mono ?_; rintro e w2 ⟨rfl, hb2⟩; have C2 := box (C1.out.next hb2); have O2 := box (O1.out.trans (Only.of (k := g) hb2)); clear hb2))
  go_wp2
  go_end0
  exact ⟨rfl, C2.out, O2.out⟩
theorem apply_no (g : Nat) (c : CT) (s x r : ByteArray) (w : World) (hs : s.size ≤ 65000) (HX : Box (bs (lowL (namD s.data.toList)) = x)) (HR : Box (bs (rstD s.data.toList) = r)) (h0 : (x.toList == [110, 111, 45, 115, 116, 111, 114, 101]) = false) (h1 : (x.toList == [110, 111, 45, 99, 97, 99, 104, 101]) = false) (h2 : (x.toList == [109, 117, 115, 116, 45, 114, 101, 118, 97, 108, 105, 100, 97, 116, 101]) = false) (h3 : (x.toList == [112, 114, 111, 120, 121, 45, 114, 101, 118, 97, 108, 105, 100, 97, 116, 101]) = false) (h4 : (x.toList == [112, 114, 105, 118, 97, 116, 101]) = false) (h5 : (x.toList == [112, 117, 98, 108, 105, 99]) = false) (h6 : (x.toList == [111, 110, 108, 121, 45, 105, 102, 45, 99, 97, 99, 104, 101, 100]) = false) (h7 : (x.toList == [109, 97, 120, 45, 97, 103, 101]) = false) (h8 : (x.toList == [115, 45, 109, 97, 120, 97, 103, 101]) = false) (h9 : (x.toList == [109, 105, 110, 45, 102, 114, 101, 115, 104]) = false) (h10 : (x.toList == [109, 97, 120, 45, 115, 116, 97, 108, 101]) = false) (C : Box (Ct g c w)) :
    Calls Tryd.prog 17 #[.pointer (some ⟨g, 0, none⟩), .string s] w fun e w' => e = .returned (.tuple #[]) ∧ Ct g c w' ∧ Only g w w' := by
  go_enter Tryd.func17, Tryd.ntmps17
  go_wp2_with fail
  refine (cutName_is hs HX HR).mono ?_; rintro e w1 ⟨rfl, hb1⟩
  have C1 := C.out.next hb1
  have O1 := box (Only.of (k := g) hb1)
  clear hb1
  have CC := box C1
  clear C1
  go_wp2
  go_end0
  exact ⟨rfl, CC.out, O1.out⟩
theorem step_ns (c : CT) (r : List UInt8) : stepC c nsN r = { c with ns := true } := by
  have n1 : ¬ (nsN = ncN) := by decide
  have n2 : ¬ (nsN = mrN) := by decide
  have n3 : ¬ (nsN = prN) := by decide
  have n4 : ¬ (nsN = pvN) := by decide
  have n5 : ¬ (nsN = pbN) := by decide
  have n6 : ¬ (nsN = ocN) := by decide
  have n7 : ¬ (nsN = maN) := by decide
  have n8 : ¬ (nsN = smN) := by decide
  have n9 : ¬ (nsN = mfN) := by decide
  have n10 : ¬ (nsN = msN) := by decide
  simp [stepC, n1, n2, n3, n4, n5, n6, n7, n8, n9, n10]
theorem step_nc (c : CT) (r : List UInt8) : stepC c ncN r = { c with nc := true } := by
  have n0 : ¬ (ncN = nsN) := by decide
  have n2 : ¬ (ncN = mrN) := by decide
  have n3 : ¬ (ncN = prN) := by decide
  have n4 : ¬ (ncN = pvN) := by decide
  have n5 : ¬ (ncN = pbN) := by decide
  have n6 : ¬ (ncN = ocN) := by decide
  have n7 : ¬ (ncN = maN) := by decide
  have n8 : ¬ (ncN = smN) := by decide
  have n9 : ¬ (ncN = mfN) := by decide
  have n10 : ¬ (ncN = msN) := by decide
  simp [stepC, n0, n2, n3, n4, n5, n6, n7, n8, n9, n10]
theorem step_mr (c : CT) (r : List UInt8) : stepC c mrN r = { c with mr := true } := by
  have n0 : ¬ (mrN = nsN) := by decide
  have n1 : ¬ (mrN = ncN) := by decide
  have n3 : ¬ (mrN = prN) := by decide
  have n4 : ¬ (mrN = pvN) := by decide
  have n5 : ¬ (mrN = pbN) := by decide
  have n6 : ¬ (mrN = ocN) := by decide
  have n7 : ¬ (mrN = maN) := by decide
  have n8 : ¬ (mrN = smN) := by decide
  have n9 : ¬ (mrN = mfN) := by decide
  have n10 : ¬ (mrN = msN) := by decide
  simp [stepC, n0, n1, n3, n4, n5, n6, n7, n8, n9, n10]
theorem step_pr (c : CT) (r : List UInt8) : stepC c prN r = { c with pr := true } := by
  have n0 : ¬ (prN = nsN) := by decide
  have n1 : ¬ (prN = ncN) := by decide
  have n2 : ¬ (prN = mrN) := by decide
  have n4 : ¬ (prN = pvN) := by decide
  have n5 : ¬ (prN = pbN) := by decide
  have n6 : ¬ (prN = ocN) := by decide
  have n7 : ¬ (prN = maN) := by decide
  have n8 : ¬ (prN = smN) := by decide
  have n9 : ¬ (prN = mfN) := by decide
  have n10 : ¬ (prN = msN) := by decide
  simp [stepC, n0, n1, n2, n4, n5, n6, n7, n8, n9, n10]
theorem step_pv (c : CT) (r : List UInt8) : stepC c pvN r = { c with pv := true } := by
  have n0 : ¬ (pvN = nsN) := by decide
  have n1 : ¬ (pvN = ncN) := by decide
  have n2 : ¬ (pvN = mrN) := by decide
  have n3 : ¬ (pvN = prN) := by decide
  have n5 : ¬ (pvN = pbN) := by decide
  have n6 : ¬ (pvN = ocN) := by decide
  have n7 : ¬ (pvN = maN) := by decide
  have n8 : ¬ (pvN = smN) := by decide
  have n9 : ¬ (pvN = mfN) := by decide
  have n10 : ¬ (pvN = msN) := by decide
  simp [stepC, n0, n1, n2, n3, n5, n6, n7, n8, n9, n10]
theorem step_pb (c : CT) (r : List UInt8) : stepC c pbN r = { c with pb := true } := by
  have n0 : ¬ (pbN = nsN) := by decide
  have n1 : ¬ (pbN = ncN) := by decide
  have n2 : ¬ (pbN = mrN) := by decide
  have n3 : ¬ (pbN = prN) := by decide
  have n4 : ¬ (pbN = pvN) := by decide
  have n6 : ¬ (pbN = ocN) := by decide
  have n7 : ¬ (pbN = maN) := by decide
  have n8 : ¬ (pbN = smN) := by decide
  have n9 : ¬ (pbN = mfN) := by decide
  have n10 : ¬ (pbN = msN) := by decide
  simp [stepC, n0, n1, n2, n3, n4, n6, n7, n8, n9, n10]
theorem step_oc (c : CT) (r : List UInt8) : stepC c ocN r = { c with oc := true } := by
  have n0 : ¬ (ocN = nsN) := by decide
  have n1 : ¬ (ocN = ncN) := by decide
  have n2 : ¬ (ocN = mrN) := by decide
  have n3 : ¬ (ocN = prN) := by decide
  have n4 : ¬ (ocN = pvN) := by decide
  have n5 : ¬ (ocN = pbN) := by decide
  have n7 : ¬ (ocN = maN) := by decide
  have n8 : ¬ (ocN = smN) := by decide
  have n9 : ¬ (ocN = mfN) := by decide
  have n10 : ¬ (ocN = msN) := by decide
  simp [stepC, n0, n1, n2, n3, n4, n5, n7, n8, n9, n10]
theorem step_ma1 (c : CT) (r : List UInt8) (h : c.ma = -1) : stepC c maN r = { c with ma := numD 0 0 r } := by
  have n0 : ¬ (maN = nsN) := by decide
  have n1 : ¬ (maN = ncN) := by decide
  have n2 : ¬ (maN = mrN) := by decide
  have n3 : ¬ (maN = prN) := by decide
  have n4 : ¬ (maN = pvN) := by decide
  have n5 : ¬ (maN = pbN) := by decide
  have n6 : ¬ (maN = ocN) := by decide
  have n8 : ¬ (maN = smN) := by decide
  have n9 : ¬ (maN = mfN) := by decide
  have n10 : ¬ (maN = msN) := by decide
  simp [stepC, h, n0, n1, n2, n3, n4, n5, n6, n8, n9, n10]
theorem step_ma0 (c : CT) (r : List UInt8) (h : ¬ c.ma = -1) : stepC c maN r = c := by
  have n0 : ¬ (maN = nsN) := by decide
  have n1 : ¬ (maN = ncN) := by decide
  have n2 : ¬ (maN = mrN) := by decide
  have n3 : ¬ (maN = prN) := by decide
  have n4 : ¬ (maN = pvN) := by decide
  have n5 : ¬ (maN = pbN) := by decide
  have n6 : ¬ (maN = ocN) := by decide
  have n8 : ¬ (maN = smN) := by decide
  have n9 : ¬ (maN = mfN) := by decide
  have n10 : ¬ (maN = msN) := by decide
  simp [stepC, h, n0, n1, n2, n3, n4, n5, n6, n8, n9, n10]
theorem step_sm1 (c : CT) (r : List UInt8) (h : c.sm = -1) : stepC c smN r = { c with sm := numD 0 0 r } := by
  have n0 : ¬ (smN = nsN) := by decide
  have n1 : ¬ (smN = ncN) := by decide
  have n2 : ¬ (smN = mrN) := by decide
  have n3 : ¬ (smN = prN) := by decide
  have n4 : ¬ (smN = pvN) := by decide
  have n5 : ¬ (smN = pbN) := by decide
  have n6 : ¬ (smN = ocN) := by decide
  have n7 : ¬ (smN = maN) := by decide
  have n9 : ¬ (smN = mfN) := by decide
  have n10 : ¬ (smN = msN) := by decide
  simp [stepC, h, n0, n1, n2, n3, n4, n5, n6, n7, n9, n10]
theorem step_sm0 (c : CT) (r : List UInt8) (h : ¬ c.sm = -1) : stepC c smN r = c := by
  have n0 : ¬ (smN = nsN) := by decide
  have n1 : ¬ (smN = ncN) := by decide
  have n2 : ¬ (smN = mrN) := by decide
  have n3 : ¬ (smN = prN) := by decide
  have n4 : ¬ (smN = pvN) := by decide
  have n5 : ¬ (smN = pbN) := by decide
  have n6 : ¬ (smN = ocN) := by decide
  have n7 : ¬ (smN = maN) := by decide
  have n9 : ¬ (smN = mfN) := by decide
  have n10 : ¬ (smN = msN) := by decide
  simp [stepC, h, n0, n1, n2, n3, n4, n5, n6, n7, n9, n10]
theorem step_mf1 (c : CT) (r : List UInt8) (h : c.mf = -1) : stepC c mfN r = { c with mf := numD 2147483647 2147483647 r } := by
  have n0 : ¬ (mfN = nsN) := by decide
  have n1 : ¬ (mfN = ncN) := by decide
  have n2 : ¬ (mfN = mrN) := by decide
  have n3 : ¬ (mfN = prN) := by decide
  have n4 : ¬ (mfN = pvN) := by decide
  have n5 : ¬ (mfN = pbN) := by decide
  have n6 : ¬ (mfN = ocN) := by decide
  have n7 : ¬ (mfN = maN) := by decide
  have n8 : ¬ (mfN = smN) := by decide
  have n10 : ¬ (mfN = msN) := by decide
  simp [stepC, h, n0, n1, n2, n3, n4, n5, n6, n7, n8, n10]
theorem step_mf0 (c : CT) (r : List UInt8) (h : ¬ c.mf = -1) : stepC c mfN r = c := by
  have n0 : ¬ (mfN = nsN) := by decide
  have n1 : ¬ (mfN = ncN) := by decide
  have n2 : ¬ (mfN = mrN) := by decide
  have n3 : ¬ (mfN = prN) := by decide
  have n4 : ¬ (mfN = pvN) := by decide
  have n5 : ¬ (mfN = pbN) := by decide
  have n6 : ¬ (mfN = ocN) := by decide
  have n7 : ¬ (mfN = maN) := by decide
  have n8 : ¬ (mfN = smN) := by decide
  have n10 : ¬ (mfN = msN) := by decide
  simp [stepC, h, n0, n1, n2, n3, n4, n5, n6, n7, n8, n10]
theorem step_ms1 (c : CT) (r : List UInt8) (h : c.ms = -1) : stepC c msN r = { c with ms := numD 2147483647 0 r } := by
  have n0 : ¬ (msN = nsN) := by decide
  have n1 : ¬ (msN = ncN) := by decide
  have n2 : ¬ (msN = mrN) := by decide
  have n3 : ¬ (msN = prN) := by decide
  have n4 : ¬ (msN = pvN) := by decide
  have n5 : ¬ (msN = pbN) := by decide
  have n6 : ¬ (msN = ocN) := by decide
  have n7 : ¬ (msN = maN) := by decide
  have n8 : ¬ (msN = smN) := by decide
  have n9 : ¬ (msN = mfN) := by decide
  simp [stepC, h, n0, n1, n2, n3, n4, n5, n6, n7, n8, n9]
theorem step_ms0 (c : CT) (r : List UInt8) (h : ¬ c.ms = -1) : stepC c msN r = c := by
  have n0 : ¬ (msN = nsN) := by decide
  have n1 : ¬ (msN = ncN) := by decide
  have n2 : ¬ (msN = mrN) := by decide
  have n3 : ¬ (msN = prN) := by decide
  have n4 : ¬ (msN = pvN) := by decide
  have n5 : ¬ (msN = pbN) := by decide
  have n6 : ¬ (msN = ocN) := by decide
  have n7 : ¬ (msN = maN) := by decide
  have n8 : ¬ (msN = smN) := by decide
  have n9 : ¬ (msN = mfN) := by decide
  simp [stepC, h, n0, n1, n2, n3, n4, n5, n6, n7, n8, n9]
theorem step_no (c : CT) (x r : List UInt8) (n0 : ¬ (x = nsN)) (n1 : ¬ (x = ncN)) (n2 : ¬ (x = mrN)) (n3 : ¬ (x = prN)) (n4 : ¬ (x = pvN)) (n5 : ¬ (x = pbN)) (n6 : ¬ (x = ocN)) (n7 : ¬ (x = maN)) (n8 : ¬ (x = smN)) (n9 : ¬ (x = mfN)) (n10 : ¬ (x = msN)) : stepC c x r = c := by
  simp [stepC, n0, n1, n2, n3, n4, n5, n6, n7, n8, n9, n10]
theorem apply_any (g : Nat) (c c2 : CT) (s : ByteArray) (w : World) (hs : s.size ≤ 65000) (h2 : Box (stepC c (lowL (namD s.data.toList)) (rstD s.data.toList) = c2)) (C : Box (Ct g c w)) :
    Calls Tryd.prog 17 #[.pointer (some ⟨g, 0, none⟩), .string s] w fun e w' => e = .returned (.tuple #[]) ∧ Ct g c2 w' ∧ Only g w w' := by
  obtain ⟨X, hX⟩ : ∃ X, lowL (namD s.data.toList) = X := ⟨_, rfl⟩
  obtain ⟨R, hR⟩ : ∃ R, rstD s.data.toList = R := ⟨_, rfl⟩
  have HX : Box (bs (lowL (namD s.data.toList)) = bs X) := box (by rw [hX])
  have HR : Box (bs (rstD s.data.toList) = bs R) := box (by rw [hR])
  have hr : (bs R).size ≤ 65000 := by
    have e1 : (bs R).size = R.length := by unfold bs; rfl
    have e2 : s.data.toList.length = s.size := by simp
    have := rst_len s.data.toList
    rw [e1, ← hR]; omega
  have hd : (bs R).data.toList = R := bs_toList R
  rw [hX, hR] at h2
  have h2 := h2.out
  subst h2
  by_cases e0 : X = nsN
  · rw [e0, step_ns]
    exact apply_ns g c s (bs X) (bs R) w hs HX HR (box (by rw [toList_bs]; exact e0)) C
  by_cases e1 : X = ncN
  · rw [e1, step_nc]
    exact apply_nc g c s (bs X) (bs R) w hs HX HR (box (by rw [toList_bs]; exact e1)) C
  by_cases e2 : X = mrN
  · rw [e2, step_mr]
    exact apply_mr g c s (bs X) (bs R) w hs HX HR (box (by rw [toList_bs]; exact e2)) C
  by_cases e3 : X = prN
  · rw [e3, step_pr]
    exact apply_pr g c s (bs X) (bs R) w hs HX HR (box (by rw [toList_bs]; exact e3)) C
  by_cases e4 : X = pvN
  · rw [e4, step_pv]
    exact apply_pv g c s (bs X) (bs R) w hs HX HR (box (by rw [toList_bs]; exact e4)) C
  by_cases e5 : X = pbN
  · rw [e5, step_pb]
    exact apply_pb g c s (bs X) (bs R) w hs HX HR (box (by rw [toList_bs]; exact e5)) C
  by_cases e6 : X = ocN
  · rw [e6, step_oc]
    exact apply_oc g c s (bs X) (bs R) w hs HX HR (box (by rw [toList_bs]; exact e6)) C
  by_cases e7 : X = maN
  · by_cases q : c.ma = -1
    · rw [e7, step_ma1 c R q]
      exact apply_ma1 g c s (bs X) (bs R) _ w hs HX HR hr (box (by rw [hd])) (box (by rw [toList_bs]; exact e7)) q C
    · rw [e7, step_ma0 c R q]
      exact apply_ma0 g c s (bs X) (bs R) _ w hs HX HR hr (box rfl) (box (by rw [toList_bs]; exact e7)) (beq_eq_false_iff_ne.2 q) C
  by_cases e8 : X = smN
  · by_cases q : c.sm = -1
    · rw [e8, step_sm1 c R q]
      exact apply_sm1 g c s (bs X) (bs R) _ w hs HX HR hr (box (by rw [hd])) (box (by rw [toList_bs]; exact e8)) q C
    · rw [e8, step_sm0 c R q]
      exact apply_sm0 g c s (bs X) (bs R) _ w hs HX HR hr (box rfl) (box (by rw [toList_bs]; exact e8)) (beq_eq_false_iff_ne.2 q) C
  by_cases e9 : X = mfN
  · by_cases q : c.mf = -1
    · rw [e9, step_mf1 c R q]
      exact apply_mf1 g c s (bs X) (bs R) _ w hs HX HR hr (box (by rw [hd])) (box (by rw [toList_bs]; exact e9)) q C
    · rw [e9, step_mf0 c R q]
      exact apply_mf0 g c s (bs X) (bs R) _ w hs HX HR hr (box rfl) (box (by rw [toList_bs]; exact e9)) (beq_eq_false_iff_ne.2 q) C
  by_cases e10 : X = msN
  · by_cases q : c.ms = -1
    · rw [e10, step_ms1 c R q]
      exact apply_ms1 g c s (bs X) (bs R) _ w hs HX HR hr (box (by rw [hd])) (box (by rw [toList_bs]; exact e10)) q C
    · rw [e10, step_ms0 c R q]
      exact apply_ms0 g c s (bs X) (bs R) _ w hs HX HR hr (box rfl) (box (by rw [toList_bs]; exact e10)) (beq_eq_false_iff_ne.2 q) C
  rw [step_no c X R e0 e1 e2 e3 e4 e5 e6 e7 e8 e9 e10]
  exact apply_no g c s (bs X) (bs R) w hs HX HR (by rw [toList_bs]; exact beq_eq_false_iff_ne.2 e0) (by rw [toList_bs]; exact beq_eq_false_iff_ne.2 e1) (by rw [toList_bs]; exact beq_eq_false_iff_ne.2 e2) (by rw [toList_bs]; exact beq_eq_false_iff_ne.2 e3) (by rw [toList_bs]; exact beq_eq_false_iff_ne.2 e4) (by rw [toList_bs]; exact beq_eq_false_iff_ne.2 e5) (by rw [toList_bs]; exact beq_eq_false_iff_ne.2 e6) (by rw [toList_bs]; exact beq_eq_false_iff_ne.2 e7) (by rw [toList_bs]; exact beq_eq_false_iff_ne.2 e8) (by rw [toList_bs]; exact beq_eq_false_iff_ne.2 e9) (by rw [toList_bs]; exact beq_eq_false_iff_ne.2 e10) C
end
section
open Go.RowKit
def toL (K : List ByteArray) : List (List UInt8) := K.map fun x => x.data.toList
theorem toL_len (K : List ByteArray) : (toL K).length = K.length := by simp [toL]
theorem toL_at {K : List ByteArray} {k : Nat} (h : k < K.length) (h2 : k < (toL K).length) : (toL K)[k] = K[k].data.toList := by simp [toL]
theorem toL_bs (M : List (List UInt8)) : toL (M.map bs) = M := by
  unfold toL; rw [List.map_map]
  conv => rhs; rw [← List.map_id M]
  apply List.map_congr_left
  intro x _; rfl
theorem toL_all (nm : ByteArray) (L : List F) : toL (allB nm L) = allL nm L := toL_bs _
theorem allB_small22 {nm : ByteArray} {L : List F} (h : ∀ x ∈ getL nm L, x.size ≤ 65000) : ∀ m ∈ allB nm L, m.size ≤ 65000 := by
  intro m hm
  unfold allB at hm
  obtain ⟨l, hl, rfl⟩ := List.mem_map.1 hm
  have h1 := List.mem_of_mem_take hl
  unfold allF at h1
  obtain ⟨v, hv, h2⟩ := List.mem_flatMap.1 h1
  have h3 := split_small h2
  have h4 := h v hv
  have e : v.data.toList.length = v.size := by simp
  have e2 : (bs l).size = l.length := rfl
  omega
theorem mAll22_is {a : Option Addr} {cap n : Nat} {L : List F} {nm : ByteArray} {K : List ByteArray} {w : World} (S : Box (Sm L)) (hv : Box (∀ x ∈ getL nm L, x.size ≤ 65000)) (M : nm.size ≤ 65536) (hF : Box (Fs w a L)) (h : Box (allB nm L = K)) (hn : Box (K.length = n)) :
    Calls Tryd.prog 16 #[.slice a L.length cap, .string nm] w fun e w' => ∃ p c, e = .returned (.slice p n c) ∧ OwnS w' w.heap.size (.slice p n c) K ∧ Below w.heap.size w w' :=
  (mAll_any a cap L nm w S hv (box M) hF).mono fun e w' ⟨v, h1, h2, h3⟩ => by
    rw [h.out] at h2
    obtain ⟨p, c, rfl, h4, h5⟩ := h2.ss
    rw [hn.out] at h1 h2
    exact ⟨p, c, h1, h2, h3⟩
theorem own_ss {w : World} {B : Nat} {p : Option Addr} {n c : Nat} {K : List ByteArray} (h : OwnS w B (.slice p n c) K) : Ss w p K := by
  obtain ⟨a, cap, e, hs, _⟩ := h.ss
  cases e
  exact hs
def ctM : CT := ⟨false, false, false, false, false, false, false, -1, -1, -1, -1⟩
/-- k members have been read into the control at block g -/
def RspRel (K : List ByteArray) (p : Option Addr) (n c : Nat) (w : World) (i : Value) (wr : World) : Prop :=
  ∃ k : Nat, i = .int .i64 k ∧ k ≤ n ∧ Box (Ct (w.heap.size + 1) (ctl0 ((toL K).take k)) wr) ∧ Box (Ct w.heap.size ct0 wr) ∧ Box (OwnS wr (w.heap.size + 2) (.slice p n c) K) ∧ Box (Below w.heap.size w wr)
theorem resp_full {M : List (List UInt8)} (h : 64 ≤ M.length) : respC M = { ctl0 M with ns := true } := by unfold respC; rw [decide_eq_true h, Bool.or_true]
theorem resp_not {M : List (List UInt8)} (h : ¬ 64 ≤ M.length) : respC M = ctl0 M := by unfold respC; rw [decide_eq_false h, Bool.or_false]; rfl
set_option maxHeartbeats 4000000 in
theorem mResp_any (a : Option Addr) (cap : Nat) (L : List F) (w : World) (S : Box (Sm L)) (hv : Box (∀ x ∈ getL ccN L, x.size ≤ 65000)) (hF : Box (Fs w a L)) (c : CT) (HC : Box (respC (allL ccN L) = c)) :
    Calls Tryd.prog 9 #[.slice a L.length cap] w fun e w' => e = .returned (ctV c) ∧ Below w.heap.size w w' := by
  obtain ⟨K, hK⟩ : ∃ K, allB ccN L = K := ⟨_, rfl⟩
  obtain ⟨n, hn⟩ : ∃ n, K.length = n := ⟨_, rfl⟩
  have HM : Box (allL ccN L = toL K) := box (by rw [← hK, toL_all])
  have HZ : Box (∀ m ∈ K, m.size ≤ 65000) := box (by rw [← hK]; exact allB_small22 hv.out)
  have hn64 : n ≤ 64 := by rw [← hn, ← hK]; unfold allB allL; rw [List.length_map, List.length_take]; omega
  have HK := box hK
  have HNn := box hn
  have hl := S.out.1
  have hcc : ccN.size ≤ 65536 := by decide
  have R0 : Box (Ct w.heap.size ct0 ((w.alloc (.cells (ctA ct0) 36)).alloc (.cells (ctA ctM) 36))) := box ((Ct.new ct0 w 36).next (below_new _ _))
  have C0 : Box (Ct (w.heap.size + 1) ctM ((w.alloc (.cells (ctA ct0) 36)).alloc (.cells (ctA ctM) 36))) := box (by
    have h := Ct.new ctM (w.alloc (.cells (ctA ct0) 36)) 36
    rwa [show (w.alloc (.cells (ctA ct0) 36)).heap.size = w.heap.size + 1 from by simp] at h)
  have B0 : Box (Below w.heap.size w ((w.alloc (.cells (ctA ct0) 36)).alloc (.cells (ctA ctM) 36))) := box
    ((below_new w _).alloc (below_new w _).size _)
  have hsz : ((w.alloc (.cells (ctA ct0) 36)).alloc (.cells (ctA ctM) 36)).heap.size = w.heap.size + 2 := by simp
  have HSZ := box hsz
  have F0 := box (hF.out.below B0.out)
  clear hK hn hsz
  go_enter Tryd.func9, Tryd.ntmps9
  go_wp2_with fail
  refine (mAll22_is S hv hcc F0 HK HNn).mono ?_; rintro e w1 ⟨p, cp, rfl, hO1, hb1⟩
  have R1 := box (R0.out.next hb1)
  have C1 := box (C0.out.next hb1)
  have B1 := box (B0.out.trans (hb1.mono B0.out.size))
  have O1 : Box (OwnS w1 (w.heap.size + 2) (.slice p n cp) K) := box (by rw [← HSZ.out]; exact hO1)
  clear hO1 hb1
  go_wp2
  go_loopw [12] (fun i wr => RspRel K p n cp w i wr) (fun i _ => n - (intOf i).toNat)
  case atStart => exact ⟨0, rfl, Nat.zero_le _, box (by rw [List.take_zero]; exact C1.out), R1, O1, B1⟩
  case round =>
    obtain ⟨k, rfl, hk, hC, hR, hO, hbl⟩ := hrel
    by_cases hlt : k < n
    · have hki : (k : Int) < (n : Int) := by omega
      have hkK : k < K.length := by rw [HNn.out]; exact hlt
      obtain ⟨m, hm⟩ : ∃ m, K[k] = m := ⟨_, rfl⟩
      have hmz : m.size ≤ 65000 := by rw [← hm]; exact HZ.out _ (List.getElem_mem hkK)
      obtain ⟨g, off, hga, cA⟩ := own_ss hO.out k hkK
      cases hga
      rw [hm] at cA
      have HS : Box (stepC (ctl0 ((toL K).take k)) (lowL (namD m.data.toList)) (rstD m.data.toList) = ctl0 ((toL K).take (k + 1))) := box (by
        rw [ctl0_more (by rw [toL_len]; exact hkK), toL_at hkK, hm])
      clear hm hkK
      go_wp2_with fail
      refine (apply_any (w.heap.size + 1) _ _ m _ hmz HS hC).mono ?_; rintro e w2 ⟨rfl, hC2, hO2⟩
      have R2 := box (hR.out.only hO2 (by omega))
      have O2 : Box (OwnS w2 (w.heap.size + 2) (.slice (some ⟨g, off, none⟩) n cp) K) := box (own_only hO.out hO2 (by omega))
      have B2 := box (hbl.out.trans (hO2.below (by omega) hbl.out.size))
      have CC2 := box hC2
      clear hC2 hO2 cA
      go_wp2
      go_roundw
      case rel => exact ⟨k + 1, by go_num, hlt, CC2, R2, O2, B2⟩
      case measure => simp [intOf]; omega
    · have hki : ¬ (k : Int) < (n : Int) := by omega
      have hT : (toL K).take k = toL K := List.take_of_length_le (by rw [toL_len, HNn.out]; omega)
      rw [hT] at hC
      have hL : (toL K).length = n := by rw [toL_len]; exact HNn.out
      by_cases h64 : 64 ≤ n
      · have h64i : (64 : Int) ≤ (n : Int) := by omega
        have hc : ({ ctl0 (toL K) with ns := true } : CT) = c := by rw [← HC.out, HM.out, resp_full (by omega)]
        obtain ⟨d, hd⟩ : ∃ d, ctl0 (toL K) = d := ⟨_, rfl⟩
        rw [hd] at hC hc
        obtain ⟨⟨c0, c1, c2, c3, c4, c5, c6, c7, c8, c9, c10⟩, ⟨f0, f1, f2, f3, f4, f5, f6, f7, f8, f9, f10⟩⟩ := hC.out
        obtain ⟨⟨r0, r1, r2, r3, r4, r5, r6, r7, r8, r9, r10⟩, ⟨q0, q1, q2, q3, q4, q5, q6, q7, q8, q9, q10⟩⟩ := hR.out
        clear hT hL hC hR h64 hd
        subst hc
        go_wp2
        (try simp only [Exit.inBlock, Exit.then])
        refine bodyPost_ret (v := ctV { d with ns := true }) (by rw [results_cell22 rfl]; go_simp; rfl) rfl ?_
        exact ⟨rfl, ct_put_below (hbl.out.setCell (p := ⟨w.heap.size + 1, 0, none⟩) (by simp) _) (Nat.le_refl _) { d with ns := true }⟩
      · have h64i : ¬ (64 : Int) ≤ (n : Int) := by omega
        have hc : ctl0 (toL K) = c := by rw [← HC.out, HM.out, resp_not (by omega)]
        rw [hc] at hC
        obtain ⟨⟨c0, c1, c2, c3, c4, c5, c6, c7, c8, c9, c10⟩, _⟩ := hC.out
        obtain ⟨⟨r0, r1, r2, r3, r4, r5, r6, r7, r8, r9, r10⟩, ⟨q0, q1, q2, q3, q4, q5, q6, q7, q8, q9, q10⟩⟩ := hR.out
        clear hT hL hc hC hR h64
        go_wp2
        (try simp only [Exit.inBlock, Exit.then])
        refine bodyPost_ret (v := ctV c) (by rw [results_cell22 rfl]; go_simp; rfl) rfl ?_
        exact ⟨rfl, ct_put_below hbl.out (by omega) c⟩
/-- is a member no-cache? -/
theorem fold22_is {a b : ByteArray} {q : Bool} {w : World} (ha : a.size ≤ 65536) (hb : b.size ≤ 65536) (h : Box (foldL a.data.toList b.data.toList = q)) :
    Calls Tryd.prog 33 #[.string a, .string b] w fun e w' => e = .returned (.bool q) ∧ Below w.heap.size w w' :=
  (Fold_any a b w (by unfold maxLen; omega) (by unfold maxLen; omega)).mono fun e w' ⟨h1, h2⟩ => ⟨by rw [h1, h.out], h2⟩
theorem mPragma_any (a : Option Addr) (cap : Nat) (L : List F) (w : World) (S : Box (Sm L)) (hv : Box (∀ x ∈ getL pgN L, x.size ≤ 65000)) (hF : Box (Fs w a L)) :
    Calls Tryd.prog 18 #[.slice a L.length cap] w fun e w' => e = .returned (.bool (pragC (allL pgN L))) ∧ Below w.heap.size w w' := by
  obtain ⟨K, hK⟩ : ∃ K, allB pgN L = K := ⟨_, rfl⟩
  obtain ⟨n, hn⟩ : ∃ n, K.length = n := ⟨_, rfl⟩
  have HM : Box (allL pgN L = toL K) := box (by rw [← hK, toL_all])
  have HZ : Box (∀ m ∈ K, m.size ≤ 65000) := box (by rw [← hK]; exact allB_small22 hv.out)
  have hn64 : n ≤ 64 := by rw [← hn, ← hK]; unfold allB allL; rw [List.length_map, List.length_take]; omega
  have HK := box hK
  have HNn := box hn
  have hl := S.out.1
  have hcc : pgN.size ≤ 65536 := by decide
  have hnc : (⟨#[110, 111, 45, 99, 97, 99, 104, 101]⟩ : ByteArray).size ≤ 65536 := by decide
  clear hK hn
  go_enter Tryd.func18, Tryd.ntmps18
  go_wp2_with fail
  refine (mAll22_is S hv hcc hF HK HNn).mono ?_; rintro e w1 ⟨p, cp, rfl, hO1, hb1⟩
  have S1 := box (own_ss hO1)
  have B1 := box hb1
  clear hO1 hb1
  go_wp2
  go_loopw [8] (fun i wr => ∃ k : Nat, i = .int .i64 k ∧ k ≤ n ∧ Box (pragC ((toL K).take k) = false) ∧ Box (Below w1.heap.size w1 wr)) (fun i _ => n - (intOf i).toNat)
  case atStart => exact ⟨0, rfl, Nat.zero_le _, box rfl, box (Below.refl _ _)⟩
  case round =>
    obtain ⟨k, rfl, hk, hP, hbl⟩ := hrel
    by_cases hlt : k < n
    · have hki : (k : Int) < (n : Int) := by omega
      have hkK : k < K.length := by rw [HNn.out]; exact hlt
      obtain ⟨m, hm⟩ : ∃ m, K[k] = m := ⟨_, rfl⟩
      have hmz : m.size ≤ 65536 := by rw [← hm]; have := HZ.out _ (List.getElem_mem hkK); omega
      obtain ⟨g, off, hga, cA⟩ := (S1.out.below hbl.out) k hkK
      cases hga
      rw [hm] at cA
      have hmore := prag_more (P := toL K) (k := k) (by rw [toL_len]; exact hkK)
      rw [toL_at hkK, hm, hP.out, Bool.false_or] at hmore
      rcases hq : foldL m.data.toList ncN with _ | _
      · rw [hq] at hmore
        have HP2 := box hmore
        have HQ : Box (foldL m.data.toList (⟨#[110, 111, 45, 99, 97, 99, 104, 101]⟩ : ByteArray).data.toList = false) := box hq
        clear hm hkK hmore hq
        go_wp2_with fail
        refine (fold22_is hmz hnc HQ).mono ?_; rintro e w2 ⟨rfl, hb2⟩
        have B2 := box (hbl.out.trans (hb2.mono hbl.out.size))
        clear hb2 cA
        go_wp2
        go_roundw
        case rel => exact ⟨k + 1, by go_num, hlt, HP2, B2⟩
        case measure => simp [intOf]; omega
      · rw [hq] at hmore
        have HR : Box (pragC (allL pgN L) = true) := box (by
          rw [HM.out]
          unfold pragC at hmore ⊢
          rw [List.any_eq_true] at hmore ⊢
          obtain ⟨x, hx, h2⟩ := hmore
          exact ⟨x, List.mem_of_mem_take hx, h2⟩)
        have HQ : Box (foldL m.data.toList (⟨#[110, 111, 45, 99, 97, 99, 104, 101]⟩ : ByteArray).data.toList = true) := box hq
        clear hm hkK hmore hq
        go_wp2_with fail
        refine (fold22_is hmz hnc HQ).mono ?_; rintro e w2 ⟨rfl, hb2⟩
        have B2 := box (hbl.out.trans (hb2.mono hbl.out.size))
        clear hb2 cA
        go_wp2
        go_ret
        exact ⟨by rw [HR.out]; rfl, B1.out.trans (B2.out.mono B1.out.size)⟩
    · have hki : ¬ (k : Int) < (n : Int) := by omega
      have HR : Box (pragC (allL pgN L) = false) := box (by
        have hT : (toL K).take k = toL K := List.take_of_length_le (by rw [toL_len, HNn.out]; omega)
        have := hP.out
        rw [hT] at this
        rw [HM.out]; exact this)
      go_wp2
      go_ret
      exact ⟨by rw [HR.out]; rfl, B1.out.trans (hbl.out.mono B1.out.size)⟩
theorem mPragma_is {a : Option Addr} {cap : Nat} {L : List F} {q : Bool} {w : World} (S : Box (Sm L)) (hv : Box (∀ x ∈ getL pgN L, x.size ≤ 65000)) (hF : Box (Fs w a L)) (h : Box (pragC (allL pgN L) = q)) :
    Calls Tryd.prog 18 #[.slice a L.length cap] w fun e w' => e = .returned (.bool q) ∧ Below w.heap.size w w' :=
  (mPragma_any a cap L w S hv hF).mono fun e w' ⟨h1, h2⟩ => ⟨by rw [h1, h.out], h2⟩
theorem has22_is {a : Option Addr} {cap : Nat} {L : List F} {nm : ByteArray} {q : Bool} {w : World} (S : Box (Sm L)) (M : nm.size ≤ 65536) (hF : Box (Fs w a L)) (h : Box (L.any (nmd nm) = q)) :
    Calls Tryd.prog 12 #[.slice a L.length cap, .string nm] w fun e w' => e = .returned (.bool q) ∧ Below w.heap.size w w' :=
  (Has_any a cap L nm w S.out.1 S (box M) hF).mono fun e w' ⟨h1, h2⟩ => ⟨by rw [h1, h.out], h2⟩
theorem mResp_is {a : Option Addr} {cap : Nat} {L : List F} {c : CT} {w : World} (S : Box (Sm L)) (hv : Box (∀ x ∈ getL ccN L, x.size ≤ 65000)) (hF : Box (Fs w a L)) (HC : Box (respC (allL ccN L) = c)) :
    Calls Tryd.prog 9 #[.slice a L.length cap] w fun e w' => e = .returned (.agg #[.bool c.ns, .bool c.nc, .bool c.mr, .bool c.pr, .bool c.pv, .bool c.pb, .bool c.oc, .int .i64 c.ma, .int .i64 c.sm, .int .i64 c.mf, .int .i64 c.ms]) ∧ Below w.heap.size w w' :=
  mResp_any a cap L w S hv hF c HC
theorem req_has (M P : List (List UInt8)) : reqC true M P = respC M := by unfold reqC respC ctl0; simp
theorem req_not {M P : List (List UInt8)} (h : pragC P = false) : reqC false M P = respC M := by unfold reqC respC ctl0; rw [h]; simp
theorem req_yes {M P : List (List UInt8)} (h : pragC P = true) : reqC false M P = { respC M with nc := true } := by unfold reqC respC ctl0; rw [h]; simp
set_option maxHeartbeats 4000000 in
theorem mReqC_any (a : Option Addr) (cap : Nat) (L : List F) (w : World) (S : Box (Sm L)) (hv : Box (∀ nm, ∀ x ∈ getL nm L, x.size ≤ 65000)) (hF : Box (Fs w a L)) (c : CT) (HC : Box (reqC (L.any (nmd ccN)) (allL ccN L) (allL pgN L) = c)) :
    Calls Tryd.prog 10 #[.slice a L.length cap] w fun e w' => e = .returned (ctV c) ∧ Below w.heap.size w w' := by
  obtain ⟨d, hd⟩ : ∃ d, respC (allL ccN L) = d := ⟨_, rfl⟩
  have HD := box hd
  have hv1 : Box (∀ x ∈ getL ccN L, x.size ≤ 65000) := box (hv.out ccN)
  have hv2 : Box (∀ x ∈ getL pgN L, x.size ≤ 65000) := box (hv.out pgN)
  have hcc : ccN.size ≤ 65536 := by decide
  have hl := S.out.1
  have R0 : Box (Ct w.heap.size ct0 (w.alloc (.cells (ctA ct0) 36))) := box (Ct.new ct0 w 36)
  have B0 : Box (Below w.heap.size w (w.alloc (.cells (ctA ct0) 36))) := box (below_new w _)
  have F0 := box (hF.out.below B0.out)
  rcases hh : L.any (nmd ccN) with _ | _
  · have HH := box hh
    rcases hp : pragC (allL pgN L) with _ | _
    · have HP := box hp
      have hc : d = c := by rw [← hd, ← HC.out, hh, req_not hp]
      subst hc
      clear hd hh hp HC
      go_enter Tryd.func10, Tryd.ntmps10
      go_wp2_with fail
      refine (mResp_is S hv1 F0 HD).mono ?_; rintro e w1 ⟨rfl, hb1⟩
      have R1 := box ((R0.out.next hb1).next (below_new w1 (.cells (ctA d) 36)))
      have C1 := box (Ct.new d w1 36)
      have B1 := box ((B0.out.trans (hb1.mono B0.out.size)).trans ((below_new w1 (.cells (ctA d) 36)).mono (B0.out.trans (hb1.mono B0.out.size)).size))
      have hg : w.heap.size < w1.heap.size := (R0.out.next hb1).lt
      have F1 := box ((F0.out.below hb1).below (below_new w1 (.cells (ctA d) 36)))
      clear hb1
      go_wp2_with fail
      refine (has22_is S hcc F1 HH).mono ?_; rintro e w2 ⟨rfl, hb2⟩
      have R2 := box (R1.out.next hb2)
      have C2 := box (C1.out.next hb2)
      have B2 := box (B1.out.trans (hb2.mono B1.out.size))
      have F2 := box (F1.out.below hb2)
      clear hb2
      go_wp2_with fail
      refine (mPragma_is S hv2 F2 HP).mono ?_; rintro e w3 ⟨rfl, hb3⟩
      have R3 := box (R2.out.next hb3)
      have C3 := box (C2.out.next hb3)
      have B3 := box (B2.out.trans (hb3.mono B2.out.size))
      clear hb3
      obtain ⟨⟨c0, c1, c2, c3, c4, c5, c6, c7, c8, c9, c10⟩, ⟨f0, f1, f2, f3, f4, f5, f6, f7, f8, f9, f10⟩⟩ := C3.out
      obtain ⟨⟨r0, r1, r2, r3, r4, r5, r6, r7, r8, r9, r10⟩, ⟨q0, q1, q2, q3, q4, q5, q6, q7, q8, q9, q10⟩⟩ := R3.out
      go_wp2
      (try simp only [Exit.inBlock, Exit.then])
      refine bodyPost_ret (v := ctV d) (by rw [results_cell22 rfl]; go_simp; rfl) rfl ?_
      exact ⟨rfl, ct_put_below B3.out (Nat.le_refl _) d⟩
    · have HP := box hp
      have hc : { d with nc := true } = c := by rw [← hd, ← HC.out, hh, req_yes hp]
      subst hc
      clear hd hh hp HC
      go_enter Tryd.func10, Tryd.ntmps10
      go_wp2_with fail
      refine (mResp_is S hv1 F0 HD).mono ?_; rintro e w1 ⟨rfl, hb1⟩
      have R1 := box ((R0.out.next hb1).next (below_new w1 (.cells (ctA d) 36)))
      have C1 := box (Ct.new d w1 36)
      have B1 := box ((B0.out.trans (hb1.mono B0.out.size)).trans ((below_new w1 (.cells (ctA d) 36)).mono (B0.out.trans (hb1.mono B0.out.size)).size))
      have hg : w.heap.size < w1.heap.size := (R0.out.next hb1).lt
      have F1 := box ((F0.out.below hb1).below (below_new w1 (.cells (ctA d) 36)))
      clear hb1
      go_wp2_with fail
      refine (has22_is S hcc F1 HH).mono ?_; rintro e w2 ⟨rfl, hb2⟩
      have R2 := box (R1.out.next hb2)
      have C2 := box (C1.out.next hb2)
      have B2 := box (B1.out.trans (hb2.mono B1.out.size))
      have F2 := box (F1.out.below hb2)
      clear hb2
      go_wp2_with fail
      refine (mPragma_is S hv2 F2 HP).mono ?_; rintro e w3 ⟨rfl, hb3⟩
      have R3 := box (R2.out.next hb3)
      have C3 := box (C2.out.next hb3)
      have B3 := box (B2.out.trans (hb3.mono B2.out.size))
      clear hb3
      obtain ⟨⟨c0, c1, c2, c3, c4, c5, c6, c7, c8, c9, c10⟩, ⟨f0, f1, f2, f3, f4, f5, f6, f7, f8, f9, f10⟩⟩ := C3.out
      obtain ⟨⟨r0, r1, r2, r3, r4, r5, r6, r7, r8, r9, r10⟩, ⟨q0, q1, q2, q3, q4, q5, q6, q7, q8, q9, q10⟩⟩ := R3.out
      go_wp2
      (try simp only [Exit.inBlock, Exit.then])
      refine bodyPost_ret (v := ctV { d with nc := true }) (by rw [results_cell22 rfl]; go_simp; rfl) rfl ?_
      exact ⟨rfl, ct_put_below (B3.out.setCell (p := ⟨w1.heap.size, 1, none⟩) (by simp; omega) _) (Nat.le_refl _) { d with nc := true }⟩
  · have HH := box hh
    have hc : d = c := by rw [← hd, ← HC.out, hh, req_has]
    subst hc
    clear hd hh HC
    go_enter Tryd.func10, Tryd.ntmps10
    go_wp2_with fail
    refine (mResp_is S hv1 F0 HD).mono ?_; rintro e w1 ⟨rfl, hb1⟩
    have R1 := box ((R0.out.next hb1).next (below_new w1 (.cells (ctA d) 36)))
    have C1 := box (Ct.new d w1 36)
    have B1 := box ((B0.out.trans (hb1.mono B0.out.size)).trans ((below_new w1 (.cells (ctA d) 36)).mono (B0.out.trans (hb1.mono B0.out.size)).size))
    have hg : w.heap.size < w1.heap.size := (R0.out.next hb1).lt
    have F1 := box ((F0.out.below hb1).below (below_new w1 (.cells (ctA d) 36)))
    clear hb1
    go_wp2_with fail
    refine (has22_is S hcc F1 HH).mono ?_; rintro e w2 ⟨rfl, hb2⟩
    have R2 := box (R1.out.next hb2)
    have C2 := box (C1.out.next hb2)
    have B2 := box (B1.out.trans (hb2.mono B1.out.size))
    have F2 := box (F1.out.below hb2)
    clear hb2
    obtain ⟨⟨c0, c1, c2, c3, c4, c5, c6, c7, c8, c9, c10⟩, ⟨f0, f1, f2, f3, f4, f5, f6, f7, f8, f9, f10⟩⟩ := C2.out
    obtain ⟨⟨r0, r1, r2, r3, r4, r5, r6, r7, r8, r9, r10⟩, ⟨q0, q1, q2, q3, q4, q5, q6, q7, q8, q9, q10⟩⟩ := R2.out
    go_wp2
    (try simp only [Exit.inBlock, Exit.then])
    refine bodyPost_ret (v := ctV d) (by rw [results_cell22 rfl]; go_simp; rfl) rfl ?_
    exact ⟨rfl, ct_put_below B2.out (Nat.le_refl _) d⟩
end
section
open Go.RowKit
/-- the tables, as the program's text lays them -/
structure Tabs (w : World) : Prop where
  wk : ∀ k, k < 7 → w.cell? ⟨1, k, none⟩ = some (.string (bs (wkL k)))
  mo : ∀ k, k < 12 → w.cell? ⟨0, k, none⟩ = some (.string (bs (monL (k + 1))))
  ln : ∀ k, k < 12 → w.cell? ⟨2, k, none⟩ = some (.int .i64 (lenM false (k + 1) : Nat))
  s1 : 1 < w.heap.size
  s2 : 0 < w.heap.size
  s3 : 2 < w.heap.size
theorem Tabs.below {w w' : World} (h : Tabs w) (b : Below w.heap.size w w') : Tabs w' :=
  ⟨fun k q => by rw [b.cell h.s1, h.wk k q], fun k q => by rw [b.cell h.s2, h.mo k q], fun k q => by rw [b.cell h.s3, h.ln k q],
    Nat.lt_of_lt_of_le h.s1 b.size, Nat.lt_of_lt_of_le h.s2 b.size, Nat.lt_of_lt_of_le h.s3 b.size⟩
theorem mLyb_any (y : Nat) (w : World) (h1 : 1 ≤ y) (h2 : y ≤ 20000) :
    Calls Tryd.prog 94 #[.int .i64 y] w fun e w' => e = .returned (.int .i64 (lybN y : Nat)) ∧ w = w' := by
  go_enter Tryd.func94, Tryd.ntmps94
  go_wp2
  go_ret
  exact ⟨ret_int (by unfold lybN; omega), rfl⟩
theorem mLyb_is {x : Int} {y v : Nat} {w : World} (hx : x = (y : Int)) (h1 : 1 ≤ y) (h2 : y ≤ 20000) (hv : Box (lybN y = v)) :
    Calls Tryd.prog 94 #[.int .i64 x] w fun e w' => e = .returned (.int .i64 (v : Nat)) ∧ w = w' := by
  subst hx
  rw [← hv.out]
  exact mLyb_any y w h1 h2
theorem mLeap_any (y : Nat) (w : World) (h1 : 1 ≤ y) (h2 : y ≤ 10002) :
    Calls Tryd.prog 95 #[.int .i64 y] w fun e w' => e = .returned (.bool (leapN y)) ∧ w = w' := by
  obtain ⟨a, ha⟩ : ∃ a, lybN y = a := ⟨_, rfl⟩
  obtain ⟨b, hb⟩ : ∃ b, lybN (y + 1) = b := ⟨_, rfl⟩
  have HA := box ha
  have HB := box hb
  have HL : Box (decide ((a : Int) < (b : Int)) = leapN y) := box (by
    rcases hl : leapN y with _ | _
    · have := lyb_flat h1 hl
      exact decide_eq_false (by omega)
    · have := lyb_leap h1 hl
      exact decide_eq_true (by omega))
  clear ha hb
  go_enter Tryd.func95, Tryd.ntmps95
  go_wp2_with fail
  refine (mLyb_is (y := y + 1) (by omega) (by omega) (by omega) HB).mono ?_; rintro e w1 ⟨rfl, rfl⟩
  go_wp2_with fail
  refine (mLyb_is (y := y) rfl (by omega) (by omega) HA).mono ?_; rintro e w2 ⟨rfl, rfl⟩
  go_wp2
  go_ret
  exact ⟨ret_bool (by first | exact HL.out | (rw [← HL.out]; simp) | (rw [← HL.out]; exact decide_eq_decide.2 (by omega))), rfl⟩
theorem lenM_not2 (lp : Bool) {m : Nat} (h1 : 1 ≤ m) (h2 : m ≤ 12) (h : m ≠ 2) : lenM false m = lenM lp m := by
  have key : ∀ (b : Bool) (k : Fin 13), 1 ≤ k.1 → k.1 ≠ 2 → lenM false k.1 = lenM b k.1 := by decide
  exact key lp ⟨m, by omega⟩ h1 h
theorem mLength_any (y m : Nat) (w : World) (hW : Tabs w) (y1 : 1 ≤ y) (y2 : y ≤ 10002) (h1 : 1 ≤ m) (h2 : m ≤ 12) :
    Calls Tryd.prog 83 #[.int .i64 y, .int .i64 m] w fun e w' => e = .returned (.int .i64 (lenM (leapN y) m : Nat)) ∧ w = w' := by
  obtain ⟨k, hk⟩ : ∃ k, m = k + 1 := ⟨m - 1, by omega⟩
  have hc := hW.ln k (by omega)
  have hi : (m : Int) - 1 = (k : Int) := by omega
  have k0 : (0 : Int) ≤ (k : Int) := by omega
  have k1 : (k : Int) < 12 := by omega
  rw [← hk] at hc
  by_cases h : m = 2
  · rcases hl : leapN y with _ | _
    · have HL := box hl
      have HV : Box (lenM false m = lenM false m) := box rfl
      have hm : ((m : Int) == 2) = true := by rw [beq_iff_eq]; omega
      clear hk h hl hW
      go_enter Tryd.func83, Tryd.ntmps83
      go_wp2_with (go_at_call 95; refine (mLeap_any _ _ y1 y2).mono ?_; rintro e w' ⟨rfl, rfl⟩; rw [HL.out])
      go_ret
      exact ⟨rfl, rfl⟩
    · have HL := box hl
      have HV : Box (29 = lenM true m) := box (by rw [h]; rfl)
      have hm : ((m : Int) == 2) = true := by rw [beq_iff_eq]; omega
      clear hk h hl hW
      go_enter Tryd.func83, Tryd.ntmps83
      go_wp2_with (go_at_call 95; refine (mLeap_any _ _ y1 y2).mono ?_; rintro e w' ⟨rfl, rfl⟩; rw [HL.out])
      go_ret
      exact ⟨by rw [← HV.out]; rfl, rfl⟩
  · have HV := box (lenM_not2 (leapN y) h1 h2 h)
    have hm : ((m : Int) == 2) = false := by rw [beq_eq_false_iff_ne]; omega
    clear hk h hW
    go_enter Tryd.func83, Tryd.ntmps83
    go_wp2
    go_ret
    exact ⟨by rw [← HV.out]; rfl, rfl⟩
theorem mLength_is {y m v : Nat} {w : World} (hW : Tabs w) (y1 : 1 ≤ y) (y2 : y ≤ 10002) (h1 : 1 ≤ m) (h2 : m ≤ 12) (hv : Box (lenM (leapN y) m = v)) :
    Calls Tryd.prog 83 #[.int .i64 y, .int .i64 m] w fun e w' => e = .returned (.int .i64 (v : Nat)) ∧ w = w' := by
  rw [← hv.out]; exact mLength_any y m w hW y1 y2 h1 h2
theorem mDby_any (y : Nat) (w : World) (h1 : 1970 ≤ y) (h2 : y ≤ 10001) :
    Calls Tryd.prog 82 #[.int .i64 y] w fun e w' => e = .returned (.int .i64 (dbyN y : Nat)) ∧ w = w' := by
  obtain ⟨a, ha⟩ : ∃ a, lybN y = a := ⟨_, rfl⟩
  have HA := box ha
  have HV : Box (365 * ((y : Int) - 1970) + (a : Int) - 477 = (dbyN y : Nat)) := box (by have := lyb_ge h1; unfold dbyN; omega)
  have a1 : a ≤ 10001 := by have := lyb_le y; omega
  clear ha
  go_enter Tryd.func82, Tryd.ntmps82
  go_wp2_with fail
  refine (mLyb_is (y := y) rfl (by omega) (by omega) HA).mono ?_; rintro e w1 ⟨rfl, rfl⟩
  go_wp2_with fail
  refine (mLyb_is (x := 1970) (y := 1970) rfl (by omega) (by omega) (box lyb_1970)).mono ?_; rintro e w2 ⟨rfl, rfl⟩
  go_wp2
  go_ret
  exact ⟨ret_int (by rw [← HV.out]), rfl⟩
theorem mDby_is {x : Int} {y v : Nat} {w : World} (hx : x = (y : Int)) (h1 : 1970 ≤ y) (h2 : y ≤ 10001) (hv : Box (dbyN y = v)) :
    Calls Tryd.prog 82 #[.int .i64 x] w fun e w' => e = .returned (.int .i64 (v : Nat)) ∧ w = w' := by
  subst hx; rw [← hv.out]; exact mDby_any y w h1 h2
end
section
open Go.RowKit
theorem mExists_yes (Y M D : Nat) (w : World) (hW : Tabs w) (h : IsDay Y M D) :
    Calls Tryd.prog 81 #[.int .i64 Y, .int .i64 M, .int .i64 D] w fun e w' => e = .returned (.bool true) ∧ w = w' := by
  obtain ⟨⟨y1, y2⟩, ⟨m1, m2⟩, d1, d2⟩ := h
  obtain ⟨L, hL⟩ : ∃ L, lenM (leapN Y) M = L := ⟨_, rfl⟩
  rw [hL] at d2
  have HL := box hL
  have HT := box hW
  have i1 : ¬ (Y : Int) < 1970 := by omega
  have i2 : ¬ (9999 : Int) < (Y : Int) := by omega
  have i3 : ¬ (M : Int) < 1 := by omega
  have i4 : ¬ (12 : Int) < (M : Int) := by omega
  have i5 : (1 : Int) ≤ (D : Int) := by omega
  have i6 : (D : Int) ≤ (L : Int) := by omega
  clear hL hW
  go_enter Tryd.func81, Tryd.ntmps81
  go_wp2_with (go_at_call 83; refine (mLength_is HT.out (by omega) (by omega) m1 m2 HL).mono ?_; rintro e w' ⟨rfl, rfl⟩)
  go_ret
  exact ⟨ret_bool (by first | rfl | exact decide_eq_true (by omega)), rfl⟩
theorem mExists_no (y m d : Int) (w : World) (hW : Tabs w) (hN : ¬ ((0 ≤ y ∧ 0 ≤ m ∧ 0 ≤ d) ∧ IsDay y.toNat m.toNat d.toNat)) :
    Calls Tryd.prog 81 #[.int .i64 y, .int .i64 m, .int .i64 d] w fun e w' => e = .returned (.bool false) ∧ w = w' := by
  have HT := box hW
  have HN := box hN
  clear hW hN
  by_cases c1 : y < 1970
  · go_enter Tryd.func81, Tryd.ntmps81
    go_wp2
    go_ret
    exact ⟨rfl, rfl⟩
  by_cases c2 : 9999 < y
  · go_enter Tryd.func81, Tryd.ntmps81
    go_wp2
    go_ret
    exact ⟨rfl, rfl⟩
  by_cases c3 : m < 1
  · go_enter Tryd.func81, Tryd.ntmps81
    go_wp2
    go_ret
    exact ⟨rfl, rfl⟩
  by_cases c4 : 12 < m
  · go_enter Tryd.func81, Tryd.ntmps81
    go_wp2
    go_ret
    exact ⟨rfl, rfl⟩
  obtain ⟨Y, rfl⟩ : ∃ Y : Nat, y = Y := ⟨y.toNat, by omega⟩
  obtain ⟨M, rfl⟩ : ∃ M : Nat, m = M := ⟨m.toNat, by omega⟩
  by_cases c5 : d < 1
  · have c6 : ¬ (1 : Int) ≤ d := by omega
    go_enter Tryd.func81, Tryd.ntmps81
    go_wp2
    go_ret
    exact ⟨ret_bool (by first | rfl | exact decide_eq_false (by omega)), rfl⟩
  obtain ⟨D, rfl⟩ : ∃ D : Nat, d = D := ⟨d.toNat, by omega⟩
  have hL : lenM (leapN Y) M < D := by
    refine Nat.lt_of_not_le fun q => HN.out ⟨⟨by omega, by omega, by omega⟩, ⟨by omega, by omega⟩, ⟨by omega, by omega⟩, by omega, q⟩
  obtain ⟨L, hl⟩ : ∃ L, lenM (leapN Y) M = L := ⟨_, rfl⟩
  rw [hl] at hL
  have HL := box hl
  have c6 : (1 : Int) ≤ (D : Int) := by omega
  have c7 : ¬ (D : Int) ≤ (L : Int) := by omega
  clear hl HN
  go_enter Tryd.func81, Tryd.ntmps81
  go_wp2_with (go_at_call 83; refine (mLength_is HT.out (by omega) (by omega) (by omega) (by omega) HL).mono ?_; rintro e w' ⟨rfl, rfl⟩)
  go_ret
  exact ⟨ret_bool (by first | rfl | exact decide_eq_false (by omega)), rfl⟩
theorem mDays_in (Y M D : Nat) (w : World) (hW : Tabs w) (h : IsDay Y M D) :
    Calls Tryd.prog 64 #[.int .i64 Y, .int .i64 M, .int .i64 D] w fun e w' => e = .returned (.int .i64 (dayN Y M D : Nat)) ∧ w = w' := by
  have HI := box h
  obtain ⟨⟨y1, y2⟩, ⟨m1, m2⟩, d1, d2⟩ := h
  have d3 := (len_le (leapN Y) m1 m2).1
  obtain ⟨B, hB⟩ : ∃ B, dbyN Y = B := ⟨_, rfl⟩
  have hb := dby_le y1 (by omega)
  rw [hB] at hb
  have HB := box hB
  have HT := box hW
  have HV : Box ((B : Int) + D - 1 + cumM (leapN Y) M = (dayN Y M D : Nat)) := box (by unfold dayN; omega)
  have hd0 : (B : Int) + (D : Int) - 1 = ((B + (D - 1) : Nat) : Int) := by omega
  have hd4 : D ≤ 31 := by omega
  clear hB hW d2 d3
  go_enter Tryd.func64, Tryd.ntmps64
  go_wp2_with fail
  refine (mExists_yes _ _ _ _ HT.out HI.out).mono ?_; rintro e w1 ⟨rfl, rfl⟩
  go_wp2_with fail
  refine (mDby_is rfl y1 (by omega) HB).mono ?_; rintro e w2 ⟨rfl, rfl⟩
  go_wp2
  go_loop [7, 8] (fun n i => ∃ j : Nat, 1 ≤ j ∧ j ≤ M ∧ i = .int .i64 j ∧ n = .int .i64 (B + (D - 1) + cumM (leapN Y) j : Nat)) (fun _ i => M - (intOf i).toNat)
  case atStart => exact ⟨1, by omega, m1, rfl, by rw [show cumM (leapN Y) 1 = 0 from rfl]; rfl⟩
  case round =>
    obtain ⟨j, j1, j2, rfl, rfl⟩ := hrel
    have j3 := cum_le (leapN Y) (m := j) (by omega)
    by_cases hjt : j < M
    · have hj : (j : Int) < (M : Int) := by omega
      have hn := cum_next (leapN Y) j1
      obtain ⟨q, hq⟩ : ∃ q, lenM (leapN Y) j = q := ⟨_, rfl⟩
      have q2 := (len_le (leapN Y) j1 (by omega : j ≤ 12)).1
      rw [hq] at hn q2
      have HQ := box hq
      have HN : Box (((B + (D - 1) + cumM (leapN Y) j : Nat) : Int) + (q : Int) = ((B + (D - 1) + cumM (leapN Y) (j + 1) : Nat) : Int)) := box (by rw [hn]; omega)
      clear hq hn
      go_wp2_with (go_at_call 83; refine (mLength_is HT.out (by omega) (by omega) j1 (by omega) HQ).mono ?_; rintro e w' ⟨rfl, rfl⟩)
      go_round
      case rel => exact ⟨j + 1, by omega, by omega, by go_num, by rw [← HN.out]; simp only [Int.natCast_add]⟩
      case measure => simp [intOf]; omega
    · have hj : ¬ (j : Int) < (M : Int) := by omega
      obtain rfl : j = M := by omega
      go_wp2
      go_ret
      exact ⟨ret_int (by have := HV.out; push_cast at this ⊢; omega), rfl⟩
theorem mDays_any (y m d : Int) (w : World) (hW : Tabs w) :
    Calls Tryd.prog 64 #[.int .i64 y, .int .i64 m, .int .i64 d] w fun e w' => e = .returned (.int .i64 (daysV y m d)) ∧ w = w' := by
  rcases days_cases y m d with ⟨a, b, c, rfl, rfl, rfl, hD, hV⟩ | ⟨hN, hV⟩
  · rw [hV]; exact mDays_in a b c w hW hD
  · rw [hV]
    have HT := box hW
    have HN := box hN
    clear hW hN hV
    go_enter Tryd.func64, Tryd.ntmps64
    go_wp2_with fail
    refine (mExists_no _ _ _ _ HT.out HN.out).mono ?_; rintro e w1 ⟨rfl, rfl⟩
    go_wp2
    go_ret
    exact ⟨rfl, rfl⟩
theorem mDays_is {y m d v : Int} {w : World} (hW : Tabs w) (h : Box (daysV y m d = v)) :
    Calls Tryd.prog 64 #[.int .i64 y, .int .i64 m, .int .i64 d] w fun e w' => e = .returned (.int .i64 v) ∧ w = w' :=
  (mDays_any y m d w hW).mono fun e w' ⟨h1, h2⟩ => ⟨by rw [h1, h.out], h2⟩
theorem mCal_any (n y m d : Nat) (w : World) (hW : Tabs w) (hc : IsCal n y m d) :
    Calls Tryd.prog 84 #[.int .i64 n] w fun e w' => e = .returned (.tuple #[.int .i64 y, .int .i64 m, .int .i64 d]) ∧ w = w' := by
  have hn := cal_lt hc
  have HC := box hc
  have HT := box hW
  obtain ⟨⟨y1, y2⟩, ⟨m1, m2⟩, _⟩ := hc.1
  obtain ⟨q, hq⟩ : ∃ q, n / 366 = q := ⟨_, rfl⟩
  have hq1 : (n : Int) / 366 = (q : Int) := by omega
  have q1 : 1970 + q ≤ y := by
    have h1 := dby_first n
    rw [hq] at h1
    have h2 := cal_year hc
    refine Nat.le_of_not_lt fun h => ?_
    have := dby_mono (by omega) (by omega : y + 1 ≤ 1970 + q)
    omega
  clear hc hW hq
  go_enter Tryd.func84, Tryd.ntmps84
  go_wp2
  go_loop [5] (fun i => ∃ k : Nat, 1970 ≤ k ∧ k ≤ y ∧ i = .int .i64 k) (fun i => y - (intOf i).toNat)
  case atStart => exact ⟨1970 + q, by omega, q1, by go_num⟩
  case round =>
    obtain ⟨k, k1, k2, rfl⟩ := hrel
    obtain ⟨X, hX⟩ : ∃ X, dbyN (k + 1) = X := ⟨_, rfl⟩
    have HX := box hX
    have hx := dby_le (y := k + 1) (by omega) (by omega)
    have hlt := year_lt HC.out k1
    rw [hX] at hx hlt
    by_cases h : k < y
    · have hg : (X : Int) ≤ (n : Int) := by have := hlt.1 h; omega
      clear hX hlt
      go_wp2_with fail
      refine (mDby_is (y := k + 1) (by omega) (by omega) (by omega) HX).mono ?_; rintro e w1 ⟨rfl, rfl⟩
      go_wp2
      go_round
      case rel => exact ⟨k + 1, by omega, by omega, by go_num⟩
      case measure => simp [intOf]; omega
    · have hg : ¬ (X : Int) ≤ (n : Int) := by
        have := mt hlt.2 h
        omega
      obtain rfl : k = y := by omega
      obtain ⟨B, hB⟩ : ∃ B, dbyN k = B := ⟨_, rfl⟩
      have HB := box hB
      have hBn := (cal_year HC.out).1
      rw [hB] at hBn
      clear hX hlt hB
      go_wp2_with fail
      refine (mDby_is (y := k + 1) (by omega) (by omega) (by omega) HX).mono ?_; rintro e w1 ⟨rfl, rfl⟩
      go_wp2_with fail
      refine (mDby_is (y := k) rfl (by omega) (by omega) HB).mono ?_; rintro e w2 ⟨rfl, rfl⟩
      go_wp2
      go_loop [6, 7] (fun i r => ∃ j u : Nat, 1 ≤ j ∧ j ≤ m ∧ i = .int .i64 j ∧ r = .int .i64 u ∧ B + cumM (leapN k) j + u = n + 1) (fun i _ => m - (intOf i).toNat)
      case atStart => exact ⟨1, n - B + 1, by omega, m1, rfl, by go_num, by rw [show cumM (leapN k) 1 = 0 from rfl]; omega⟩
      case round =>
        obtain ⟨j, u, j1, j2, rfl, rfl, hu⟩ := hrel
        have hl := month_lt HC.out j1
        have hnx := cum_next (leapN k) j1
        obtain ⟨L, hL⟩ : ∃ L, lenM (leapN k) j = L := ⟨_, rfl⟩
        have HL := box hL
        rw [HB.out] at hl
        rw [hL] at hnx
        rw [hnx] at hl
        have HNX := box hnx
        by_cases hj : j < m
        · have g1 : (L : Int) < (u : Int) := by have := hl.1 hj; omega
          have HU : Box (B + cumM (leapN k) (j + 1) + (u - L) = n + 1) := box (by rw [hnx]; omega)
          have hu2 : (u : Int) - (L : Int) = ((u - L : Nat) : Int) := by omega
          have hu3 : u - L ≤ 3000000 := by omega
          clear hl hnx hL hu
          go_wp2_with fail
          refine (mLength_is HT.out (by omega) (by omega) j1 (by omega) HL).mono ?_; rintro e w3 ⟨rfl, rfl⟩
          go_wp2_with fail
          refine (mLength_is HT.out (by omega) (by omega) j1 (by omega) HL).mono ?_; rintro e w4 ⟨rfl, rfl⟩
          go_wp2
          go_round
          case rel => exact ⟨j + 1, u - L, by omega, by omega, by go_num, by go_num, HU.out⟩
          case measure => simp [intOf]; omega
        · have g1 : ¬ (L : Int) < (u : Int) := by have := mt hl.2 hj; omega
          obtain rfl : j = m := by omega
          have hr := cal_range HC.out
          have HD : Box (d = u) := box (by rw [HB.out] at hr; omega)
          clear hl hnx hL hu hr
          go_wp2_with fail
          refine (mLength_is HT.out (by omega) (by omega) j1 (by omega) HL).mono ?_; rintro e w3 ⟨rfl, rfl⟩
          go_wp2
          go_ret3
          exact ⟨by rw [HD.out]; rfl, rfl⟩
end
section
open Go.RowKit
theorem add20 {a b z : List UInt8} (h : Box (a ++ b = z)) (hz : z.length ≤ 1000) (w : World) : (Op.stringOp .add (bs a) (bs b)).run Tryd.prog w = .ok (.string (bs z)) w := by
  have := congrArg List.length h.out
  rw [List.length_append] at this
  rw [run_string_add_sum w _ _ (by rw [bs_size, bs_size]; omega), ← h.out]; rfl
theorem mNumber_is {s : ByteArray} {v : Int} {w : World} (hs : s.size ≤ 1000) (hv : Box ((numV (numL s.data.toList)).1 = v)) :
    Calls Tryd.prog 65 #[.string s] w fun e w' => e = .returned (.int .i64 v) ∧ w = w' := by
  have HX : Box (s.size ≤ maxLen) := box (by unfold maxLen; omega)
  obtain ⟨q, hq⟩ : ∃ q, numT (numL s.data.toList) = .tuple #[.int .i64 v, .bool q] := ⟨_, by unfold numT; rw [hv.out]⟩
  have HQ := box hq
  clear hq hs
  go_enter Tryd.func65, Tryd.ntmps65
  go_wp2_with fail
  refine (Number_any _ _ HX.out).mono ?_; rintro e w1 ⟨rfl, rfl⟩; rw [HQ.out]
  go_wp2
  go_ret
  exact ⟨rfl, rfl⟩
theorem mMonth_any (s : ByteArray) (w : World) (hW : Tabs w) :
    Calls Tryd.prog 66 #[.string s] w fun e w' => e = .returned (.int .i64 (monI s.data.toList : Nat)) ∧ w = w' := by
  have HT := box hW
  clear hW
  go_enter Tryd.func66, Tryd.ntmps66
  go_wp2
  go_loop [3, 4] (fun _ i => ∃ k : Nat, k ≤ 12 ∧ i = .int .i64 k ∧ Box (∀ j, j < k → s.data.toList ≠ monL (j + 1))) (fun _ i => 12 - (intOf i).toNat)
  case atStart => exact ⟨0, by omega, rfl, box (fun j h => absurd h (by omega))⟩
  case round =>
    obtain ⟨k, k1, rfl, HK⟩ := hrel
    by_cases h : k < 12
    · have hk0 : (0 : Int) ≤ (k : Int) := by omega
      have hk1 : (k : Int) < 12 := by omega
      have hc := HT.out.mo k h
      by_cases e : s.data.toList = monL (k + 1)
      · have he : ((bs (monL (k + 1))).toList == s.toList) = true := by rw [toList_bs, toList_data, beq_iff_eq]; exact e.symm
        have HV : Box (monI s.data.toList = k + 1) := box (by rw [e]; exact mon_back (by omega) (by omega))
        clear e
        go_wp2
        go_ret
        exact ⟨by rw [HV.out]; simp only [Int.natCast_add]; rfl, rfl⟩
      · have he : ((bs (monL (k + 1))).toList == s.toList) = false := by rw [toList_bs, toList_data, beq_eq_false_iff_ne]; exact fun q => e q.symm
        have HN : Box (∀ j, j < k + 1 → s.data.toList ≠ monL (j + 1)) := box (fun j hj => by
          by_cases q : j = k
          · subst q; exact e
          · exact HK.out j (by omega))
        clear e
        go_wp2
        go_round
        case rel => exact ⟨k + 1, by omega, by go_num, HN⟩
        case measure => simp [intOf]; omega
    · have hk1 : ¬ (k : Int) < 12 := by omega
      have HV : Box (monI s.data.toList = 0) := box (by
        rcases mon_cases s.data.toList with ⟨m, m1, m2, m3, _⟩ | ⟨_, h4⟩
        · exfalso
          have := HK.out (m - 1) (by omega)
          rw [show m - 1 + 1 = m from by omega] at this
          exact this m3
        · exact h4)
      go_wp2
      go_ret
      exact ⟨by rw [HV.out]; rfl, rfl⟩
theorem Dec20_is {n : Int} {x : ByteArray} {w : World} (h1 : InI64 n) (h : Box (bs (decL n) = x)) :
    Calls Tryd.prog 86 #[.int .i64 n] w fun e w' => e = .returned (.string x) ∧ Below w.heap.size w w' :=
  (Decimal_any n w h1).mono fun e w' ⟨h1, h2⟩ => ⟨by rw [h1, ← h.out]; rfl, h2⟩
theorem mTwo_any (n : Nat) (w : World) (h : n < 100) :
    Calls Tryd.prog 85 #[.int .i64 n] w fun e w' => e = .returned (.string (bs (twoL n))) ∧ Below w.heap.size w w' := by
  obtain ⟨a, ha⟩ : ∃ a, n / 10 = a := ⟨_, rfl⟩
  obtain ⟨b, hb⟩ : ∃ b, n % 10 = b := ⟨_, rfl⟩
  have h1 : (n : Int) / 10 = (a : Int) := by omega
  have h2 : (n : Int) % 10 = (b : Int) := by omega
  have HA : Box (bs (decL (a : Int)) = bs [digB a]) := box (by rw [dec_one (by omega)])
  have HB : Box (bs (decL (b : Int)) = bs [digB b]) := box (by rw [dec_one (by omega)])
  have HV : Box (bs (twoL n) = bs [digB a, digB b]) := box (by unfold twoL; rw [ha, digB_mod n b (by omega)])
  have r1 : ∀ w, (Op.stringOp .add (bs [digB a]) (bs [digB b])).run Tryd.prog w = .ok (.string (bs [digB a, digB b])) w := add20 (box rfl) (by show 2 ≤ 1000; omega)
  have a1 : a < 10 := by omega
  have b1 : b < 10 := by omega
  clear ha hb
  go_enter Tryd.func85, Tryd.ntmps85
  go_wp2_with fail
  refine (Dec20_is ⟨by omega, by omega⟩ HA).mono ?_; rintro e w1 ⟨rfl, hb1⟩
  have B1 := box hb1
  clear hb1
  go_wp2_with fail
  refine (Dec20_is ⟨by omega, by omega⟩ HB).mono ?_; rintro e w2 ⟨rfl, hb2⟩
  have B2 := box (B1.out.trans (hb2.mono B1.out.size))
  clear hb2
  go_wp2
  go_ret
  exact ⟨by rw [HV.out]; rfl, B2.out⟩
theorem mClock_any (s : Nat) (w : World) (h : s < 86400) :
    Calls Tryd.prog 87 #[.int .i64 s] w fun e w' => e = .returned (.string (bs (clkL s))) ∧ Below w.heap.size w w' := by
  obtain ⟨H, hH⟩ : ∃ H, s / 3600 = H := ⟨_, rfl⟩
  obtain ⟨M, hM⟩ : ∃ M, s / 60 % 60 = M := ⟨_, rfl⟩
  obtain ⟨S, hS⟩ : ∃ S, s % 60 = S := ⟨_, rfl⟩
  have h1 : (s : Int) / 3600 = (H : Int) := by omega
  have h2 : (s : Int) % 3600 / 60 = (M : Int) := by omega
  have h3 : (s : Int) % 60 = (S : Int) := by omega
  have l1 : H < 100 := by omega
  have l2 : M < 100 := by omega
  have l3 : S < 100 := by omega
  have HV : Box (bs (clkL s) = bs (twoL H ++ [58] ++ twoL M ++ [58] ++ twoL S)) := box (by unfold clkL; rw [hH, hM, hS])
  have r1 : ∀ w, (Op.stringOp .add (bs (twoL H)) ⟨#[58]⟩).run Tryd.prog w = .ok (.string (bs (twoL H ++ [58]))) w := add20 (box rfl) (by show 3 ≤ 1000; omega)
  have r2 : ∀ w, (Op.stringOp .add (bs (twoL H ++ [58])) (bs (twoL M))).run Tryd.prog w = .ok (.string (bs (twoL H ++ [58] ++ twoL M))) w := add20 (box rfl) (by show 5 ≤ 1000; omega)
  have r3 : ∀ w, (Op.stringOp .add (bs (twoL H ++ [58] ++ twoL M)) ⟨#[58]⟩).run Tryd.prog w = .ok (.string (bs (twoL H ++ [58] ++ twoL M ++ [58]))) w := add20 (box rfl) (by show 6 ≤ 1000; omega)
  have r4 : ∀ w, (Op.stringOp .add (bs (twoL H ++ [58] ++ twoL M ++ [58])) (bs (twoL S))).run Tryd.prog w = .ok (.string (bs (twoL H ++ [58] ++ twoL M ++ [58] ++ twoL S))) w := add20 (box rfl) (by show 8 ≤ 1000; omega)
  clear hH hM hS
  go_enter Tryd.func87, Tryd.ntmps87
  go_wp2_with fail
  refine (mTwo_any H _ l1).mono ?_; rintro e w1 ⟨rfl, hb1⟩
  have B1 := box hb1
  clear hb1
  go_wp2_with fail
  refine (mTwo_any M _ l2).mono ?_; rintro e w2 ⟨rfl, hb2⟩
  have B2 := box (B1.out.trans (hb2.mono B1.out.size))
  clear hb2
  go_wp2_with fail
  refine (mTwo_any S _ l3).mono ?_; rintro e w3 ⟨rfl, hb3⟩
  have B3 := box (B2.out.trans (hb3.mono B2.out.size))
  clear hb3
  go_wp2
  go_ret
  exact ⟨by rw [HV.out]; rfl, B3.out⟩
end
section
open Go.RowKit
set_option maxHeartbeats 4000000 in
theorem mFmt_in (T n s y m d : Nat) (w : World) (hT : T = n * 86400 + s) (hs : s < 86400) (hc : IsCal n y m d) (hW : Tabs w) :
    Calls Tryd.prog 67 #[.int .i64 T] w fun e w' => e = .returned (.string (bs (dateL y m d n s))) ∧ Below w.heap.size w w' := by
  have hn := cal_lt hc
  have HC := box hc
  have HT := box hW
  obtain ⟨⟨y1, y2⟩, ⟨m1, m2⟩, d1, d2⟩ := hc.1
  have d3 : d < 100 := by have := (len_le (leapN y) m1 m2).1; omega
  have i1 : ¬ (T : Int) < 0 := by omega
  have i2 : ¬ (253402300799 : Int) < (T : Int) := by omega
  have hq : (T : Int) / 86400 = (n : Int) := by omega
  have hm : (T : Int) % 86400 = (s : Int) := by omega
  obtain ⟨a, ha⟩ : ∃ a, n % 7 = a := ⟨_, rfl⟩
  have ha7 : a < 7 := by omega
  obtain ⟨K, hK⟩ : ∃ K, m - 1 = K := ⟨_, rfl⟩
  have CW := box (hW.wk a ha7)
  have CM : Box (w.cell? ⟨0, K, none⟩ = some (.string (bs (monL m)))) := box (by have := hW.mo K (by omega); rw [show K + 1 = m from by omega] at this; exact this)
  have DY4 : Box (bs (decL (y : Int)) = bs (fourL y)) := box (by rw [dec_fourL (by omega) (by omega)])
  obtain ⟨z1, h1⟩ : ∃ z, wkL a ++ [44, 32] = z := ⟨_, rfl⟩
  obtain ⟨z2, h2⟩ : ∃ z, z1 ++ twoL d = z := ⟨_, rfl⟩
  obtain ⟨z3, h3⟩ : ∃ z, z2 ++ [32] = z := ⟨_, rfl⟩
  obtain ⟨z4, h4⟩ : ∃ z, z3 ++ monL m = z := ⟨_, rfl⟩
  obtain ⟨z5, h5⟩ : ∃ z, z4 ++ [32] = z := ⟨_, rfl⟩
  obtain ⟨z6, h6⟩ : ∃ z, z5 ++ fourL y = z := ⟨_, rfl⟩
  obtain ⟨z7, h7⟩ : ∃ z, z6 ++ [32] = z := ⟨_, rfl⟩
  obtain ⟨z8, h8⟩ : ∃ z, z7 ++ clkL s = z := ⟨_, rfl⟩
  obtain ⟨z9, h9⟩ : ∃ z, z8 ++ [32, 71, 77, 84] = z := ⟨_, rfl⟩
  have HZ : Box (bs z9 = bs (dateL y m d n s)) := box (by
    rw [← h9, ← h8, ← h7, ← h6, ← h5, ← h4, ← h3, ← h2, ← h1]
    unfold dateL
    rw [ha])
  have hz : z9.length = 29 := by rw [bs_inj HZ.out]; exact date_len m1 m2
  have l8 : z8.length ≤ 1000 := by rw [← h9, List.length_append] at hz; omega
  have l7 : z7.length ≤ 1000 := by rw [← h8, List.length_append] at l8; omega
  have l6 : z6.length ≤ 1000 := by rw [← h7, List.length_append] at l7; omega
  have l5 : z5.length ≤ 1000 := by rw [← h6, List.length_append] at l6; omega
  have l4 : z4.length ≤ 1000 := by rw [← h5, List.length_append] at l5; omega
  have l3 : z3.length ≤ 1000 := by rw [← h4, List.length_append] at l4; omega
  have l2 : z2.length ≤ 1000 := by rw [← h3, List.length_append] at l3; omega
  have l1 : z1.length ≤ 1000 := by rw [← h2, List.length_append] at l2; omega
  have R1 : Box (∀ w, (Op.stringOp .add (bs (wkL a)) ⟨#[44, 32]⟩).run Tryd.prog w = .ok (.string (bs z1)) w) := box (add20 (box h1) l1)
  have R2 : Box (∀ w, (Op.stringOp .add (bs z1) (bs (twoL d))).run Tryd.prog w = .ok (.string (bs z2)) w) := box (add20 (box h2) l2)
  have R3 : Box (∀ w, (Op.stringOp .add (bs z2) ⟨#[32]⟩).run Tryd.prog w = .ok (.string (bs z3)) w) := box (add20 (box h3) l3)
  have R4 : Box (∀ w, (Op.stringOp .add (bs z3) (bs (monL m))).run Tryd.prog w = .ok (.string (bs z4)) w) := box (add20 (box h4) l4)
  have R5 : Box (∀ w, (Op.stringOp .add (bs z4) ⟨#[32]⟩).run Tryd.prog w = .ok (.string (bs z5)) w) := box (add20 (box h5) l5)
  have R6 : Box (∀ w, (Op.stringOp .add (bs z5) (bs (fourL y))).run Tryd.prog w = .ok (.string (bs z6)) w) := box (add20 (box h6) l6)
  have R7 : Box (∀ w, (Op.stringOp .add (bs z6) ⟨#[32]⟩).run Tryd.prog w = .ok (.string (bs z7)) w) := box (add20 (box h7) l7)
  have R8 : Box (∀ w, (Op.stringOp .add (bs z7) (bs (clkL s))).run Tryd.prog w = .ok (.string (bs z8)) w) := box (add20 (box h8) l8)
  have R9 : Box (∀ w, (Op.stringOp .add (bs z8) ⟨#[32, 71, 77, 84]⟩).run Tryd.prog w = .ok (.string (bs z9)) w) := box (add20 (box h9) (by omega))
  have FA : Box ((n : Int).tmod 7 = (a : Int) ∧ IntKind.i64.wrap (a : Int) = (a : Int) ∧ (m : Int) - 1 = (K : Int) ∧ IntKind.i64.wrap (K : Int) = (K : Int)) := box ⟨by rw [Int.tmod_eq_emod_of_nonneg (by omega)]; omega, IntWalk.i64_in _ (by omega), by omega, IntWalk.i64_in _ (by omega)⟩
  have FB : Box (((0 : Int) ≤ (a : Int) ∧ (a : Int) < 7) ∧ (0 : Int) ≤ (K : Int) ∧ (K : Int) < 12) := box (by omega)
  clear hT d2 hc h1 h2 h3 h4 h5 h6 h7 h8 h9 l1 l2 l3 l4 l5 l6 l7 l8 hz ha hK ha7 hW
  go_enter Tryd.func67, Tryd.ntmps67
  go_wp2_with fail
  refine (mCal_any n y m d _ HT.out HC.out).mono ?_; rintro e w0 ⟨rfl, rfl⟩
  go_wp2_with fail
  obtain ⟨f1, f2, f3, f4⟩ := FA.out
  obtain ⟨⟨e1, e2⟩, e3, e4⟩ := FB.out
  have r1 := R1.out
  have r2 := R2.out
  have r3 := R3.out
  have r4 := R4.out
  have r5 := R5.out
  have r6 := R6.out
  have r7 := R7.out
  have r8 := R8.out
  have r9 := R9.out
  have S1 := box HT.out.s1
  have S2 := box HT.out.s2
  have B0 := box ((Below.refl w.heap.size w).drew)
  go_region_held3 (fun w' => w'.cell? ⟨1, a, none⟩ = some (.string (bs (wkL a))) ∧ w'.cell? ⟨0, K, none⟩ = some (.string (bs (monL m)))) (first | exact ⟨(B3.out.cell S1.out).trans CW.out, (B3.out.cell S2.out).trans CM.out⟩ | exact ⟨(B2.out.cell S1.out).trans CW.out, (B2.out.cell S2.out).trans CM.out⟩ | exact ⟨(B1.out.cell S1.out).trans CW.out, (B1.out.cell S2.out).trans CM.out⟩ | exact ⟨(B0.out.cell S1.out).trans CW.out, (B0.out.cell S2.out).trans CM.out⟩) (first | (go_at_call 87; refine (mClock_any s _ hs).mono ?_; rintro e w3 ⟨rfl, hb3⟩; have B3 := box (B2.out.trans (hb3.mono B2.out.size))) | (go_at_call 86; refine (Dec20_is ⟨by omega, by omega⟩ DY4).mono ?_; rintro e w2 ⟨rfl, hb2⟩; have B2 := box (B1.out.trans (hb2.mono B1.out.size))) | (go_at_call 85; refine (mTwo_any d _ d3).mono ?_; rintro e w1 ⟨rfl, hb1⟩; have B1 := box (B0.out.trans (hb1.mono B0.out.size))))
  go_wp2
  go_ret
  exact ⟨by rw [← HZ.out]; rfl, B3.out⟩
theorem mFmt_any (t : Int) (x : List UInt8) (w : World) (hx : FmtIs t x) (hW : Tabs w) :
    Calls Tryd.prog 67 #[.int .i64 t] w fun e w' => e = .returned (.string (bs x)) ∧ Below w.heap.size w w' := by
  rcases hx with ⟨n, s, y, m, d, rfl, hs, hc, rfl⟩ | ⟨h, rfl⟩
  · exact mFmt_in _ n s y m d w rfl hs hc hW
  · clear hW
    rcases h with h | h
    · go_enter Tryd.func67, Tryd.ntmps67
      go_wp2
      go_ret
      exact ⟨rfl, Below.refl _ _⟩
    · have h0 : ¬ t < 0 := by omega
      go_enter Tryd.func67, Tryd.ntmps67
      go_wp2
      go_ret
      exact ⟨rfl, Below.refl _ _⟩
end
section
open Go.RowKit
theorem num_q20 {s : ByteArray} {v : Int} {w : World} (hs : Box (s.size ≤ 1000)) (hv : Box ((numV (numL s.data.toList)).1 = v)) :
    Calls Tryd.prog 65 #[.string s] w fun e w' => e = .returned (.int .i64 v) ∧ w' = w :=
  (mNumber_is hs.out hv).mono fun e w' ⟨h1, h2⟩ => ⟨h1, h2.symm⟩
theorem mon_q20 {s : ByteArray} {m : Nat} {w : World} (hW : Tabs w) (hv : Box (monI s.data.toList = m)) :
    Calls Tryd.prog 66 #[.string s] w fun e w' => e = .returned (.int .i64 m) ∧ w' = w :=
  (mMonth_any s w hW).mono fun e w' ⟨h1, h2⟩ => ⟨by rw [h1, hv.out], h2.symm⟩
theorem days_q20 {y m d v : Int} {w : World} (hW : Tabs w) (hv : Box (daysV y m d = v)) :
    Calls Tryd.prog 64 #[.int .i64 y, .int .i64 m, .int .i64 d] w fun e w' => e = .returned (.int .i64 v) ∧ w' = w :=
  (mDays_is hW hv).mono fun e w' ⟨h1, h2⟩ => ⟨h1, h2.symm⟩
theorem ext_num {s p : ByteArray} {a b : Nat} {v : Int} (hp : s.extract a b = p) (hv : nmD s.data.toList a b = v) : Box ((numV (numL p.data.toList)).1 = v) := box (by
  rw [← hp, ext_cut, bs_toList]; exact hv)
theorem ext_size {s p : ByteArray} {a b : Nat} (hp : s.extract a b = p) (h : b ≤ 1000) : Box (p.size ≤ 1000) := box (by
  rw [← hp, ByteArray.size_extract]; omega)
set_option maxHeartbeats 2000000 in
theorem mParse_in (s : ByteArray) (w : World) (hs : s.size = 29) (hW : Tabs w) :
    Calls Tryd.prog 44 #[.string s] w fun e w' => e = .returned (numT (prsD s.data.toList)) ∧ Below w.heap.size w w' := by
  have HT := box hW
  obtain ⟨p12, h12⟩ : ∃ p, s.extract 12 16 = p := ⟨_, rfl⟩
  obtain ⟨p8, h8⟩ : ∃ p, s.extract 8 11 = p := ⟨_, rfl⟩
  obtain ⟨p5, h5⟩ : ∃ p, s.extract 5 7 = p := ⟨_, rfl⟩
  obtain ⟨p17, h17⟩ : ∃ p, s.extract 17 19 = p := ⟨_, rfl⟩
  obtain ⟨p20, h20⟩ : ∃ p, s.extract 20 22 = p := ⟨_, rfl⟩
  obtain ⟨p23, h23⟩ : ∃ p, s.extract 23 25 = p := ⟨_, rfl⟩
  obtain ⟨Y, hY⟩ : ∃ v, nmD s.data.toList 12 16 = v := ⟨_, rfl⟩
  obtain ⟨M, hM⟩ : ∃ v, monI (cutD s.data.toList 8 11) = v := ⟨_, rfl⟩
  obtain ⟨D, hD⟩ : ∃ v, nmD s.data.toList 5 7 = v := ⟨_, rfl⟩
  obtain ⟨H, hH⟩ : ∃ v, nmD s.data.toList 17 19 = v := ⟨_, rfl⟩
  obtain ⟨I, hI⟩ : ∃ v, nmD s.data.toList 20 22 = v := ⟨_, rfl⟩
  obtain ⟨C, hC⟩ : ∃ v, nmD s.data.toList 23 25 = v := ⟨_, rfl⟩
  obtain ⟨V, hV⟩ : ∃ v, daysV Y M D = v := ⟨_, rfl⟩
  have hdy : dayD s.data.toList = V := by unfold dayD; rw [hY, hM, hD]; exact hV
  have htm : timeD s.data.toList = V * 86400 + (H * 3600 + I * 60 + C) := by unfold timeD; rw [hdy, hH, hI, hC]
  have b1 := day_bd s.data.toList
  rw [hdy] at b1
  have b2 := nm_bd s.data.toList 17 19
  rw [hH] at b2
  have b3 := nm_bd s.data.toList 20 22
  rw [hI] at b3
  have b4 := nm_bd s.data.toList 23 25
  rw [hC] at b4
  have N12 := ext_num h12 hY
  have N5 := ext_num h5 hD
  have N17 := ext_num h17 hH
  have N20 := ext_num h20 hI
  have N23 := ext_num h23 hC
  have N8 : Box (monI p8.data.toList = M) := box (by rw [← h8, ext_cut, bs_toList]; exact hM)
  have Z12 := ext_size h12 (by omega)
  have Z5 := ext_size h5 (by omega)
  have Z17 := ext_size h17 (by omega)
  have Z20 := ext_size h20 (by omega)
  have Z23 := ext_size h23 (by omega)
  have E12 := box h12
  have E8 := box h8
  have E5 := box h5
  have E17 := box h17
  have E20 := box h20
  have E23 := box h23
  have NV := box hV
  obtain ⟨P1, hP1⟩ : ∃ v, V * 86400 = v := ⟨_, rfl⟩
  obtain ⟨P2, hP2⟩ : ∃ v, H * 3600 = v := ⟨_, rfl⟩
  obtain ⟨P3, hP3⟩ : ∃ v, I * 60 = v := ⟨_, rfl⟩
  obtain ⟨P4, hP4⟩ : ∃ v, P2 + P3 = v := ⟨_, rfl⟩
  obtain ⟨P5, hP5⟩ : ∃ v, P4 + C = v := ⟨_, rfl⟩
  obtain ⟨P6, hP6⟩ : ∃ v, P1 + P5 = v := ⟨_, rfl⟩
  have W1 : IntKind.i64.wrap P1 = P1 := IntWalk.i64_in _ (by omega)
  have W2 : IntKind.i64.wrap P2 = P2 := IntWalk.i64_in _ (by omega)
  have W3 : IntKind.i64.wrap P3 = P3 := IntWalk.i64_in _ (by omega)
  have W4 : IntKind.i64.wrap P4 = P4 := IntWalk.i64_in _ (by omega)
  have W5 : IntKind.i64.wrap P5 = P5 := IntWalk.i64_in _ (by omega)
  have W6 : IntKind.i64.wrap P6 = P6 := IntWalk.i64_in _ (by omega)
  have W7 : IntKind.i64.wrap P5 = P5 := W5
  have ht6 : timeD s.data.toList = P6 := by rw [htm]; omega
  obtain ⟨x, hx⟩ := fmt_exists P6
  have HX := box hx
  have HP : Box (prsD s.data.toList = if x = s.data.toList then some P6 else none) := box (by
    have := prs_fmt (l := s.data.toList) (x := x) (by simpa using hs) (by rw [ht6]; exact hx)
    rw [ht6] at this; exact this)
  clear hY hM hD hH hI hC hV hdy htm b1 b2 b3 b4 ht6 hx hW h12 h8 h5 h17 h20 h23
  go_enter Tryd.func44, Tryd.ntmps44
  go_wp2_with fail
  go_quiet (first | (go_at_call 65; rw [E12.out]; exact Calls.quiet_of_same (num_q20 Z12 N12)) | (go_at_call 65; rw [E5.out]; exact Calls.quiet_of_same (num_q20 Z5 N5)) | (go_at_call 66; rw [E8.out]; exact Calls.quiet_of_same (mon_q20 (HT.out.below (below_drewN _ _)) N8)) | (go_at_call 64; exact Calls.quiet_of_same (days_q20 (HT.out.below (below_drewN _ _)) NV)))
  have B1 := box (below_drewN w nq)
  generalize w.drewN nq = w1 at B1 ⊢
  clear nq
  go_wp2_with fail
  go_quiet (first | (go_at_call 65; rw [E17.out]; exact Calls.quiet_of_same (num_q20 Z17 N17)) | (go_at_call 65; rw [E20.out]; exact Calls.quiet_of_same (num_q20 Z20 N20)) | (go_at_call 65; rw [E23.out]; exact Calls.quiet_of_same (num_q20 Z23 N23)))
  have B2 := box (B1.out.trans ((below_drewN w1 nq).mono B1.out.size))
  generalize w1.drewN nq = w2 at B2 ⊢
  go_wp2_with fail
  refine (mFmt_any _ _ _ HX.out (HT.out.below B2.out)).mono ?_; rintro e w3 ⟨rfl, hb3⟩
  have B3 := box (B2.out.trans (hb3.mono B2.out.size))
  clear hb3
  by_cases hxl : x = s.data.toList
  · have he : ((bs x).toList == s.toList) = true := by rw [toList_bs, toList_data, beq_iff_eq]; exact hxl
    have HV : Box (prsD s.data.toList = some P6) := box (by rw [HP.out, if_pos hxl])
    clear hxl
    go_wp2
    go_ret2
    exact ⟨by rw [HV.out]; rfl, B3.out⟩
  · have he : ((bs x).toList == s.toList) = false := by rw [toList_bs, toList_data, beq_eq_false_iff_ne]; exact hxl
    have HV : Box (prsD s.data.toList = none) := box (by rw [HP.out, if_neg hxl])
    clear hxl
    go_wp2
    go_ret2
    exact ⟨by rw [HV.out]; rfl, B3.out⟩
theorem mParse20_any (s : ByteArray) (w : World) (hs : s.size ≤ 9223372036854775807) (hW : Tabs w) :
    Calls Tryd.prog 44 #[.string s] w fun e w' => e = .returned (numT (prsD s.data.toList)) ∧ Below w.heap.size w w' := by
  by_cases h : s.size = 29
  · exact mParse_in s w h hW
  · have HV : Box (prsD s.data.toList = none) := box (prs_no fun g => h (by have := g.len; simpa using this))
    have hi : ((s.size : Int) != 29) = true := by rw [bne_iff_ne]; omega
    clear h hW
    go_enter Tryd.func44, Tryd.ntmps44
    go_wp2
    go_ret2
    exact ⟨by rw [HV.out]; rfl, Below.refl _ _⟩
end
end Go.Proofs.YtiogngfemelifaaDoor.Asc
