/- The contract of the reference's Segments. -/
import Derived.Test.YtilodlmjamaiiaaTarRef
import Derived.Test.YtilodlmjamaiiaaStrMem
import Derived.Test.YtilodlmjamaiiaaAscTrim
import Derived.Deep.QuietTactic
import Derived.BigQuiet
set_option linter.unusedVariables false
set_option linter.unusedSimpArgs false
namespace Go.Proofs.Ytilodlmjamaiiaa.Asc
open Go.RowKit

def outL (ob : List ByteArray) : List (List UInt8) := ob.map (·.data.toList)
theorem outL_app (a b : List ByteArray) : outL (a ++ b) = outL a ++ outL b := by simp [outL]
theorem outL_last (a : List ByteArray) : outL a.dropLast = (outL a).dropLast := by simp [outL, List.map_dropLast]
/-- out has been left of the pieces of r0; rest is to come -/
def SegAt (r0 : List UInt8) (ob : List ByteArray) (rest : List UInt8) : Bool → Prop
  | true => dotsL [] (piecesL r0) = dotsL (outL ob) (piecesL rest) ∧ (joinL (outL ob)).length + rest.length ≤ r0.length
  | false => dotsL [] (piecesL r0) = outL ob ∧ (joinL (outL ob)).length ≤ r0.length + 1
theorem SegAt.start (r0 : List UInt8) : SegAt r0 [] r0 true := ⟨rfl, by simp [outL, joinL]⟩
theorem join_app (a b : List (List UInt8)) : joinL (a ++ b) = joinL a ++ joinL b := by simp [joinL]
theorem join_last (a : List (List UInt8)) : (joinL a.dropLast).length ≤ (joinL a).length := by
  rcases List.eq_nil_or_concat a with rfl | ⟨b, x, rfl⟩
  · simp [joinL]
  · rw [List.concat_eq_append, List.dropLast_concat, join_app]; simp
theorem len_join (a : List (List UInt8)) : a.length ≤ (joinL a).length := by
  induction a with
  | nil => simp [joinL]
  | cons x a ih => simp only [joinL, List.flatMap_cons, List.length_append, List.length_cons] at *; omega
theorem SegAt.len {r0 rest : List UInt8} {ob : List ByteArray} {m : Bool} (h : SegAt r0 ob rest m) : ob.length ≤ r0.length + 1 := by
  have h1 := len_join (outL ob)
  have h2 : (outL ob).length = ob.length := by simp [outL]
  cases m
  · have := h.2; omega
  · have := h.2; omega
/-- a round: the piece x, and whether there is more behind it -/
theorem seg_step {r0 rest x r2 : List UInt8} {ob : List ByteArray} {m : Bool} (h : SegAt r0 ob rest true) (hp : piecesL rest = x :: (if m then piecesL r2 else [])) (hl : x.length + (if m then r2.length + 1 else 0) = rest.length) :
    (∀ xb : ByteArray, xb.data.toList = x → x ≠ dot2 → x ≠ dot1 → SegAt r0 (ob ++ [xb]) r2 m) ∧
    (x = dot2 → m = true → SegAt r0 ob.dropLast r2 m) ∧ (x = dot2 → m = false → SegAt r0 (ob.dropLast ++ [⟨#[]⟩]) r2 m) ∧
    (x = dot1 → m = true → SegAt r0 ob r2 m) ∧ (x = dot1 → m = false → SegAt r0 (ob ++ [⟨#[]⟩]) r2 m) := by
  obtain ⟨h1, h2⟩ := h
  rw [hp] at h1
  have hd := join_last (outL ob)
  have d12 : dot1 ≠ dot2 := by decide
  refine ⟨fun xb hb n2 n1 => ?_, fun e em => ?_, fun e em => ?_, fun e em => ?_, fun e em => ?_⟩
  · cases m
    · refine ⟨?_, ?_⟩
      · rw [h1, dotsL, if_neg n2, if_neg n1, outL_app]; simp [dotsL, outL, hb]
      · rw [outL_app, join_app, List.length_append]; simp [outL, joinL, hb] at hl h2 ⊢; omega
    · refine ⟨?_, ?_⟩
      · rw [h1, dotsL, if_neg n2, if_neg n1, outL_app]; simp [outL, hb]
      · rw [outL_app, join_app, List.length_append]; simp [outL, joinL, hb] at hl h2 ⊢; omega
  · subst em
    refine ⟨?_, ?_⟩
    · rw [h1, dotsL, if_pos e, if_neg (by simpa using pieces_ne r2), outL_last]; rfl
    · rw [outL_last]; simp at hl; omega
  · subst em
    refine ⟨?_, ?_⟩
    · rw [h1, dotsL, if_pos e, if_pos (by simp), outL_app, outL_last]; simp [outL]
    · rw [outL_app, outL_last, join_app, List.length_append]; simp [outL, joinL] at hl h2 hd ⊢; omega
  · subst em
    refine ⟨?_, ?_⟩
    · rw [h1, dotsL, if_neg (by rw [e]; exact d12), if_pos e, if_neg (by simpa using pieces_ne r2)]; rfl
    · simp at hl; omega
  · subst em
    refine ⟨?_, ?_⟩
    · rw [h1, dotsL, if_neg (by rw [e]; exact d12), if_pos e, if_pos (by simp), outL_app]; simp [outL]
    · rw [outL_app, join_app, List.length_append]; simp [outL, joinL] at hl h2 ⊢; omega
theorem OwnS.form {w : World} {B : Nat} {v : Value} {L : List ByteArray} (h : OwnS w B v L) (hn : L ≠ []) : ∃ g cap, v = .slice (some ⟨g, 0, none⟩) L.length cap ∧ L.length ≤ cap ∧ OwnS w B (.slice (some ⟨g, 0, none⟩) (L.length - 1) cap) L.dropLast := by
  rcases h.2 with ⟨_, h0⟩ | ⟨g, cap, cur, hv, hB, hg, hc, hm, hs, ht⟩
  · exact absurd (List.eq_nil_of_length_eq_zero h0) hn
  · refine ⟨g, cap, hv, hc, by simp, .inr ⟨g, cap, cur, by simp, hB, hg, by simp; omega, hm, hs, ?_⟩⟩
    have hcl : cur.toList.length = cap := by simpa using hs
    have e : (cur.toList.take (L.length * 1)).dropLast = cur.toList.take (L.length - 1) := by
      rw [List.dropLast_eq_take, List.take_take, List.length_take]
      congr 1; omega
    show cur.toList.take (L.dropLast.length * 1) = L.dropLast.map Value.string
    rw [List.length_dropLast, List.map_dropLast, ← ht, e, Nat.mul_one]
def strSize : Value → Nat
  | .string s => s.size
  | _ => 0
def isT : Value → Nat
  | .bool true => 1
  | _ => 0
theorem seg_head_not {s : ByteArray} (h : s.toList.isEmpty = true ∨ ∃ h : 0 < s.size, s[0].toNat ≠ 47) : segL s.data.toList = s.data.toList := by
  refine seg_other ?_
  rcases h with h | ⟨h, h2⟩
  · rw [toList_data, List.isEmpty_iff] at h; rw [h]; simp
  · intro e
    rw [List.head?_eq_getElem?, List.getElem?_eq_getElem (by simpa using h)] at e
    simp at e
    exact h2 (by rw [show s[0] = s.data[0] from rfl, e]; rfl)
theorem cell_new' (w : World) (v : Value) (t : TypeId) (n : Nat) (hn : n = w.heap.size) : (w.alloc (.cells #[v] t)).cell? ⟨n, 0, none⟩ = some v := by
  rw [World.cell?_alloc_at _ _ _ _ hn]; rfl
theorem size_more' (w : World) (o : Obj) : w.heap.size ≤ (w.alloc o).heap.size := ((Below.refl w.heap.size w).alloc (Nat.le_refl _) o).size
theorem below_alloc' (w : World) (o : Obj) : Below w.heap.size w (w.alloc o) := (Below.refl _ _).alloc (Nat.le_refl _) o
set_option maxRecDepth 100000 in
set_option maxHeartbeats 3000000 in
theorem rSegments_slash (s : ByteArray) (w : World) (hs : s.size ≤ 60000) (h0 : 0 < s.size) (h47 : ((s[0].toNat : Int) != 47) = false) (r0 : ByteArray) (HR0 : Box (s.extract 1 s.size = r0)) (HS : Box (s.data.toList = 47 :: r0.data.toList)) (hne : s.toList.isEmpty = false) :
    Calls Try.prog 18 #[.string s] w fun e w' => e = .returned (.string (bs (segL s.data.toList))) ∧ Below w.heap.size w w' := by
  have hr0 : r0.size ≤ 60000 := by rw [← HR0.out, ByteArray.size_extract]; omega
  go_enter Try.func18, Try.ntmps18
  go_wp2
  rw [HR0.out]
  go_loopw [3, 4, 5] (fun v r m wr => ∃ (ob : List ByteArray) (rest : ByteArray) (b : Bool), r = .string rest ∧ m = .bool b ∧ OwnS wr w.heap.size v ob ∧ SegAt r0.data.toList ob rest.data.toList b ∧ Below w.heap.size w wr) (fun _ r m _ => strSize r + isT m)
  case atStart => exact ⟨[], r0, true, rfl, rfl, OwnS.nil _ _, SegAt.start _, Below.refl _ _⟩
  case round =>
    obtain ⟨ob, rest, b, rfl, rfl, hO, hSG, hbel⟩ := hrel
    have O := box hO
    have SG := box hSG
    have BL := box hbel
    have hbs := hbel.size
    have LEN : Box (ob.length ≤ 60001) := box (by have := hSG.len; have hz : r0.data.toList.length = r0.size := by simp
                                                  omega)
    clear hO hSG hbel
    rcases b with _ | _
    · have hcap := LEN.out
      have HEND : Box (segL s.data.toList = joinL (outL ob)) := box (by rw [HS.out, seg_slash, SG.out.1])
      have HJ : Box ((joinL (outL ob)).length ≤ 60001) := box (by
        have h := SG.out.2
        have hz : r0.data.toList.length = r0.size := by simp
        omega)
      obtain ⟨aa, capa, rfl, hSs, _⟩ := OwnS.ss O.out
      have SS := box hSs
      clear hSs
      go_wp2
      go_loop [8, 9] (fun t i => ∃ (k : Nat) (acc : ByteArray), k ≤ ob.length ∧ i = .int .i64 k ∧ t = .string acc ∧ acc.data.toList = joinL (outL (ob.take k))) (fun _ i => ob.length - (intOf i).toNat)
      case atStart => exact ⟨0, _, Nat.zero_le _, rfl, rfl, rfl⟩
      case round =>
        obtain ⟨k, acc, hk, rfl, rfl, hacc⟩ := hrel
        have AC := box hacc
        clear hacc
        by_cases hlt : k < ob.length
        · obtain ⟨q, off, rfl, c0⟩ := SS.out k hlt
          have hnext : joinL (outL (ob.take (k + 1))) = joinL (outL (ob.take k)) ++ 47 :: ob[k].data.toList := by
            rw [List.take_succ_eq_append_getElem hlt, outL_app, join_app]; simp [outL, joinL]
          have hle : (joinL (outL (ob.take (k + 1)))).length ≤ 60001 := by
            have h := HJ.out
            conv at h => lhs; rw [← List.take_append_drop (k + 1) ob, outL_app, join_app, List.length_append]
            omega
          have NX := box hnext
          have z1 : acc.data.toList.length = acc.size := by simp
          have z2 : ob[k].data.toList.length = ob[k].size := by simp
          rw [hnext, List.length_append, ← AC.out, List.length_cons, z1, z2] at hle
          have hs1 : acc.size ≤ 60001 := by omega
          have hs2 : ob[k].size ≤ 60001 := by omega
          clear hnext hle z1 z2
          go_wp2
          go_round
          case rel => exact ⟨k + 1, _, by omega, by go_num, rfl, by rw [NX.out, ← AC.out]; simp⟩
          case measure => simp [intOf]; omega
        · have e : k = ob.length := by omega
          have E := box e
          clear e
          go_wp2
          go_ret
          refine ⟨ret_str ?_, BL.out⟩
          have h := AC.out
          rw [E.out, List.take_length, ← HEND.out] at h
          rw [← h]; rfl
    · have hrs : rest.size ≤ 60000 := by
        have h := SG.out.2
        have hz : r0.data.toList.length = r0.size := by simp
        have hz2 : rest.data.toList.length = rest.size := by simp
        omega
      have RS : Box (rest.size ≤ maxLen) := box (by unfold maxLen; omega)
      by_cases hi : idxF rest.data.toList 47 0 < 0
      · have HI : Box (idxF rest.data.toList 47 0 = -1) := box (by
          have q := idxF_none hi
          unfold idxF; rw [if_pos q])
        have hn47 : (47 : UInt8) ∉ rest.data.toList := by
          have q := idxF_none hi
          rw [List.drop_zero] at q
          have := (cut_no q).2.2
          simpa [cutB] using this
        have HPC : Box (piecesL rest.data.toList = rest.data.toList :: (if false = true then piecesL rest.data.toList else [])) := box (by rw [pieces_one hn47]; rfl)
        have HLC : Box (rest.data.toList.length + (if false = true then rest.data.toList.length + 1 else 0) = rest.data.toList.length) := box (by simp)
        clear hi hn47
        go_wp2_with fail
        refine (rIndex_any rest 47 47 0 _ RS.out (Nat.zero_le _) rfl).mono ?_; rintro e w1 ⟨rfl, rfl⟩; rw [HI.out]
        have SP := box (seg_step SG.out (x := rest.data.toList) (r2 := rest.data.toList) (m := false) HPC.out HLC.out)
        rcases hdd : (rest.toList == [46, 46]) with _ | _
        · rcases hd1 : (rest.toList == [46]) with _ | _
          · have HX1 : Box (rest.data.toList ≠ dot2 ∧ rest.data.toList ≠ dot1) := box (by rw [toList_data] at hdd hd1; exact ⟨by simpa [dot2] using hdd, by simpa [dot1] using hd1⟩)
            have SQ := box (SP.out.1 rest rfl HX1.out.1 HX1.out.2)
            go_wp2_with (at_builtin; refine wpList_append_str _ rfl (.tmp 52) (.tmp 54) rfl w.heap.size _ (ob) rfl ?a1 _ _ rfl rest ?b1 ?c1 ?d1 ?_)
            case a1 => exact own_below (O.out) (below_alloc' _ _)
            case b1 => exact cell_new' _ _ _ _ rfl
            case c1 => have := LEN.out; first | omega | (rw [List.length_dropLast]; omega)
            case d1 => first | omega | exact Nat.le_trans hbs (size_more' _ _)
            intro v' w3 hO3 hb3
            have O3 := box hO3
            have B3 := box ((BL.out.alloc (BL.out.size) _).trans hb3)
            clear hO3 hb3
            go_wp2
            go_roundw
            case rel => exact ⟨(ob) ++ [rest], rest, false, rfl, rfl, O3.out, SQ.out, B3.out⟩
            case measure => simp [strSize, isT]
          · have HX1 : Box (rest.data.toList = dot1) := box (by rw [toList_data] at hd1; exact eq_of_beq hd1)
            have SQ := box (SP.out.2.2.2.2 HX1.out rfl)
            go_wp2_with (at_builtin; refine wpList_append_str _ rfl (.tmp 58) (.tmp 59) rfl w.heap.size _ (ob) rfl ?a1 _ _ rfl ⟨#[]⟩ ?b1 ?c1 ?d1 ?_)
            case a1 => exact own_below (O.out) (below_alloc' _ _)
            case b1 => exact cell_new' _ _ _ _ rfl
            case c1 => have := LEN.out; first | omega | (rw [List.length_dropLast]; omega)
            case d1 => first | omega | exact Nat.le_trans hbs (size_more' _ _)
            intro v' w3 hO3 hb3
            have O3 := box hO3
            have B3 := box ((BL.out.alloc (BL.out.size) _).trans hb3)
            clear hO3 hb3
            go_wp2
            go_roundw
            case rel => exact ⟨(ob) ++ [⟨#[]⟩], rest, false, rfl, rfl, O3.out, SQ.out, B3.out⟩
            case measure => simp [strSize, isT]
        · have HX1 : Box (rest.data.toList = dot2) := box (by rw [toList_data] at hdd; exact eq_of_beq hdd)
          have hd1 : (rest.toList == [46]) = false := by rw [toList_data, HX1.out]; rfl
          have SQ := box (SP.out.2.2.1 HX1.out rfl)
          by_cases hob : ob = []
          · subst hob
            obtain ⟨aa, capa, rfl, _, hcc⟩ := OwnS.ss O.out
            clear hcc
            go_wp2_with (at_builtin; refine wpList_append_str _ rfl (.tmp 58) (.tmp 59) rfl w.heap.size _ ([]) rfl ?a1 _ _ rfl ⟨#[]⟩ ?b1 ?c1 ?d1 ?_)
            case a1 => exact own_below (O.out) (below_alloc' _ _)
            case b1 => exact cell_new' _ _ _ _ rfl
            case c1 => have := LEN.out; first | omega | (rw [List.length_dropLast]; omega)
            case d1 => first | omega | exact Nat.le_trans hbs (size_more' _ _)
            intro v' w3 hO3 hb3
            have O3 := box hO3
            have B3 := box ((BL.out.alloc (BL.out.size) _).trans hb3)
            clear hO3 hb3
            go_wp2
            go_roundw
            case rel => exact ⟨([]) ++ [⟨#[]⟩], rest, false, rfl, rfl, O3.out, SQ.out, B3.out⟩
            case measure => simp [strSize, isT]
          · obtain ⟨gg, capg, rfl, hcc, hOd⟩ := OwnS.form O.out hob
            have OD := box hOd
            have hpos : 0 < ob.length := List.length_pos_iff.mpr hob
            have hlen := LEN.out
            have j1 : (0 : Int) < (ob.length : Int) := by omega
            have j2 : (0 : Int) ≤ (ob.length : Int) - 1 := by omega
            have j3 : (ob.length : Int) - 1 ≤ (capg : Int) := by omega
            have j4 : ((ob.length : Int) - 1).toNat = ob.length - 1 := by omega
            clear hOd
            go_wp2_with (at_builtin; refine wpList_append_str _ rfl (.tmp 58) (.tmp 59) rfl w.heap.size _ (ob.dropLast) rfl ?a1 _ _ rfl ⟨#[]⟩ ?b1 ?c1 ?d1 ?_)
            case a1 => exact own_below (OD.out) (below_alloc' _ _)
            case b1 => exact cell_new' _ _ _ _ rfl
            case c1 => have := LEN.out; first | omega | (rw [List.length_dropLast]; omega)
            case d1 => first | omega | exact Nat.le_trans hbs (size_more' _ _)
            intro v' w3 hO3 hb3
            have O3 := box hO3
            have B3 := box ((BL.out.alloc (BL.out.size) _).trans hb3)
            clear hO3 hb3
            go_wp2
            go_roundw
            case rel => exact ⟨(ob.dropLast) ++ [⟨#[]⟩], rest, false, rfl, rfl, O3.out, SQ.out, B3.out⟩
            case measure => simp [strSize, isT]
      · obtain ⟨o, g1, g2, g3⟩ := idxF_some hi
        rw [List.drop_zero] at g1
        simp only [Nat.zero_add] at g2 g3
        have hz2 : rest.data.toList.length = rest.size := by simp
        rw [hz2] at g3
        obtain ⟨_, k1, k2, k3⟩ := cut_at g1
        have HI := box g2
        obtain ⟨x, hx⟩ : ∃ x, rest.extract 0 o = x := ⟨_, rfl⟩
        obtain ⟨r2, hr2⟩ : ∃ r2, rest.extract (o + 1) rest.size = r2 := ⟨_, rfl⟩
        have HX := box hx
        have HR := box hr2
        have hxs : x.size = o := by rw [← hx, ByteArray.size_extract]; omega
        have hrs2 : r2.size = rest.size - (o + 1) := by rw [← hr2, ByteArray.size_extract]; omega
        have hxl : x.data.toList = cut1 47 rest.data.toList := by rw [← hx, ext_bs, List.drop_zero, k1]; rfl
        have hrl : r2.data.toList = cut2 47 rest.data.toList := by rw [← hr2, ext_bs, List.take_of_length_le (by simp), k2]; rfl
        have HPC : Box (piecesL rest.data.toList = x.data.toList :: (if true = true then piecesL r2.data.toList else [])) := box (by
          rw [hxl, hrl, if_pos rfl]
          conv => lhs; rw [cut_join k3]
          exact pieces_app (cut1_not 47 _))
        have HLC : Box (x.data.toList.length + (if true = true then r2.data.toList.length + 1 else 0) = rest.data.toList.length) := box (by
          have z1 : x.data.toList.length = x.size := by simp
          have z2 : r2.data.toList.length = r2.size := by simp
          rw [if_pos rfl, z1, z2, hz2]; omega)
        have hlt2 : r2.size < rest.size := by omega
        have l1 : (o : Int) ≤ (rest.size : Int) := by omega
        have l2 : (o : Int) + 1 ≤ (rest.size : Int) := by omega
        have l3 : (0 : Int) ≤ (o : Int) + 1 := by omega
        clear hi g1 g2 k1 k2 k3 hx hr2 hxs hrs2 hxl hrl hz2
        go_wp2_with fail
        refine (rIndex_any rest 47 47 0 _ RS.out (Nat.zero_le _) rfl).mono ?_; rintro e w1 ⟨rfl, rfl⟩; rw [HI.out]
        go_wp2
        go_quiet (fail)
        rw [HX.out, HR.out]
        have SP := box (seg_step SG.out (x := x.data.toList) (r2 := r2.data.toList) (m := true) HPC.out HLC.out)
        rcases hdd : (x.toList == [46, 46]) with _ | _
        · rcases hd1 : (x.toList == [46]) with _ | _
          · have HX1 : Box (x.data.toList ≠ dot2 ∧ x.data.toList ≠ dot1) := box (by rw [toList_data] at hdd hd1; exact ⟨by simpa [dot2] using hdd, by simpa [dot1] using hd1⟩)
            have SQ := box (SP.out.1 x rfl HX1.out.1 HX1.out.2)
            go_wp2_with (at_builtin; refine wpList_append_str _ rfl (.tmp 52) (.tmp 54) rfl w.heap.size _ (ob) rfl ?a1 _ _ rfl x ?b1 ?c1 ?d1 ?_)
            case a1 => exact own_below (own_below O.out (below_drewN _ _)) (below_alloc' _ _)
            case b1 => exact cell_new' _ _ _ _ rfl
            case c1 => have := LEN.out; first | omega | (rw [List.length_dropLast]; omega)
            case d1 => first | omega | exact Nat.le_trans hbs (size_more' _ _)
            intro v' w3 hO3 hb3
            have O3 := box hO3
            have B3 := box (((BL.out.trans ((below_drewN _ _).mono BL.out.size)).alloc ((BL.out.trans ((below_drewN _ _).mono BL.out.size)).size) _).trans hb3)
            clear hO3 hb3
            go_wp2
            go_roundw
            case rel => exact ⟨(ob) ++ [x], r2, true, rfl, rfl, O3.out, SQ.out, B3.out⟩
            case measure => simp [strSize, isT]; omega
          · have HX1 : Box (x.data.toList = dot1) := box (by rw [toList_data] at hd1; exact eq_of_beq hd1)
            have SQ := box (SP.out.2.2.2.1 HX1.out rfl)
            go_wp2
            go_roundw
            case rel => exact ⟨ob, r2, true, rfl, rfl, own_below O.out (below_drewN _ _), SQ.out, (BL.out.trans ((below_drewN _ _).mono BL.out.size))⟩
            case measure => simp [strSize, isT]; omega
        · have HX1 : Box (x.data.toList = dot2) := box (by rw [toList_data] at hdd; exact eq_of_beq hdd)
          have hd1 : (x.toList == [46]) = false := by rw [toList_data, HX1.out]; rfl
          have SQ := box (SP.out.2.1 HX1.out rfl)
          by_cases hob : ob = []
          · subst hob
            obtain ⟨aa, capa, rfl, _, hcc⟩ := OwnS.ss O.out
            clear hcc
            go_wp2
            go_roundw
            case rel => exact ⟨[], r2, true, rfl, rfl, own_below O.out (below_drewN _ _), SQ.out, (BL.out.trans ((below_drewN _ _).mono BL.out.size))⟩
            case measure => simp [strSize, isT]; omega
          · obtain ⟨gg, capg, rfl, hcc, hOd⟩ := OwnS.form O.out hob
            have OD := box hOd
            have hpos : 0 < ob.length := List.length_pos_iff.mpr hob
            have hlen := LEN.out
            have j1 : (0 : Int) < (ob.length : Int) := by omega
            have j2 : (0 : Int) ≤ (ob.length : Int) - 1 := by omega
            have j3 : (ob.length : Int) - 1 ≤ (capg : Int) := by omega
            have j4 : ((ob.length : Int) - 1).toNat = ob.length - 1 := by omega
            clear hOd
            go_wp2
            go_roundw
            case rel => exact ⟨ob.dropLast, r2, true, rfl, rfl, own_below OD.out (below_drewN _ _), SQ.out, (BL.out.trans ((below_drewN _ _).mono BL.out.size))⟩
            case measure => simp [strSize, isT]; omega

theorem rSegments_any (s : ByteArray) (w : World) (hs : s.size ≤ 60000) :
    Calls Try.prog 18 #[.string s] w fun e w' => e = .returned (.string (bs (segL s.data.toList))) ∧ Below w.heap.size w w' := by
  rcases he : s.toList.isEmpty with _ | _
  · have h0 : 0 < s.size := by
      rcases Nat.eq_zero_or_pos s.size with q | q
      · have : s.data.toList = [] := List.eq_nil_of_length_eq_zero (by simpa using q)
        rw [toList_data, this] at he; cases he
      · exact q
    rcases h47 : ((s[0].toNat : Int) != 47) with _ | _
    · have e0 : s[0] = 47 := byte_eq (n := 47) (by simpa using h47) (by omega)
      have hd := drop_cons s 0 h0
      rw [List.drop_zero, e0] at hd
      refine rSegments_slash s w hs h0 h47 _ (box rfl) (box ?_) he
      rw [hd, ext_bs, List.take_of_length_le (by simp)]; rfl
    · have hE := box (seg_head_not (s := s) (.inr ⟨h0, by intro e; rw [e] at h47; simp at h47⟩))
      go_enter Try.func18, Try.ntmps18
      go_wp2
      go_ret
      exact ⟨ret_str (by rw [hE.out]; rfl), Below.refl _ _⟩
  · have hE := box (seg_head_not (s := s) (.inl he))
    go_enter Try.func18, Try.ntmps18
    go_wp2
    go_ret
    exact ⟨ret_str (by rw [hE.out]; rfl), Below.refl _ _⟩

end Go.Proofs.Ytilodlmjamaiiaa.Asc
