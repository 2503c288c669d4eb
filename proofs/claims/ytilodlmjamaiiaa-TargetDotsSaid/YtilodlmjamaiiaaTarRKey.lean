/- The contracts of the reference's scheme, Site, Local and Key. -/
import Derived.Test.YtilodlmjamaiiaaTarRef
import Derived.Test.YtilodlmjamaiiaaAscFold
import Derived.Test.YtilodlmjamaiiaaAscRDec
import Derived.Test.YtilodlmjamaiiaaAscTrim
import Derived.Deep.QuietTactic
import Derived.BigQuiet
import Derived.Deep.RegionHeld3
set_option linter.unusedVariables false
set_option linter.unusedSimpArgs false
namespace Go.Proofs.Ytilodlmjamaiiaa.Asc
open Go.RowKit

/-- a URI as a value -/
def uV (h : ByteArray) (n : Int) (p q : ByteArray) (b : Bool) : Value := .agg #[.string h, .int .i64 n, .string p, .string q, .bool b]
/-- a URI lies at the block's start, and may be written -/
def UF (g : Nat) (h : ByteArray) (n : Int) (p q : ByteArray) (b : Bool) (w : World) : Prop :=
  (w.cell? ⟨g, 0, none⟩ = some (.string h) ∧ w.cell? ⟨g, 1, none⟩ = some (.int .i64 n) ∧ w.cell? ⟨g, 2, none⟩ = some (.string p) ∧ w.cell? ⟨g, 3, none⟩ = some (.string q) ∧ w.cell? ⟨g, 4, none⟩ = some (.bool b)) ∧
  (w.frozen? ⟨g, 0, none⟩ = false ∧ w.frozen? ⟨g, 1, none⟩ = false ∧ w.frozen? ⟨g, 2, none⟩ = false ∧ w.frozen? ⟨g, 3, none⟩ = false ∧ w.frozen? ⟨g, 4, none⟩ = false)
section
variable {g B : Nat} {h p q : ByteArray} {n : Int} {b : Bool} {w w' : World}
theorem UF.new (h : ByteArray) (n : Int) (p q : ByteArray) (b : Bool) (w : World) (t : TypeId) : UF w.heap.size h n p q b (w.alloc (.cells #[.string h, .int .i64 n, .string p, .string q, .bool b] t)) := by
  refine ⟨⟨?_, ?_, ?_, ?_, ?_⟩, ⟨?_, ?_, ?_, ?_, ?_⟩⟩
  all_goals first
    | (rw [World.cell?_alloc_mark]; rfl)
    | exact World.frozen?_alloc_at _ _ _ _ rfl
theorem UF.below (f : UF g h n p q b w) (hb : Below B w w') (hg : g < B) : UF g h n p q b w' := by
  obtain ⟨⟨h0, h1, h2, h3, h4⟩, ⟨f0, f1, f2, f3, f4⟩⟩ := f
  exact ⟨⟨(hb.cell hg).trans h0, (hb.cell hg).trans h1, (hb.cell hg).trans h2, (hb.cell hg).trans h3, (hb.cell hg).trans h4⟩,
    ⟨(hb.frozen hg).trans f0, (hb.frozen hg).trans f1, (hb.frozen hg).trans f2, (hb.frozen hg).trans f3, (hb.frozen hg).trans f4⟩⟩
theorem UF.lt (f : UF g h n p q b w) : g < w.heap.size := by
  have h1 := f.1.1
  rcases Nat.lt_or_ge g w.heap.size with k | k
  · exact k
  · simp [World.cell?, Array.getElem?_eq_none k] at h1
end
theorem below_alloc1 (w : World) (o : Obj) : Below w.heap.size w (w.alloc o) := (Below.refl _ _).alloc (Nat.le_refl _) o

theorem rscheme_any (s : ByteArray) (w : World) (hs : s.size ≤ 60000) :
    Calls Try.prog 25 #[.string s] w fun e w' => e = .returned (.bool (schemeB s.data.toList)) ∧ Below w.heap.size w w' := by
  have hz : s.data.toList.length = s.size := by simp
  by_cases h7 : 7 ≤ s.size
  · have hE : schemeB s.data.toList = foldL (s.data.toList.take 7) http := by
      unfold schemeB
      rw [hz]
      simp only [h7, decide_true, Bool.true_and]
    have HE := box hE
    have hz2 : (s.extract 0 7).size ≤ 4294967296 := by rw [ByteArray.size_extract]; omega
    have HZ := box hz2
    clear hE hz2 hz
    go_enter Try.func25, Try.ntmps25
    go_wp2_with fail
    refine (rFold_any _ _ _ HZ.out (by decide)).mono ?_; rintro e w1 ⟨rfl, hb1⟩
    go_wp2
    go_ret
    exact ⟨ret_bool (by rw [HE.out]; rfl), hb1⟩
  · have hE : schemeB s.data.toList = false := by
      unfold schemeB; rw [hz]; simp [h7]
    have HE := box hE
    clear hE hz
    go_enter Try.func25, Try.ntmps25
    go_wp2
    go_ret
    exact ⟨ret_bool HE.out.symm, Below.refl _ _⟩
theorem site_bs (h : ByteArray) (n : Int) : h ++ ⟨#[58]⟩ ++ ⟨(decL n).toArray⟩ = bs (h.data.toList ++ 58 :: decL n) := by
  apply ByteArray.ext
  apply Array.toList_inj.mp
  simp [ByteArray.data_append, bs]
theorem decL_le (n : Int) : (⟨(decL n).toArray⟩ : ByteArray).size ≤ 21 := by
  have h : ∀ f m acc, (decF f m acc).length ≤ f + acc.length := fun f => by
    induction f with
    | zero => intro m acc; simp [decF]
    | succ f ih =>
      intro m acc
      unfold decF; split
      · simp; omega
      · have := ih (m / 10) (digB m :: acc)
        simp at this; omega
  show (decL n).toArray.size ≤ 21
  unfold decL; split
  · have := h 20 n.natAbs []; simp at this ⊢; omega
  · have := h 20 n.natAbs []; simp at this ⊢; omega
theorem rSite_any (h : ByteArray) (n : Int) (p q : ByteArray) (b : Bool) (w : World) (hh : h.size ≤ 60000) (hn : Box (InI64 n)) :
    Calls Try.prog 40 #[uV h n p q b] w fun e w' => e = .returned (.string (bs (siteL h.data.toList n))) ∧ Below w.heap.size w w' := by
  unfold uV
  rcases h80 : ((n : Int) == 80) with _ | _
  · have hne : n ≠ 80 := by simpa using h80
    have HS : Box (siteL h.data.toList n = h.data.toList ++ 58 :: decL n) := box (by unfold siteL; rw [if_neg hne])
    have hd := decL_le n
    clear hne
    have r1 : ∀ w, (Op.stringOp .add h ⟨#[58]⟩).run Try.prog w = .ok (.string (h ++ ⟨#[58]⟩)) w := fun w => run_string_add_sum w _ _ (by show h.size + 1 ≤ 9223372036854775807; omega)
    have r2 : ∀ w, (Op.stringOp .add (h ++ ⟨#[58]⟩) ⟨(decL n).toArray⟩).run Try.prog w = .ok (.string (h ++ ⟨#[58]⟩ ++ ⟨(decL n).toArray⟩)) w := fun w => run_string_add_sum w _ _ (by rw [ByteArray.size_append]; show h.size + 1 + (⟨(decL n).toArray⟩ : ByteArray).size ≤ 9223372036854775807; omega)
    go_enter Try.func40, Try.ntmps40
    go_wp2_with fail
    go_region_held3 (fun w' => w'.cell? ⟨w.heap.size, 0, none⟩ = some (.string h) ∧ w'.cell? ⟨w.heap.size, 1, none⟩ = some (.int .i64 n))
      (first | go_keep | (refine ⟨?_, ?_⟩ <;> (rw [hb1.cell (by simp)]; first | assumption | (simp; done))))
      (first | (go_at_call 55; refine (rDecimal_any _ _ hn.out).mono ?_; rintro e w1 ⟨rfl, hb1⟩))
    have b1 := (below_alloc1 w (.cells #[.string h, .int .i64 n, .string p, .string q, .bool b] 23)).drew.trans (hb1.mono (below_alloc1 w (.cells #[.string h, .int .i64 n, .string p, .string q, .bool b] 23)).drew.size)
    clear r1 r2 hb1
    go_wp2
    go_ret
    exact ⟨ret_str (by rw [HS.out]; exact site_bs h n), b1⟩
  · have he : n = 80 := by simpa using h80
    have HS : Box (siteL h.data.toList n = h.data.toList) := box (by unfold siteL; rw [if_pos he])
    clear he
    go_enter Try.func40, Try.ntmps40
    go_wp2
    go_ret
    exact ⟨ret_str (by rw [HS.out]; rfl), below_alloc1 _ _⟩
theorem rLocal_any (h : ByteArray) (n : Int) (p q : ByteArray) (b : Bool) (w : World) (hp : p.size ≤ 60000) (hq : q.size ≤ 60000) :
    Calls Try.prog 41 #[uV h n p q b] w fun e w' => e = .returned (.string (bs (localL p.data.toList q.data.toList b))) ∧ Below w.heap.size w w' := by
  unfold uV
  cases b
  · go_enter Try.func41, Try.ntmps41
    go_wp2
    go_ret
    exact ⟨ret_str (by unfold localL; rw [if_neg (by simp)]; rfl), below_alloc1 _ _⟩
  · go_enter Try.func41, Try.ntmps41
    go_wp2
    go_ret
    refine ⟨ret_str ?_, below_alloc1 _ _⟩
    unfold localL; rw [if_pos rfl]
    apply ByteArray.ext
    apply Array.toList_inj.mp
    simp [ByteArray.data_append, bs]

theorem site_le (h : ByteArray) (n : Int) : (bs (siteL h.data.toList n)).size ≤ h.size + 22 := by
  have hd := decL_le n
  have hd2 : (decL n).length ≤ 21 := hd
  have hz : h.data.toList.length = h.size := by simp
  rw [bs_size]
  unfold siteL; split
  · omega
  · simp; omega
theorem local_le (p q : ByteArray) (b : Bool) : (bs (localL p.data.toList q.data.toList b)).size ≤ p.size + q.size + 1 := by
  have hz : p.data.toList.length = p.size := by simp
  have hz2 : q.data.toList.length = q.size := by simp
  rw [bs_size]
  unfold localL; split
  · simp; omega
  · omega
theorem rKey_any (h : ByteArray) (n : Int) (p q : ByteArray) (b : Bool) (w : World) (hh : h.size ≤ 60000) (hp : p.size ≤ 60000) (hq : q.size ≤ 60000) (hn : Box (InI64 n)) :
    Calls Try.prog 22 #[uV h n p q b] w fun e w' => e = .returned (.string (bs (keyL (h.data.toList, n, p.data.toList, q.data.toList, b)))) ∧ Below w.heap.size w w' := by
  have F0 := box (UF.new h n p q b w 23)
  have F0d := box (F0.out.below (Below.refl _ _).drew F0.out.lt)
  obtain ⟨st, hst⟩ : ∃ st, bs (siteL h.data.toList n) = st := ⟨_, rfl⟩
  obtain ⟨lo, hlo⟩ : ∃ lo, bs (localL p.data.toList q.data.toList b) = lo := ⟨_, rfl⟩
  have hs1 : st.size ≤ 60022 := by rw [← hst]; have := site_le h n; omega
  have hs2 : lo.size ≤ 120001 := by rw [← hlo]; have := local_le p q b; omega
  have ST := box hst
  have LO := box hlo
  have r1 : ∀ w, (Op.stringOp .add ⟨#[104, 116, 116, 112, 58, 47, 47]⟩ st).run Try.prog w = .ok (.string (⟨#[104, 116, 116, 112, 58, 47, 47]⟩ ++ st)) w := fun w => run_string_add_sum w _ _ (by show 7 + st.size ≤ 9223372036854775807; omega)
  have r2 : ∀ w, (Op.stringOp .add (⟨#[104, 116, 116, 112, 58, 47, 47]⟩ ++ st) lo).run Try.prog w = .ok (.string (⟨#[104, 116, 116, 112, 58, 47, 47]⟩ ++ st ++ lo)) w := fun w => run_string_add_sum w _ _ (by rw [ByteArray.size_append]; show 7 + st.size + lo.size ≤ 9223372036854775807; omega)
  have HK : Box ((⟨#[104, 116, 116, 112, 58, 47, 47]⟩ : ByteArray) ++ st ++ lo = bs (keyL (h.data.toList, n, p.data.toList, q.data.toList, b))) := box (by
    rw [← hst, ← hlo]
    apply ByteArray.ext
    apply Array.toList_inj.mp
    simp [ByteArray.data_append, bs, keyL, http])
  clear hst hlo
  unfold uV
  go_enter Try.func22, Try.ntmps22
  go_wp2_with fail
  go_region_held3 (fun w' => w'.cell? ⟨w.heap.size, 0, none⟩ = some (.string h) ∧ w'.cell? ⟨w.heap.size, 1, none⟩ = some (.int .i64 n) ∧ w'.cell? ⟨w.heap.size, 2, none⟩ = some (.string p) ∧ w'.cell? ⟨w.heap.size, 3, none⟩ = some (.string q) ∧ w'.cell? ⟨w.heap.size, 4, none⟩ = some (.bool b))
    (first | exact F2.out.1 | exact F1.out.1 | exact F0d.out.1 | exact F0.out.1 | go_keep)
    (first | (go_at_call 40; refine (rSite_any h n p q b _ hh hn).mono ?_; rintro e w1 ⟨rfl, hb1⟩; rw [ST.out]; have F1 := box (F0d.out.below hb1 F0d.out.lt)) | (go_at_call 41; refine (rLocal_any h n p q b _ hp hq).mono ?_; rintro e w2 ⟨rfl, hb2⟩; rw [LO.out]; have F2 := box (F1.out.below hb2 F1.out.lt)))
  have b0 := (below_alloc1 w (.cells #[.string h, .int .i64 n, .string p, .string q, .bool b] 23)).drew
  have b1 := b0.trans (hb1.mono b0.size)
  have b2 := b1.trans (hb2.mono b1.size)
  clear r1 r2 b0 b1 hb1 hb2
  go_wp2
  go_ret
  exact ⟨ret_str HK.out, b2⟩

end Go.Proofs.Ytilodlmjamaiiaa.Asc
