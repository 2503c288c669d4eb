/- Merged texts: CtlLaws CtlSpec2 CtlFld LstRem LstClo LstOpenN. -/
import Derived.Test.YtlcojfkkeommoaaZs02
import Derived.Test.YtlcojfkkeommoaaZs03
import Derived.Test.YtlcojfkkeommoaaZs05
import Derived.Test.YtlcojfkkeommoaaZs06
import Derived.Test.YtlcojfkkeommoaaZs08
import Derived.Laws.EntriesVeiled
import Derived.Lib.SliceRun
set_option linter.unusedVariables false
set_option linter.unusedSimpArgs false
set_option maxRecDepth 100000
namespace Go.Proofs.Ytlcojfkkeommoaa.Asc
section
open Go.RowKit
theorem fs_one22 (a b : ByteArray) (w : World) (t : TypeId) : Fs (w.alloc (.cells #[.string a, .string b] t)) (some ⟨w.heap.size, 0, none⟩) [(a, b)] := by
  intro i hi
  match i, hi with
  | 0, _ => exact ⟨_, _, rfl, by rw [World.cell?_alloc_mark]; rfl, by rw [World.cell?_alloc_mark]; rfl⟩
theorem one_gets22 {nm n v : ByteArray} (h : v.size ≤ 65000) : ∀ x ∈ getL nm [(n, v)], x.size ≤ 65000 := by
  intro x hx
  unfold getL at hx
  obtain ⟨p, hp, rfl⟩ := List.mem_map.1 hx
  have h2 := (List.mem_filter.1 hp).1
  rw [List.mem_singleton] at h2
  subst h2; exact h
def aw22 : ByteArray := ⟨#[109, 97, 120, 45, 97, 103, 101, 61, 54, 48, 44, 32, 109, 97, 120, 45, 97, 103, 101, 61, 53, 44, 32, 78, 111, 45, 83, 116, 111, 114, 101]⟩
def aw22L : List F := [(ccN, aw22)]
def aw22C : CT := ⟨true, false, false, false, false, false, false, 60, -1, -1, -1⟩
theorem one_sm22 {n v : ByteArray} (h1 : n.size ≤ 65536) (h2 : v.size ≤ 65536) : Sm [(n, v)] :=
  ⟨by simp, fun i hi => by
    have e : i = 0 := by simp at hi; exact hi
    subst e; exact ⟨h1, h2⟩⟩
theorem one_get22 {n v : ByteArray} (h : nmd n (n, v) = true) (hz : v.size ≤ 65000) : ∀ x ∈ getL n [(n, v)], x.size ≤ 65000 := by
  intro x hx
  unfold getL at hx
  rw [List.filter_cons_of_pos h] at hx
  simp at hx; subst hx; exact hz
theorem aw22_is : respC (allL ccN aw22L) = aw22C := by
  have h : allL ccN aw22L = [[109, 97, 120, 45, 97, 103, 101, 61, 54, 48], [109, 97, 120, 45, 97, 103, 101, 61, 53], [78, 111, 45, 83, 116, 111, 114, 101]] := by decide +kernel
  rw [h]
  decide +kernel
theorem awake22_any (w : World) : Calls Try.prog 13 #[] w fun e w' => e = .returned (.bool true) ∧ Below w.heap.size w w' := by
  have S : Box (Sm aw22L) := box (one_sm22 (by decide) (by decide))
  have hv : Box (∀ x ∈ getL ccN aw22L, x.size ≤ 65000) := box (one_get22 (by decide +kernel) (by decide))
  have F0 := box (fs_one22 ccN aw22 w 32)
  have HC := box aw22_is
  have B0 := box (below_new w (.cells #[.string ccN, .string aw22] 32))
  go_enter Try.func13, Try.ntmps13
  go_wp2_with fail
  refine (mResp_is (L := aw22L) S hv F0 HC).mono ?_; rintro e w1 ⟨rfl, hb1⟩
  have B1 := box ((B0.out.trans (hb1.mono B0.out.size)).alloc (B0.out.trans (hb1.mono B0.out.size)).size (.cells (ctA aw22C) 25))
  clear hb1
  unfold aw22C
  go_wp2
  go_ret
  exact ⟨rfl, B1.out⟩
theorem mReqC_is {a : Option Addr} {cap : Nat} {L : List F} {c : CT} {w : World} (S : Box (Sm L)) (hv : Box (∀ nm, ∀ x ∈ getL nm L, x.size ≤ 65000)) (hF : Box (Fs w a L)) (HC : Box (reqC (L.any (nmd ccN)) (allL ccN L) (allL pgN L) = c)) :
    Calls Try.prog 11 #[.slice a L.length cap] w fun e w' => e = .returned (.agg #[.bool c.ns, .bool c.nc, .bool c.mr, .bool c.pr, .bool c.pv, .bool c.pb, .bool c.oc, .int .i64 c.ma, .int .i64 c.sm, .int .i64 c.mf, .int .i64 c.ms]) ∧ Below w.heap.size w w' :=
  mReqC_any a cap L w S hv hF c HC
end
section
theorem piece_tok44 {v : List UInt8} (hv : tokL v = true) {p : List UInt8} (h : Piece 44 p) : Piece 44 (v ++ p) :=
  Piece.plain (fun c hc => ⟨(tok_not (tok_byte hv c hc)).1, (tok_not (tok_byte hv c hc)).2.2.2.1⟩) h
theorem tok_piece44 {v : List UInt8} (hv : tokL v = true) : Piece 44 v := by
  have := piece_tok44 hv (Piece.nil 44)
  rwa [List.append_nil] at this
theorem tok_trim44 {v : List UInt8} (hv : tokL v = true) : trimL v = v := by
  have := trim_tok (v := v) (a := []) (b := []) hv (by simp) (by simp)
  rwa [List.nil_append, List.append_nil] at this
theorem sep44 : (44 : UInt8) ≠ 34 ∧ (44 : UInt8) ≠ 92 := by decide
/-- one field -/
theorem all_one22 {n m v : ByteArray} (h : nmd n (m, v) = true) : allL n [(m, v)] = splitL v.data.toList := by
  unfold allL getL
  rw [List.filter_cons_of_pos h]
  simp only [List.filter_nil, List.map_cons, List.map_nil]
  unfold allF
  simp only [List.flatMap_cons, List.flatMap_nil, List.append_nil]
  rw [List.take_of_length_le (split_len _)]
def wordsL (x : List UInt8) : Nat → List UInt8
  | 0 => x
  | n + 1 => x ++ 44 :: wordsL x n
theorem words_snoc (x : List UInt8) : ∀ n, wordsL x n ++ 44 :: x = wordsL x (n + 1)
  | 0 => rfl
  | n + 1 => by
    show (x ++ 44 :: wordsL x n) ++ 44 :: x = x ++ 44 :: wordsL x (n + 1)
    rw [List.append_assoc, List.cons_append, words_snoc x n]
theorem words_len (x : List UInt8) : ∀ n, (wordsL x n).length = x.length + n * (x.length + 1)
  | 0 => by simp [wordsL]
  | n + 1 => by
    show (x ++ 44 :: wordsL x n).length = _
    rw [List.length_append, List.length_cons, words_len x n, Nat.add_mul]; omega
theorem words_cut {x : List UInt8} (h : Piece 44 x) : ∀ n, cutL 44 (wordsL x n) = List.replicate (n + 1) x
  | 0 => cut_piece h
  | n + 1 => by
    show cutL 44 (x ++ 44 :: wordsL x n) = _
    rw [cut_pieces sep44 _ h, words_cut h n]; rfl
theorem mem_rep {x : List UInt8} (h : trimL x = x) (hn : x ≠ []) : ∀ n, memL (List.replicate n x) = List.replicate n x
  | 0 => rfl
  | n + 1 => by
    rw [List.replicate_succ, memL_cons, mem_rep h hn n, h, if_neg hn]; rfl
theorem words_full {x : List UInt8} (hx : tokL x = true) {n : Nat} (hn : 63 ≤ n) : (splitL (wordsL x n)).length = 64 := by
  unfold splitL
  rw [words_cut (tok_piece44 hx), mem_rep (tok_trim44 hx) (tok_ne hx), List.length_take, List.length_replicate]; omega
theorem resp_ns {M : List (List UInt8)} (h : 64 ≤ M.length) : (respC M).ns = true := by
  show ((dirD nsN M).isSome || decide (64 ≤ M.length)) = true
  rw [decide_eq_true h, Bool.or_true]
theorem req_ns {M P : List (List UInt8)} {b : Bool} (h : 64 ≤ M.length) : (reqC b M P).ns = true := resp_ns h
theorem get_pg (v : ByteArray) (L : List F) : getL ccN (L ++ [(pgN, v)]) = getL ccN L := by
  have h : nmd ccN (pgN, v) = false := by
    show foldL pgN.data.toList ccN.data.toList = false
    decide +kernel
  unfold getL
  rw [List.filter_append, List.filter_cons_of_neg (by rw [h]; simp)]
  simp
theorem any_pg (v : ByteArray) (L : List F) : (L ++ [(pgN, v)]).any (nmd ccN) = L.any (nmd ccN) := by
  have h : nmd ccN (pgN, v) = false := by
    show foldL pgN.data.toList ccN.data.toList = false
    decide +kernel
  rw [List.any_append]
  simp [h]
theorem all_pg (v : ByteArray) (L : List F) : allL ccN (L ++ [(pgN, v)]) = allL ccN L := by unfold allL; rw [get_pg]
theorem low_tkB (c : UInt8) : tkB (lowB c) = tkB c := by
  have key : ∀ n : Fin 256, tkB (lowB (UInt8.ofNat n.1)) = tkB (UInt8.ofNat n.1) := by decide +kernel
  have h := key ⟨c.toNat, c.toNat_lt⟩
  rwa [UInt8.ofNat_toNat] at h
theorem tok_of_low {l : List UInt8} (h : tokL (lowL l) = true) : tokL l = true := by
  unfold tokL allI at h ⊢
  rw [lowL_map, List.all_map] at h
  have e : (l.all ((fun c : UInt8 => tokI c.toNat) ∘ lowB)) = l.all (fun c => tokI c.toNat) := by
    apply List.all_congr rfl
    intro c
    exact low_tkB c
  rw [e] at h
  simpa using h
theorem pg_member {v : List UInt8} (h : foldL v ncN = true) : splitL v = [v] := by
  unfold foldL at h
  rw [decide_eq_true_eq] at h
  have ht : tokL v = true := tok_of_low (by rw [h]; decide)
  unfold splitL
  rw [cut_piece (tok_piece44 ht), memL_one (by rw [tok_trim44 ht]; exact tok_ne ht), tok_trim44 ht]; rfl
theorem pg_counts {v : ByteArray} {L : List F} (h : foldL v.data.toList ncN = true) (hl : (allL pgN L).length < 64) : pragC (allL pgN (L ++ [(pgN, v)])) = true := by
  have h1 : nmd pgN (pgN, v) = true := by
    show foldL pgN.data.toList pgN.data.toList = true
    decide +kernel
  have e : getL pgN (L ++ [(pgN, v)]) = getL pgN L ++ [v] := by
    unfold getL
    rw [List.filter_append, List.filter_cons_of_pos h1]
    simp
  have e2 : (allF (getL pgN L)).length < 64 := by
    unfold allL at hl
    rw [List.length_take] at hl; omega
  have e3 : allF [v] = [v.data.toList] := by
    unfold allF
    simp only [List.flatMap_cons, List.flatMap_nil, List.append_nil]
    exact pg_member h
  unfold allL
  rw [e]
  unfold allF at e2 e3 ⊢
  rw [List.flatMap_append, e3, List.take_of_length_le (by rw [List.length_append]; exact Nat.succ_le_of_lt e2)]
  unfold pragC
  rw [List.any_append]
  simp [h]
theorem dir_same {n d : List UInt8} {A : List (List UInt8)} (h : isD n d = true → (dirD n A).isSome = true) : dirD n (A ++ [d]) = dirD n A := by
  rw [dirD_snoc]
  cases hd : dirD n A with
  | some x => rfl
  | none =>
    cases hi : isD n d with
    | false => rfl
    | true =>
      have := h hi
      rw [hd] at this
      cases this
theorem resp_same {d : List UInt8} {A : List (List UInt8)} (hl : A.length < 63) (h : ∀ n, isD n d = true → (dirD n A).isSome = true) : respC (A ++ [d]) = respC A := by
  have h0 : decide (64 ≤ (A ++ [d]).length) = decide (64 ≤ A.length) := by
    rw [decide_eq_false (by rw [List.length_append]; simp; omega), decide_eq_false (by omega)]
  unfold respC ctl0 secD
  rw [h0]
  simp only [fun n => dir_same (h n)]
/-- a member in A has the name of d -/
theorem dir_found {m d n : List UInt8} {A : List (List UInt8)} (hm : m ∈ A) (hf : foldL (namD m) (namD d) = true) (hd : isD n d = true) : (dirD n A).isSome = true := by
  have hm2 : isD n m = true := by
    unfold isD at hd ⊢
    rw [Bool.and_eq_true] at hd ⊢
    refine ⟨?_, fold_trans hf hd.2⟩
    cases hnm : namD m with
    | cons c r => rfl
    | nil =>
      exfalso
      rw [hnm] at hf
      unfold foldL at hf
      rw [decide_eq_true_eq] at hf
      have : (lowL (namD d)).length = 0 := by rw [← hf]; rfl
      rw [lowL_map, List.length_map] at this
      have e := List.eq_nil_of_length_eq_zero this
      rw [e] at hd
      simp at hd
  unfold dirD
  rw [Option.isSome_map, List.find?_isSome]
  exact ⟨m, hm, hm2⟩
theorem nam_eq {n t : List UInt8} (hn : tokL n = true) : namD (n ++ 61 :: t) = n ∧ rstD (n ++ 61 :: t) = 61 :: t := by
  have ha : ∀ c ∈ n, tkB c = true := fun c hc => tok_byte hn c hc
  have h61 : ¬ tkB 61 = true := by decide
  unfold namD rstD
  rw [List.takeWhile_append_of_pos ha, List.dropWhile_append_of_pos ha, List.takeWhile_cons_of_neg h61, List.dropWhile_cons_of_neg h61]
  simp
theorem quote_member {n t : List UInt8} (hn : tokL n = true) : splitL (n ++ 61 :: quoteL t) = [n ++ 61 :: quoteL t] := by
  have hq : Piece 44 (n ++ 61 :: quoteL t) := by
    have h := Piece.quote 44 t (Piece.nil 44)
    rw [List.append_nil] at h
    exact piece_tok44 hn (Piece.cons (by decide) (by decide) h)
  have ht : trimL (n ++ 61 :: quoteL t) = n ++ 61 :: quoteL t := by
    have := quote_trim (n := n) (t := t) (a := []) (b := []) hn (by simp) (by simp)
    rwa [List.nil_append, List.append_nil] at this
  unfold splitL
  rw [cut_piece hq, memL_one (by rw [ht]; simp), ht]; rfl
theorem first_same {a : ByteArray} {n t : List UInt8} {v m : ByteArray} (hn : tokL n = true) (hl : (splitL a.data.toList).length < 40) (hv : v = bs (n ++ 61 :: quoteL t)) {x : List UInt8} (hx : x ∈ splitL a.data.toList) (hf : foldL (namD x) n = true)
    (hm : nmd ccN (m, v) = true) : respC (allL ccN [(ccN, a), (m, v)]) = respC (allL ccN [(ccN, a)]) := by
  have h0 : nmd ccN (ccN, a) = true := by
    show foldL ccN.data.toList ccN.data.toList = true
    decide +kernel
  have hd := quote_member (t := t) hn
  obtain ⟨hN, _⟩ := nam_eq (t := quoteL t) hn
  have e : allL ccN [(ccN, a), (m, v)] = splitL a.data.toList ++ [n ++ 61 :: quoteL t] := by
    unfold allL getL
    rw [List.filter_cons_of_pos h0, List.filter_cons_of_pos hm]
    simp only [List.filter_nil, List.map_cons, List.map_nil]
    unfold allF
    simp only [List.flatMap_cons, List.flatMap_nil, List.append_nil]
    rw [hv, bs_toList, hd, List.take_of_length_le (by rw [List.length_append]; simp; omega)]
  rw [e, all_one22 h0]
  exact resp_same (by omega) (fun k hk => dir_found hx (by rw [hN]; exact hf) hk)
end
section
open Go.RowKit
theorem run_field_ns (b0 b1 b2 b3 b4 b5 b6 : Bool) (n0 n1 n2 n3 : Int) (w : World) :
    (Instr.field 25 (.agg #[.bool b0, .bool b1, .bool b2, .bool b3, .bool b4, .bool b5, .bool b6, .int .i64 n0, .int .i64 n1, .int .i64 n2, .int .i64 n3]) 0).run Try.prog w = .ok (.bool b0) w := by
  simp [Instr.field, Sem.run_bind, run_underlying Try.underlying25, asAgg, part, isAgg, run_underlying Try.underlying4, Result.andThen]
theorem run_field_nc (b0 b1 b2 b3 b4 b5 b6 : Bool) (n0 n1 n2 n3 : Int) (w : World) :
    (Instr.field 25 (.agg #[.bool b0, .bool b1, .bool b2, .bool b3, .bool b4, .bool b5, .bool b6, .int .i64 n0, .int .i64 n1, .int .i64 n2, .int .i64 n3]) 1).run Try.prog w = .ok (.bool b1) w := by
  simp [Instr.field, Sem.run_bind, run_underlying Try.underlying25, asAgg, part, isAgg, run_underlying Try.underlying4, Result.andThen]
end
section
open Go.RowKit
/-- what the function value of Remove has captured: a variable that holds the function value of named -/
def Cap (g2 g1 : Nat) (nm : ByteArray) (w : World) : Prop := w.cell? ⟨g2, 0, none⟩ = some (nmV g1) ∧ Nm g1 nm w
theorem Cap.below {w w' : World} {g2 g1 : Nat} {nm : ByteArray} (h : Cap g2 g1 nm w) (hb : Below w.heap.size w w') : Cap g2 g1 nm w' := ⟨(hb.cell (cell_lt h.1)).trans h.1, h.2.below hb⟩
end
section
open Go.RowKit
theorem add_at (g off j : Nat) : (⟨g, off, none⟩ : Addr).add j = ⟨g, off + j, none⟩ := by
  unfold Addr.add; split <;> simp_all
/-- the cells of a list of fields, out of memory -/
theorem Fs.news {w : World} {ad : Addr} {M : List F} (h : Fs w (some ad) M) : ∀ j u, (cellsF M)[j]? = some u → w.cell? (ad.add j) = some u := by
  intro j u hj
  have hlen := (List.getElem?_eq_some_iff.mp hj).1
  rw [cellsF_len] at hlen
  have hi : j / 2 < M.length := by omega
  obtain ⟨g, off, e, c0, c1⟩ := h (j / 2) hi
  obtain ⟨q0, q1⟩ := cellsF_at M (j / 2) hi
  cases e
  rw [add_at]
  rcases Nat.mod_two_eq_zero_or_one j with r | r
  · have ej : j = j / 2 * 2 := by omega
    rw [← ej] at q0 c0
    rw [q0] at hj; cases hj; exact c0
  · have ej : j = j / 2 * 2 + 1 := by omega
    rw [← ej] at q1
    rw [Nat.add_assoc, ← ej] at c1
    rw [q1] at hj; cases hj; exact c1
theorem cellsF_one (M : List F) : ∀ u ∈ cellsF M, u.oneCell' = true := by
  intro u hu
  obtain ⟨p, _, hp⟩ := List.mem_flatMap.mp hu
  simp at hp; rcases hp with rfl | rfl <;> rfl
/-- append of a list of fields -/
theorem wpList_append_flds (w : World) {ops : Array Oper} {rest : List Oper} {o : Oper} {a : Act} {Q : Exit → Act → World → Prop} (hgd : o.guard = none) (s x : Operand)
    (ho : o.op = .call { callee := .builtin .append, args := #[s, x], argTypes := #[22, 22] })
    (B : Nat) (v : Value) (L M : List F) (hs : a.eval s = v) (hown : OwnF w B v L)
    (ad : Option Addr) (c : Nat) (hx : a.eval x = .slice ad M.length c) (hn : ad = none → c = 0) (hM : Fs w ad M) (hl : L.length ≤ 65536) (hm : M.length ≤ 65536) (hB : B ≤ w.heap.size)
    (h : ∀ v' w', OwnF w' B v' (L ++ M) → Below B w w' → wpList Try.prog ops Q rest (a.put o.dst v') w') : wpList Try.prog ops Q (o :: rest) a w := by
  obtain ⟨i0, hi0, hz0, hz1, hz2⟩ := info_parts info_fld
  rcases ad with _ | ad
  · have hc := hn rfl
    subst hc
    have he : M = [] := by
      rcases M with _ | ⟨p, M⟩
      · rfl
      · obtain ⟨g, off, e, _⟩ := hM 0 (by simp)
        cases e
    subst he
    rw [List.append_nil] at h
    exact wpList_append_own_none (P := Try.prog) hgd s x 22 ho B 32 i0 2 Try.underlying22 hi0 v L.length (cellsF L) hs hown hx (h v w hown (Below.refl _ _))
  · refine wpList_append_own (P := Try.prog) w hgd s x 22 ho B 32 i0 _ 2 32 Try.underlying22 hi0 hz0 hz1 hz2 rfl (by decide) v L.length (cellsF L) hs hown ad M.length c (cellsF M) hx (cellsF_len M) hM.news (cellsF_one M) (by unfold maxLen; omega) (by omega) hB ?_
    intro v' w' q1 q2 _
    refine h v' w' (by simpa [OwnF, cellsF_app] using q1) ((Below.refl _ _).grown q2 hB (fun k hk => own_block hown k hk))
theorem OwnF.empty (w : World) : OwnF (w.alloc (.cells #[] 32)) w.heap.size (.slice (some ⟨w.heap.size, 0, none⟩) 0 0) [] :=
  ⟨rfl, .inr ⟨_, _, _, rfl, Nat.le_refl _, heap_alloc_new w _, Nat.zero_le _, by unfold maxLen; omega, rfl, rfl⟩⟩
end
section
open Go.RowKit Go.ChangeShapes Go.WideShapes Go.Deep
theorem open_fieldsn {H : Type} {enc : TypeId × Value → H} {W : World} {base : Nat} {sp : Nat → Bool} {held : Bool} {r : Reach} {b0 : Nat} {v : Value} {d : DataW H} {p : List MemPlace}
    (hval : Value.okWide Try.prog W r b0 22 v) (h : DataW.Trod enc Try.prog W base sp held 22 v d p) :
    ∃ (a : Option Addr) (cap : Nat) (L : List F), v = .slice a L.length cap ∧ L.length ≤ maxLen ∧ Fs W a L ∧ (L.length ≤ cap ∧ (a = none → cap = 0)) := by
  have h2 := h
  obtain ⟨a, cap, L, rfl, h3, h4, h5⟩ := open_fields hval h
  refine ⟨a, cap, L, rfl, h3, h4, h5, fun ha => ?_⟩
  subst ha
  obtain ⟨fuel, hf⟩ := h2
  rcases open_slice_pairs Try.underlying22 Try.underlying32 (by kernel_rfl) rfl rfl (by kernel_rfl) (by kernel_rfl) hf with ⟨hcs, hx⟩ | ⟨a, len', cap', m, n, V0, V1, D0, D1, P0, P1, hcs, _⟩
  · simp [Value.cells] at hcs
    exact hcs.2
  · simp [Value.cells] at hcs
theorem wpList_append_flds17 (w : World) {ops : Array Oper} {rest : List Oper} {o : Oper} {a : Act} {Q : Exit → Act → World → Prop} (hgd : o.guard = none) (s x : Operand)
    (ho : o.op = .call { callee := .builtin .append, args := #[s, x], argTypes := #[22, 22] })
    (B : Nat) (v : Value) (L M : List F) (hs : a.eval s = v) (hown : OwnF w B v L)
    (ad : Option Addr) (m c : Nat) (hx : a.eval x = .slice ad m c) (hm : M.length = m) (hn : ad = none → c = 0) (hM : Fs w ad M) (hl : L.length ≤ 65536) (hm6 : M.length ≤ 65536) (hB : B ≤ w.heap.size)
    (h : ∀ v' w', OwnF w' B v' (L ++ M) → Below B w w' → wpList Try.prog ops Q rest (a.put o.dst v') w') : wpList Try.prog ops Q (o :: rest) a w := by
  subst hm
  exact wpList_append_flds w hgd s x ho B v L M hs hown ad c hx hn hM hl hm6 hB h
end
end Go.Proofs.Ytlcojfkkeommoaa.Asc
