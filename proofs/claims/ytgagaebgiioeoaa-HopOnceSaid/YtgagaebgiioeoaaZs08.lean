/- Merged texts: LstOpenN HopVia ParSpec HopSpec3 HopLaws. -/
import Derived.Test.YtgagaebgiioeoaaZs01
import Derived.Test.YtgagaebgiioeoaaZs02
import Derived.Test.YtgagaebgiioeoaaZs05
import Derived.Test.YtgagaebgiioeoaaZs06
import Derived.Test.YtgagaebgiioeoaaZs07
set_option linter.unusedVariables false
set_option linter.unusedSimpArgs false
set_option maxRecDepth 100000
namespace Go.Proofs.Ytgagaebgiioeoaa.Asc
section
open Go.RowKit Go.ChangeShapes Go.WideShapes Go.Deep
theorem open_fieldsn {H : Type} {enc : TypeId × Value → H} {W : World} {base : Nat} {sp : Nat → Bool} {held : Bool} {r : Reach} {b0 : Nat} {v : Value} {d : DataW H} {p : List MemPlace}
    (hval : Value.okWide Try.prog W r b0 22 v) (h : DataW.Trod enc Try.prog W base sp held 22 v d p) :
    ∃ (a : Option Addr) (cap : Nat) (L : List F), v = .slice a L.length cap ∧ L.length ≤ maxLen ∧ Fs W a L ∧ (L.length ≤ cap ∧ (a = none → cap = 0)) := by
  have h2 := h
  obtain ⟨a, cap, L, rfl, h3, h4, h5⟩ := open_fields hval h
  refine ⟨a, cap, L, rfl, h3, h4, h5, fun ha => ?_⟩
  subst ha
  obtain ⟨fuel, hf⟩ := h2
  rcases open_slice_pairs Try.underlying22 Try.underlying35 (by kernel_rfl) rfl rfl (by kernel_rfl) (by kernel_rfl) hf with ⟨hcs, hx⟩ | ⟨a, len', cap', m, n, V0, V1, D0, D1, P0, P1, hcs, _⟩
  · simp [Value.cells] at hcs
    exact hcs.2
  · simp [Value.cells] at hcs
theorem wpList_append_flds17 (w : World) {ops : Array Oper} {rest : List Oper} {o : Oper} {a : Act} {Q : Exit → Act → World → Prop} (hgd : o.guard = none) (s x : Operand)
    (ho : o.op = .call { callee := .builtin .append, args := #[s, x], argTypes := #[22, 22] })
    (B : Nat) (v : Value) (L M : List F) (hs : a.eval s = v) (hown : OwnF w B v L)
    (ad : Option Addr) (m c : Nat) (hx : a.eval x = .slice ad m c) (hm : M.length = m) (hn : ad = none → c = 0) (hM : Fs w ad M) (hl : L.length ≤ 65536) (hm6 : M.length ≤ 65536) (hB : B ≤ w.heap.size)
    (h : ∀ v' w', OwnF w' B v' (L ++ M) → Below B w w' → wpList Try.prog ops Q rest (a.put o.dst v') w') : wpList Try.prog ops Q (o :: rest) a w := by
  subst hm
  exact wpList_append_flds w hgd s x ho B v L M hs hown ad c hx hn hM hl hm6 hB h
end
section
open Go.RowKit
theorem mDec25_is {n : Int} {x : ByteArray} {w : World} (h1 : InI64 n) (h : Box (bs (decL n) = x)) :
    Calls Try.prog 23 #[.int .i64 n] w fun e w' => e = .returned (.string x) ∧ Below w.heap.size w w' :=
  (Decimal_any n w h1).mono fun e w' ⟨h3, h2⟩ => ⟨by rw [h3, ← h.out]; rfl, h2⟩
theorem rDec25_is {n : Int} {x : ByteArray} {w : World} (h1 : InI64 n) (h : Box (bs (decL n) = x)) :
    Calls Try.prog 24 #[.int .i64 n] w fun e w' => e = .returned (.string x) ∧ Below w.heap.size w w' :=
  (rDecimal_any n w h1).mono fun e w' ⟨h3, h2⟩ => ⟨by rw [h3, ← h.out]; rfl, h2⟩
theorem clone25_is {a : Option Addr} {cap n : Nat} {L : List F} {w : World} (hl : L.length ≤ 65536) (hF : Fs w a L) (hn : Box (L.length = n)) :
    Calls Try.prog 22 #[.slice a n cap] w fun e w' => ∃ v, e = .returned v ∧ OwnF w' w.heap.size v L ∧ Below w.heap.size w w' := by
  have h := Clone_any a cap L w hl (box hF)
  rw [hn.out] at h; exact h
theorem via_text {n : Int} {x name : ByteArray} (h : bs (decL n) = x) : (⟨#[49, 46]⟩ ++ x ++ ⟨#[32]⟩ ++ name : ByteArray) = bs (viaV n name) := by
  rw [← h]
  apply ByteArray.ext
  apply Array.ext'
  simp [bs, viaV]
set_option maxHeartbeats 1000000 in
theorem mVia_any (a : Option Addr) (cap n : Nat) (L : List F) (k : Int) (name : ByteArray) (w : World) (hl : L.length ≤ 65535) (hk : InI64 k) (hz : name.size ≤ 65536) (hF : Box (Fs w a L)) (hn : Box (L.length = n)) :
    Calls Try.prog 10 #[.slice a n cap, .int .i64 k, .string name] w fun e w' => ∃ v, e = .returned v ∧ OwnF w' w.heap.size v (viaL L k name) ∧ Below w.heap.size w w' := by
  obtain ⟨x, hx⟩ : ∃ x, bs (decL k) = x := ⟨_, rfl⟩
  have hxz : x.size ≤ 30 := by rw [← hx]; exact Nat.le_trans (decL_size k) (by decide)
  have HX := box hx
  have HT := box (via_text (name := name) hx)
  have r1 : ∀ w, (Op.stringOp .add ⟨#[49, 46]⟩ x).run Try.prog w = .ok (.string (⟨#[49, 46]⟩ ++ x)) w := fun w => run_string_add_sum w _ _ (by show 2 + x.size ≤ 9223372036854775807; omega)
  have r2 : ∀ w, (Op.stringOp .add (⟨#[49, 46]⟩ ++ x) ⟨#[32]⟩).run Try.prog w = .ok (.string (⟨#[49, 46]⟩ ++ x ++ ⟨#[32]⟩)) w := fun w => run_string_add_sum w _ _ (by rw [ByteArray.size_append]; show 2 + x.size + 1 ≤ 9223372036854775807; omega)
  have r3 : ∀ w, (Op.stringOp .add (⟨#[49, 46]⟩ ++ x ++ ⟨#[32]⟩) name).run Try.prog w = .ok (.string (⟨#[49, 46]⟩ ++ x ++ ⟨#[32]⟩ ++ name)) w := fun w => run_string_add_sum w _ _ (by rw [ByteArray.size_append, ByteArray.size_append]; show 2 + x.size + 1 + name.size ≤ 9223372036854775807; omega)
  clear hx
  go_enter Try.func10, Try.ntmps10
  go_wp2_with fail
  refine (clone25_is (L := L) (by omega) hF.out hn).mono ?_; rintro e w1 ⟨v1, rfl, hO1, hb1⟩
  have O1 := box hO1
  have B1 := box hb1
  have hs1 := hb1.size
  clear hO1 hb1
  go_wp2_with fail
  refine (mDec25_is hk HX).mono ?_; rintro e w2 ⟨rfl, hb2⟩
  have O2 := box (own_below O1.out hb2)
  have B2 := box (B1.out.trans (hb2.mono B1.out.size))
  have hs2 := B2.out.size
  clear hb2
  go_wp2_with (at_builtin; refine wpList_append_fld _ rfl (.tmp 8) (.tmp 16) rfl w.heap.size _ L rfl ?a1 _ _ rfl viaN (⟨#[49, 46]⟩ ++ x ++ ⟨#[32]⟩ ++ name) ?b1 ?b2 ?c1 ?d1 ?_)
  case a1 => exact own_below O2.out (below_new _ _)
  case b1 => go_simp; rfl
  case b2 => go_simp
  case c1 => omega
  case d1 => simp; omega
  intro v' w4 hO4 hb4
  have O4 := box hO4
  clear hO4
  go_wp2
  go_ret
  exact ⟨_, rfl, by rw [show viaL L k name = L ++ [(viaN, ⟨#[49, 46]⟩ ++ x ++ ⟨#[32]⟩ ++ name)] from by rw [HT.out]; rfl]; exact O4.out, (B2.out.alloc B2.out.size _).trans hb4⟩
set_option maxHeartbeats 1000000 in
theorem rVia_any (a : Option Addr) (cap n : Nat) (L : List F) (k : Int) (name : ByteArray) (w : World) (hl : L.length ≤ 65535) (hc : a = none → cap = 0) (hk : InI64 k) (hz : name.size ≤ 65536) (hF : Box (Fs w a L)) (hn : Box (L.length = n)) :
    Calls Try.prog 11 #[.slice a n cap, .int .i64 k, .string name] w fun e w' => ∃ v, e = .returned v ∧ OwnF w' w.heap.size v (viaL L k name) ∧ Below w.heap.size w w' := by
  obtain ⟨x, hx⟩ : ∃ x, bs (decL k) = x := ⟨_, rfl⟩
  have hxz : x.size ≤ 30 := by rw [← hx]; exact Nat.le_trans (decL_size k) (by decide)
  have HX := box hx
  have HT := box (via_text (name := name) hx)
  have r1 : ∀ w, (Op.stringOp .add ⟨#[49, 46]⟩ x).run Try.prog w = .ok (.string (⟨#[49, 46]⟩ ++ x)) w := fun w => run_string_add_sum w _ _ (by show 2 + x.size ≤ 9223372036854775807; omega)
  have r2 : ∀ w, (Op.stringOp .add (⟨#[49, 46]⟩ ++ x) ⟨#[32]⟩).run Try.prog w = .ok (.string (⟨#[49, 46]⟩ ++ x ++ ⟨#[32]⟩)) w := fun w => run_string_add_sum w _ _ (by rw [ByteArray.size_append]; show 2 + x.size + 1 ≤ 9223372036854775807; omega)
  have r3 : ∀ w, (Op.stringOp .add (⟨#[49, 46]⟩ ++ x ++ ⟨#[32]⟩) name).run Try.prog w = .ok (.string (⟨#[49, 46]⟩ ++ x ++ ⟨#[32]⟩ ++ name)) w := fun w => run_string_add_sum w _ _ (by rw [ByteArray.size_append, ByteArray.size_append]; show 2 + x.size + 1 + name.size ≤ 9223372036854775807; omega)
  clear hx
  go_enter Try.func11, Try.ntmps11
  go_wp2_with (at_builtin; refine wpList_append_flds17 _ rfl (.const (.slice none 0 0)) (.tmp 7) rfl w.heap.size (.slice none 0 0) [] L rfl (OwnF.nil _ _) a n cap rfl hn.out hc hF.out (Nat.zero_le _) (by omega) (Nat.le_refl _) ?_)
  intro v1 w1 hO1 hb1
  have O1 := box hO1
  have B1 := box hb1
  have hs1 := hb1.size
  clear hO1 hb1
  go_wp2_with fail
  refine (rDec25_is hk HX).mono ?_; rintro e w2 ⟨rfl, hb2⟩
  have O2 := box (own_below O1.out hb2)
  have B2 := box (B1.out.trans (hb2.mono B1.out.size))
  have hs2 := B2.out.size
  clear hb2
  go_wp2_with (at_builtin; refine wpList_append_fld _ rfl (.tmp 8) (.tmp 16) rfl w.heap.size _ L rfl ?a1 _ _ rfl viaN (⟨#[49, 46]⟩ ++ x ++ ⟨#[32]⟩ ++ name) ?b1 ?b2 ?c1 ?d1 ?_)
  case a1 => exact own_below O2.out (below_new _ _)
  case b1 => go_simp; rfl
  case b2 => go_simp
  case c1 => omega
  case d1 => simp; omega
  intro v' w4 hO4 hb4
  have O4 := box hO4
  clear hO4
  go_wp2
  go_ret
  exact ⟨_, rfl, by rw [show viaL L k name = L ++ [(viaN, ⟨#[49, 46]⟩ ++ x ++ ⟨#[32]⟩ ++ name)] from by rw [HT.out]; rfl]; exact O4.out, (B2.out.alloc B2.out.size _).trans hb4⟩
end
section
/-- is a byte behind the list within a quoted string? (as endF, with its own length) -/
def endQ (q : Bool) (l : List UInt8) : Bool := endF l.length q l
theorem endL_any {q : Bool} {c : UInt8} {r : List UInt8} (h1 : ¬ (q = true ∧ c = 92)) (h : c ≠ 34) : endQ q (c :: r) = endQ q r := by
  unfold endQ
  show endF (r.length + 1) q (c :: r) = _
  rw [endF_cons, if_neg h1, if_neg h]
/-- a piece: no separator outside quoted strings, none of which is open at its end -/
def Piece (sep : UInt8) (p : List UInt8) : Prop := ncL sep false p = true ∧ endQ false p = false
theorem Piece.nil (sep : UInt8) : Piece sep [] := ⟨rfl, rfl⟩
theorem Piece.cons {sep c : UInt8} {p : List UInt8} (h1 : c ≠ 34) (h2 : c ≠ sep) (h : Piece sep p) : Piece sep (c :: p) :=
  ⟨by rw [nc_any (by simp) h1 (fun q => h2 q.1)]; exact h.1, by rw [endL_any (by simp) h1]; exact h.2⟩
theorem Piece.plain {sep : UInt8} : ∀ {a p : List UInt8}, (∀ c ∈ a, c ≠ 34 ∧ c ≠ sep) → Piece sep p → Piece sep (a ++ p)
  | [], p, _, h => h
  | c :: r, p, ha, h => Piece.cons (ha c (by simp)).1 (ha c (by simp)).2 (Piece.plain (fun d hd => ha d (by simp [hd])) h)
theorem cut_piece {sep : UInt8} {a : List UInt8} (h : Piece sep a) : cutL sep a = [a] := by
  unfold cutL; rw [nc_cut _ false _ [] (Nat.le_refl _) h.1]; rfl
theorem tok_byte {l : List UInt8} (h : tokL l = true) : ∀ c ∈ l, tokI c.toNat = true := by
  unfold tokL at h
  rw [Bool.and_eq_true] at h
  exact fun c hc => List.all_eq_true.mp h.2 c hc
theorem tok_ne {l : List UInt8} (h : tokL l = true) : l ≠ [] := by
  unfold tokL at h
  intro e; rw [e] at h; simp at h
def tokChk (n : Nat) : Bool := !tokI (n : Int) || (UInt8.ofNat n != 34 && UInt8.ofNat n != 59 && UInt8.ofNat n != 61 && UInt8.ofNat n != 44 && !blankB (UInt8.ofNat n))
theorem tok_chk : ∀ x : Fin 256, tokChk x.1 = true := by decide +kernel
theorem tok_chk2 (c : UInt8) : tokChk c.toNat = true := by
  have hc : c.toNat < 256 := c.toNat_lt
  generalize c.toNat = n at hc ⊢
  exact tok_chk ⟨n, hc⟩
theorem tok_not {c : UInt8} (h : tokI c.toNat = true) : c ≠ 34 ∧ c ≠ 59 ∧ c ≠ 61 ∧ c ≠ 44 ∧ blankB c = false := by
  have k := tok_chk2 c
  unfold tokChk at k
  rw [h, UInt8.ofNat_toNat] at k
  simp only [Bool.not_true, Bool.false_or, Bool.and_eq_true, bne_iff_ne, Bool.not_eq_true'] at k
  obtain ⟨⟨⟨⟨k1, k2⟩, k3⟩, k4⟩, k5⟩ := k
  exact ⟨k1, k2, k3, k4, k5⟩
theorem trim_tok {v a b : List UInt8} (hv : tokL v = true) (ha : ∀ c ∈ a, blankB c = true) (hb : ∀ c ∈ b, blankB c = true) : trimL (a ++ (v ++ b)) = v :=
  trim_char a v b ha hb (fun c r h => (tok_not (tok_byte hv c (by rw [h]; simp))).2.2.2.2) (fun c r h => (tok_not (tok_byte hv c (by rw [h]; simp))).2.2.2.2)
end
section
theorem tok_split25 {v : List UInt8} (hv : tokL v = true) : splitL v = [v] := by
  have hq : Piece 44 v := by
    have := Piece.plain (fun c hc => ⟨(tok_not (tok_byte hv c hc)).1, (tok_not (tok_byte hv c hc)).2.2.2.1⟩) (Piece.nil 44) (a := v)
    rwa [List.append_nil] at this
  have ht : trimL v = v := by
    have := trim_tok (v := v) (a := []) (b := []) hv (by simp) (by simp)
    rwa [List.nil_append, List.append_nil] at this
  unfold splitL
  rw [cut_piece hq, memL_one (by rw [ht]; exact tok_ne hv), ht]; rfl
theorem mem_sm25 {L : List F} (hl : L.length ≤ 65536) (h : ∀ p ∈ L, p.1.size ≤ 65000 ∧ p.2.size ≤ 65000) : Sm L :=
  ⟨hl, fun i hi => by have := h _ (List.getElem_mem hi); omega⟩
theorem mem_get25 {L : List F} (h : ∀ p ∈ L, p.1.size ≤ 65000 ∧ p.2.size ≤ 65000) (nm : ByteArray) : ∀ x ∈ getL nm L, x.size ≤ 65000 := fun x hx => by
  unfold getL at hx
  obtain ⟨p, hp, rfl⟩ := List.mem_map.1 hx
  exact (h p (List.mem_filter.1 hp).1).2
theorem keep_mem25 {L : List F} (h : keepF L = true) : ∀ p ∈ L, p.1.size ≤ 65000 ∧ p.2.size ≤ 65000 := fun p hp => by
  obtain ⟨i, hi, rfl⟩ := List.getElem_of_mem hp
  have := (keep_parts h).2 i hi
  omega
theorem str_mem25 {L : List F} (h : ∀ p ∈ L, p.1.size ≤ 65000 ∧ p.2.size ≤ 65000) : ∀ p ∈ strL L, p.1.size ≤ 65000 ∧ p.2.size ≤ 65000 := fun p hp => h p (List.mem_filter.1 hp).1
theorem str_len25 (L : List F) : (strL L).length ≤ L.length := List.length_filter_le _ _
theorem two_mem25 {L : List F} {n v : ByteArray} (h : ∀ p ∈ L, p.1.size ≤ 65000 ∧ p.2.size ≤ 65000) (hn : n.size ≤ 100) (hv : v.size ≤ 100) : ∀ p ∈ L ++ [(n, v), (conN, n)], p.1.size ≤ 65000 ∧ p.2.size ≤ 65000 := fun p hp => by
  rcases List.mem_append.1 hp with h1 | h1
  · exact h p h1
  · have hc : conN.size = 10 := rfl
    rcases List.mem_cons.1 h1 with e | h2
    · subst e; exact ⟨by show n.size ≤ _; omega, by show v.size ≤ _; omega⟩
    · rcases List.mem_cons.1 h2 with e | h3
      · subst e; exact ⟨by show conN.size ≤ _; omega, by show n.size ≤ _; omega⟩
      · cases h3
theorem kep_more {n : ByteArray} {k : Nat} (h : k < kepN.length) {q : Bool} (hq : foldL kepN[k].data.toList n.data.toList = q) : amgL n (kepN.take (k + 1)) = (amgL n (kepN.take k) || q) := by
  rw [List.take_succ_eq_append_getElem h, amg_app]
  congr 1
  unfold amgL
  rw [List.any_cons, List.any_nil, Bool.or_false, fold_symm, hq]
theorem kep_sizes : ∀ y ∈ kepN, y.size ≤ 65536 := by decide
theorem fix_sizes : ∀ y ∈ fixN, y.size ≤ 65536 := by decide
end
section
open Go.RowKit
theorem mStrip_is {a : Option Addr} {cap n m : Nat} {L K : List F} {w : World} (hm : MxL w) (S : Box (Sm L)) (hv : Box (∀ x ∈ getL conN L, x.size ≤ 65000)) (hF : Fs w a L) (hn : Box (L.length = n)) (h : Box (strL L = K)) (hm2 : Box (K.length = m)) :
    Calls Try.prog 8 #[.slice a n cap] w fun e w' => ∃ a2 c2, e = .returned (.slice a2 m c2) ∧ Fs w' a2 K ∧ Below w.heap.size w w' :=
  (mStrip_any a cap n L w hm S hv (box hF) hn).mono fun e w' ⟨v, h1, h2, h3⟩ => by
    rw [h.out] at h2
    obtain ⟨a2, c2, rfl, hS, _⟩ := OwnF.fs h2
    exact ⟨a2, c2, by rw [h1, hm2.out], hS, h3⟩
theorem rStrip_is {a : Option Addr} {cap n m : Nat} {L K : List F} {w : World} (S : Box (Sm L)) (hv : Box (∀ x ∈ getL conN L, x.size ≤ 65000)) (hF : Fs w a L) (hn : Box (L.length = n)) (h : Box (strL L = K)) (hm2 : Box (K.length = m)) :
    Calls Try.prog 9 #[.slice a n cap] w fun e w' => ∃ a2 c2, e = .returned (.slice a2 m c2) ∧ Fs w' a2 K ∧ Below w.heap.size w w' :=
  (rStrip_any a cap n L w S hv (box hF) hn).mono fun e w' ⟨v, h1, h2, h3⟩ => by
    rw [h.out] at h2
    obtain ⟨a2, c2, rfl, hS, _⟩ := OwnF.fs h2
    exact ⟨a2, c2, by rw [h1, hm2.out], hS, h3⟩
theorem mVia_is {a : Option Addr} {cap n m : Nat} {L K : List F} {k : Int} {name : ByteArray} {w : World} (hl : L.length ≤ 65535) (hk : InI64 k) (hz : name.size ≤ 65536) (hF : Fs w a L) (hn : Box (L.length = n)) (h : Box (viaL L k name = K)) (hm2 : Box (K.length = m)) :
    Calls Try.prog 10 #[.slice a n cap, .int .i64 k, .string name] w fun e w' => ∃ a2 c2, e = .returned (.slice a2 m c2) ∧ Fs w' a2 K ∧ Below w.heap.size w w' :=
  (mVia_any a cap n L k name w hl hk hz (box hF) hn).mono fun e w' ⟨v, h1, h2, h3⟩ => by
    rw [h.out] at h2
    obtain ⟨a2, c2, rfl, hS, _⟩ := OwnF.fs h2
    exact ⟨a2, c2, by rw [h1, hm2.out], hS, h3⟩
theorem rVia_is {a : Option Addr} {cap n m : Nat} {L K : List F} {k : Int} {name : ByteArray} {w : World} (hl : L.length ≤ 65535) (hc : a = none → cap = 0) (hk : InI64 k) (hz : name.size ≤ 65536) (hF : Fs w a L) (hn : Box (L.length = n)) (h : Box (viaL L k name = K)) (hm2 : Box (K.length = m)) :
    Calls Try.prog 11 #[.slice a n cap, .int .i64 k, .string name] w fun e w' => ∃ a2 c2, e = .returned (.slice a2 m c2) ∧ Fs w' a2 K ∧ Below w.heap.size w w' :=
  (rVia_any a cap n L k name w hl hc hk hz (box hF) hn).mono fun e w' ⟨v, h1, h2, h3⟩ => by
    rw [h.out] at h2
    obtain ⟨a2, c2, rfl, hS, _⟩ := OwnF.fs h2
    exact ⟨a2, c2, by rw [h1, hm2.out], hS, h3⟩
theorem sameF25_is {a b : Option Addr} {n m ca cb : Nat} {K L : List F} {q : Bool} {w : World} (hn : Box (K.length = n)) (hm : Box (L.length = m)) (hk : K.length ≤ 65536) (hl : L.length ≤ 65536) (hK : Fs w a K) (hL : Fs w b L) (h : Box (decide (K = L) = q)) :
    Calls Try.prog 7 #[.slice a n ca, .slice b m cb] w fun e w' => e = .returned (.bool q) ∧ Below w.heap.size w w' := by
  have := SameF_any a b ca cb K L w hk hl (box hK) (box hL)
  rw [hn.out, hm.out, h.out] at this; exact this
theorem rHas25_is {a : Option Addr} {cap n : Nat} {L : List F} {nm : ByteArray} {q : Bool} {w : World} (S : Box (Sm L)) (M : nm.size ≤ 65536) (hF : Fs w a L) (hn : Box (L.length = n)) (h : Box (L.any (nmd nm) = q)) :
    Calls Try.prog 13 #[.slice a n cap, .string nm] w fun e w' => e = .returned (.bool q) ∧ Below w.heap.size w w' := by
  have := rHas_any a cap L nm w S.out.1 S (box M) (box hF)
  rw [hn.out, h.out] at this; exact this
theorem keepF25_is {a : Option Addr} {cap n : Nat} {L : List F} {q : Bool} {w : World} (hl : L.length ≤ maxLen) (hF : Fs w a L) (hn : Box (L.length = n)) (h : Box (keepF L = q)) :
    Calls Try.prog 6 #[.slice a n cap] w fun e w' => e = .returned (.bool q) ∧ w = w' := by
  have := keepFields_any a cap L w hl (box hF)
  rw [hn.out, h.out] at this; exact this
theorem Fs.cells25 (L : List F) (w : World) (t : TypeId) : Fs (w.alloc (.cells (cellsF L).toArray t)) (some ⟨w.heap.size, 0, none⟩) L := fun i hi => by
  refine ⟨_, 0, rfl, ?_, ?_⟩
  all_goals
    rw [World.cell?_alloc_mark]
    have h := cellsF_at L i hi
    simp [h.1, h.2]
def awL25 : List F := [(conN, ⟨#[99, 108, 111, 115, 101, 44, 32, 88, 45, 97]⟩), (⟨#[120, 45, 65]⟩, ⟨#[49]⟩), (⟨#[98]⟩, ⟨#[50]⟩)]
def awK25 : List F := [(⟨#[98]⟩, ⟨#[50]⟩)]
def awV25 : List F := [(viaN, ⟨#[49, 46, 49, 32, 112]⟩)]
theorem aw25_is : strL awL25 = awK25 := by decide +kernel
theorem aw25_via : viaL [] 1 ⟨#[112]⟩ = awV25 := by decide +kernel
set_option maxHeartbeats 1000000 in
theorem awake25_any (w : World) (hm : MxL w) :
    Calls Try.prog 12 #[] w fun e w' => e = .returned (.bool true) ∧ Below w.heap.size w w' := by
  have HM := box hm
  have hmem : ∀ p ∈ awL25, p.1.size ≤ 65000 ∧ p.2.size ≤ 65000 := by decide
  have S := box (mem_sm25 (by decide) hmem)
  have HV := box (mem_get25 hmem conN)
  clear hm hmem
  go_enter Try.func12, Try.ntmps12
  go_wp2_with fail
  refine (mStrip_is (L := awL25) (K := awK25) (m := 1) (HM.out.below (below_new _ _) (Nat.le_refl _)) S HV (Fs.cells25 awL25 w _) (box rfl) (box aw25_is) (box rfl)).mono ?_; rintro e w1 ⟨a1, c1, rfl, hF1, hb1⟩
  have F1 := box hF1
  have B1 := box ((below_new w _).trans (hb1.mono (below_new w _).size))
  clear hF1 hb1
  go_wp2_with fail
  refine (mVia_is (L := []) (K := awV25) (m := 1) (by simp) (by unfold InI64; omega) (by decide) (Fs.nil17 _ _) (box rfl) (box aw25_via) (box rfl)).mono ?_; rintro e w2 ⟨a2, c2, rfl, hF2, hb2⟩
  have F2 := box hF2
  have B2 := box (B1.out.trans (hb2.mono B1.out.size))
  have G1 := box (F1.out.below hb2)
  clear hF2 hb2
  obtain ⟨g, off, rfl, d0, d1⟩ := G1.out 0 (by decide)
  obtain ⟨g', off', rfl, e0, e1⟩ := F2.out 0 (by decide)
  simp only [Nat.zero_mul, Nat.add_zero, awK25, awV25, List.getElem_cons_zero] at d0 d1 e0 e1
  go_wp2
  go_ret
  exact ⟨rfl, B2.out⟩
set_option maxHeartbeats 2000000 in
theorem strips25_walk (a : Option Addr) (cap : Nat) (L : List F) (k : Int) (nm : ByteArray) (w : World) (hl : L.length ≤ maxLen) (hF : Fs w a L) (hc : L.length ≤ cap ∧ (a = none → cap = 0)) (hk : (Lit.int .i64 k).wf = true) (hn : nm.size ≤ maxLen) (hm : MxL w) :
    Calls Try.prog 3 #[.slice a L.length cap, .int .i64 k, .string nm] w fun e w' => e = .returned (.bool true) ∧ Below w.heap.size w w' := by
  have HM := box hm
  have F0 := box hF
  have HL := box hl
  have hk2 : InI64 k := inI64 hk
  obtain ⟨n, hln⟩ : ∃ n, L.length = n := ⟨_, rfl⟩
  rw [hln]
  have HN := box hln
  unfold maxLen at hn
  clear hm hF hl hk hln
  rcases hk0 : keepF L with _ | _
  · have HK := box hk0
    clear hk0
    go_enter Try.func3, Try.ntmps3
    go_wp2_with fail
    refine (keepF25_is HL.out F0.out HN HK).mono ?_; rintro e w1 ⟨rfl, rfl⟩
    go_wp2
    go_ret
    exact ⟨rfl, Below.refl _ _⟩
  · have HK := box hk0
    by_cases hz : 100 < nm.size
    · have hni : (100 : Int) < (nm.size : Int) := by omega
      clear hk0
      go_enter Try.func3, Try.ntmps3
      go_wp2_with fail
      refine (keepF25_is HL.out F0.out HN HK).mono ?_; rintro e w1 ⟨rfl, rfl⟩
      go_wp2
      go_ret
      exact ⟨rfl, Below.refl _ _⟩
    · have hni : ¬ (100 : Int) < (nm.size : Int) := by omega
      have hmem := keep_mem25 hk0
      have hl70 := (keep_parts hk0).1
      have S := box (mem_sm25 (by omega) hmem)
      have HV := box (mem_get25 hmem conN)
      obtain ⟨K, hK⟩ : ∃ K, strL L = K := ⟨_, rfl⟩
      obtain ⟨V, hV⟩ : ∃ V, viaL L k nm = V := ⟨_, rfl⟩
      have hkl : K.length ≤ 65536 := by rw [← hK]; have := str_len25 L; omega
      have hvl : V.length ≤ 65536 := by rw [← hV]; unfold viaL; rw [List.length_append]; show L.length + 1 ≤ 65536; omega
      obtain ⟨m, hm1⟩ : ∃ m, K.length = m := ⟨_, rfl⟩
      obtain ⟨m2, hm2⟩ : ∃ m2, V.length = m2 := ⟨_, rfl⟩
      have HKK := box hK
      have HVV := box hV
      have HM1 := box hm1
      have HM2 := box hm2
      have HKL := box hkl
      have HVL := box hvl
      have L70 := box hl70
      clear hk0 hK hV hm1 hm2 hkl hvl hl70 hmem
      go_enter Try.func3, Try.ntmps3
      go_wp2_with fail
      refine (keepF25_is HL.out F0.out HN HK).mono ?_; rintro e w1 ⟨rfl, rfl⟩
      go_wp2_with fail
      refine (mStrip_is HM.out S HV F0.out HN HKK HM1).mono ?_; rintro e w1 ⟨a1, c1, rfl, hS1, hb1⟩
      have S1 := box hS1
      have B1 := box hb1
      clear hS1 hb1
      go_wp2_with fail
      refine (rStrip_is S HV (F0.out.below B1.out) HN HKK HM1).mono ?_; rintro e w2 ⟨a2, c2, rfl, hS2, hb2⟩
      have S2 := box hS2
      have T1 := box (S1.out.below hb2)
      have B2 := box (B1.out.trans (hb2.mono B1.out.size))
      clear hS2 hb2
      go_wp2_with fail
      refine (sameF25_is (q := true) HM1 HM1 HKL.out HKL.out T1.out S2.out (box (decide_eq_true rfl))).mono ?_; rintro e w3 ⟨rfl, hb3⟩
      have B3 := box (B2.out.trans (hb3.mono B2.out.size))
      clear hb3
      go_wp2_with fail
      refine (mVia_is (by have := L70.out; omega) hk2 (by omega) (F0.out.below B3.out) HN HVV HM2).mono ?_; rintro e w4 ⟨a4, c4, rfl, hS4, hb4⟩
      have S4 := box hS4
      have B4 := box (B3.out.trans (hb4.mono B3.out.size))
      clear hS4 hb4
      go_wp2_with fail
      refine (rVia_is (by have := L70.out; omega) hc.2 hk2 (by omega) (F0.out.below B4.out) HN HVV HM2).mono ?_; rintro e w5 ⟨a5, c5, rfl, hS5, hb5⟩
      have S5 := box hS5
      have T4 := box (S4.out.below hb5)
      have B5 := box (B4.out.trans (hb5.mono B4.out.size))
      clear hS5 hb5
      go_wp2_with fail
      refine (sameF25_is (q := true) HM2 HM2 HVL.out HVL.out T4.out S5.out (box (decide_eq_true rfl))).mono ?_; rintro e w6 ⟨rfl, hb6⟩
      have B6 := box (B5.out.trans (hb6.mono B5.out.size))
      clear hb6
      go_wp2_with fail
      refine (awake25_any _ (HM.out.below B6.out (Nat.le_refl _))).mono ?_; rintro e w7 ⟨rfl, hb7⟩
      have B7 := box (B6.out.trans (hb7.mono B6.out.size))
      clear hb7
      go_wp2
      go_ret
      exact ⟨rfl, B7.out⟩
def OncRel (W : World) (i : Value) (wr : World) : Prop := ∃ k : Nat, k ≤ fixN.length ∧ i = .int .i64 k ∧ Below W.heap.size W wr
set_option maxHeartbeats 2000000 in
theorem once25_walk (a : Option Addr) (cap : Nat) (L : List F) (w : World) (hl : L.length ≤ maxLen) (hF : Fs w a L) (hc : L.length ≤ cap) (hm : MxL w) :
    Calls Try.prog 4 #[.slice a L.length cap] w fun e w' => e = .returned (.bool true) ∧ Below w.heap.size w w' := by
  have HM := box hm
  have F0 := box hF
  have HL := box hl
  obtain ⟨n, hln⟩ : ∃ n, L.length = n := ⟨_, rfl⟩
  rw [hln]
  have HN := box hln
  clear hm hF hl hln
  rcases hk0 : keepF L with _ | _
  · have HK := box hk0
    clear hk0
    go_enter Try.func4, Try.ntmps4
    go_wp2_with fail
    refine (keepF25_is HL.out F0.out HN HK).mono ?_; rintro e w1 ⟨rfl, rfl⟩
    go_wp2
    go_ret
    exact ⟨rfl, Below.refl _ _⟩
  · have HK := box hk0
    have hmem := keep_mem25 hk0
    have hl70 := (keep_parts hk0).1
    have S := box (mem_sm25 (by omega) hmem)
    have HV := box (mem_get25 hmem conN)
    obtain ⟨K, hK⟩ : ∃ K, strL L = K := ⟨_, rfl⟩
    have hkl : K.length ≤ 65536 := by rw [← hK]; have := str_len25 L; omega
    have kmem : ∀ p ∈ K, p.1.size ≤ 65000 ∧ p.2.size ≤ 65000 := by rw [← hK]; exact str_mem25 hmem
    have SK := box (mem_sm25 hkl kmem)
    have HVK := box (mem_get25 kmem conN)
    have HO : Box (strL K = K) := box (by rw [← hK]; exact str_once L)
    have HH : Box (∀ x ∈ fixN, K.any (nmd x) = false) := box (by rw [← hK]; exact fun x hx => str_has hx)
    obtain ⟨m, hm1⟩ : ∃ m, K.length = m := ⟨_, rfl⟩
    have HKK := box hK
    have HM1 := box hm1
    have HKL := box hkl
    clear hk0 hK hm1 hkl hl70 hmem kmem
    go_enter Try.func4, Try.ntmps4
    go_wp2_with fail
    refine (keepF25_is HL.out F0.out HN HK).mono ?_; rintro e w1 ⟨rfl, rfl⟩
    go_wp2_with fail
    refine (mStrip_is HM.out S HV F0.out HN HKK HM1).mono ?_; rintro e w1 ⟨a1, c1, rfl, hS1, hb1⟩
    have S1 := box hS1
    have B1 := box hb1
    clear hS1 hb1
    obtain ⟨W0, hW0⟩ : ∃ W0, w1.alloc (.cells (fixN.map Value.string).toArray 9) = W0 := ⟨_, rfl⟩
    have HW := box hW0
    have BW : Box (Below w.heap.size w W0) := box (by rw [← hW0]; exact B1.out.trans ((below_new _ _).mono B1.out.size))
    have F1 : Box (Ss W0 (some ⟨w1.heap.size, 0, none⟩) fixN) := box (by rw [← hW0]; exact Ss.cells25 fixN w1 _)
    have T1 : Box (Fs W0 a1 K) := box (by rw [← hW0]; exact S1.out.below (below_new _ _))
    clear hW0
    go_wp2
    go_loopw [5] (fun i wr => OncRel W0 i wr) (fun i _ => fixN.length - (intOf i).toNat)
    case atStart => exact ⟨0, Nat.zero_le _, rfl, by rw [← HW.out]; exact Below.refl _ _⟩
    case round =>
      obtain ⟨k, hk, rfl, hbel⟩ := hrel
      have BL := box hbel
      clear hbel
      by_cases hlt : k < fixN.length
      · have hk10 : (k : Int) < 10 := by have : fixN.length = 10 := rfl; omega
        obtain ⟨g, off, he, c0⟩ := (F1.out.below BL.out) k hlt
        obtain ⟨x, hx⟩ : ∃ x, fixN[k] = x := ⟨_, rfl⟩
        have hxm : x ∈ fixN := by rw [← hx]; exact List.getElem_mem hlt
        have hxz := fix_sizes x hxm
        have HX := box (HH.out x hxm)
        injection he with he
        injection he with e1 e2 e3
        subst e1 e2
        rw [hx, Nat.zero_add] at c0
        clear hx hxm
        go_wp2_with fail
        refine (rHas25_is SK hxz (T1.out.below BL.out) HM1 HX).mono ?_; rintro e w3 ⟨rfl, hb3⟩
        have B3 := box (BL.out.trans (hb3.mono BL.out.size))
        clear hb3 c0
        go_wp2
        go_roundw
        case rel => exact ⟨k + 1, by omega, by go_num, B3.out⟩
        case measure => simp [intOf]; omega
      · have hk10 : ¬ (k : Int) < 10 := by have : fixN.length = 10 := rfl; omega
        have BE := box (BW.out.trans (BL.out.mono BW.out.size))
        have TE := box (T1.out.below BL.out)
        go_wp2_with fail
        refine (mStrip_is (HM.out.below BE.out (Nat.le_refl _)) SK HVK TE.out HM1 HO HM1).mono ?_; rintro e w3 ⟨a3, c3, rfl, hS3, hb3⟩
        have S3 := box hS3
        have T3 := box (TE.out.below hb3)
        have B3 := box (BE.out.trans (hb3.mono BE.out.size))
        clear hS3 hb3
        go_wp2_with fail
        refine (sameF25_is (q := true) HM1 HM1 HKL.out HKL.out S3.out T3.out (box (decide_eq_true rfl))).mono ?_; rintro e w4 ⟨rfl, hb4⟩
        have B4 := box (B3.out.trans (hb4.mono B3.out.size))
        clear hb4
        go_wp2_with fail
        refine (awake25_any _ (HM.out.below B4.out (Nat.le_refl _))).mono ?_; rintro e w5 ⟨rfl, hb5⟩
        have B5 := box (B4.out.trans (hb5.mono B4.out.size))
        clear hb5
        go_wp2
        go_ret
        exact ⟨rfl, B5.out⟩
end
end Go.Proofs.Ytgagaebgiioeoaa.Asc
