import PyProof.Rows.All
import Wide.All
import OpenK.AllK
import Wide.FinOn
import HandS.ForMost
import HandS.Wide
import HandS.TupMul
import HandS.TupAny
import HandS.Style
import HandS.Evl
import HandS.IsInst
import HandS.Conv
import HandS.SortInts
import HandS.Dict
import HandS.DictComp
import PySem.Challenge.RW_monicsums_k10_whole_shifts_and_most_part
set_option Elab.async false
set_option linter.all false
set_option maxRecDepth 100000
set_option maxHeartbeats 4000000
set_option autoImplicit true
/-! own rules: powers of wide bases, sum of a tuple, tuple * 0 and * 1, tuple[::-1] -/
namespace Own
open PySem PySem.Spec PyProof.Rows L2

def CPowW (i j : Int) : Prop := 0 ≤ j ∧ j ≤ 1000 ∧ i.natAbs < 2 ^ 1000
section
variable {X : Cx}
theorem op_powW : OpR X (binaryOp .Pow) (rI CPowW fun i j => .int (i ^ j.toNat)) := opI fun i j _ _ _ _ _ hc q => by
  refine pow_int hc.1 ?_ q
  have h1 := PySem.Flt.log2_lt_of (by decide : 0 < 1000) hc.2.2
  have b : Builtin.Int.intBits i ≤ i.natAbs.log2 + 1 := by
    unfold Builtin.Int.intBits
    split <;> omega
  have h2 := hc.2.1
  have h0 := hc.1
  have h3 : ((Builtin.Int.intBits i : Nat) : Int) ≤ 1001 := by omega
  have h4 : ((Builtin.Int.intBits i : Nat) : Int) * j ≤ 1001 * j := Int.mul_le_mul_of_nonneg_right h3 h0
  omega

/-! sum of a tuple of ints -/
def rSumT (K : PySem.W.Frag) : List V → Hp → VK → Prop := fun vs H Q => ∃ (a : Addr) (ns : List Int), vs = [V.ref a] ∧ SqT K H a (ns.map V.int) ∧ Q (.int ns.sum) H
end
section
variable {prog : Program} {w : World} {A : Around} {E : Value → Shared → Prop} {s : Shared} {l : Addr} {its : List Value} {ns : List Int} {Q : Value → Shared → Prop}
theorem iter_intTup {xs : Array (Int × Tok)} {Q : Value → Shared → Prop} (hl : s.heap.IsTuple l (intItems xs))
    (h : ∀ s₂ : Shared, s₂ = { s with heap := s.heap.push { cls := .type "tuple_iterator", data := .fields #[.ref l, .int 0 0] } } →
      (s₂.heap.IsTupleIter s.heap.objs.size l 0 ∧ s₂.heap.IsTuple l (intItems xs)) → (∀ b ∈ [s.heap.objs.size, l], b < s₂.heap.objs.size) → l ≠ s.heap.objs.size → Q (.ref s.heap.objs.size) s₂) :
    wpAny (model prog w) A (pyIter (.ref l)) Q E s := by
  have hlt : l < s.heap.objs.size := by obtain ⟨_, e, _⟩ := hl; exact Heap.lt_size e
  refine wpAny_pyIter_tuple hl (h _ rfl ⟨⟨_, Heap.get?_push_size _ rfl, rfl, rfl⟩, hl.push _⟩ (fun b hb => ?_) (Nat.ne_of_lt hlt))
  show b < (s.heap.push _).objs.size
  rw [Heap.size_push]
  rcases List.mem_cons.mp hb with rfl | hb
  · exact Nat.lt_succ_self _
  · rcases List.mem_cons.mp hb with rfl | hb
    · exact Nat.lt_succ_of_lt hlt
    · cases hb
theorem old_keptT {h' : Heap} (hk : ∀ b o, b ∉ [s.heap.objs.size] → (s.heap.push { cls := .type "tuple_iterator", data := .fields #[.ref l, .int 0 0] }).get? b = some o → h'.get? b = some o) :
    ∀ b o, s.heap.get? b = some o → h'.get? b = some o := fun b o e => by
  refine hk b o (fun hm => ?_) (Heap.get?_push_of_some _ e)
  rcases List.mem_cons.mp hm with e1 | hm
  · exact absurd (e1 ▸ Heap.lt_size e) (Nat.lt_irrefl _)
  · cases hm
theorem sum_intTup {xs : Array (Int × Tok)} {Q : Value → Shared → Prop} (hh : A.handled = none) (hl : s.heap.IsTuple l (intItems xs))
    (h : ∀ h' tk t', (∀ b o, s.heap.get? b = some o → h'.get? b = some o) → Q (.int (preSum (numAt xs) xs.size) t') { s with heap := h', toks := tk }) :
    wpAny (model prog w) A (call (.builtin "sum") [.ref l]) Q E s := by
  refine call_sum_walkG (iter_intTup hl fun s₂ e st hfp hlI => ?_)
  subst e
  refine ⟨_, _, _, _, _, _, numAt xs, rfl, Walks.tuple (A := A.in1) hh _ l hlI (intItems xs), st, hfp, (fun _ _ => intItems_at), fun h' tk t' hk => ?_⟩
  have := h h' tk t' (old_keptT hk)
  simpa [intItems] using this
theorem sum_rawT (hh : A.handled = none) (hl : s.heap.IsTuple l its.toArray) (hi : IntsAre its ns)
    (h : ∀ h' tk t', (∀ b o, s.heap.get? b = some o → h'.get? b = some o) → Q (.int ns.sum t') { s with heap := h', toks := tk }) : wpAny (model prog w) A (call (.builtin "sum") [.ref l]) Q E s := by
  obtain ⟨xs, e⟩ := hi.allInts.items
  have hn : numsOf (intItems xs).toList = ns := by rw [← e]; exact hi.numsOf
  rw [nums_intItems] at hn
  rw [e] at hl
  refine sum_intTup hh hl fun h' tk t' hk => ?_
  have := h h' tk t' hk
  rw [preSum_eq, List.take_of_length_le (by simp), hn]; exact this
end
section
variable {X : Cx}
theorem cr_sumT (hc : X.calm = true) : CallR X (.builtin "sum") (rSumT X.K) := by
  intro pins s σ H vs us Q I r h
  obtain ⟨a, ns, rfl, hs, q⟩ := h
  obtain ⟨its, rv, hl, _⟩ := I.tuple hs
  rw [Vals.ref1 r]
  exact sum_rawT (I.ok.hd hc) hl rv.ints fun h' tk t' hk => ⟨.int _, H, I.kept hk, ⟨_, rfl⟩, q⟩
end

/-! tuple * k for k = 0 and k = 1 -/
theorem tuple_mul1 (l : Addr) (items : Array Value) (n : Nat) (dd : Option Addr) (sl : Array (Option Value)) (u : Tok) :
    Meets (Builtin.«tuple.__mul__» ⟨[.ref l, .int 1 u], []⟩) (fun _ R s => s.heap.get? l = some { cls := .type "tuple", dict := dd, data := .seq items n, slots := sl } ∧
      R (.ok (.ret (Value.ref l))) s) :=
  .of_wp fun prog w A R s h => by
    obtain ⟨hp, g, d, tk, os⟩ := s
    obtain ⟨hl, h⟩ := h
    have f1 := AutoSeq1.idx_int
    wp_walk using wpAny_loadPart' hl
    repeat (first
      | (refine wpAny_ite_false (by decide) ?_; wp_walk using wpAny_loadPart' hl)
      | (refine wpAny_ite_true (by rw [Bool.or_eq_true]; exact Or.inr rfl) ?_; wp_walk using wpAny_loadPart' hl)
      | (refine wpAny_ite_true (by simp) ?_; wp_walk using wpAny_loadPart' hl))
    exact ⟨_, rfl, h⟩
theorem tuple_mul0 (l : Addr) (items : Array Value) (n : Nat) (dd : Option Addr) (sl : Array (Option Value)) (u : Tok) (hn : items.isEmpty = false) :
    Meets (Builtin.«tuple.__mul__» ⟨[.ref l, .int 0 u], []⟩) (fun _ R s => s.heap.get? l = some { cls := .type "tuple", dict := dd, data := .seq items n, slots := sl } ∧
      R (.ok (.ret (Value.ref s.heap.objs.size))) { s with heap := s.heap.push { cls := Value.type "tuple", data := Data.seq #[] }, toks := s.toks }) :=
  .of_wp fun prog w A R s h => by
    obtain ⟨hp, g, d, tk, os⟩ := s
    obtain ⟨hl, h⟩ := h
    have f1 := AutoSeq1.idx_int
    wp_walk using wpAny_loadPart' hl
    repeat (first
      | (refine wpAny_ite_false (by decide) ?_; wp_walk using wpAny_loadPart' hl)
      | (refine wpAny_ite_false (by rw [hn]; decide) ?_; wp_walk using wpAny_loadPart' hl)
      | (refine wpAny_ite_true (by decide) ?_; wp_walk using wpAny_loadPart' hl)
      | (refine wpAny_ite_true (by rw [Bool.or_eq_true]; exact Or.inl rfl) ?_; wp_walk using wpAny_loadPart' hl)
      | (refine wpAny_ite_false (decide_eq_false (Nat.not_lt.mpr (Nat.zero_le _))) ?_; wp_walk using wpAny_loadPart' hl))
    exact ⟨_, rfl, h⟩
def rRepU (K : PySem.W.Frag) : R2 := fun x y H Q => ∃ l k xs, x = .ref l ∧ y = .int k ∧ SqT K H l xs ∧ xs ≠ [] ∧ 0 ≤ k ∧ k ≤ 1000 ∧ xs.length ≤ 1000 ∧ ∀ p H', Evl.Ex H H' → SqT K H' p (List.replicate k.toNat xs).flatten → Q (.ref p) H'
section
variable {X : Cx}
theorem op_repU : OpR X (binaryOp .Mult) (rRepU X.K) := by
  intro pins s σ H x y v u Q I rx ry h
  obtain ⟨l, k, xs, ex, ey, hT, hne, h1, h2, hz, q⟩ := h
  by_cases h22 : 2 ≤ k
  · exact op_repT pins s σ H x y v u Q I rx ry ⟨l, k, xs, ex, ey, hT, hne, h22, h2, hz, fun p hp => q p _ (Evl.Ex.new hp) (SqT.of upd_same)⟩
  · subst ex ey
    cases rx
    obtain ⟨t, rfl⟩ := ry
    obtain ⟨its, r, ⟨⟨cls, dd, data, sl⟩, ho, hc, n, hd⟩, hs⟩ := I.tuple hT
    simp only at hc hd
    subst hc hd
    have hle : its.length = xs.length := r.length.symm
    have hi : its.toArray.isEmpty = false := by
      cases its with
      | nil => exact absurd (List.eq_nil_of_length_eq_zero hle.symm) hne
      | cons a b => rfl
    by_cases h1k : k = 1
    · subst h1k
      refine wpAny_binaryOp_repeat_ref (T := "tuple") (U := "int") (by decide) ⟨_, ho, rfl⟩ (fun s' => typeIs_int s' 1 t) noFill_tuple_mul F.fills_int_mul F.slot_int_rmul repeat_tuple F.slot_int_index.lookup
        (call_meets F.slot_int_rmul (typeIs_int s 1 t) F.entry_int_rmul (F.args_int_rmul_2 _ _) (int_rmul_tuple 1 t l its.toArray n dd sl)
          ⟨ho, rfl, ⟨_, ho, rfl⟩, call_meets F.slot_tuple_mul ⟨_, ho, rfl⟩ F.entry_tuple_mul (F.args_tuple_mul_2 _ _) (tuple_mul1 l its.toArray n dd sl t) ⟨ho, ?_⟩⟩)
      refine ⟨.ref l, H, I.tok _, rfl, q l H (Evl.Ex.refl H) ?_⟩
      show SqT X.K H l (List.replicate 1 xs).flatten
      rw [List.replicate_one, List.flatten_singleton]
      exact hT
    · have h0k : k = 0 := by omega
      subst h0k
      refine wpAny_binaryOp_repeat_ref (T := "tuple") (U := "int") (by decide) ⟨_, ho, rfl⟩ (fun s' => typeIs_int s' 0 t) noFill_tuple_mul F.fills_int_mul F.slot_int_rmul repeat_tuple F.slot_int_index.lookup
        (call_meets F.slot_int_rmul (typeIs_int s 0 t) F.entry_int_rmul (F.args_int_rmul_2 _ _) (int_rmul_tuple 0 t l its.toArray n dd sl)
          ⟨ho, rfl, ⟨_, ho, rfl⟩, call_meets F.slot_tuple_mul ⟨_, ho, rfl⟩ F.entry_tuple_mul (F.args_tuple_mul_2 _ _) (tuple_mul0 l its.toArray n dd sl t hi) ⟨ho, ?_⟩⟩)
      have hf := I.hok.fresh (Nat.le_refl s.heap.objs.size)
      refine ⟨.ref s.heap.objs.size, _, I.laid (t' := s.toks) (o := .tup []) (fun b ob q => Heap.get?_push_of_some _ q) (Nat.le_refl _) ?_, rfl, q _ _ (Evl.Ex.new hf) (SqT.of upd_same)⟩
      exact ⟨Nat.zero_le _, [], .nil, IsTup.new _ _⟩

/-! tuple[::-1] -/
def tRevT (K : PySem.W.Frag) (te : TE) : TE := fun σ H Q => te σ H fun x H1 => ∃ a xs, x = .ref a ∧ SqT K H1 a xs ∧ ∀ p, H1 p = none → Q (.ref p) (upd H1 p (.tup xs.reverse))
end
theorem rev_adjust (n : Nat) : Builtin.Slice.sliceAdjust none none (-1) (n : Int) = ((n : Int) - 1, -1) := by
  first
  | rfl
  | simp [Builtin.Slice.sliceAdjust]
theorem rev_places (n : Nat) : Builtin.Slice.slicePlaces ((n : Int) - 1) (-1) (-1) = n := by
  unfold Builtin.Slice.slicePlaces
  have h1 : ¬ ((-1 : Int) > 0) := by decide
  have h2 : (- -1 : Int) = 1 := by decide
  simp only [h1, if_false, h2, Int.ediv_one]
  split <;> omega
theorem rev_pick (xs : Array Value) : ((List.range xs.size).filterMap fun (m : Nat) => xs[(((xs.size : Int) - 1) + (m : Int) * (-1)).toNat]?).toArray = xs.toList.reverse.toArray := by
  have e : (fun (m : Nat) => xs[(((xs.size : Int) - 1) + (m : Int) * (-1)).toNat]?) = fun m => xs[xs.size - 1 - m]? := by
    funext m
    have : (((xs.size : Int) - 1) + (m : Int) * (-1)).toNat = xs.size - 1 - m := by omega
    rw [this]
  rw [e]
  have h := PySem.W.krv_all xs
  have h2 : (List.range xs.size).filterMap (fun m => xs[xs.size - 1 - m]?) = ((List.range xs.size).map fun k => xs.size - 1 - k).filterMap (xs[·]?) := by
    rw [List.filterMap_map]
    rfl
  rw [h2, PySem.W.krv_range, List.filterMap_reverse, h]
section
variable {prog : Program} {w : World} {A : Around} {E : Value → Shared → Prop} {s : Shared}
theorem sliceApplied_rev {sl : Addr} {vl vu vs : Value} {n : Nat} {Q : Int × Int × Nat → Shared → Prop} (hs : s.heap.IsSliceOf sl vl vu vs) (pl : IsPart vl none) (pu : IsPart vu none) (ps : IsPart vs (some (-1)))
    (h : Q ((n : Int) - 1, -1, n) s) : wpAny (model prog w) A (Builtin.Slice.sliceApplied (.ref sl) (pure (n : Int))) Q E s := by
  obtain ⟨os, hos, hcs, hds⟩ := id hs
  unfold Builtin.Slice.sliceApplied Builtin.Slice.sliceFields
  refine wpAny_bind (wpAny_bind (wpAny_field hos hds (x := vl) rfl (wpAny_bind (wpAny_field hos hds (x := vu) rfl (wpAny_bind (wpAny_field hos hds (x := vs) rfl (wpAny_pure ?_)))))))
  refine wpAny_bind (HT.slicePart_ ps ?_)
  show wpAny _ _ (if ((-1 : Int) == 0) = true then _ else _) _ _ s
  rw [if_neg (by decide)]
  refine wpAny_bind (HT.slicePart_ pl (wpAny_bind (HT.slicePart_ pu (wpAny_bind (wpAny_pure ?_)))))
  show wpAny _ _ (match Builtin.Slice.sliceAdjust none none (-1) (n : Int) with | (lo, hi) => pure (lo, (-1 : Int), Builtin.Slice.slicePlaces lo hi (-1))) _ _ s
  rw [rev_adjust n]
  show wpAny _ _ (pure ((n : Int) - 1, (-1 : Int), Builtin.Slice.slicePlaces ((n : Int) - 1) (-1) (-1))) _ _ s
  rw [rev_places]
  exact wpAny_pure h
theorem getItem_tuple_rev {t sl : Addr} {items : Array Value} {vl vu vs : Value} {Q : Value → Shared → Prop} (ht : IsTup s.heap t items) (hs : s.heap.IsSliceOf sl vl vu vs) (pl : IsPart vl none) (pu : IsPart vu none) (ps : IsPart vs (some (-1)))
    (h : Q (.ref s.heap.objs.size) { s with heap := s.heap.push { cls := .type "tuple", data := .seq items.toList.reverse.toArray } })
    (hsz : items.size ≤ sizeLine) : wpAny (model prog w) A (getItem (.ref t) (.ref sl)) Q E s := by
  have htake : sizeOk (.seq items.toList.reverse.toArray) := by
    show items.toList.reverse.toArray.size ≤ sizeLine
    rw [List.size_toArray, List.length_reverse, Array.length_toList]
    exact hsz
  obtain ⟨os, hos, hcs, hds⟩ := id hs
  have hTs : s.TypeIs (.ref sl) "slice" := ⟨os, hos, hcs⟩
  unfold getItem
  try with_reducible refine wpAny_holding ?_
  first | refine wpAny_bind (wpAny_pure ?_) | skip
  refine wpAny_bind (wpAny_sequenceKey ht.typeIs (by decide) ?_)
  refine wpAny_bind (wpAny_callSpecial?_slot (name := Str.ofString "__getitem__") ht.typeIs PyProof.Rows.slot_tuple_getitem
    (wpAny_call_entry PyProof.Rows.slot_tuple_getitem ht.typeIs entry_tuple_getitem ?_ (args_tuple_getitem _ _)))
  show wpAny _ _ (Builtin.Tuple.tupleItemsOf (.ref t) >>= _) _ _ s
  refine wpAny_bind (tupleItemsOf_ ht ?_)
  refine wpAny_bind (wpAny_typeOf hTs ?_)
  rw [if_pos (by decide)]
  refine wpAny_bind (sliceApplied_rev hs pl pu ps ?_)
  have hno : ¬ ((((items.size : Int) - 1) == 0 && (-1 : Int) == 1 && items.size == items.size) = true) := by
    rw [show ((-1 : Int) == 1) = false from rfl, Bool.and_false, Bool.false_and]
    decide
  show wpAny _ _ (if ((((items.size : Int) - 1) == 0 && (-1 : Int) == 1 && items.size == items.size) = true) then _ else _) _ _ s
  rw [if_neg hno, rev_pick]
  first
    | exact wpAny_bind (m := Builtin.Tuple.tupleExact _) (wpAny_newObj_type (wpAny_pure ⟨_, rfl, wpAny_pure h⟩) htake)
    | exact wpAny_bind (m := Builtin.Tuple.tupleExact _) (wpAny_newObj_type (wpAny_bind (wpAny_pure (wpAny_pure ⟨_, rfl, wpAny_pure h⟩))) htake)
    | exact wpAny_bind (wpAny_bind (m := Builtin.Tuple.tupleExact _) (wpAny_newObj_type (wpAny_pure (wpAny_pure ⟨_, rfl, wpAny_pure h⟩)) htake))
    | exact wpAny_bind (wpAny_bind (m := Builtin.Tuple.tupleExact _) (wpAny_newObj_type (wpAny_pure ⟨_, rfl, wpAny_pure h⟩) htake))
end
section
variable {X : Cx}
theorem pe_revT {e : Expr} {te : TE} {k : Nat} {p1 p2 p3 pos : Pos} (he : PE X e te) : PE X (.Subscript e (.Slice none none (some (.UnaryOp .USub (.Constant (.int 1) k p1) p2)) p3) pos) (tRevT X.K te) := by
  refine ⟨fun pins s σ H Q I h => ?_⟩
  refine Subscript_ (thn (he.run pins s σ H _ I h) fun v s1 ⟨x, H1, I1, r1, q1⟩ => ?_)
  obtain ⟨a, xs, ex, hx, q⟩ := q1
  subst ex
  cases r1
  have hst : PO X (some (.UnaryOp .USub (.Constant (.int 1) k p1) p2)) (tPart (tUn (rU fun i => .int (-i)) (tC (.int 1)))) := po_some (pe_un un_neg pe_int)
  refine wpAny_Slice (thn (po_none.run pins s1 σ H1 (fun o H2 => o = none ∧ H2 = H1) I1 ⟨rfl, rfl⟩) fun vl s2 ⟨l, H2, I2, pl, el, e2⟩ => ?_)
  subst el e2
  refine thn (po_none.run pins s2 σ H2 (fun o H3 => o = none ∧ H3 = H2) I2 ⟨rfl, rfl⟩) fun vu s3 ⟨u, H3, I3, pu, eu, e3⟩ => ?_
  subst eu e3
  refine thn (hst.run pins s3 σ H3 (fun o H4 => o = some (-1) ∧ H4 = H3) I3 ⟨1, rfl, -1, rfl, rfl, rfl⟩) fun vs s4 ⟨o, H4, I4, ps, eo, e4⟩ => ?_
  subst eo e4
  have I5 : Inv X pins σ H4 { s4 with heap := s4.heap.push { cls := .type "slice", data := .fields #[vl, vu, vs] } } := I4.kept (t' := s4.toks) fun b ob q => Heap.get?_push_of_some _ q
  obtain ⟨its, r, ht, hz⟩ := I5.tuple hx
  have hlen := r.length
  show wpAny (model X.prog X.w) X.A (subscriptTail e (.Slice none none (some (.UnaryOp .USub (.Constant (.int 1) k p1) p2)) p3) (.ref a) (.ref s4.heap.objs.size)) (EP X pins σ Q) X.xe { s4 with heap := s4.heap.push { cls := .type "slice", data := .fields #[vl, vu, vs] } }
  refine tail_any (ops := [.ref a, .ref s4.heap.objs.size]) ht.typeIs PyProof.Rows.slot_tuple_getitem.lookup ?_ (by with_unfolding_all rfl)
  refine getItem_tuple_rev ht (Heap.IsSliceOf.new _ vl vu vs) pl pu ps ?_ (by rw [List.size_toArray]; omega)
  refine ⟨.ref _, _, I5.laid (t' := s4.toks) (o := .tup xs.reverse) (fun b ob q => Heap.get?_push_of_some _ q) (Nat.le_refl _) ?_, rfl, q _ (I5.hok.fresh (Nat.le_refl _))⟩
  exact ⟨by rw [List.length_reverse]; exact hz, _, r.reverse, IsTup.new _ _⟩
end
end Own
/-! own words over HandS.Evl: built-in calls, tuples walked, chains, promises of new tuples -/
namespace Own
open PySem PySem.Spec PyProof.Rows L2 Evl
section
variable {K : PySem.W.Frag} {σ : L2.St} {H H' : Hp} {ta tb te tx : TE} {t u : TT} {x y z v : V}
theorem rc_abs {i : Int} : RC (fun xs H Q => ∃ i, xs = [V.int i] ∧ Q (.int (if i < 0 then -i else i)) H) [.int i] H (.int (if i < 0 then -i else i)) := fun H1 _ _ q => ⟨i, rfl, q H1 (Ex.refl H1)⟩
theorem rc_int {i : Int} : RC (fun xs H Q => (∃ i, xs = [V.int i] ∧ Q (.int i) H) ∨ ∃ k, xs = [V.bl k] ∧ Q (.int (if k then 1 else 0)) H) [.int i] H (.int i) := fun H1 _ _ q => .inl ⟨i, rfl, q H1 (Ex.refl H1)⟩
theorem rc_intB {k : Bool} : RC (fun xs H Q => (∃ i, xs = [V.int i] ∧ Q (.int i) H) ∨ ∃ k, xs = [V.bl k] ∧ Q (.int (if k then 1 else 0)) H) [.bl k] H (.int (if k then 1 else 0)) := fun H1 _ _ q => .inr ⟨k, rfl, q H1 (Ex.refl H1)⟩
theorem rc_max2 {i j : Int} : RC (fun xs H Q => ∃ i j, xs = [V.int i, V.int j] ∧ Q (.int (if j > i then j else i)) H) [.int i, .int j] H (.int (if j > i then j else i)) := fun H1 _ _ q => ⟨i, j, rfl, q H1 (Ex.refl H1)⟩
theorem rc_min2 {i j : Int} : RC (fun xs H Q => ∃ i j, xs = [V.int i, V.int j] ∧ Q (.int (if j < i then j else i)) H) [.int i, .int j] H (.int (if j < i then j else i)) := fun H1 _ _ q => ⟨i, j, rfl, q H1 (Ex.refl H1)⟩
abbrev rLenQ (K : PySem.W.Frag) : List V → Hp → VK → Prop := fun xs H Q => ∃ p ys, xs = [.ref p] ∧ (SqL K H p ys ∨ SqT K H p ys) ∧ Q (.int ys.length) H
theorem rc_lenL {a : Addr} {xs : List V} (h : SqL K H a xs) : RC (rLenQ K) [.ref a] H (.int xs.length) := fun H1 e _ q => ⟨a, xs, rfl, .inl (ex_l e h), q H1 (Ex.refl H1)⟩
theorem rc_lenT {a : Addr} {xs : List V} (h : SqT K H a xs) : RC (rLenQ K) [.ref a] H (.int xs.length) := fun H1 e _ q => ⟨a, xs, rfl, .inr (ex_t e h), q H1 (Ex.refl H1)⟩
theorem rc_sumL {a : Addr} {ns : List Int} (h : SqL K H a (ns.map V.int)) : RC (rSum K) [.ref a] H (.int ns.sum) := fun H1 e _ q => ⟨a, ns, rfl, ex_l e h, q H1 (Ex.refl H1)⟩
theorem rc_sumT {a : Addr} {ns : List Int} (h : SqT K H a (ns.map V.int)) : RC (rSumT K) [.ref a] H (.int ns.sum) := fun H1 e _ q => ⟨a, ns, rfl, ex_t e h, q H1 (Ex.refl H1)⟩
theorem ev_sumN {ns : List Int} (h : EvL ta σ H (ns.map V.int)) : Ev (tCB (rSum K) (tCons ta tNil)) σ H (.int ns.sum) := fun H1 e _ q =>
  h H1 e _ fun p H2 _ e2 h2 => ⟨p, ns, rfl, sq_of h2, q H2 e2⟩
theorem ev_allN {bs : List Bool} (h : EvL ta σ H (bs.map V.bl)) : Ev (tCB (rAll K) (tCons ta tNil)) σ H (.bl (bs.all id)) := fun H1 e _ q =>
  h H1 e _ fun p H2 _ e2 h2 => ⟨p, bs, rfl, sq_of h2, q H2 e2⟩
theorem tyx_tup {a : Addr} {xs : List V} (h : SqT K H a xs) : TyX K H (.ref a) (.type "tuple") := by
  rcases h with (h | ⟨o, h⟩) | ⟨o, its, n, e, c, _⟩
  · exact .base (.tup h)
  · exact .fTuple h
  · exact .kTuple e c
theorem tyx_ex {x : V} {t : Value} (e : Ex H H') (h : TyX K H x t) : TyX K H' x t := by
  cases h with
  | base h =>
    refine .base ?_
    cases h with
    | non => exact .non
    | bl x => exact .bl x
    | int i => exact .int i
    | str x => exact .str x
    | flt x => exact .flt x
    | lst q => exact .lst (e _ _ q)
    | frz q => exact .frz (e _ _ q)
    | tup q => exact .tup (e _ _ q)
    | dK q => exact .dK (e _ _ q)
    | dT q => exact .dT (e _ _ q)
    | ins q a b c d f => exact .ins (e _ _ q) a b c d f
  | byt b => exact .byt b
  | set q => exact .set (e _ _ q)
  | kList a b => exact .kList a b
  | kTuple a b => exact .kTuple a b
  | kDict a b => exact .kDict a b
  | fTuple q => exact .fTuple (e _ _ q)
  | fDict q => exact .fDict (e _ _ q)
theorem rc_isi {x : V} {t : Value} {n : String} {b : Bool} (h : TyX K H x t) (hk : PySem.W.kitOne K t (.type n) = some b) : RC (rIsi K) [x, .ty n] H (.bl b) := fun H1 e _ q =>
  ⟨x, .ty n, t, .type n, b, rfl, .ty n, tyx_ex e h, hk, q H1 (Ex.refl H1)⟩
theorem ev_chain {r r' : R2} {a b : Bool} {tc : TE} (ha : Ev ta σ H x) (hb : Ev tb σ H y) (hr : RV r x y H (.bl a)) (hc : a = true → Ev tc σ H z) (hr' : a = true → RV r' y z H (.bl b)) : Ev (tChain r r' ta tb tc) σ H (.bl (a && b)) := fun H1 e Q q =>
  ha H1 e _ fun H2 e2 => hb H2 (e.trans e2) _ fun H3 e3 => hr H3 ((e.trans e2).trans e3) _ fun H4 e4 => ⟨a, rfl, by
    cases a with
    | true => exact iteT (hc rfl H4 (((e.trans e2).trans e3).trans e4) _ fun H5 e5 => hr' rfl H5 ((((e.trans e2).trans e3).trans e4).trans e5) Q fun H6 e6 => q H6 ((((e2.trans e3).trans e4).trans e5).trans e6))
    | false => exact iteF (q H4 ((e2.trans e3).trans e4))⟩
/-- tuple(..) of a new list -/
abbrev rTupQ (K : PySem.W.Frag) : List V → Hp → VK → Prop := fun xs H Q => ∃ p ys, xs = [.ref p] ∧ ((SqL K H p ys ∧ ∀ l, H l = none → Q (.ref l) (upd H l (.tup ys))) ∨ (SqT K H p ys ∧ Q (.ref p) H))
theorem eu_tupleN {xs : List V} (h : EvL ta σ H xs) : EvU (tCB (rTupQ K) (tCons ta tNil)) σ H xs := fun H1 e Q q =>
  h H1 e _ fun p H2 _ e2 h2 => ⟨p, xs, rfl, .inl ⟨sq_of h2, fun l hl => q l _ (fresh_back e2 hl) (e2.trans (Ex.new hl)) upd_same⟩⟩
theorem eu_tupleL {a : Addr} {xs : List V} (h : Ev ta σ H (.ref a)) (hx : SqL K H a xs) : EvU (tCB (rTupQ K) (tCons ta tNil)) σ H xs := fun H1 e Q q =>
  h H1 e _ fun H2 e2 => ⟨a, xs, rfl, .inl ⟨ex_l (e.trans e2) hx, fun l hl => q l _ (fresh_back e2 hl) (e2.trans (Ex.new hl)) upd_same⟩⟩
abbrev rLstQ (K : PySem.W.Frag) : List V → Hp → VK → Prop := fun xs H Q => ∃ p ys, xs = [.ref p] ∧ (SqL K H p ys ∨ SqT K H p ys) ∧ ∀ l, H l = none → Q (.ref l) (upd H l (.lst ys))
theorem el_listT {a : Addr} {xs : List V} (h : Ev ta σ H (.ref a)) (hx : SqT K H a xs) : EvL (tCB (rLstQ K) (tCons ta tNil)) σ H xs := fun H1 e Q q =>
  h H1 e _ fun H2 e2 => ⟨a, xs, rfl, .inr (ex_t (e.trans e2) hx), fun l hl => q l _ (fresh_back e2 hl) (e2.trans (Ex.new hl)) upd_same⟩
theorem eu_revT {a : Addr} {xs : List V} (h : Ev ta σ H (.ref a)) (hx : SqT K H a xs) : EvU (tRevT K ta) σ H xs.reverse := fun H1 e Q q =>
  h H1 e _ fun H2 e2 => ⟨a, xs, rfl, ex_t (e.trans e2) hx, fun l hl => q l _ (fresh_back e2 hl) (e2.trans (Ex.new hl)) upd_same⟩
/-- a comprehension over a tuple -/
theorem el_lcT {a : Addr} {xs : List V} {tl : TE} {j : Nat} {vs : List Nat} (f : Nat → Bool) (v : Nat → V) (h : Ev tl σ H (.ref a)) (hx : SqT K H a xs) (hz : xs.length ≤ 40000) (hw : ∀ x, wipe ((wipe σ vs).set j (some x)) vs = wipe σ vs)
    (ht : ∀ (i : Nat) (x : V) H1, Ex H H1 → xs[i]? = some x → EvT t ((wipe σ vs).set j (some x)) H1 (f i)) (he : ∀ (i : Nat) (x : V) H1, Ex H H1 → xs[i]? = some x → f i = true → Ev te ((wipe σ vs).set j (some x)) H1 (v i)) :
    EvL (tLc (iTup K tl) (gName j) t te vs) σ H (given xs.length f v) := fun H0 e Q q => h H0 e _ fun H1 e1 => ⟨a, rfl, ⟨xs, ex_t (e.trans e1) hx⟩, fun Dl hD =>
  lc_tup (xs := xs) (Cw H1 f v Dl) ⟨hD, Ex.new hD, upd_same⟩ (fun i H' _ p => ex_t ((e.trans e1).trans p.2.1) hx) (fun i x H' hi p => ⟨hw x, cw_turn p (by have := (List.getElem?_eq_some_iff.mp hi).1; omega) (ht i x H1 (e.trans e1) hi) (fun hf => he i x H1 (e.trans e1) hi hf)⟩)
    (fun H' p => q Dl H' (fresh_back e1 p.1) (e1.trans p.2.1) p.2.2)⟩
theorem et_nil : EvT tYes σ H true := fun H1 _ _ q => q H1 (Ex.refl H1)
theorem el_is {xs ys : List V} (h : EvL te σ H xs) (e : xs = ys) : EvL te σ H ys := e ▸ h
theorem eu_is {xs ys : List V} (h : EvU te σ H xs) (e : xs = ys) : EvU te σ H ys := e ▸ h
/-- all are kept: the list is a map -/
theorem given_all {α : Type} (ys : List α) (g : α → V) (v : Nat → V) (hv : ∀ (i : Nat) (y : α), ys[i]? = some y → v i = g y) : given ys.length (fun _ => true) v = ys.map g := by
  unfold given
  rw [List.filter_eq_self.mpr (fun _ _ => rfl)]
  refine List.ext_getElem? fun i => ?_
  rw [List.getElem?_map, List.getElem?_map]
  by_cases hi : i < ys.length
  · rw [List.getElem?_range hi, List.getElem?_eq_getElem hi]
    exact congrArg some (hv i _ (List.getElem?_eq_getElem hi))
  · rw [List.getElem?_eq_none (by rw [List.length_range]; omega), List.getElem?_eq_none (by omega)]
    rfl
variable {D : Ends} {tu tw tz : TS}
/-- for x in a new tuple; the target is a name -/
theorem s_forNT {xs : List V} {tl : TE} {j : Nat} (h : EvU tl σ H xs) (Pv : Addr → Nat → L2.St → Hp → Prop) (h0 : ∀ p H1, H p = none → Ex H H1 → H1 p = some (.tup xs) → Pv p 0 σ H1) (hl : ∀ p i σ' H', i ≤ xs.length → Pv p i σ' H' → SqT K H' p xs)
    (hs : ∀ p i x σ' H', xs[i]? = some x → Pv p i σ' H' → tu { D with nx := Pv p (i + 1), ct := Pv p (i + 1), bk := D.nx } (σ'.set j (some x)) H') (hd : ∀ p σ' H', Pv p xs.length σ' H' → D.nx σ' H') : tFor (iTup K tl) (gName j) tu D σ H :=
  h H (Ex.refl H) _ fun p H1 hp e h1 => ⟨p, rfl, ⟨xs, st_of h1⟩, for_tup (Pv p) (h0 p H1 hp e h1) (hl p) (hs p) (hd p)⟩
theorem q_forNT {xs : List V} {tl : TE} {j : Nat} (h : EvU tl σ H xs) (Pv : Addr → Nat → L2.St → Hp → Prop) (h0 : ∀ p H1, H p = none → Ex H H1 → H1 p = some (.tup xs) → Pv p 0 σ H1) (hl : ∀ p i σ' H', i ≤ xs.length → Pv p i σ' H' → SqT K H' p xs)
    (hs : ∀ p i x σ' H', xs[i]? = some x → Pv p i σ' H' → tu { D with nx := Pv p (i + 1), ct := Pv p (i + 1), bk := tz D } (σ'.set j (some x)) H') (hd : ∀ p σ' H', Pv p xs.length σ' H' → tz D σ' H') : tSeq (tFor (iTup K tl) (gName j) tu) tz D σ H :=
  s_forNT (D := { D with nx := tz D }) h Pv h0 hl hs hd
theorem q_par {i j : Nat} (h : Ev ta σ H x) (h2 : Ev tb σ H y) (k : ∀ H1, Ex H H1 → tz D ((σ.set i (some x)).set j (some y)) H1) : tSeq (tPar i j (tCons ta (tCons tb tNil))) tz D σ H :=
  h H (Ex.refl H) _ fun H1 e1 => h2 H1 e1 _ fun H2 e2 => ⟨x, y, rfl, k H2 (e1.trans e2)⟩
theorem q_parL {i j : Nat} {xs : List V} (h : EvL ta σ H xs) (h2 : ∀ p H1, H p = none → Ex H H1 → H1 p = some (.lst xs) → Ev tb σ H1 y) (k : ∀ p H1, H p = none → Ex H H1 → H1 p = some (.lst xs) → tz D ((σ.set i (some (.ref p))).set j (some y)) H1) : tSeq (tPar i j (tCons ta (tCons tb tNil))) tz D σ H :=
  h H (Ex.refl H) _ fun p H1 hp e1 hx => h2 p H1 hp e1 hx H1 (Ex.refl H1) _ fun H2 e2 => ⟨.ref p, y, rfl, k p H2 hp (e1.trans e2) (e2 _ _ hx)⟩
theorem q_par3 {i j l : Nat} {tc : TE} (h : Ev ta σ H x) (h2 : Ev tb σ H y) (h3 : Ev tc σ H z) (k : ∀ H1, Ex H H1 → tz D (((σ.set i (some x)).set j (some y)).set l (some z)) H1) : tSeq (tPar3 i j l (tCons ta (tCons tb (tCons tc tNil)))) tz D σ H :=
  h H (Ex.refl H) _ fun H1 e1 => h2 H1 e1 _ fun H2 e2 => h3 H2 (e1.trans e2) _ fun H3 e3 => ⟨x, y, z, rfl, k H3 ((e1.trans e2).trans e3)⟩
theorem s_par3 {i j l : Nat} {tc : TE} (h : Ev ta σ H x) (h2 : Ev tb σ H y) (h3 : Ev tc σ H z) (k : ∀ H1, Ex H H1 → D.nx (((σ.set i (some x)).set j (some y)).set l (some z)) H1) : tPar3 i j l (tCons ta (tCons tb (tCons tc tNil))) D σ H :=
  h H (Ex.refl H) _ fun H1 e1 => h2 H1 e1 _ fun H2 e2 => h3 H2 (e1.trans e2) _ fun H3 e3 => ⟨x, y, z, rfl, k H3 ((e1.trans e2).trans e3)⟩
/-- a, b = (e1, e2) where the tuple is made: two names; a name and an item of a list -/
theorem q_tupNN {i j : Nat} (h : Ev ta σ H x) (h2 : Ev tb σ H y) (k : ∀ H1, Ex H H1 → tz D ((σ.set i (some x)).set j (some y)) H1) : tSeq (tAsg (tTup (tCons ta (tCons tb tNil))) (gTup K 2 (gCons (gName i) (gCons (gName j) gNil)))) tz D σ H :=
  h H (Ex.refl H) _ fun H1 e1 => h2 H1 e1 _ fun H2 e2 => ⟨by show 2 ≤ sizeLine; decide, fun p hp => ⟨p, [x, y], rfl, st_of upd_same, rfl, x, [y], rfl, y, [], rfl, rfl, k _ ((e1.trans e2).trans (Ex.new hp))⟩⟩
theorem s_tupNS {i j : Nat} {to ti : TE} {l : Addr} {xs : List V} (h : Ev ta σ H x) (h2 : Ev tb σ H y) (hl : H l = some (.lst xs)) (ho : Ev to (σ.set i (some x)) H (.ref l)) (hi : Ev ti (σ.set i (some x)) H (.int (j : Int))) (hj : j < xs.length)
    (k : ∀ H1, Ex H H1 → D.nx (σ.set i (some x)) (upd H1 l (.lst (xs.set j y)))) : tAsg (tTup (tCons ta (tCons tb tNil))) (gTup K 2 (gCons (gName i) (gCons (gSub to ti rSetL) gNil))) D σ H :=
  h H (Ex.refl H) _ fun H1 e1 => h2 H1 e1 _ fun H2 e2 => ⟨by show 2 ≤ sizeLine; decide, fun p hp => ⟨p, [x, y], rfl, st_of upd_same, rfl, x, [y], rfl, y, [], rfl,
    ho _ ((e1.trans e2).trans (Ex.new hp)) _ fun H3 e3 => hi H3 (((e1.trans e2).trans (Ex.new hp)).trans e3) _ fun H4 e4 => ⟨l, xs, (j : Int), j, rfl, rfl, ((((e1.trans e2).trans (Ex.new hp)).trans e3).trans e4) l _ hl, ixN_nat hj, rfl, k H4 ((((e1.trans e2).trans (Ex.new hp)).trans e3).trans e4)⟩⟩⟩
def SpU (sp : Sp) (vs : List V) (H : Hp) (xs : List V) : Prop := ∀ H1, Ex H H1 → ∀ Q : VK, (∀ p H2, H1 p = none → Ex H1 H2 → H2 p = some (.tup xs) → Q (.ref p) H2) → ∀ E : XK, sp vs H1 Q E
theorem eu_call {sp : Sp} {dvs vs xs : List V} {E : XK} {ta : TA} (h : EvA ta σ H vs) (hs : SpU sp (vs ++ dvs) H xs) : EvU (tCall sp dvs E ta) σ H xs := fun H1 e Q q =>
  h H1 e _ fun H2 e2 => hs H2 (e.trans e2) Q (fun p H3 hp e3 h3 => q p H3 (fresh_back e2 hp) (e2.trans e3) h3) E
def RetU (xs : List V) (H : Hp) (Q : VK) : Prop := ∀ p H2, H p = none → Ex H H2 → H2 p = some (.tup xs) → Q (.ref p) H2
theorem RetU.go {xs : List V} {Q : VK} (k : RetU xs H Q) (e : Ex H H') {p : Addr} {H2 : Hp} (hp : H' p = none) (e2 : Ex H' H2) (h : H2 p = some (.tup xs)) : Q (.ref p) H2 := k p H2 (fresh_back e hp) (e.trans e2) h
end
end Own
/-! mathematics of digits; core Lean alone -/
namespace Own
def dg (b : Nat) (k : Nat) : List Nat := if h : 1 < b ∧ 0 < k then (k % b) :: dg b (k / b) else []
termination_by k
decreasing_by exact Nat.div_lt_self h.2 h.1
theorem dg_zero (b : Nat) : dg b 0 = [] := by
  rw [dg]
  simp
theorem dg_pos {b k : Nat} (hb : 1 < b) (hk : 0 < k) : dg b k = (k % b) :: dg b (k / b) := by
  rw [dg, dif_pos ⟨hb, hk⟩]
theorem dg_lt {b : Nat} (hb : 1 < b) (k : Nat) : ∀ d ∈ dg b k, d < b := by
  induction k using Nat.strongRecOn with
  | ind k ih =>
    by_cases hk : 0 < k
    · rw [dg_pos hb hk]
      intro d hd
      rcases List.mem_cons.mp hd with rfl | hd
      · exact Nat.mod_lt _ (by omega)
      · exact ih _ (Nat.div_lt_self hk hb) d hd
    · have : k = 0 := by omega
      subst this
      rw [dg_zero]
      intro d hd
      cases hd
theorem dg_len {b : Nat} (hb : 1 < b) : ∀ (n k : Nat), k < 2 ^ n → (dg b k).length ≤ n := by
  intro n
  induction n with
  | zero =>
    intro k h
    have : k = 0 := by
      have : (2 : Nat) ^ 0 = 1 := rfl
      omega
    subst this
    rw [dg_zero]
    exact Nat.le_refl _
  | succ n ih =>
    intro k h
    by_cases hk : 0 < k
    · rw [dg_pos hb hk, List.length_cons]
      have : k / b < 2 ^ n := by
        have h1 : k / b ≤ k / 2 := Nat.div_le_div_left hb (by decide)
        rw [Nat.pow_succ] at h
        omega
      have := ih _ this
      omega
    · have : k = 0 := by omega
      subst this
      rw [dg_zero]
      exact Nat.zero_le _
/-- the integer of a row of digits -/
def od (b : Nat) : List Nat → Nat
  | [] => 0
  | d :: r => d + b * od b r
theorem od_dg {b : Nat} (hb : 1 < b) (k : Nat) : od b (dg b k) = k := by
  induction k using Nat.strongRecOn with
  | ind k ih =>
    by_cases hk : 0 < k
    · rw [dg_pos hb hk, od, ih _ (Nat.div_lt_self hk hb)]
      exact Nat.mod_add_div k b
    · have : k = 0 := by omega
      subst this
      rw [dg_zero]
      rfl
theorem od_zeros (b : Nat) : ∀ n, od b (List.replicate n 0) = 0
  | 0 => rfl
  | n + 1 => by
    rw [List.replicate_succ, od, od_zeros b n]
    omega
theorem od_app (b : Nat) : ∀ (xs : List Nat) (n : Nat), od b (xs ++ List.replicate n 0) = od b xs
  | [], n => by
    rw [List.nil_append, od_zeros]
    rfl
  | d :: r, n => by
    rw [List.cons_append, od, od, od_app b r n]
theorem od_lt {b : Nat} (hb : b ≤ 1000) : ∀ (xs : List Nat), (∀ d ∈ xs, d < b) → od b xs < 2 ^ (10 * xs.length)
  | [], _ => by
    show 0 < 2 ^ 0
    decide
  | d :: r, h => by
    have ih := od_lt hb r fun x hx => h x (List.mem_cons_of_mem _ hx)
    have hd := h d (List.mem_cons_self ..)
    rw [od, List.length_cons, Nat.mul_add, Nat.pow_add]
    have h1 : b * od b r ≤ 1000 * od b r := Nat.mul_le_mul_right _ hb
    have h2 : (2 : Nat) ^ (10 * 1) = 1024 := rfl
    rw [h2]
    omega
/-- the sum of the digits -/
def ds (b k : Nat) : Nat := (dg b k).sum
theorem ds_zero (b : Nat) : ds b 0 = 0 := by
  unfold ds
  rw [dg_zero]
  rfl
theorem ds_pos {b k : Nat} (hb : 1 < b) (hk : 0 < k) : ds b k = k % b + ds b (k / b) := by
  unfold ds
  rw [dg_pos hb hk, List.sum_cons]
theorem ds_eq {b : Nat} (hb : 1 < b) (k : Nat) : ds b k = k % b + ds b (k / b) := by
  by_cases hk : 0 < k
  · exact ds_pos hb hk
  · have : k = 0 := by omega
    subst this
    rw [Nat.zero_mod, Nat.zero_div, ds_zero]
theorem ds_le {b : Nat} (hb : 1 < b) (k : Nat) : ds b k ≤ k := by
  induction k using Nat.strongRecOn with
  | ind k ih =>
    by_cases hk : 0 < k
    · rw [ds_pos hb hk]
      have h1 := ih _ (Nat.div_lt_self hk hb)
      have h2 := Nat.mod_add_div k b
      have h3 : 1 * (k / b) ≤ b * (k / b) := Nat.mul_le_mul_right _ (by omega)
      omega
    · have : k = 0 := by omega
      subst this
      rw [ds_zero]
      exact Nat.le_refl _
/-- carries where a carry comes in; with fuel by the size -/
def cc (b : Nat) (c x y : Nat) : Nat := if h : 1 < b ∧ (0 < x ∨ 0 < y) then
    (if b ≤ x % b + y % b + c then 1 else 0) + cc b (if b ≤ x % b + y % b + c then 1 else 0) (x / b) (y / b) else 0
termination_by x + y
decreasing_by
  rcases h.2 with hx | hy
  · have h1 := Nat.div_lt_self hx h.1
    have h2 := Nat.div_le_self y b
    omega
  · have h1 := Nat.div_lt_self hy h.1
    have h2 := Nat.div_le_self x b
    omega
/-- the rule by sums of digits, with a carry c coming in -/
theorem ds_add {b : Nat} (hb : 1 < b) : ∀ (n x y c : Nat), x + y ≤ n → c ≤ 1 → ds b x + ds b y + c = ds b (x + y + c) + (b - 1) * cc b c x y := by
  intro n
  induction n using Nat.strongRecOn with
  | ind n ih =>
    intro x y c hn hc
    by_cases hxy : 0 < x ∨ 0 < y
    · rw [cc, dif_pos ⟨hb, hxy⟩]
      have hlt : x / b + y / b < n := by
        rcases hxy with hx | hy
        · have h1 := Nat.div_lt_self hx hb
          have h2 := Nat.div_le_self y b
          omega
        · have h1 := Nat.div_lt_self hy hb
          have h2 := Nat.div_le_self x b
          omega
      have hx := Nat.mod_add_div x b
      have hy := Nat.mod_add_div y b
      have mx := Nat.mod_lt x (show 0 < b by omega)
      have my := Nat.mod_lt y (show 0 < b by omega)
      rw [ds_eq hb x, ds_eq hb y, ds_eq hb (x + y + c)]
      have hs : x + y + c = (x % b + y % b + c) + b * (x / b + y / b) := by
        rw [Nat.mul_add]
        omega
      by_cases hcar : b ≤ x % b + y % b + c
      · rw [if_pos hcar]
        have e : x + y + c = (x % b + y % b + c - b) + b * (x / b + y / b + 1) := by
          rw [Nat.mul_add b _ 1]
          omega
        have e1 : (x + y + c) % b = x % b + y % b + c - b := by
          rw [e, Nat.add_mul_mod_self_left, Nat.mod_eq_of_lt (by omega)]
        have e2 : (x + y + c) / b = x / b + y / b + 1 := by
          rw [e, Nat.add_mul_div_left _ _ (by omega), Nat.div_eq_of_lt (by omega)]
          omega
        rw [e1, e2]
        have := ih _ hlt (x / b) (y / b) 1 (Nat.le_refl _) (Nat.le_refl _)
        rw [Nat.mul_add]
        omega
      · rw [if_neg hcar]
        have e1 : (x + y + c) % b = x % b + y % b + c := by
          rw [hs, Nat.add_mul_mod_self_left, Nat.mod_eq_of_lt (by omega)]
        have e2 : (x + y + c) / b = x / b + y / b := by
          rw [hs, Nat.add_mul_div_left _ _ (by omega), Nat.div_eq_of_lt (by omega)]
          omega
        rw [e1, e2]
        have := ih _ hlt (x / b) (y / b) 0 (Nat.le_refl _) (Nat.zero_le _)
        simp only [Nat.add_zero] at this
        rw [Nat.mul_add]
        omega
    · have hx : x = 0 := by omega
      have hy : y = 0 := by omega
      subst hx hy
      rw [cc, dif_neg (by simp), ds_zero]
      have : ds b (0 + 0 + c) = c := by
        rw [Nat.zero_add]
        rcases Nat.le_one_iff_eq_zero_or_eq_one.mp hc with rfl | rfl
        · exact ds_zero b
        · rw [ds_pos hb (by decide), Nat.mod_eq_of_lt hb, Nat.div_eq_of_lt hb, ds_zero]
      omega
theorem ds_plus {b : Nat} (hb : 1 < b) (x y : Nat) : ds b x + ds b y = ds b (x + y) + (b - 1) * cc b 0 x y := by
  have := ds_add hb (x + y) x y 0 (Nat.le_refl _) (Nat.zero_le _)
  simpa using this
/-- place by place: no sum of digits reaches the base -/
def nc (b : Nat) : Nat → List Nat → Bool
  | 0, _ => true
  | n + 1, xs => decide ((xs.map (· % b)).sum < b) && nc b n (xs.map (· / b))
theorem le_sum : ∀ (xs : List Nat) (x : Nat), x ∈ xs → x ≤ xs.sum
  | [], _, h => by cases h
  | a :: r, x, h => by
    rw [List.sum_cons]
    rcases List.mem_cons.mp h with rfl | h
    · omega
    · have := le_sum r x h
      omega
/-- the same by sums of digits -/
theorem sum_split {b : Nat} (hb : 1 < b) : ∀ xs : List Nat, xs.sum = (xs.map (· % b)).sum + b * (xs.map (· / b)).sum
  | [] => rfl
  | x :: r => by
    rw [List.sum_cons, List.map_cons, List.map_cons, List.sum_cons, List.sum_cons, Nat.mul_add, sum_split hb r]
    have := Nat.mod_add_div x b
    omega
theorem sumds_split {b : Nat} (hb : 1 < b) : ∀ xs : List Nat, (xs.map (ds b)).sum = (xs.map (· % b)).sum + ((xs.map (· / b)).map (ds b)).sum
  | [] => rfl
  | x :: r => by
    simp only [List.map_cons, List.sum_cons]
    rw [sumds_split hb r, ds_eq hb x]
    omega
theorem ds_sum_le {b : Nat} (hb : 1 < b) : ∀ xs : List Nat, ds b xs.sum ≤ (xs.map (ds b)).sum
  | [] => by
    rw [List.sum_nil, ds_zero]
    exact Nat.zero_le _
  | x :: r => by
    rw [List.map_cons, List.sum_cons, List.sum_cons]
    have h1 := ds_plus hb x r.sum
    have h2 := ds_sum_le hb r
    omega
theorem ds_add_le {b : Nat} (hb : 1 < b) (x y : Nat) : ds b (x + y) ≤ ds b x + ds b y := by
  have := ds_plus hb x y
  omega
theorem nc_iff {b : Nat} (hb : 1 < b) : ∀ (n : Nat) (xs : List Nat), xs.sum ≤ n → (nc b n xs = true ↔ (xs.map (ds b)).sum = ds b xs.sum) := by
  intro n
  induction n with
  | zero =>
    intro xs h
    have hz : ∀ x ∈ xs, x = 0 := fun x hx => by
      have := le_sum xs x hx
      omega
    have e1 : (xs.map (ds b)).sum = 0 := by
      have : xs.map (ds b) = xs.map (fun _ => 0) := List.map_congr_left fun x hx => by rw [hz x hx, ds_zero]
      rw [this]
      clear this hz h
      induction xs with
      | nil => rfl
      | cons a r ih => simpa using ih
    have e2 : xs.sum = 0 := by omega
    rw [e1, e2, ds_zero]
    exact ⟨fun _ => rfl, fun _ => rfl⟩
  | succ n ih =>
    intro xs h
    unfold nc
    rw [Bool.and_eq_true, decide_eq_true_eq]
    have hs := sum_split hb xs
    have hd := sumds_split hb xs
    generalize hm : (xs.map (· % b)).sum = m at hs hd ⊢
    generalize hq : xs.map (· / b) = q at hs hd ⊢
    have hqn : q.sum ≤ n := by
      by_cases h0 : q.sum = 0
      · omega
      · have : 2 * q.sum ≤ b * q.sum := Nat.mul_le_mul_right _ hb
        omega
    have ihq := ih q hqn
    by_cases hlt : m < b
    · have e1 : xs.sum % b = m := by
        rw [hs, Nat.add_mul_mod_self_left, Nat.mod_eq_of_lt hlt]
      have e2 : xs.sum / b = q.sum := by
        rw [hs, Nat.add_mul_div_left _ _ (by omega), Nat.div_eq_of_lt hlt]
        omega
      rw [hd, ds_eq hb xs.sum, e1, e2, ihq]
      constructor
      · intro ⟨_, h2⟩
        omega
      · intro h2
        exact ⟨hlt, by omega⟩
    · constructor
      · intro ⟨h1, _⟩
        exact absurd h1 hlt
      · intro h2
        exfalso
        -- the sum of digits falls by a carry
        have e1 : ds b xs.sum = ds b (m + b * q.sum) := by rw [← hs]
        have e3 : ds b (m + b * q.sum) = m % b + ds b (m / b + q.sum) := by
          rw [ds_eq hb, Nat.add_mul_mod_self_left, Nat.add_mul_div_left _ _ (by omega)]
        have e4 := ds_add_le hb (m / b) q.sum
        have e5 := ds_sum_le hb q
        have e6 := ds_le hb (m / b)
        have e7 := Nat.mod_add_div m b
        have e8 : 2 * (m / b) ≤ b * (m / b) := Nat.mul_le_mul_right _ hb
        have e9 : 1 ≤ m / b := Nat.div_pos (by omega) (by omega)
        omega
end Own
/-! own words for the laws' dice: a list of three ints that draws change -/
namespace Own
open PySem PySem.Spec PyProof.Rows L2 Evl
abbrev N_ (n : Nat) : V := .int (n : Int)
def Exd (p : Addr) (H H' : Hp) : Prop := ∀ a o, a ≠ p → H a = some o → H' a = some o
def IsDice (H : Hp) (p : Addr) : Prop := ∃ a b c : Int, H p = some (.lst [.int a, .int b, .int c])
section
variable {K : PySem.W.Frag} {H H1 H2 H' : Hp} {p a : Addr} {xs : List V}
theorem Exd.refl : Exd p H H := fun _ _ _ h => h
theorem Exd.of (e : Ex H H') : Exd p H H' := fun a o _ h => e a o h
theorem Exd.trans (x : Exd p H H1) (y : Exd p H1 H2) : Exd p H H2 := fun a o n h => y a o n (x a o n h)
theorem Exd.put {o : HO} : Exd p H (upd H p o) := fun a u n h => by rw [upd_ne n]; exact h
theorem IsDice.ex (d : IsDice H p) (e : Ex H H') : IsDice H' p := by
  obtain ⟨a, b, c, h⟩ := d
  exact ⟨a, b, c, e _ _ h⟩
theorem IsDice.seq (d : IsDice H p) : ∃ a b c : Int, SqL K H p [.int a, .int b, .int c] := by
  obtain ⟨a, b, c, h⟩ := d
  exact ⟨a, b, c, sq_of h⟩
theorem exd_t (d : IsDice H p) (e : Exd p H H') (h : SqT K H a xs) : SqT K H' a xs := by
  obtain ⟨x, y, z, hd⟩ := d
  rcases h with (h | ⟨o, h⟩) | h
  · exact .inl (.inl (e a _ (fun z => by rw [z, hd] at h; cases h) h))
  · exact .inl (.inr ⟨o, e a _ (fun z => by rw [z, hd] at h; cases h) h⟩)
  · exact .inr h
theorem exd_l (n : a ≠ p) (e : Exd p H H') (h : SqL K H a xs) : SqL K H' a xs := by
  rcases h with (h | ⟨o, h⟩) | h
  · exact .inl (.inl (e a _ n h))
  · exact .inl (.inr ⟨o, e a _ n h⟩)
  · exact .inr h
theorem new_ne (n : H a = none) (d : IsDice H p) : a ≠ p := fun z => by
  obtain ⟨x, y, w, h⟩ := d
  rw [z, h] at n
  cases n
theorem Exd.free (e : Exd p H H') (n : H' a = none) (hn : a ≠ p) : H a = none := by
  cases q : H a with
  | none => rfl
  | some o =>
    rw [e a o hn q] at n
    cases n
theorem Exd.newI {H0 : Hp} {l : Addr} {o : HO} (e : Exd p H0 H) (n : H0 l = none) : Exd p H0 (upd H l o) := fun b u hb h => by
  rw [upd_ne (ne_of_none h n)]
  exact e b u hb h
end
theorem mod_lt64 {x m : Int} (h0 : 0 < m) (h : m < 2 ^ 64) : -(2 ^ 64) < x % m ∧ x % m < 2 ^ 64 := by
  have h1 := Int.emod_nonneg x (by omega : m ≠ 0)
  have h2 := Int.emod_lt_of_pos x h0
  omega
theorem mod_abs {x m : Int} {n : Nat} (h0 : 0 < m) (h : m.toNat ≤ 2 ^ n) : (x % m).natAbs < 2 ^ n := by
  have h1 := Int.emod_nonneg x (by omega : m ≠ 0)
  have h2 := Int.emod_lt_of_pos x h0
  omega
end Own
/-! own words: == of tuples and lists of ints -/
namespace Own
open PySem PySem.Spec PyProof.Rows L2 Evl
def pdI (ns : List Int) : List PyData := ns.map PyData.int
theorem dp_ints {K : PySem.W.Frag} {H : Hp} : ∀ ns : List Int, DpAll K H (ns.map V.int) (pdI ns)
  | [] => .nil
  | n :: r => .cons (.int n) (dp_ints r)
theorem canI : ∀ ns : List Int, PyData.canLayAll0 (pdI ns) = true
  | [] => rfl
  | n :: r => by
    show (PyData.canLay0 (.int n) && PyData.canLayAll0 (pdI r)) = true
    rw [canI r]
    rfl
theorem depthI : ∀ ns : List Int, PyData.depthAll (pdI ns) = 0
  | [] => rfl
  | n :: r => by
    show max (PyData.depth (.int n)) (PyData.depthAll (pdI r)) = 0
    rw [depthI r]
    rfl
theorem shapedT (ns : List Int) : SeqAt.shaped (.tuple (pdI ns)) = true := by
  show (PyData.canLayAll0 (pdI ns) && decide (PyData.depthAll (pdI ns) + 1 ≤ 64)) = true
  rw [canI, depthI]
  rfl
theorem shapedL (ns : List Int) : SeqAt.shaped (.list (pdI ns)) = true := by
  show (PyData.canLayAll0 (pdI ns) && decide (PyData.depthAll (pdI ns) + 1 ≤ 64)) = true
  rw [canI, depthI]
  rfl
theorem eqvI : ∀ ns ms : List Int, PyData.eqvAll (pdI ns) (pdI ms) = decide (ns = ms)
  | [], [] => rfl
  | [], m :: s => by
    rw [decide_eq_false (by simp)]
    rfl
  | n :: r, [] => by
    rw [decide_eq_false (by simp)]
    rfl
  | n :: r, m :: s => by
    show (PyData.eqv (.int n) (.int m) && PyData.eqvAll (pdI r) (pdI s)) = _
    rw [eqvI r s]
    show ((n == m) && decide (r = s)) = decide (n :: r = m :: s)
    by_cases h : n = m
    · subst h
      by_cases h2 : r = s
      · subst h2
        rw [decide_eq_true rfl, decide_eq_true rfl]
        simp
      · rw [decide_eq_false h2, decide_eq_false (fun z => h2 (List.cons.inj z).2), Bool.and_false]
    · rw [decide_eq_false (fun z => h (List.cons.inj z).1), show (n == m) = false from beq_eq_false_iff_ne.mpr h, Bool.false_and]
theorem eqvT (ns ms : List Int) : PyData.eqv (.tuple (pdI ns)) (.tuple (pdI ms)) = decide (ns = ms) := eqvI ns ms
theorem eqvL (ns ms : List Int) : PyData.eqv (.list (pdI ns)) (.list (pdI ms)) = decide (ns = ms) := eqvI ns ms
section
variable {K : PySem.W.Frag} {σ : L2.St} {H H' : Hp} {ta tb : TE}
theorem rv_neT {a b : Addr} {ns ms : List Int} (h1 : SqT K H a (ns.map V.int)) (h2 : SqT K H b (ms.map V.int)) : RV (rNeD K) (.ref a) (.ref b) H (.bl (!decide (ns = ms))) := fun H1 e _ q =>
  ⟨_, _, .tup (ex_t e h1) (dp_ints ns), .tup (ex_t e h2) (dp_ints ms), shapedT _, shapedT _, by rw [eqvT]; exact q H1 (Ex.refl H1)⟩
theorem rv_eqT {a b : Addr} {ns ms : List Int} (h1 : SqT K H a (ns.map V.int)) (h2 : SqT K H b (ms.map V.int)) : RV (rEqD K) (.ref a) (.ref b) H (.bl (decide (ns = ms))) := fun H1 e _ q =>
  ⟨_, _, .tup (ex_t e h1) (dp_ints ns), .tup (ex_t e h2) (dp_ints ms), shapedT _, shapedT _, by rw [eqvT]; exact q H1 (Ex.refl H1)⟩
theorem rv_neL {a b : Addr} {ns ms : List Int} (h1 : SqL K H a (ns.map V.int)) (h2 : SqL K H b (ms.map V.int)) : RV (rNeD K) (.ref a) (.ref b) H (.bl (!decide (ns = ms))) := fun H1 e _ q =>
  ⟨_, _, .lst (ex_l e h1) (dp_ints ns), .lst (ex_l e h2) (dp_ints ms), shapedL _, shapedL _, by rw [eqvL]; exact q H1 (Ex.refl H1)⟩
theorem rv_eqL {a b : Addr} {ns ms : List Int} (h1 : SqL K H a (ns.map V.int)) (h2 : SqL K H b (ms.map V.int)) : RV (rEqD K) (.ref a) (.ref b) H (.bl (decide (ns = ms))) := fun H1 e _ q =>
  ⟨_, _, .lst (ex_l e h1) (dp_ints ns), .lst (ex_l e h2) (dp_ints ms), shapedL _, shapedL _, by rw [eqvL]; exact q H1 (Ex.refl H1)⟩
/-- the first operand a new tuple -/
theorem ev_opU1 {r : R2} {xs : List V} {y z : V} (ha : EvU ta σ H xs) (hb : ∀ H1, Ex H H1 → Ev tb σ H1 y) (hr : ∀ p H1, H1 p = some (.tup xs) → Ex H H1 → RV r (.ref p) y H1 z) : Ev (tOp r ta tb) σ H z := fun H1 e Q q =>
  ha H1 e _ fun p H2 _ e2 hp => hb H2 (e.trans e2) H2 (Ex.refl H2) _ fun H3 e3 => hr p H3 (e3 p _ hp) ((e.trans e2).trans e3) H3 (Ex.refl H3) Q fun H4 e4 => q H4 ((e2.trans e3).trans e4)
/-- t + u of tuples, whatever object comes out -/
theorem catA_go {row q : Addr} {xs ys : List V} {Q : VK} (h1 : SqT K H row xs) (h2 : SqT K H q ys) (hl : xs.length + ys.length ≤ 100000) (k : ∀ a H', Ex H H' → SqT K H' a (xs ++ ys) → Q (.ref a) H') : rCatA K (.ref row) (.ref q) H Q :=
  ⟨row, q, xs, ys, rfl, rfl, h1, h2, sz_of hl, fun e => k q H (Ex.refl H) (by rw [e]; exact h2), fun _ e => k row H (Ex.refl H) (by rw [e, List.append_nil]; exact h1), fun _ _ p hp => k p _ (Ex.new hp) (st_of upd_same)⟩
/-- t[1:] of a tuple with an item -/
theorem eu_sl1 {a : Addr} {xs : List V} (h : Ev ta σ H (.ref a)) (hx : SqT K H a xs) (hl : 0 < xs.length) (hcut : cutV xs (some 1) none = xs.drop 1) : EvU (tSl (rSlT K) ta (tPart (tC (.int 1))) tNoPart) σ H (xs.drop 1) := fun H1 e Q q =>
  h H1 e _ fun H2 e2 => ⟨1, rfl, a, xs, rfl, ex_t (e.trans e2) hx, fun z => by
    have h1 := z.1
    rw [show HT.sIx xs.length 0 (some 1) = min 1 xs.length from HT.sIx_nat xs.length 0 1] at h1
    omega, fun p hp => q p _ (fresh_back e2 hp) (e2.trans (Ex.new hp)) (by rw [hcut]; exact upd_same)⟩
theorem ev_sumU {ns : List Int} (h : EvU ta σ H (ns.map V.int)) : Ev (tCB (rSumT K) (tCons ta tNil)) σ H (.int ns.sum) := fun H1 e _ q =>
  h H1 e _ fun p H2 _ e2 h2 => ⟨p, ns, rfl, st_of h2, q H2 e2⟩
/-- [..] * k -/
theorem el_rep {xs : List V} {k : Int} (h : EvL ta σ H xs) (h2 : Ev tb σ H (.int k)) (h0 : 0 ≤ k) (hk : xs.length * k.toNat ≤ 100000) (hk2 : k ≤ 100000) : EvL (tOp rRep ta tb) σ H (List.replicate k.toNat xs).flatten := fun H1 e Q q =>
  h H1 e _ fun p H2 hp e2 hx => h2 H2 (e.trans e2) _ fun H3 e3 => ⟨p, k, xs, rfl, rfl, e3 _ _ hx, by omega, by omega, sz_of hk, fun l hl => q l _ (fresh_back (e2.trans e3) hl) ((e2.trans e3).trans (Ex.new hl)) upd_same⟩
end
end Own
/-! own words: written tables with integer keys; their values integers, tuples of integers, tuples of those -/
namespace Own
open PySem PySem.Spec PyProof.Rows L2 Evl
abbrev Fr_ := PySem.W.Frag
def asInt : Value → Option Int
  | .int i _ => some i
  | _ => none
def asInts : List Value → Option (List Int)
  | [] => some []
  | v :: r => match asInt v, asInts r with
    | some i, some is => some (i :: is)
    | _, _ => none
/-- the items of a written tuple -/
def asTup (K : Fr_) : Value → Option (List Value)
  | .ref a => match K.lookup a with
    | some ⟨.type T, _, .seq its _, _⟩ => if T = "tuple" ∧ its.size ≤ 1000 then some its.toList else none
    | _ => none
  | _ => none
def asRow (K : Fr_) (v : Value) : Option (List Int) := match asTup K v with
  | some l => asInts l
  | none => none
def asRowsL (K : Fr_) : List Value → Option (List (List Int))
  | [] => some []
  | v :: r => match asRow K v, asRowsL K r with
    | some i, some is => some (i :: is)
    | _, _ => none
def asRows (K : Fr_) (v : Value) : Option (List (List Int)) := match asTup K v with
  | some l => asRowsL K l
  | none => none
/-- the entries of a written dict with integer keys -/
def entriesI : List DictEntry → Option (List (Int × Value))
  | [] => some []
  | e :: r => match asInt e.key, entriesI r with
    | some i, some is => if e.hash = hashInt i then some ((i, e.val) :: is) else none
    | _, _ => none
def tabOf (K : Fr_) (d : Addr) : Option (List (Int × Value)) := match K.lookup d with
  | some ⟨.type T, none, .dict es _, sl⟩ => if T = "dict" ∧ sl = #[] then entriesI es.toList else none
  | _ => none
def mapV2 {α β : Type} (f : α → Option β) : List (Int × α) → Option (List (Int × β))
  | [] => some []
  | (i, v) :: r => match f v, mapV2 f r with
    | some w, some is => some ((i, w) :: is)
    | _, _ => none
def tab0 (K : Fr_) (d : Addr) : Option (List (Int × Int)) := (tabOf K d).bind (mapV2 asInt)
def tab1 (K : Fr_) (d : Addr) : Option (List (Int × List Int)) := (tabOf K d).bind (mapV2 (asRow K))
def tab2 (K : Fr_) (d : Addr) : Option (List (Int × List (List Int))) := (tabOf K d).bind (mapV2 (asRows K))
theorem asInt_eq {v : Value} {i : Int} (h : asInt v = some i) : ∃ t, v = .int i t := by
  cases v <;> simp [asInt] at h
  subst h
  exact ⟨_, rfl⟩
theorem asInts_vals : ∀ {l : List Value} {ns : List Int}, asInts l = some ns → Vals (ns.map V.int) l
  | [], ns, h => by
    cases (Option.some.inj h : [] = ns)
    exact .nil
  | v :: r, ns, h => by
    unfold asInts at h
    split at h
    · rename_i i is h1 h2
      cases (Option.some.inj h : (i :: is) = ns)
      obtain ⟨t, rfl⟩ := asInt_eq h1
      exact .cons ⟨t, rfl⟩ (asInts_vals h2)
    · cases h
theorem asTup_eq {K : Fr_} {v : Value} {l : List Value} (h : asTup K v = some l) : ∃ (a : Addr) (o : Obj) (its : Array Value) (n : Nat), v = .ref a ∧ K.lookup a = some o ∧ o.cls = .type "tuple" ∧ o.data = .seq its n ∧ its.size ≤ 1000 ∧ its.toList = l := by
  unfold asTup at h
  split at h
  · split at h
    · rename_i a _ T dd its n sl e
      split at h
      · rename_i hc
        refine ⟨a, _, its, n, rfl, e, ?_, rfl, hc.2, Option.some.inj h⟩
        rw [hc.1]
      · cases h
    · cases h
  · cases h
theorem asRow_eq {K : Fr_} {v : Value} {ns : List Int} (h : asRow K v = some ns) : ∃ a : Addr, v = .ref a ∧ ∀ H, SqT K H a (ns.map V.int) := by
  unfold asRow at h
  split at h
  · rename_i l e
    obtain ⟨a, o, its, n, rfl, hl, hc, hd, hz, rfl⟩ := asTup_eq e
    exact ⟨a, rfl, fun H => .inr ⟨o, its, n, hl, hc, hd, Nat.le_trans hz (by decide), asInts_vals h⟩⟩
  · cases h
/-- a row of rows -/
def Rws (K : Fr_) (H : Hp) (rs : List Addr) (xss : List (List Int)) : Prop := rs.length = xss.length ∧ ∀ (i : Nat) (r : Addr) (xs : List Int), rs[i]? = some r → xss[i]? = some xs → SqT K H r (xs.map V.int)
theorem asRowsL_eq {K : Fr_} : ∀ {l : List Value} {xss : List (List Int)}, asRowsL K l = some xss → ∃ rs : List Addr, Vals (rs.map V.ref) l ∧ ∀ H, Rws K H rs xss
  | [], xss, h => by
    cases (Option.some.inj h : [] = xss)
    exact ⟨[], .nil, fun H => ⟨rfl, fun i r xs h => by simp at h⟩⟩
  | v :: l, xss, h => by
    unfold asRowsL at h
    split at h
    · rename_i i is h1 h2
      cases (Option.some.inj h : (i :: is) = xss)
      obtain ⟨a, rfl, hs⟩ := asRow_eq h1
      obtain ⟨rs, hv, hr⟩ := asRowsL_eq h2
      refine ⟨a :: rs, .cons rfl hv, fun H => ⟨by rw [List.length_cons, List.length_cons, (hr H).1], fun j r xs e1 e2 => ?_⟩⟩
      cases j with
      | zero =>
        cases (Option.some.inj e1 : a = r)
        cases (Option.some.inj e2 : i = xs)
        exact hs H
      | succ j => exact (hr H).2 j r xs e1 e2
    · cases h
theorem asRows_eq {K : Fr_} {v : Value} {xss : List (List Int)} (h : asRows K v = some xss) : ∃ (a : Addr) (rs : List Addr), v = .ref a ∧ ∀ H, SqT K H a (rs.map V.ref) ∧ Rws K H rs xss := by
  unfold asRows at h
  split at h
  · rename_i l e
    obtain ⟨a, o, its, n, rfl, hl, hc, hd, hz, rfl⟩ := asTup_eq e
    obtain ⟨rs, hv, hr⟩ := asRowsL_eq h
    exact ⟨a, rs, rfl, fun H => ⟨.inr ⟨o, its, n, hl, hc, hd, Nat.le_trans hz (by decide), hv⟩, hr H⟩⟩
  · cases h
theorem entriesI_find : ∀ {es : List DictEntry} {t : List (Int × Value)}, entriesI es = some t → (∀ e ∈ es, ∃ i tk, e.key = .int i tk ∧ e.hash = hashInt i) ∧ ∀ i, (es.find? fun e => Value.isInt i e.key).map (·.val) = t.lookup i
  | [], t, h => by
    cases (Option.some.inj h : [] = t)
    exact ⟨fun e he => (List.not_mem_nil he).elim, fun i => rfl⟩
  | e :: r, t, h => by
    unfold entriesI at h
    split at h
    · rename_i i is h1 h2
      split at h
      · rename_i hh
        cases (Option.some.inj h : ((i, e.val) :: is) = t)
        obtain ⟨tk, hk⟩ := asInt_eq h1
        obtain ⟨a1, a2⟩ := entriesI_find h2
        refine ⟨fun e' he => ?_, fun j => ?_⟩
        · rcases List.mem_cons.mp he with rfl | he
          · exact ⟨i, tk, hk, hh⟩
          · exact a1 e' he
        · rw [List.find?_cons, List.lookup_cons]
          have : Value.isInt j e.key = (i == j) := by rw [hk]; rfl
          rw [this]
          by_cases hij : i = j
          · subst hij
            rw [show (i == i) = true from beq_self_eq_true i]
            rfl
          · rw [show (i == j) = false from beq_eq_false_iff_ne.mpr hij, show (j == i) = false from beq_eq_false_iff_ne.mpr (Ne.symm hij)]
            exact a2 j
      · cases h
    · cases h
section
variable {X : Cx}
/-- d[i] of a written dict -/
def rIxW (K : Fr_) : R2 := fun x y H Q => ∃ (d : Addr) (i : Int) (t : List (Int × Value)) (u0 : Value) (v0 : V), x = .ref d ∧ y = .int i ∧ tabOf K d = some t ∧ t.lookup i = some u0 ∧ RelV v0 u0 ∧ Q v0 H
theorem ix_tab : IxR X (rIxW X.K) := by
  intro value slice pins s σ H x y v u Q I rx ry h hs
  obtain ⟨d, i, t, u0, v0, rfl, rfl, ht, hl, hr, q⟩ := h
  cases rx
  obtain ⟨tk, rfl⟩ := ry
  unfold tabOf at ht
  split at ht
  · rename_i T es n sl hk
    split at ht
    · rename_i hc
      obtain ⟨hT, hsl⟩ := hc
      subst hT hsl
      obtain ⟨a1, a2⟩ := entriesI_find ht
      have hm : s.heap.MapOf (intKind X.prog X.w) d (fun k => findBy Value.isInt es k) :=
        ⟨_, es, n, I.kIn d _ hk, ⟨rfl, rfl, rfl⟩, rfl, fun e he => by
          obtain ⟨j, tk, e1, e2⟩ := a1 e (Array.mem_toList_iff.mpr he)
          exact ⟨j, by rw [e1]; exact intKind_is X.prog X.w j tk, e2⟩, fun _ => rfl⟩
      have hf : (fun k => findBy Value.isInt es k) i = some u0 := by
        show findBy Value.isInt es i = some u0
        unfold findBy
        rw [← Array.find?_toList, a2 i]
        exact hl
      exact tail_any hm.typeIs slot_dict_getitem.lookup (wpAny_getItem_of (intKind_is X.prog X.w i tk) hm hf ⟨v0, H, I.tok _, hr, q⟩) hs
    · cases ht
  · cases ht
end
theorem mapV2_lookup {α β : Type} {f : α → Option β} : ∀ {t : List (Int × α)} {u : List (Int × β)}, mapV2 f t = some u → ∀ i w, u.lookup i = some w → ∃ v, t.lookup i = some v ∧ f v = some w
  | [], u, h, i, w, e => by
    cases (Option.some.inj h : [] = u)
    cases e
  | (j, v) :: r, u, h, i, w, e => by
    unfold mapV2 at h
    split at h
    · rename_i w' is h1 h2
      cases (Option.some.inj h : ((j, w') :: is) = u)
      rw [List.lookup_cons] at e ⊢
      by_cases hij : (i == j) = true
      · rw [hij] at e ⊢
        cases (Option.some.inj e : w' = w)
        exact ⟨v, rfl, h1⟩
      · rw [Bool.not_eq_true] at hij
        rw [hij] at e ⊢
        exact mapV2_lookup h2 i w e
    · cases h
section
variable {K : Fr_} {σ : L2.St} {H H' : Hp} {ta tb : TE}
theorem rv_tab0 {d : Addr} {t : List (Int × Int)} {i w : Int} (h : tab0 K d = some t) (hl : t.lookup i = some w) : RV (rIxW K) (.ref d) (.int i) H (.int w) := fun H1 _ _ q => by
  obtain ⟨t0, h1, h2⟩ := Option.bind_eq_some_iff.mp h
  obtain ⟨v, h3, h4⟩ := mapV2_lookup h2 i w hl
  obtain ⟨tk, rfl⟩ := asInt_eq h4
  exact ⟨d, i, t0, _, .int w, rfl, rfl, h1, h3, ⟨tk, rfl⟩, q H1 (Ex.refl H1)⟩
theorem tab1_get {d : Addr} {t : List (Int × List Int)} {i : Int} {w : List Int} (h : tab1 K d = some t) (hl : t.lookup i = some w) : ∃ a : Addr, (∀ H, SqT K H a (w.map V.int)) ∧ ∀ H, RV (rIxW K) (.ref d) (.int i) H (.ref a) := by
  obtain ⟨t0, h1, h2⟩ := Option.bind_eq_some_iff.mp h
  obtain ⟨v, h3, h4⟩ := mapV2_lookup h2 i w hl
  obtain ⟨a, rfl, hs⟩ := asRow_eq h4
  exact ⟨a, hs, fun H H1 _ _ q => ⟨d, i, t0, _, .ref a, rfl, rfl, h1, h3, rfl, q H1 (Ex.refl H1)⟩⟩
theorem tab2_get {d : Addr} {t : List (Int × List (List Int))} {i : Int} {w : List (List Int)} (h : tab2 K d = some t) (hl : t.lookup i = some w) : ∃ (a : Addr) (rs : List Addr), (∀ H, SqT K H a (rs.map V.ref) ∧ Rws K H rs w) ∧ ∀ H, RV (rIxW K) (.ref d) (.int i) H (.ref a) := by
  obtain ⟨t0, h1, h2⟩ := Option.bind_eq_some_iff.mp h
  obtain ⟨v, h3, h4⟩ := mapV2_lookup h2 i w hl
  obtain ⟨a, rs, rfl, hs⟩ := asRows_eq h4
  exact ⟨a, rs, hs, fun H H1 _ _ q => ⟨d, i, t0, _, .ref a, rfl, rfl, h1, h3, rfl, q H1 (Ex.refl H1)⟩⟩
/-- TAB[i][j], TAB[i][j][k] of written tables -/
theorem ev_tab0 {d : Addr} {t : List (Int × Int)} {i w : Int} (h : tab0 K d = some t) (hl : t.lookup i = some w) (ha : Ev ta σ H (.int i)) : Ev (tOp (rIxW K) (tC (.ref d)) ta) σ H (.int w) := ev_op ev_c ha (rv_tab0 h hl)
theorem ev_tab1 {d : Addr} {t : List (Int × List Int)} {i : Int} {j : Nat} {w : List Int} {x : Int} (h : tab1 K d = some t) (hl : t.lookup i = some w) (hx : w[j]? = some x) (ha : Ev ta σ H (.int i)) (hb : Ev tb σ H (.int (j : Int))) :
    Ev (tOp (rIxT K) (tOp (rIxW K) (tC (.ref d)) ta) tb) σ H (.int x) := by
  obtain ⟨a, hs, hr⟩ := tab1_get h hl
  exact ev_op (ev_op ev_c ha (hr H)) hb (rv_ixT (hs H) (atI_nat (by rw [List.getElem?_map, hx]; rfl)))
theorem ev_tab2 {d : Addr} {t : List (Int × List (List Int))} {i : Int} {j k : Nat} {w : List (List Int)} {xs : List Int} {x : Int} {tc : TE} (h : tab2 K d = some t) (hl : t.lookup i = some w) (hx : w[j]? = some xs) (hy : xs[k]? = some x) (ha : Ev ta σ H (.int i)) (hb : Ev tb σ H (.int (j : Int))) (hc : Ev tc σ H (.int (k : Int))) :
    Ev (tOp (rIxT K) (tOp (rIxT K) (tOp (rIxW K) (tC (.ref d)) ta) tb) tc) σ H (.int x) := by
  obtain ⟨a, rs, hs, hr⟩ := tab2_get h hl
  obtain ⟨h1, h2, h3⟩ := hs H
  have hj : j < rs.length := by rw [h2]; exact (List.getElem?_eq_some_iff.mp hx).1
  exact ev_op (ev_op (ev_op ev_c ha (hr H)) hb (rv_ixT (v := .ref rs[j]) h1 (atI_nat (by rw [List.getElem?_map, List.getElem?_eq_getElem hj]; rfl)))) hc (rv_ixT (h3 j _ xs (List.getElem?_eq_getElem hj) hx) (atI_nat (by rw [List.getElem?_map, hy]; rfl)))
end
end Own
/-! own words: enumerate, ranges by steps and from a place, lists of lists, sorted lists, values that are no integers -/
namespace Own
open PySem PySem.Spec PyProof.Rows L2 Evl
section
variable {K : PySem.W.Frag} {σ : L2.St} {H H' : Hp} {ta tb te : TE} {t : TT} {D : Ends} {tu tz : TS}
theorem for_enum {a : Addr} {xs : List V} {g : TG} {tb : TS} {D : Ends} {σ : L2.St} {H : Hp} (Pv : Nat → L2.St → Hp → Prop) (h0 : Pv 0 σ H) (hl : ∀ i σ H, i ≤ xs.length → Pv i σ H → SqL K H a xs)
    (hs : ∀ i x T σ H, xs[i]? = some x → Pv i σ H → H T = none → g (.ref T) σ (upd H T (.tup [.int (i : Nat), x])) fun σ2 H2 => tb { D with nx := Pv (i + 1), ct := Pv (i + 1), bk := D.nx } σ2 H2) (hd : ∀ σ H, Pv xs.length σ H → D.nx σ H) :
    ∃ W : Nat → Nat → L2.St → Hp → Prop, (∃ m, W 0 m σ H) ∧ ∀ i m σ H, W i m σ H →
      ((Ite K a).stop i H ∧ D.nx σ H) ∨ ((Ite K a).go i H ∧ ∃ N : L2.St → Hp → Prop, (∀ σ' H', N σ' H' → ∃ m', m' < m ∧ W (i + 1) m' σ' H') ∧ ∀ x H', (Ite K a).yld i H x H' → g x σ H' fun σ2 H2 => tb { D with nx := N, ct := N, bk := D.nx } σ2 H2) := by
  refine ⟨fun i m σ H => m = xs.length - i ∧ i ≤ xs.length ∧ Pv i σ H, ⟨xs.length, by simp, Nat.zero_le _, h0⟩, ?_⟩
  rintro i m σ H ⟨rfl, hi, p⟩
  have q := hl i σ H hi p
  by_cases hlt : i < xs.length
  · refine .inr ⟨⟨xs, xs[i], q, by simp [hlt]⟩, Pv (i + 1), fun σ' H' p' => ⟨xs.length - (i + 1), by omega, rfl, hlt, p'⟩, fun x H' y => ?_⟩
    obtain ⟨T, z, rfl, nT, rfl, f⟩ := y
    have hz := f xs q
    exact hs i z T σ H hz p nT
  · exact .inl ⟨⟨xs, q, by omega⟩, by
      have : i = xs.length := by omega
      subst this
      exact hd σ H p⟩
/-- for i, x in enumerate(new list), two names -/
theorem s_forEN {xs : List V} {ta : TE} {i1 i2 : Nat} (h : EvL ta σ H xs) (Pv : Addr → Nat → L2.St → Hp → Prop) (h0 : ∀ p H1, H p = none → Ex H H1 → H1 p = some (.lst xs) → Pv p 0 σ H1) (hl : ∀ p i σ' H', i ≤ xs.length → Pv p i σ' H' → SqL K H' p xs)
    (hs : ∀ p i x σ' H' H2, xs[i]? = some x → Pv p i σ' H' → Ex H' H2 → tu { D with nx := Pv p (i + 1), ct := Pv p (i + 1), bk := D.nx } ((σ'.set i1 (some (.int (i : Nat)))).set i2 (some x)) H2) (hd : ∀ p σ' H', Pv p xs.length σ' H' → D.nx σ' H') :
    tFor (iEnum K (tCons ta tNil)) (gTup K 2 (gCons (gName i1) (gCons (gName i2) gNil))) tu D σ H :=
  h H (Ex.refl H) _ fun p H1 hp e h1 => ⟨p, xs, rfl, sq_of h1, for_enum (xs := xs) (Pv p) (h0 p H1 hp e h1) (hl p) (fun i x T σ' H' hx hp nT => ⟨T, [.int (i : Nat), x], rfl, st_of upd_same, rfl, .int (i : Nat), [x], rfl, x, [], rfl, rfl, hs p i x σ' H' _ hx hp (Ex.new nT)⟩) (hd p)⟩
theorem q_forEN {xs : List V} {ta : TE} {i1 i2 : Nat} (h : EvL ta σ H xs) (Pv : Addr → Nat → L2.St → Hp → Prop) (h0 : ∀ p H1, H p = none → Ex H H1 → H1 p = some (.lst xs) → Pv p 0 σ H1) (hl : ∀ p i σ' H', i ≤ xs.length → Pv p i σ' H' → SqL K H' p xs)
    (hs : ∀ p i x σ' H' H2, xs[i]? = some x → Pv p i σ' H' → Ex H' H2 → tu { D with nx := Pv p (i + 1), ct := Pv p (i + 1), bk := tz D } ((σ'.set i1 (some (.int (i : Nat)))).set i2 (some x)) H2) (hd : ∀ p σ' H', Pv p xs.length σ' H' → tz D σ' H') :
    tSeq (tFor (iEnum K (tCons ta tNil)) (gTup K 2 (gCons (gName i1) (gCons (gName i2) gNil))) tu) tz D σ H := s_forEN (D := { D with nx := tz D }) h Pv h0 hl hs hd
/-- for i in range(a, b, -1) -/
theorem q_forRd {j : Nat} {lo n : Int} {ta : TA} (h : EvA ta σ H [.int lo, .int n, .int (-1)]) (hn : -100000 ≤ lo ∧ lo ≤ 100000 ∧ -100000 ≤ n ∧ n ≤ 100000) (Pv : Nat → L2.St → Hp → Prop) (h0 : ∀ H1, Ex H H1 → Pv 0 σ H1)
    (hs : ∀ (i : Nat) σ' H', (i : Int) < lo - n → Pv i σ' H' → tu { D with nx := Pv (i + 1), ct := Pv (i + 1), bk := tz D } (σ'.set j (some (.int (lo - (i : Int))))) H') (hd : ∀ σ' H', Pv (lo - n).toNat σ' H' → tz D σ' H') : tSeq (tFor (iRng3 ta) (gName j) tu) tz D σ H :=
  h H (Ex.refl H) _ fun H1 e => ⟨lo, n, -1, (lo - n).toNat, rfl, RgC.neg (by omega) (by omega) (by omega) (by omega), for_rangeC (lo := lo) (c := -1) (n := (lo - n).toNat) (D := { D with nx := tz D }) Pv (h0 H1 e) (fun i σ' H' hi p => by
    have e0 : lo + (i : Int) * -1 = lo - (i : Int) := by omega
    show tu { D with nx := Pv (i + 1), ct := Pv (i + 1), bk := tz D } (σ'.set j (some (.int (lo + (i : Int) * -1)))) H'
    rw [e0]
    exact hs i σ' H' (by omega) p) hd⟩
/-- [.. for i in range(lo, n) ..] -/
theorem el_lcR2 {ta : TA} {j : Nat} {vs : List Nat} {lo n : Int} (f : Nat → Bool) (v : Nat → V) (h : EvA ta σ H [.int lo, .int n]) (hn : -100000 ≤ lo ∧ lo ≤ 100000 ∧ n - lo ≤ 40000 ∧ -100000 ≤ n ∧ n ≤ 100000) (hw : ∀ x, wipe ((wipe σ vs).set j (some x)) vs = wipe σ vs)
    (ht : ∀ (i : Nat) H1, Ex H H1 → lo + (i : Int) < n → EvT t ((wipe σ vs).set j (some (.int (lo + (i : Int))))) H1 (f i)) (he : ∀ (i : Nat) H1, Ex H H1 → lo + (i : Int) < n → f i = true → Ev te ((wipe σ vs).set j (some (.int (lo + (i : Int))))) H1 (v i)) :
    EvL (tLc (iRng2 ta) (gName j) t te vs) σ H (given (n - lo).toNat f v) := fun H0 e Q q => h H0 e _ fun H1 e1 => ⟨lo, n, rfl, ⟨by omega, by omega, by omega, by omega⟩, fun Dl hD =>
  lc_range (lo := lo) (n := (n - lo).toNat) (Cw H1 f v Dl) ⟨hD, Ex.new hD, upd_same⟩ (fun i H' hi p => ⟨hw _, cw_turn p (by omega) (ht i H1 (e.trans e1) (by omega)) (fun hf => he i H1 (e.trans e1) (by omega) hf)⟩) (fun H' p => q Dl H' (fresh_back e1 p.1) (e1.trans p.2.1) p.2.2)⟩
/-- a new list of new lists -/
def EvLL (te : TE) (σ : L2.St) (H : Hp) (xss : List (List V)) : Prop := ∀ H1, Ex H H1 → ∀ Q : VK, (∀ (p : Addr) (rs : List Addr) H2, H1 p = none → Ex H1 H2 → H2 p = some (.lst (rs.map V.ref)) → rs.length = xss.length → (∀ (i : Nat) (r : Addr) (xs : List V), rs[i]? = some r → xss[i]? = some xs → H1 r = none ∧ H2 r = some (.lst xs)) → Q (.ref p) H2) → te σ H1 Q
theorem ell_is {xs ys : List (List V)} (h : EvLL te σ H xs) (e : xs = ys) : EvLL te σ H ys := e ▸ h
def LLw (H : Hp) (xss : List (List V)) (Dl : Addr) (i : Nat) (H' : Hp) : Prop := H Dl = none ∧ Ex H H' ∧ ∃ rs : List Addr, rs.length = i ∧ H' Dl = some (.lst (rs.map V.ref)) ∧ ∀ (k : Nat) (r : Addr) (xs : List V), rs[k]? = some r → xss[k]? = some xs → H r = none ∧ H' r = some (.lst xs) ∧ r ≠ Dl
theorem llw_turn {σ2 : L2.St} {xss : List (List V)} {Dl : Addr} {i : Nat} {xs : List V} (p : LLw H xss Dl i H') (hi : i < 50000) (hx : xss[i]? = some xs) (he : EvL te σ2 H xs) :
    tYes σ2 H' fun b H3 => if b = true then te σ2 H3 fun y H4 => ∃ acc, H4 Dl = some (.lst acc) ∧ acc.length < sizeLine ∧ LLw H xss Dl (i + 1) (upd H4 Dl (.lst (acc ++ [y]))) else LLw H xss Dl (i + 1) H3 := by
  obtain ⟨p1, p2, rs, p3, p4, p5⟩ := p
  show (if true = true then _ else LLw H xss Dl (i + 1) H')
  rw [if_pos rfl]
  refine (he H' p2 _ fun q H4 hq e4 h4 => ⟨rs.map V.ref, e4 _ _ p4, by rw [List.length_map]; exact sz_lt (by omega), p1, Ex.mut (p2.trans e4) p1, rs ++ [q], by rw [List.length_append, p3]; rfl, ?_, fun k r xs' hk hxk => ?_⟩)
  · rw [upd_same, List.map_append]
    rfl
  · by_cases hkr : k < rs.length
    · rw [List.getElem?_append_left hkr] at hk
      obtain ⟨a1, a2, a3⟩ := p5 k r xs' hk hxk
      exact ⟨a1, by rw [upd_ne a3]; exact e4 _ _ a2, a3⟩
    · rw [List.getElem?_append_right (by omega)] at hk
      have hk0 : k - rs.length = 0 := by
        have := (List.getElem?_eq_some_iff.mp hk).1
        rw [List.length_singleton] at this
        omega
      rw [hk0] at hk
      cases (Option.some.inj hk : q = r)
      have hki : k = i := by omega
      subst hki
      cases (Option.some.inj (hx.symm.trans hxk) : xs = xs')
      have hqD : q ≠ Dl := fun z => by
        subst z
        rw [hq] at p4
        cases p4
      exact ⟨fresh_back p2 hq, by rw [upd_ne hqD]; exact h4, hqD⟩
theorem ell_lcR1 {ta : TA} {j : Nat} {vs : List Nat} {n : Nat} {xss : List (List V)} (h : EvA ta σ H [.int (n : Int)]) (hn : n ≤ 40000) (hl : xss.length = n) (hw : ∀ x, wipe ((wipe σ vs).set j (some x)) vs = wipe σ vs)
    (he : ∀ (i : Nat) (xs : List V) H1, Ex H H1 → i < n → xss[i]? = some xs → EvL te ((wipe σ vs).set j (some (.int (i : Int)))) H1 xs) :
    EvLL (tLc (iRng1 ta) (gName j) tYes te vs) σ H xss := fun H0 e Q q => h H0 e _ fun H1 e1 => ⟨(n : Int), rfl, by omega, by omega, fun Dl hD => by
  rw [Int.toNat_natCast]
  refine lc_range (lo := 0) (n := n) (LLw H1 xss Dl) ⟨hD, Ex.new hD, [], rfl, upd_same, fun k r xs hk => by simp at hk⟩ (fun i H' hi p => ?_) (fun H' p => ?_)
  · have e0 : (0 : Int) + (i : Int) = (i : Int) := Int.zero_add _
    show wipe ((wipe σ vs).set j (some (.int ((0 : Int) + (i : Int))))) vs = wipe σ vs ∧ tYes ((wipe σ vs).set j (some (.int ((0 : Int) + (i : Int))))) H' fun b H3 => if b = true then te ((wipe σ vs).set j (some (.int ((0 : Int) + (i : Int))))) H3 fun y H4 => ∃ acc, H4 Dl = some (.lst acc) ∧ acc.length < sizeLine ∧ LLw H1 xss Dl (i + 1) (upd H4 Dl (.lst (acc ++ [y]))) else LLw H1 xss Dl (i + 1) H3
    rw [e0]
    have hx : xss[i]? = some xss[i] := List.getElem?_eq_getElem (by omega)
    exact ⟨hw _, llw_turn p (by omega) hx (he i _ H1 (e.trans e1) hi hx)⟩
  · obtain ⟨p1, p2, rs, p3, p4, p5⟩ := p
    exact q Dl rs H' (fresh_back e1 p1) (e1.trans p2) p4 (by omega) fun i r xs hr hx => ⟨fresh_back e1 (p5 i r xs hr hx).1, (p5 i r xs hr hx).2.1⟩⟩
/-- list(range(lo, n)) -/
theorem el_listR1 {n : Nat} (h : Ev ta σ H (.int (n : Int))) (hn : n ≤ 100000) : EvL (tLstRg (tRg1 ta)) σ H (rgV 0 (n : Int)) := fun H1 e Q q =>
  h H1 e _ fun H2 e2 => ⟨(n : Int), rfl, RgOk.of_le (by omega) (by omega) (by omega) (by omega), fun l hl => q l _ (fresh_back e2 hl) (e2.trans (Ex.new hl)) upd_same⟩
theorem el_listR2 {lo n : Nat} (h : Ev ta σ H (.int (lo : Int))) (h2 : Ev tb σ H (.int (n : Int))) (hn : n ≤ 100000) (hlo : lo ≤ 100000) : EvL (tLstRg (tRg2 ta tb)) σ H (rgV (lo : Int) (n : Int)) := fun H1 e Q q =>
  h H1 e _ fun H2 e2 => h2 H2 (e.trans e2) _ fun H3 e3 => ⟨(lo : Int), (n : Int), rfl, rfl, RgOk.of_le (by omega) (by omega) (by omega) (by omega), fun l hl => q l _ (fresh_back (e2.trans e3) hl) ((e2.trans e3).trans (Ex.new hl)) upd_same⟩
/-- sorted(..) of a list whose order is known -/
theorem el_sorted {a : Addr} {ns ts : List Int} (h : Ev ta σ H (.ref a)) (hx : SqL K H a (ns.map V.int)) (hp : ts.Perm ns) (hs : ts.Pairwise (· ≤ ·)) : EvL (tCB (rSortedI K) (tCons ta tNil)) σ H (ts.map V.int) := fun H1 e Q q =>
  h H1 e _ fun H2 e2 => ⟨a, ns, rfl, ex_l (e.trans e2) hx, fun ns' p p1 p2 hp' => by
    have : ns' = ts := PySem.W.ksm_same (p1.trans hp.symm) p2 hs
    subst this
    exact q p _ (fresh_back e2 hp') (e2.trans (Ex.new hp')) upd_same⟩
/-- what isinstance(.., int) and the rest of is_integer say of a value -/
inductive IntB (K : PySem.W.Frag) (H : Hp) : V → Bool → Prop
  | int (i : Int) : IntB K H (.int i) (decide (i.natAbs < 10 ^ 60))
  | bl (b : Bool) : IntB K H (.bl b) false
  | other {v : V} (n : String) (h : TyX K H v (.type n)) (hk : PySem.W.kitOne K (.type n) (.type "int") = some false) : IntB K H v false
theorem IntB.ex {v : V} {b : Bool} (e : Ex H H') (h : IntB K H v b) : IntB K H' v b := by
  cases h with
  | int i => exact .int i
  | bl b => exact .bl b
  | other n h hk => exact .other n (tyx_ex e h) hk
end
end Own
/-! own words that the laws share -/
namespace Own
open PySem PySem.Spec PyProof.Rows L2 Evl
theorem mapN (xs : List Nat) : xs.map N_ = (xs.map Int.ofNat).map V.int := by
  rw [List.map_map]
  rfl
theorem sumN : ∀ (xs : List Nat), (xs.map Int.ofNat).sum = ((xs.sum : Nat) : Int)
  | [] => rfl
  | x :: r => by
    rw [List.map_cons, List.sum_cons, List.sum_cons, sumN r]
    show (x : Int) + _ = _
    omega
theorem divW {x : Nat} {b : Nat} (h0 : 0 < b) (hb : b ≤ 1000) : CDivW (x : Int) (b : Int) := wide_div (b := 10) (by omega) (by show (Int.natAbs (b : Int)) < 1024; omega) (by decide) (by decide)
theorem int_div (x b : Nat) : (x : Int) / (b : Int) = ((x / b : Nat) : Int) := rfl
theorem int_mod (x b : Nat) : (x : Int) % (b : Int) = ((x % b : Nat) : Int) := rfl
def Bs (b : Nat) : Prop := 2 ≤ b ∧ b ≤ 1000
abbrev Gt (n : Nat) : Prop := n < 2 ^ 400
theorem dec_int {x y : Nat} : decide (V.int (x : Int) = V.int (y : Int)) = decide (x = y) := by
  by_cases h : x = y
  · subst h
    rw [decide_eq_true rfl, decide_eq_true rfl]
  · rw [decide_eq_false h, decide_eq_false (fun z => h (by have := V.int.inj z; omega))]
theorem minmax (M : Nat) (hM : 1 ≤ M ∧ M ≤ 60) (L : Nat) : ∃ n : Nat, n ≤ 100 ∧ (if (if (L : Int) < (M : Int) then (L : Int) else (M : Int)) > 1 then (if (L : Int) < (M : Int) then (L : Int) else (M : Int)) else 1) = (n : Int) := by
  have hz : ∀ z : Int, 0 ≤ z → z ≤ 60 → ∃ n : Nat, n ≤ 100 ∧ (if z > 1 then z else 1) = (n : Int) := fun z h0 h6 => by
    by_cases h : z > 1
    · exact ⟨z.toNat, by omega, by rw [if_pos h]; omega⟩
    · exact ⟨1, by omega, by rw [if_neg h]; rfl⟩
  refine hz _ ?_ ?_
  · split <;> omega
  · split <;> omega
theorem exd_lf {K : PySem.W.Frag} {H H' : Hp} {p a : Addr} {xs : List V} (n : H p = none) (e : Exd p H H') (h : SqL K H a xs) : SqL K H' a xs := by
  rcases h with (h | ⟨o, h⟩) | h
  · exact .inl (.inl (e a _ (ne_of_none h n) h))
  · exact .inl (.inr ⟨o, e a _ (ne_of_none h n) h⟩)
  · exact .inr h
theorem rep_zero (c : Nat) : (List.replicate c [V.int 0]).flatten = (List.replicate c 0).map N_ := by
  induction c with
  | zero => rfl
  | succ c ih =>
    rw [List.replicate_succ, List.flatten_cons, ih, List.replicate_succ, List.map_cons]
    rfl
theorem od_drop {b : Nat} {xs : List Nat} {i d : Nat} (hi : i < xs.length) (hd : xs.reverse[i]? = some d) : od b (xs.drop (xs.length - (i + 1))) = d + b * od b (xs.drop (xs.length - i)) := by
  have h1 : xs.reverse[i]? = xs[xs.length - 1 - i]? := List.getElem?_reverse hi
  rw [h1] at hd
  have h2 : xs.length - (i + 1) = xs.length - 1 - i := by omega
  have h3 : xs.length - 1 - i < xs.length := by omega
  rw [h2, List.drop_eq_getElem_cons h3, od]
  rw [List.getElem?_eq_getElem h3] at hd
  rw [Option.some.inj hd, show xs.length - 1 - i + 1 = xs.length - i by omega]
theorem cutTake (xs : List V) (f : Nat) : cutV xs none (some (f : Int)) = xs.take f := by
  unfold cutV
  rw [HT.sIx_none, show HT.sIx xs.length xs.length (some (f : Int)) = min f xs.length from HT.sIx_nat xs.length xs.length f, List.drop_zero, Nat.sub_zero]
  by_cases h : f ≤ xs.length
  · rw [Nat.min_eq_left h]
  · rw [Nat.min_eq_right (by omega), List.take_length, List.take_of_length_le (by omega)]
section
variable {K : PySem.W.Frag} {σ : L2.St} {H H' : Hp} {ta tb te : TE}
theorem el_revN {xs : List V} (h : EvL ta σ H xs) : EvL (tRevL K ta) σ H xs.reverse := fun H1 e Q q =>
  h H1 e _ fun a H2 na e2 h2 => ⟨a, xs, rfl, sq_of h2, fun l hl => q l _ (fresh_back e2 hl) (e2.trans (Ex.new hl)) upd_same⟩
end
theorem small_k {n : Nat} (h : n ≤ 1000) : n < 2 ^ 1000 := Nat.lt_of_le_of_lt h (Nat.lt_of_lt_of_le (show 1000 < 2 ^ 10 by decide) (Nat.pow_le_pow_right (by decide) (by decide : 10 ≤ 1000)))
end Own
/-! mathematics of digits, more: no carries by rests, blocks of digits, shifts; core Lean alone -/
namespace Own
/-- numbers without carries in base b -/
def CF (b : Nat) (xs : List Nat) : Prop := (xs.map (ds b)).sum = ds b xs.sum
def rsum (m : Nat) (xs : List Nat) : Nat := (xs.map (· % m)).sum
theorem mod_split {b : Nat} (hb : 1 < b) (x i : Nat) : x % b ^ (i + 1) = x % b + b * ((x / b) % b ^ i) := by
  rw [Nat.pow_succ, Nat.mul_comm, Nat.mod_mul]
theorem rsum_split {b : Nat} (hb : 1 < b) (i : Nat) : ∀ xs : List Nat, rsum (b ^ (i + 1)) xs = rsum b xs + b * rsum (b ^ i) (xs.map (· / b))
  | [] => rfl
  | x :: r => by
    have ih := rsum_split hb i r
    unfold rsum at ih ⊢
    simp only [List.map_cons, List.sum_cons]
    rw [ih, mod_split hb x i, Nat.mul_add]
    omega
theorem rsum_one (xs : List Nat) : rsum 1 xs = 0 := by
  unfold rsum
  induction xs with
  | nil => rfl
  | cons a r ih => rw [List.map_cons, List.sum_cons, ih, Nat.mod_one]
theorem sum_div_le {b : Nat} (hb : 1 < b) (xs : List Nat) : 2 * (xs.map (· / b)).sum ≤ xs.sum := by
  have h := sum_split hb xs
  have : 2 * (xs.map (· / b)).sum ≤ b * (xs.map (· / b)).sum := Nat.mul_le_mul_right _ hb
  omega
theorem rsum_zero {m : Nat} : ∀ xs : List Nat, xs.sum = 0 → rsum m xs = 0
  | [], _ => rfl
  | x :: r, h => by
    rw [List.sum_cons] at h
    have hx : x = 0 := by omega
    have := rsum_zero (m := m) r (by omega)
    unfold rsum at this ⊢
    rw [List.map_cons, List.sum_cons, this, hx, Nat.zero_mod]
theorem nc_rsum {b : Nat} (hb : 1 < b) : ∀ (n : Nat) (xs : List Nat), xs.sum ≤ n → (nc b n xs = true ↔ ∀ i, rsum (b ^ i) xs < b ^ i)
  | 0, xs, h => by
    refine ⟨fun _ i => ?_, fun _ => rfl⟩
    rw [rsum_zero xs (by omega)]
    exact Nat.pow_pos (by omega)
  | n + 1, xs, h => by
    have hq : (xs.map (· / b)).sum ≤ n := by
      have := sum_div_le hb xs
      omega
    have ih := nc_rsum hb n (xs.map (· / b)) hq
    unfold nc
    rw [Bool.and_eq_true, decide_eq_true_eq, ih]
    constructor
    · intro ⟨h1, h2⟩ i
      cases i with
      | zero =>
        rw [Nat.pow_zero, rsum_one]
        exact Nat.zero_lt_one
      | succ i =>
        rw [rsum_split hb i xs, Nat.pow_succ]
        have h3 := h2 i
        have h4 : b * (rsum (b ^ i) (xs.map (· / b)) + 1) ≤ b * b ^ i := Nat.mul_le_mul_left b h3
        have h5 : rsum b xs < b := h1
        rw [Nat.mul_add] at h4
        rw [Nat.mul_comm (b ^ i) b]
        omega
    · intro h2
      refine ⟨?_, fun i => ?_⟩
      · have := h2 1
        rw [Nat.pow_one] at this
        exact this
      · have h3 := h2 (i + 1)
        rw [rsum_split hb i xs, Nat.pow_succ, Nat.mul_comm (b ^ i) b] at h3
        exact Nat.lt_of_mul_lt_mul_left (show b * rsum (b ^ i) (xs.map (· / b)) < b * b ^ i by omega)
/-- no carries: the rests modulo each power of the base add up to less than this power -/
theorem cf_rsum {b : Nat} (hb : 1 < b) (xs : List Nat) : CF b xs ↔ ∀ i, rsum (b ^ i) xs < b ^ i := (nc_iff hb xs.sum xs (Nat.le_refl _)).symm.trans (nc_rsum hb xs.sum xs (Nat.le_refl _))
/-- blocks of f digits -/
theorem cf_block {p f : Nat} (hp : 1 < p) (hf : 1 ≤ f) {xs : List Nat} (h : CF p xs) : CF (p ^ f) xs := by
  have hq : 1 < p ^ f := Nat.lt_of_lt_of_le hp (by
    have := Nat.pow_le_pow_right (show 0 < p by omega) hf
    rwa [Nat.pow_one] at this)
  refine (cf_rsum hq xs).mpr fun i => ?_
  rw [← Nat.pow_mul]
  exact (cf_rsum hp xs).mp h (f * i)
theorem ds_mulb {b : Nat} (hb : 1 < b) (x : Nat) : ds b (b * x) = ds b x := by
  rw [ds_eq hb (b * x), Nat.mul_mod_right, Nat.mul_div_cancel_left _ (by omega), Nat.zero_add]
theorem ds_mulp {b : Nat} (hb : 1 < b) (x : Nat) : ∀ j, ds b (b ^ j * x) = ds b x
  | 0 => by rw [Nat.pow_zero, Nat.one_mul]
  | j + 1 => by rw [Nat.pow_succ, Nat.mul_comm (b ^ j) b, Nat.mul_assoc, ds_mulb hb, ds_mulp hb x j]
theorem sum_mul (c : Nat) : ∀ xs : List Nat, (xs.map (c * ·)).sum = c * xs.sum
  | [] => rfl
  | x :: r => by rw [List.map_cons, List.sum_cons, List.sum_cons, sum_mul c r, Nat.mul_add]
theorem cf_shift {p : Nat} (hp : 1 < p) (j : Nat) {xs : List Nat} (h : CF p xs) : CF p (xs.map (p ^ j * ·)) := by
  unfold CF at h ⊢
  rw [sum_mul, ds_mulp hp, ← h, List.map_map]
  exact congrArg List.sum (List.map_congr_left fun x _ => ds_mulp hp x j)
/-- shift sums add up -/
theorem ss_add {p f : Nat} (hp : 1 < p) (hf : 1 ≤ f) (j : Nat) {xs : List Nat} (h : CF p xs) : (xs.map fun x => ds (p ^ f) (p ^ j * x)).sum = ds (p ^ f) (p ^ j * xs.sum) := by
  have h1 := cf_block hp hf (cf_shift hp j h)
  unfold CF at h1
  rw [sum_mul, List.map_map] at h1
  exact h1
/-- a sum of digits and its number leave equal rests -/
theorem ds_mod {b : Nat} (hb : 1 < b) (n : Nat) : ds b n % (b - 1) = n % (b - 1) := by
  induction n using Nat.strongRecOn with
  | ind n ih =>
    by_cases hn : 0 < n
    · have h1 := ih _ (Nat.div_lt_self hn hb)
      rw [ds_eq hb n, Nat.add_mod, h1, ← Nat.add_mod]
      have e : n = n % b + n / b + (b - 1) * (n / b) := by
        have h2 := Nat.mod_add_div n b
        have h3 : b * (n / b) = (b - 1) * (n / b) + n / b := by
          have : b = (b - 1) + 1 := by omega
          rw [this, Nat.add_mul, Nat.one_mul, Nat.add_sub_cancel]
        omega
      have h4 : (n % b + n / b + (b - 1) * (n / b)) % (b - 1) = (n % b + n / b) % (b - 1) := Nat.add_mul_mod_self_left _ _ _
      rw [← e] at h4
      exact h4.symm
    · have : n = 0 := by omega
      subst this
      rw [ds_zero]
theorem ds_ne {b : Nat} (hb : 1 < b) {n : Nat} (hn : 0 < n) : 0 < ds b n := by
  induction n using Nat.strongRecOn with
  | ind n ih =>
    rw [ds_eq hb n]
    by_cases h : n % b = 0
    · have h1 := Nat.mod_add_div n b
      have h2 : 0 < n / b := by
        rcases Nat.eq_zero_or_pos (n / b) with h0 | h0
        · rw [h0, h] at h1
          omega
        · exact h0
      have := ih _ (Nat.div_lt_self hn hb) h2
      omega
    · omega
/-- a multiple of b - 1 above 0 has a sum of digits of at least b - 1 -/
theorem ds_ge {b : Nat} (hb : 1 < b) {n : Nat} (hn : 0 < n) (h : n % (b - 1) = 0) : b - 1 ≤ ds b n := by
  have h1 := ds_mod hb n
  rw [h] at h1
  have h2 := ds_ne hb hn
  exact Nat.le_of_dvd h2 (Nat.dvd_of_mod_eq_zero h1)
/-- rows of digits -/
theorem ds_od {b : Nat} (hb : 1 < b) : ∀ es : List Nat, (∀ e ∈ es, e < b) → ds b (od b es) = es.sum
  | [], _ => ds_zero b
  | e :: r, h => by
    have he := h e (List.mem_cons_self ..)
    rw [od, ds_eq hb, Nat.add_mul_mod_self_left, Nat.mod_eq_of_lt he, Nat.add_mul_div_left _ _ (by omega), Nat.div_eq_of_lt he, Nat.zero_add, ds_od hb r fun x hx => h x (List.mem_cons_of_mem _ hx), List.sum_cons]
/-- a row within another one, place by place -/
inductive Le2 : List Nat → List Nat → Prop
  | nil : Le2 [] []
  | cons {e d : Nat} {es ds_ : List Nat} (h : e ≤ d) (r : Le2 es ds_) : Le2 (e :: es) (d :: ds_)
theorem Le2.snoc {e d : Nat} : ∀ {es xs : List Nat}, Le2 es xs → e ≤ d → Le2 (es ++ [e]) (xs ++ [d])
  | _, _, .nil, h => .cons h .nil
  | _, _, .cons h1 r, h => .cons h1 (r.snoc h)
theorem le2_parts {b : Nat} (hb : 1 < b) : ∀ {es xs : List Nat}, Le2 es xs → (∀ d ∈ xs, d < b) → od b es ≤ od b xs ∧ ds b (od b es) + ds b (od b xs - od b es) = ds b (od b xs)
  | _, _, .nil, _ => ⟨Nat.le_refl _, by rw [show od b [] = 0 from rfl, Nat.sub_zero, ds_zero]⟩
  | e :: es, d :: xs, .cons h r, hx => by
    have hd := hx d (List.mem_cons_self ..)
    obtain ⟨h1, h2⟩ := le2_parts hb r fun z hz => hx z (List.mem_cons_of_mem _ hz)
    have h3 : b * od b es ≤ b * od b xs := Nat.mul_le_mul_left b h1
    refine ⟨by rw [od, od]; omega, ?_⟩
    have e1 : od b (d :: xs) - od b (e :: es) = (d - e) + b * (od b xs - od b es) := by
      rw [od, od, Nat.mul_sub]
      omega
    rw [e1, od, od]
    have step : ∀ (u v : Nat), u < b → ds b (u + b * v) = u + ds b v := fun u v hu => by
      rw [ds_eq hb, Nat.add_mul_mod_self_left, Nat.mod_eq_of_lt hu, Nat.add_mul_div_left _ _ (by omega), Nat.div_eq_of_lt hu, Nat.zero_add]
    rw [step e _ (by omega), step (d - e) _ (by omega), step d _ hd]
    omega
/-- the last one of numbers without carries may be parted once more -/
theorem cf_part {b : Nat} (hb : 1 < b) {xs : List Nat} {y z : Nat} (h : CF b (xs ++ [y])) (hz : z ≤ y) (hd : ds b z + ds b (y - z) = ds b y) : CF b (xs ++ [z] ++ [y - z]) := by
  unfold CF at h ⊢
  simp only [List.map_append, List.sum_append, List.map_cons, List.map_nil, List.sum_cons, List.sum_nil, Nat.add_zero] at h ⊢
  rw [show xs.sum + z + (y - z) = xs.sum + y by omega]
  omega
theorem cf_single (b x : Nat) : CF b [x] := by
  unfold CF
  simp
end Own
/-! keys of dicts; lists of small numbers without doubles -/
namespace Own
open PySem PySem.Spec PyProof.Rows L2 Evl
theorem nodup_len : ∀ (n : Nat) (xs : List Nat), xs.Nodup → (∀ x ∈ xs, x < n) → xs.length ≤ n
  | 0, [], _, _ => Nat.le_refl _
  | 0, x :: r, _, h => absurd (h x (List.mem_cons_self ..)) (Nat.not_lt_zero _)
  | n + 1, xs, hn, h => by
    by_cases hm : n ∈ xs
    · have h1 := nodup_len n (xs.erase n) (hn.erase n) fun x hx => by
        have h2 := (hn.mem_erase_iff).mp hx
        have := h x h2.2
        have := h2.1
        omega
      rw [List.length_erase_of_mem hm] at h1
      omega
    · exact Nat.le_succ_of_le (nodup_len n xs hn fun x hx => by
        have h1 := h x hx
        have : x ≠ n := fun z => hm (z ▸ hx)
        omega)
def KI (kvs : List (Key × V)) (js : List Nat) : Prop := kvs.map (·.1) = js.map (fun j : Nat => (Sum.inl (j : Int) : Key)) ∧ js.Nodup
theorem ki_put {kvs : List (Key × V)} {js : List Nat} (h : KI kvs js) (j : Nat) (v : V) : ∃ js', KI (putK kvs (Sum.inl (j : Int)) v) js' ∧ ∀ x, x ∈ js' ↔ x ∈ js ∨ x = j := by
  obtain ⟨h1, h2⟩ := h
  unfold putK
  by_cases hm : j ∈ js
  · have ha : (kvs.any fun kv => decide (kv.1 = Sum.inl (j : Int))) = true := by
      have : (Sum.inl (j : Int) : Key) ∈ kvs.map (·.1) := by rw [h1]; exact List.mem_map.mpr ⟨j, hm, rfl⟩
      obtain ⟨kv, hk, e⟩ := List.mem_map.mp this
      exact List.any_eq_true.mpr ⟨kv, hk, decide_eq_true e⟩
    rw [if_pos ha]
    refine ⟨js, ⟨?_, h2⟩, fun x => ⟨.inl, fun z => z.elim id fun e => e ▸ hm⟩⟩
    rw [← h1, List.map_map]
    refine List.map_congr_left fun kv _ => ?_
    show (if kv.1 = _ then (kv.1, v) else kv).1 = kv.1
    split <;> rfl
  · have ha : ¬ (kvs.any fun kv => decide (kv.1 = Sum.inl (j : Int))) = true := fun z => by
      obtain ⟨kv, hk, e⟩ := List.any_eq_true.mp z
      have e := of_decide_eq_true e
      have : (Sum.inl (j : Int) : Key) ∈ js.map (fun j : Nat => (Sum.inl (j : Int) : Key)) := by rw [← h1]; exact List.mem_map.mpr ⟨kv, hk, e⟩
      obtain ⟨x, hx, e2⟩ := List.mem_map.mp this
      have e3 := Int.ofNat.inj (Sum.inl.inj e2)
      exact hm (e3 ▸ hx)
    rw [if_neg ha]
    refine ⟨js ++ [j], ⟨by rw [List.map_append, List.map_append, h1]; rfl, ?_⟩, fun x => by simp⟩
    rw [List.nodup_append]
    refine ⟨h2, by simp, fun x hx y hy z => ?_⟩
    rw [List.mem_singleton.mp hy] at z
    exact hm (z ▸ hx)
end Own
namespace Own
open PySem PySem.Spec PyProof.Rows L2 Evl

def topS (i : Nat) : Stmt := PySem.Challenge.pw_monicsums_k10_whole_shifts_and_most_part.main.body.getD i (.Pass ⟨0, 0, 0, 0⟩)
abbrev s_digit_row : Stmt := topS 3
abbrev s_digit_total : Stmt := topS 4
abbrev s_are_carry_free : Stmt := topS 5
abbrev s_shift_sum_list : Stmt := topS 6
abbrev s_parts_bound : Stmt := topS 7
abbrev s_is_integer : Stmt := topS 15
abbrev s_is_from : Stmt := topS 16
abbrev s_is_between : Stmt := topS 17
abbrev s_check_from : Stmt := topS 18
abbrev s_check_between : Stmt := topS 19
abbrev s_is_field : Stmt := topS 22
abbrev s_check_field : Stmt := topS 23
abbrev s_check_base : Stmt := topS 26
abbrev s_check_numbers : Stmt := topS 27
abbrev s_digit_sum : Stmt := topS 28
abbrev s_has_no_carries : Stmt := topS 29
abbrev s_shift_sums : Stmt := topS 30
abbrev s_most_parts : Stmt := topS 31
abbrev s__law_dice : Stmt := topS 33
abbrev s__law_roll : Stmt := topS 34
abbrev s__law_one_of : Stmt := topS 35
abbrev s__law_raised : Stmt := topS 36
abbrev s__law_digits : Stmt := topS 37
abbrev s__law_element_product : Stmt := topS 38
abbrev s__law_element_sum : Stmt := topS 39
abbrev s__law_field : Stmt := topS 40
abbrev s__law_q : Stmt := topS 41
abbrev s__law_size : Stmt := topS 42
abbrev s__law_digit_sum : Stmt := topS 43
abbrev s__law_within : Stmt := topS 44
abbrev s__law_small_k : Stmt := topS 45
abbrev s__law_great_k : Stmt := topS 46
abbrev s__law_own_shifts : Stmt := topS 47
abbrev s__law_most_by_ways : Stmt := topS 48
abbrev s__law_parts_of : Stmt := topS 49
abbrev s__law_right : Stmt := topS 50
abbrev s_law : Stmt := topS 51
theorem sc_digit_row : FnScope ["b", "k", "row", "left"] ["b", "k"] (defScope s_digit_row) := ⟨rfl, rfl, rfl, by decide +kernel, rfl, by decide +kernel, by decide +kernel⟩
theorem sc_digit_total : FnScope ["b", "k"] ["b", "k"] (defScope s_digit_total) := ⟨rfl, rfl, rfl, by decide +kernel, rfl, by decide +kernel, by decide +kernel⟩
theorem sc_are_carry_free : FnScope ["b", "numbers", "number"] ["b", "numbers"] (defScope s_are_carry_free) := ⟨rfl, rfl, rfl, by decide +kernel, rfl, by decide +kernel, by decide +kernel⟩
theorem sc_shift_sum_list : FnScope ["q", "k", "j"] ["q", "k"] (defScope s_shift_sum_list) := ⟨rfl, rfl, rfl, by decide +kernel, rfl, by decide +kernel, by decide +kernel⟩
theorem sc_parts_bound : FnScope ["q", "k"] ["q", "k"] (defScope s_parts_bound) := ⟨rfl, rfl, rfl, by decide +kernel, rfl, by decide +kernel, by decide +kernel⟩
theorem sc_is_integer : FnScope ["value"] ["value"] (defScope s_is_integer) := ⟨rfl, rfl, rfl, by decide +kernel, rfl, by decide +kernel, by decide +kernel⟩
theorem sc_is_from : FnScope ["value", "low"] ["value", "low"] (defScope s_is_from) := ⟨rfl, rfl, rfl, by decide +kernel, rfl, by decide +kernel, by decide +kernel⟩
theorem sc_is_between : FnScope ["value", "low", "high"] ["value", "low", "high"] (defScope s_is_between) := ⟨rfl, rfl, rfl, by decide +kernel, rfl, by decide +kernel, by decide +kernel⟩
theorem sc_check_from : FnScope ["value", "low"] ["value", "low"] (defScope s_check_from) := ⟨rfl, rfl, rfl, by decide +kernel, rfl, by decide +kernel, by decide +kernel⟩
theorem sc_check_between : FnScope ["value", "low", "high"] ["value", "low", "high"] (defScope s_check_between) := ⟨rfl, rfl, rfl, by decide +kernel, rfl, by decide +kernel, by decide +kernel⟩
theorem sc_is_field : FnScope ["value"] ["value"] (defScope s_is_field) := ⟨rfl, rfl, rfl, by decide +kernel, rfl, by decide +kernel, by decide +kernel⟩
theorem sc_check_field : FnScope ["q"] ["q"] (defScope s_check_field) := ⟨rfl, rfl, rfl, by decide +kernel, rfl, by decide +kernel, by decide +kernel⟩
theorem sc_check_base : FnScope ["b"] ["b"] (defScope s_check_base) := ⟨rfl, rfl, rfl, by decide +kernel, rfl, by decide +kernel, by decide +kernel⟩
theorem sc_check_numbers : FnScope ["numbers", "number"] ["numbers"] (defScope s_check_numbers) := ⟨rfl, rfl, rfl, by decide +kernel, rfl, by decide +kernel, by decide +kernel⟩
theorem sc_digit_sum : FnScope ["b", "k"] ["b", "k"] (defScope s_digit_sum) := ⟨rfl, rfl, rfl, by decide +kernel, rfl, by decide +kernel, by decide +kernel⟩
theorem sc_has_no_carries : FnScope ["b", "numbers"] ["b", "numbers"] (defScope s_has_no_carries) := ⟨rfl, rfl, rfl, by decide +kernel, rfl, by decide +kernel, by decide +kernel⟩
theorem sc_shift_sums : FnScope ["q", "k"] ["q", "k"] (defScope s_shift_sums) := ⟨rfl, rfl, rfl, by decide +kernel, rfl, by decide +kernel, by decide +kernel⟩
theorem sc_most_parts : FnScope ["q", "k"] ["q", "k"] (defScope s_most_parts) := ⟨rfl, rfl, rfl, by decide +kernel, rfl, by decide +kernel, by decide +kernel⟩
theorem sc__law_dice : FnScope ["_law_script", "_law_at", "_law_cell", "_law_great", "_law_left", "_law_mixed"] ["_law_script", "_law_at"] (defScope s__law_dice) := ⟨rfl, rfl, rfl, by decide +kernel, rfl, by decide +kernel, by decide +kernel⟩
theorem sc__law_roll : FnScope ["_law_dice_here", "_law_total", "_law_size_here", "_law_drawn", "_law_one", "_law_two"] ["_law_dice_here", "_law_total"] (defScope s__law_roll) := ⟨rfl, rfl, rfl, by decide +kernel, rfl, by decide +kernel, by decide +kernel⟩
theorem sc__law_one_of : FnScope ["_law_dice_here", "_law_items"] ["_law_dice_here", "_law_items"] (defScope s__law_one_of) := ⟨rfl, rfl, rfl, by decide +kernel, rfl, by decide +kernel, by decide +kernel⟩
theorem sc__law_raised : FnScope ["_law_base", "_law_count", "_law_found", "_law_turn"] ["_law_base", "_law_count"] (defScope s__law_raised) := ⟨rfl, rfl, rfl, by decide +kernel, rfl, by decide +kernel, by decide +kernel⟩
theorem sc__law_digits : FnScope ["_law_base", "_law_number", "_law_found", "_law_left"] ["_law_base", "_law_number"] (defScope s__law_digits) := ⟨rfl, rfl, rfl, by decide +kernel, rfl, by decide +kernel, by decide +kernel⟩
theorem sc__law_element_product : FnScope ["_law_p", "_law_f", "_law_one", "_law_other", "_law_found", "_law_i", "_law_left", "_law_j", "_law_right_here", "_law_value", "_law_digit"] ["_law_p", "_law_f", "_law_one", "_law_other"] (defScope s__law_element_product) := ⟨rfl, rfl, rfl, by decide +kernel, rfl, by decide +kernel, by decide +kernel⟩
theorem sc__law_element_sum : FnScope ["_law_p", "_law_f", "_law_one", "_law_other", "_law_found", "_law_place", "_law_turn"] ["_law_p", "_law_f", "_law_one", "_law_other"] (defScope s__law_element_sum) := ⟨rfl, rfl, rfl, by decide +kernel, rfl, by decide +kernel, by decide +kernel⟩
theorem sc__law_field : FnScope ["_law_q_here", "_law_p", "_law_f", "_law_plus", "_law_other", "_law_one", "_law_mul", "_law_row"] ["_law_q_here"] (defScope s__law_field) := ⟨rfl, rfl, rfl, by decide +kernel, rfl, by decide +kernel, by decide +kernel⟩
theorem sc__law_q : FnScope ["_law_dice_here"] ["_law_dice_here"] (defScope s__law_q) := ⟨rfl, rfl, rfl, by decide +kernel, rfl, by decide +kernel, by decide +kernel⟩
theorem sc__law_size : FnScope ["_law_q_here", "_law_most", "_law_d"] ["_law_q_here", "_law_most"] (defScope s__law_size) := ⟨rfl, rfl, rfl, by decide +kernel, rfl, by decide +kernel, by decide +kernel⟩
theorem sc__law_digit_sum : FnScope ["_law_base", "_law_number"] ["_law_base", "_law_number"] (defScope s__law_digit_sum) := ⟨rfl, rfl, rfl, by decide +kernel, rfl, by decide +kernel, by decide +kernel⟩
theorem sc__law_within : FnScope ["_law_p", "_law_k", "_law_found", "_law_place", "_law_digit", "_law_longer", "_law_more", "_law_one"] ["_law_p", "_law_k"] (defScope s__law_within) := ⟨rfl, rfl, rfl, by decide +kernel, rfl, by decide +kernel, by decide +kernel⟩
theorem sc__law_small_k : FnScope ["_law_dice_here", "_law_q_here", "_law_most", "_law_way", "_law_found", "_law_turn"] ["_law_dice_here", "_law_q_here", "_law_most"] (defScope s__law_small_k) := ⟨rfl, rfl, rfl, by decide +kernel, rfl, by decide +kernel, by decide +kernel⟩
theorem sc__law_great_k : FnScope ["_law_dice_here", "_law_field_here", "_law_p", "_law_found", "_law_size_here", "_law_thin", "_law_place", "_law_digit"] ["_law_dice_here", "_law_field_here"] (defScope s__law_great_k) := ⟨rfl, rfl, rfl, by decide +kernel, rfl, by decide +kernel, by decide +kernel⟩
theorem sc__law_own_shifts : FnScope ["_law_field_here", "_law_k", "_law_j"] ["_law_field_here", "_law_k"] (defScope s__law_own_shifts) := ⟨rfl, rfl, rfl, by decide +kernel, rfl, by decide +kernel, by decide +kernel⟩
theorem sc__law_most_by_ways : FnScope ["_law_field_here", "_law_k", "_law_found", "_law_here", "_law_later", "_law_left", "_law_one"] ["_law_field_here", "_law_k"] (defScope s__law_most_by_ways) := ⟨rfl, rfl, rfl, by decide +kernel, rfl, by decide +kernel, by decide +kernel⟩
theorem sc__law_parts_of : FnScope ["_law_dice_here", "_law_p", "_law_k", "_law_found", "_law_left", "_law_turn", "_law_one", "_law_weight", "_law_digit"] ["_law_dice_here", "_law_p", "_law_k"] (defScope s__law_parts_of) := ⟨rfl, rfl, rfl, by decide +kernel, rfl, by decide +kernel, by decide +kernel⟩
theorem sc__law_right : FnScope ["_law_dice_here", "_law_field_here", "_law_q_here", "_law_p", "_law_k", "_law_due", "_law_j", "_law_one", "_law_row", "_law_sums_of_parts", "_law_small"] ["_law_dice_here"] (defScope s__law_right) := ⟨rfl, rfl, rfl, by decide +kernel, rfl, by decide +kernel, by decide +kernel⟩
theorem sc_law : FnScope ["_law_script", "_law_at", "_law_dice_here", "_law_turn"] ["_law_script"] (defScope s_law) := ⟨rfl, rfl, rfl, by decide +kernel, rfl, by decide +kernel, by decide +kernel⟩
def W_PRIMES : List (Int × Int) := [(2, 2), (3, 3), (4, 2), (5, 5), (7, 7), (8, 2), (9, 3)]
def W_POWERS : List (Int × Int) := [(2, 1), (3, 1), (4, 2), (5, 1), (7, 1), (8, 3), (9, 2)]
def W_FIELDS : List Int := [2, 3, 4, 5, 7, 8, 9]
structure Txt (K : PySem.W.Frag) (mg : Str → Option Value) where
  {a_digit_row : Addr}
  {d_digit_row : FuncData}
  F_digit_row : Fun K "digit_row" "digit_row" s_digit_row a_digit_row d_digit_row
  g_digit_row : mg "digit_row" = some (.ref a_digit_row)
  b_digit_row : Binds K d_digit_row ["b", "k"] []
  {a_digit_total : Addr}
  {d_digit_total : FuncData}
  F_digit_total : Fun K "digit_total" "digit_total" s_digit_total a_digit_total d_digit_total
  g_digit_total : mg "digit_total" = some (.ref a_digit_total)
  b_digit_total : Binds K d_digit_total ["b", "k"] []
  {a_are_carry_free : Addr}
  {d_are_carry_free : FuncData}
  F_are_carry_free : Fun K "are_carry_free" "are_carry_free" s_are_carry_free a_are_carry_free d_are_carry_free
  g_are_carry_free : mg "are_carry_free" = some (.ref a_are_carry_free)
  b_are_carry_free : Binds K d_are_carry_free ["b", "numbers"] []
  {a_shift_sum_list : Addr}
  {d_shift_sum_list : FuncData}
  F_shift_sum_list : Fun K "shift_sum_list" "shift_sum_list" s_shift_sum_list a_shift_sum_list d_shift_sum_list
  g_shift_sum_list : mg "shift_sum_list" = some (.ref a_shift_sum_list)
  b_shift_sum_list : Binds K d_shift_sum_list ["q", "k"] []
  {a_parts_bound : Addr}
  {d_parts_bound : FuncData}
  F_parts_bound : Fun K "parts_bound" "parts_bound" s_parts_bound a_parts_bound d_parts_bound
  g_parts_bound : mg "parts_bound" = some (.ref a_parts_bound)
  b_parts_bound : Binds K d_parts_bound ["q", "k"] []
  {a_is_integer : Addr}
  {d_is_integer : FuncData}
  F_is_integer : Fun K "is_integer" "is_integer" s_is_integer a_is_integer d_is_integer
  g_is_integer : mg "is_integer" = some (.ref a_is_integer)
  b_is_integer : Binds K d_is_integer ["value"] []
  {a_is_from : Addr}
  {d_is_from : FuncData}
  F_is_from : Fun K "is_from" "is_from" s_is_from a_is_from d_is_from
  g_is_from : mg "is_from" = some (.ref a_is_from)
  b_is_from : Binds K d_is_from ["value", "low"] []
  {a_is_between : Addr}
  {d_is_between : FuncData}
  F_is_between : Fun K "is_between" "is_between" s_is_between a_is_between d_is_between
  g_is_between : mg "is_between" = some (.ref a_is_between)
  b_is_between : Binds K d_is_between ["value", "low", "high"] []
  {a_check_from : Addr}
  {d_check_from : FuncData}
  F_check_from : Fun K "check_from" "check_from" s_check_from a_check_from d_check_from
  g_check_from : mg "check_from" = some (.ref a_check_from)
  b_check_from : Binds K d_check_from ["value", "low"] []
  {a_check_between : Addr}
  {d_check_between : FuncData}
  F_check_between : Fun K "check_between" "check_between" s_check_between a_check_between d_check_between
  g_check_between : mg "check_between" = some (.ref a_check_between)
  b_check_between : Binds K d_check_between ["value", "low", "high"] []
  {a_is_field : Addr}
  {d_is_field : FuncData}
  F_is_field : Fun K "is_field" "is_field" s_is_field a_is_field d_is_field
  g_is_field : mg "is_field" = some (.ref a_is_field)
  b_is_field : Binds K d_is_field ["value"] []
  {a_check_field : Addr}
  {d_check_field : FuncData}
  F_check_field : Fun K "check_field" "check_field" s_check_field a_check_field d_check_field
  g_check_field : mg "check_field" = some (.ref a_check_field)
  b_check_field : Binds K d_check_field ["q"] []
  {a_check_base : Addr}
  {d_check_base : FuncData}
  F_check_base : Fun K "check_base" "check_base" s_check_base a_check_base d_check_base
  g_check_base : mg "check_base" = some (.ref a_check_base)
  b_check_base : Binds K d_check_base ["b"] []
  {a_check_numbers : Addr}
  {d_check_numbers : FuncData}
  F_check_numbers : Fun K "check_numbers" "check_numbers" s_check_numbers a_check_numbers d_check_numbers
  g_check_numbers : mg "check_numbers" = some (.ref a_check_numbers)
  b_check_numbers : Binds K d_check_numbers ["numbers"] []
  {a_digit_sum : Addr}
  {d_digit_sum : FuncData}
  F_digit_sum : Fun K "digit_sum" "digit_sum" s_digit_sum a_digit_sum d_digit_sum
  g_digit_sum : mg "digit_sum" = some (.ref a_digit_sum)
  b_digit_sum : Binds K d_digit_sum ["b", "k"] []
  {a_has_no_carries : Addr}
  {d_has_no_carries : FuncData}
  F_has_no_carries : Fun K "has_no_carries" "has_no_carries" s_has_no_carries a_has_no_carries d_has_no_carries
  g_has_no_carries : mg "has_no_carries" = some (.ref a_has_no_carries)
  b_has_no_carries : Binds K d_has_no_carries ["b", "numbers"] []
  {a_shift_sums : Addr}
  {d_shift_sums : FuncData}
  F_shift_sums : Fun K "shift_sums" "shift_sums" s_shift_sums a_shift_sums d_shift_sums
  g_shift_sums : mg "shift_sums" = some (.ref a_shift_sums)
  b_shift_sums : Binds K d_shift_sums ["q", "k"] []
  {a_most_parts : Addr}
  {d_most_parts : FuncData}
  F_most_parts : Fun K "most_parts" "most_parts" s_most_parts a_most_parts d_most_parts
  g_most_parts : mg "most_parts" = some (.ref a_most_parts)
  b_most_parts : Binds K d_most_parts ["q", "k"] []
  {a__law_dice : Addr}
  {d__law_dice : FuncData}
  F__law_dice : Fun K "_law_dice" "_law_dice" s__law_dice a__law_dice d__law_dice
  g__law_dice : mg "_law_dice" = some (.ref a__law_dice)
  b__law_dice : Binds K d__law_dice ["_law_script", "_law_at"] []
  {a__law_roll : Addr}
  {d__law_roll : FuncData}
  F__law_roll : Fun K "_law_roll" "_law_roll" s__law_roll a__law_roll d__law_roll
  g__law_roll : mg "_law_roll" = some (.ref a__law_roll)
  b__law_roll : Binds K d__law_roll ["_law_dice_here", "_law_total"] []
  {a__law_one_of : Addr}
  {d__law_one_of : FuncData}
  F__law_one_of : Fun K "_law_one_of" "_law_one_of" s__law_one_of a__law_one_of d__law_one_of
  g__law_one_of : mg "_law_one_of" = some (.ref a__law_one_of)
  b__law_one_of : Binds K d__law_one_of ["_law_dice_here", "_law_items"] []
  {a__law_raised : Addr}
  {d__law_raised : FuncData}
  F__law_raised : Fun K "_law_raised" "_law_raised" s__law_raised a__law_raised d__law_raised
  g__law_raised : mg "_law_raised" = some (.ref a__law_raised)
  b__law_raised : Binds K d__law_raised ["_law_base", "_law_count"] []
  {a__law_digits : Addr}
  {d__law_digits : FuncData}
  F__law_digits : Fun K "_law_digits" "_law_digits" s__law_digits a__law_digits d__law_digits
  g__law_digits : mg "_law_digits" = some (.ref a__law_digits)
  b__law_digits : Binds K d__law_digits ["_law_base", "_law_number"] []
  {a__law_element_product : Addr}
  {d__law_element_product : FuncData}
  F__law_element_product : Fun K "_law_element_product" "_law_element_product" s__law_element_product a__law_element_product d__law_element_product
  g__law_element_product : mg "_law_element_product" = some (.ref a__law_element_product)
  b__law_element_product : Binds K d__law_element_product ["_law_p", "_law_f", "_law_one", "_law_other"] []
  {a__law_element_sum : Addr}
  {d__law_element_sum : FuncData}
  F__law_element_sum : Fun K "_law_element_sum" "_law_element_sum" s__law_element_sum a__law_element_sum d__law_element_sum
  g__law_element_sum : mg "_law_element_sum" = some (.ref a__law_element_sum)
  b__law_element_sum : Binds K d__law_element_sum ["_law_p", "_law_f", "_law_one", "_law_other"] []
  {a__law_field : Addr}
  {d__law_field : FuncData}
  F__law_field : Fun K "_law_field" "_law_field" s__law_field a__law_field d__law_field
  g__law_field : mg "_law_field" = some (.ref a__law_field)
  b__law_field : Binds K d__law_field ["_law_q_here"] []
  {a__law_q : Addr}
  {d__law_q : FuncData}
  F__law_q : Fun K "_law_q" "_law_q" s__law_q a__law_q d__law_q
  g__law_q : mg "_law_q" = some (.ref a__law_q)
  b__law_q : Binds K d__law_q ["_law_dice_here"] []
  {a__law_size : Addr}
  {d__law_size : FuncData}
  F__law_size : Fun K "_law_size" "_law_size" s__law_size a__law_size d__law_size
  g__law_size : mg "_law_size" = some (.ref a__law_size)
  b__law_size : Binds K d__law_size ["_law_q_here", "_law_most"] []
  {a__law_digit_sum : Addr}
  {d__law_digit_sum : FuncData}
  F__law_digit_sum : Fun K "_law_digit_sum" "_law_digit_sum" s__law_digit_sum a__law_digit_sum d__law_digit_sum
  g__law_digit_sum : mg "_law_digit_sum" = some (.ref a__law_digit_sum)
  b__law_digit_sum : Binds K d__law_digit_sum ["_law_base", "_law_number"] []
  {a__law_within : Addr}
  {d__law_within : FuncData}
  F__law_within : Fun K "_law_within" "_law_within" s__law_within a__law_within d__law_within
  g__law_within : mg "_law_within" = some (.ref a__law_within)
  b__law_within : Binds K d__law_within ["_law_p", "_law_k"] []
  {a__law_small_k : Addr}
  {d__law_small_k : FuncData}
  F__law_small_k : Fun K "_law_small_k" "_law_small_k" s__law_small_k a__law_small_k d__law_small_k
  g__law_small_k : mg "_law_small_k" = some (.ref a__law_small_k)
  b__law_small_k : Binds K d__law_small_k ["_law_dice_here", "_law_q_here", "_law_most"] []
  {a__law_great_k : Addr}
  {d__law_great_k : FuncData}
  F__law_great_k : Fun K "_law_great_k" "_law_great_k" s__law_great_k a__law_great_k d__law_great_k
  g__law_great_k : mg "_law_great_k" = some (.ref a__law_great_k)
  b__law_great_k : Binds K d__law_great_k ["_law_dice_here", "_law_field_here"] []
  {a__law_own_shifts : Addr}
  {d__law_own_shifts : FuncData}
  F__law_own_shifts : Fun K "_law_own_shifts" "_law_own_shifts" s__law_own_shifts a__law_own_shifts d__law_own_shifts
  g__law_own_shifts : mg "_law_own_shifts" = some (.ref a__law_own_shifts)
  b__law_own_shifts : Binds K d__law_own_shifts ["_law_field_here", "_law_k"] []
  {a__law_most_by_ways : Addr}
  {d__law_most_by_ways : FuncData}
  F__law_most_by_ways : Fun K "_law_most_by_ways" "_law_most_by_ways" s__law_most_by_ways a__law_most_by_ways d__law_most_by_ways
  g__law_most_by_ways : mg "_law_most_by_ways" = some (.ref a__law_most_by_ways)
  b__law_most_by_ways : Binds K d__law_most_by_ways ["_law_field_here", "_law_k"] []
  {a__law_parts_of : Addr}
  {d__law_parts_of : FuncData}
  F__law_parts_of : Fun K "_law_parts_of" "_law_parts_of" s__law_parts_of a__law_parts_of d__law_parts_of
  g__law_parts_of : mg "_law_parts_of" = some (.ref a__law_parts_of)
  b__law_parts_of : Binds K d__law_parts_of ["_law_dice_here", "_law_p", "_law_k"] []
  {a__law_right : Addr}
  {d__law_right : FuncData}
  F__law_right : Fun K "_law_right" "_law_right" s__law_right a__law_right d__law_right
  g__law_right : mg "_law_right" = some (.ref a__law_right)
  b__law_right : Binds K d__law_right ["_law_dice_here"] []
  {a_law : Addr}
  {d_law : FuncData}
  F_law : Fun K "law" "law" s_law a_law d_law
  g_law : mg "law" = some (.ref a_law)
  b_law : Binds K d_law ["_law_script"] []
  z_sum : mg "sum" = none
  z_range : mg "range" = none
  z_min : mg "min" = none
  z_isinstance : mg "isinstance" = none
  z_int : mg "int" = none
  z_bool : mg "bool" = none
  z_all : mg "all" = none
  z_tuple : mg "tuple" = none
  z_len : mg "len" = none
  z_abs : mg "abs" = none
  z_enumerate : mg "enumerate" = none
  z_list : mg "list" = none
  z_sorted : mg "sorted" = none
  z_max : mg "max" = none
  {a_PRIMES : Addr}
  g_PRIMES : mg "PRIMES" = some (.ref a_PRIMES)
  w_PRIMES : tab0 K a_PRIMES = some W_PRIMES
  {a_POWERS : Addr}
  g_POWERS : mg "POWERS" = some (.ref a_POWERS)
  w_POWERS : tab0 K a_POWERS = some W_POWERS
  {t_TOO_LONG : Tok}
  c_TOO_LONG : mg "TOO_LONG" = some (.int 1000000000000000000000000000000000000000000000000000000000000 t_TOO_LONG)
  {a_FIELDS : Addr}
  g_FIELDS : mg "FIELDS" = some (.ref a_FIELDS)
  w_FIELDS : asRow K (.ref a_FIELDS) = some W_FIELDS
  {t_MOST_NUMBERS : Tok}
  c_MOST_NUMBERS : mg "MOST_NUMBERS" = some (.int 400 t_MOST_NUMBERS)
end Own
namespace Own
open PySem PySem.Spec PyProof.Rows L2 Evl

def sp_digit_row (K : PySem.W.Frag) : Sp := fun vs H Q _ => ∃ (b n : Nat), vs = [N_ b, N_ n] ∧ Bs b ∧ Gt n ∧ RetL ((dg b n).map N_) H Q

theorem ok_digit_row {P : Program} {w : World} {K : PySem.W.Frag} {mg : Str → Option Value} {base : Heap} (T : Txt K mg) : FnOk P w K mg base CX0 1 T.a_digit_row T.d_digit_row ["b", "k"] (sp_digit_row K) := by
  refine T.F_digit_row.ok sc_digit_row (fun vs H Q E h => ?_) (fun cdv A outer s H vs Q E hr h => ?_)
  · obtain ⟨b, n, rfl, _⟩ := h
    rfl
  · obtain ⟨b, n, rfl, hb, hn, k⟩ := h
    refine ⟨_, (pss_cons (ps_set (i := 2) sc_digit_row.nd rfl (Or.inl rfl) (pe_lst pa_nil))
      (pss_cons (ps_set (i := 3) sc_digit_row.nd rfl (Or.inl rfl) (pv 1))
      (pss_cons (ps_while PassesOwn.never (pt_cmpR op_gt (pv 3) pe_int (nomark _)) (pss_cons (ps_expr (pe_bm PySem.F.plainAttrs_list PySem.F.slot_list_append PySem.F.type_list_append mt_append (pv 2) (pa_cons (pe_op op_mod (pv 3) (pv 0)) pa_nil)))
      (pss_one (ps_set (i := 3) sc_digit_row.nd rfl (Or.inl rfl) (pe_op op_fdivW (pv 3) (pv 0))))))
      (pss_one (ps_ret (pv 2)))))), ?_⟩
    refine q_asgL (el_lst ea_nil (by decide)) fun p H1 np e1 h1 => ?_
    refine q_asg (ev_var rfl) fun H2 e2 => ?_
    refine q_while (fun l σ H' => ∃ acc : List Nat, σ = [some (N_ b), some (N_ n), some (.ref p), some (N_ l)] ∧ acc ++ dg b l = dg b n ∧ Ex H H' ∧ H' p = some (.lst (acc.map N_))) n
      ⟨[], rfl, rfl, e1.trans e2, e2 p _ h1⟩ fun l σ H3 hw => ?_
    obtain ⟨acc, rfl, ha, e3, h3⟩ := hw
    refine ⟨decide (0 < (l : Int)), et_test (ev_op (ev_var rfl) ev_c rv_I0), fun ht H4 e4 => ?_, fun hf H4 e4 => ?_⟩
    · have hl : 0 < l := by have := of_decide_eq_true ht; omega
      refine ⟨fun σ' H' => σ' = [some (N_ b), some (N_ n), some (.ref p), some (N_ (l / b))] ∧ Ex H H' ∧ H' p = some (.lst ((acc ++ [l % b]).map N_)), fun σ2 H2' hN => ?_, ?_⟩
      · obtain ⟨rfl, e5, h5⟩ := hN
        refine ⟨l / b, Nat.div_lt_self hl hb.1, acc ++ [l % b], rfl, ?_, e5, h5⟩
        rw [← ha, dg_pos hb.1 hl, List.append_assoc]
        rfl
      · have hlen : acc.length < 100000 := by
          have h6 := dg_len hb.1 400 n hn
          rw [← ha, List.length_append] at h6
          omega
        refine q_app (e4 p _ h3) (ev_var rfl) (ev_op (ev_var rfl) (ev_var rfl) (rv_I (by have := hb.1; omega))) (by rw [List.length_map]; exact hlen) fun H5 e5 => ?_
        refine s_asg (ev_op (ev_var rfl) (ev_var rfl) (rv_I (divW (by have := hb.1; omega) hb.2))) fun H6 e6 => ?_
        refine ⟨rfl, ((e3.trans (e4.trans e5)).mut np).trans e6, ?_⟩
        rw [e6 p _ upd_same, List.map_append]
        rfl
    · have hl : l = 0 := by have := of_decide_eq_false hf; omega
      subst hl
      rw [dg_zero, List.append_nil] at ha
      subst ha
      exact s_ret (ev_var rfl) fun H5 e5 => k p H5 np ((e3.trans e4).trans e5) (e5 p _ (e4 p _ h3))


def sp_row_integer (K : PySem.W.Frag) : Sp := fun vs H Q _ => ∃ (b : Nat) (a : Addr) (xs : List Nat), vs = [N_ b, .ref a] ∧ Bs b ∧ SqT K H a (xs.map N_) ∧ xs.length ≤ 410 ∧ (∀ d ∈ xs, d < b) ∧ RetV (N_ (od b xs)) H Q


def sp_digit_total (K : PySem.W.Frag) : Sp := fun vs H Q _ => ∃ (b n : Nat), vs = [N_ b, N_ n] ∧ Bs b ∧ Gt n ∧ RetV (N_ (ds b n)) H Q
theorem sv_digit_row {K : PySem.W.Frag} {H : Hp} {b n : Nat} (hb : Bs b) (hn : Gt n) : SpL (sp_digit_row K) [N_ b, N_ n] H ((dg b n).map N_) := fun H1 _ Q q E => ⟨b, n, rfl, hb, hn, q⟩
theorem sv_digit_total {K : PySem.W.Frag} {H : Hp} {b n : Nat} (hb : Bs b) (hn : Gt n) : SpV (sp_digit_total K) [N_ b, N_ n] H (N_ (ds b n)) := fun H1 _ Q q E => ⟨b, n, rfl, hb, hn, q⟩

theorem ok_digit_total {P : Program} {w : World} {K : PySem.W.Frag} {mg : Str → Option Value} {base : Heap} (T : Txt K mg) : FnOk P w K mg base CX0 2 T.a_digit_total T.d_digit_total ["b", "k"] (sp_digit_total K) := by
  refine T.F_digit_total.ok sc_digit_total (fun vs H Q E h => ?_) (fun cdv A outer s H vs Q E hr h => ?_)
  · obtain ⟨b, n, rfl, _⟩ := h
    rfl
  · obtain ⟨b, n, rfl, hb, hn, k⟩ := h
    refine ⟨_, (pss_one (ps_ret (pe_callB (cr_sum rfl) (by rfl) T.z_sum (by decide +kernel) (pa_cons (pe_call (ok_digit_row T) (hr.mono (by decide)) (by rfl) T.g_digit_row T.F_digit_row.kp T.b_digit_row .nil pass0 (pa_cons (pv 0) (pa_cons (pv 1) pa_nil))) pa_nil)))), ?_⟩
    refine s_ret (ev_is (ev_sumN (ns := (dg b n).map Int.ofNat) (el_is (el_call (ea_cons (ev_var rfl) (ea_cons (ev_var rfl) ea_nil)) (sv_digit_row hb hn)) (mapN _))) (congrArg V.int (sumN _))) fun H1 e1 => k H1 e1


def sp_are_carry_free (K : PySem.W.Frag) : Sp := fun vs H Q _ => ∃ (b : Nat) (a : Addr) (xs : List Nat), vs = [N_ b, .ref a] ∧ Bs b ∧ SqT K H a (xs.map N_) ∧ xs.length ≤ 410 ∧ Gt xs.sum ∧ RetV (.bl (decide ((xs.map (ds b)).sum = ds b xs.sum))) H Q

theorem ok_are_carry_free {P : Program} {w : World} {K : PySem.W.Frag} {mg : Str → Option Value} {base : Heap} (T : Txt K mg) : FnOk P w K mg base CX0 3 T.a_are_carry_free T.d_are_carry_free ["b", "numbers"] (sp_are_carry_free K) := by
  refine T.F_are_carry_free.ok sc_are_carry_free (fun vs H Q E h => ?_) (fun cdv A outer s H vs Q E hr h => ?_)
  · obtain ⟨b, a, xs, rfl, _⟩ := h
    rfl
  · obtain ⟨b, a, xs, rfl, hb, hx, hlen, hs, k⟩ := h
    refine ⟨_, (pss_one (ps_ret (pe_cmpR op_eq (pe_callB (cr_sum rfl) (by rfl) T.z_sum (by decide +kernel) (pa_cons (pe_lc (own := [("number", 2)]) (g := gName 2) rfl sc_are_carry_free.nd (pi_tup (pv 1)) (blkOk_by (N := ["b", "numbers", "number"]) (sc := defScope s_are_carry_free) (by decide +kernel)) (fun _ _ _ _ _ => pg_name (i := 2) sc_are_carry_free.nd rfl (Or.inl rfl)) (fun _ _ _ _ _ => pts_nil) (fun _ _ _ _ _ => (pe_call (ok_digit_total T) (hr.mono (by decide)) (by rfl) T.g_digit_total T.F_digit_total.kp T.b_digit_total .nil pass0 (pa_cons (pv 0) (pa_cons (pv 2) pa_nil))))) pa_nil)) (pe_call (ok_digit_total T) (hr.mono (by decide)) (by rfl) T.g_digit_total T.F_digit_total.kp T.b_digit_total .nil pass0 (pa_cons (pv 0) (pa_cons (pe_callB (cr_sumT rfl) (by rfl) T.z_sum (by decide +kernel) (pa_cons (pv 1) pa_nil)) pa_nil))) (nomark _)))), ?_⟩
    have hsm : ∀ d ∈ xs, Gt d := fun d hd => Nat.lt_of_le_of_lt (le_sum xs d hd) hs
    have hL : (cxOf CX0 P w K mg base ["b", "numbers", "number"] "are_carry_free" (defScope s_are_carry_free) T.a_are_carry_free cdv A outer s H E).K = K := rfl
    refine s_ret (ev_is (ev_op (ev_is (ev_sumN (ns := (xs.map (ds b)).map Int.ofNat) (el_is (el_lcT (fun _ => true) (fun i => N_ (ds b (xs[i]?.getD 0))) (ev_var rfl) hx (by rw [List.length_map]; omega) (fun _ => rfl) (fun _ _ _ _ _ => et_nil)
      (fun i x H1 e1 hi _ => ?_)) ?_)) (congrArg V.int (sumN _))) (ev_call (ea_cons (ev_var rfl) (ea_cons (ev_cb (ea_cons (ev_var rfl) ea_nil) (rc_sumT (ns := xs.map Int.ofNat) (by rw [← mapN]; exact hx))) ea_nil)) ?_) (rv_eq rfl)) (congrArg V.bl dec_int)) fun H1 e1 => k H1 e1
    · rw [List.getElem?_map] at hi
      obtain ⟨d, hd, rfl⟩ := Option.map_eq_some_iff.mp hi
      rw [hd]
      exact ev_call (ea_cons (ev_var rfl) (ea_cons (ev_var rfl) ea_nil)) (sv_digit_total hb (hsm d (List.mem_of_getElem? hd)))
    · rw [List.length_map, given_all xs (fun d => N_ (ds b d)) _ (fun i y h => by rw [h]; rfl), ← mapN, List.map_map]
      rfl
    · rw [sumN]
      exact sv_digit_total hb hs


abbrev Sm (x : Int) : Prop := x.natAbs < 10 ^ 60
def sp_is_integer (K : PySem.W.Frag) : Sp := fun vs H Q _ => ∃ (x : Int), vs = [.int x] ∧ Sm x ∧ RetV (.bl true) H Q
theorem sv_is_integer {K : PySem.W.Frag} {H : Hp} {x : Int} (h : Sm x) : SpV (sp_is_integer K) [.int x] H (.bl true) := fun H1 _ Q q E => ⟨x, rfl, h, q⟩
theorem sm_abs {x : Int} (h : Sm x) : (decide (-1000000000000000000000000000000000000000000000000000000000000 < x) && decide (x < 1000000000000000000000000000000000000000000000000000000000000)) = true := by
  have h' : x.natAbs < 10 ^ 60 := h
  rw [decide_eq_true (by omega), decide_eq_true (by omega)]
  rfl

theorem ok_is_integer {P : Program} {w : World} {K : PySem.W.Frag} {mg : Str → Option Value} {base : Heap} (T : Txt K mg) : FnOk P w K mg base CX0 1 T.a_is_integer T.d_is_integer ["value"] (sp_is_integer K) := by
  refine T.F_is_integer.ok sc_is_integer (fun vs H Q E h => ?_) (fun cdv A outer s H vs Q E hr h => ?_)
  · obtain ⟨x, rfl, _⟩ := h
    rfl
  · obtain ⟨x, rfl, hx, k⟩ := h
    refine ⟨_, (pss_one (ps_ret (pe_and (pe_callB call_isi (by rfl) T.z_isinstance (by decide +kernel) (pa_cons (pv 0) (pa_cons (pe_bltn (v := .ty "int") (u := .type "int") (by rfl) T.z_int (by decide +kernel) rfl) pa_nil))) (pe_and (pe_not (pe_callB call_isi (by rfl) T.z_isinstance (by decide +kernel) (pa_cons (pv 0) (pa_cons (pe_bltn (v := .ty "bool") (u := .type "bool") (by rfl) T.z_bool (by decide +kernel) rfl) pa_nil)))) (pe_one (pe_chain op_lt op_lt (pe_un un_neg (pe_glob (v := .int 1000000000000000000000000000000000000000000000000000000000000) (by rfl) T.c_TOO_LONG ⟨_, rfl⟩)) (pv 0) (pe_glob (v := .int 1000000000000000000000000000000000000000000000000000000000000) (by rfl) T.c_TOO_LONG ⟨_, rfl⟩))))))), ?_⟩
    refine s_ret (ev_is (ev_andV (ev_cb (ea_cons (ev_var rfl) (ea_cons ev_c ea_nil)) (rc_isi (b := true) (.base (.int x)) (kit_ty (by decide +kernel)))) fun _ =>
      (ev_andV (ev_notV (ev_cb (ea_cons (ev_var rfl) (ea_cons ev_c ea_nil)) (rc_isi (b := false) (.base (.int x)) (kit_ty (by decide +kernel))))) fun _ =>
        (ev_chain (ev_un ev_c ru_neg) (ev_var rfl) rv_I0 (fun _ => ev_c) (fun _ => rv_I0)))) ?_) fun H1 e1 => k H1 e1
    rw [sm_abs hx]
    rfl


def sp_is_from (K : PySem.W.Frag) : Sp := fun vs H Q _ => ∃ (x l : Int), vs = [.int x, .int l] ∧ Sm x ∧ RetV (.bl (decide (l ≤ x))) H Q
theorem sv_is_from {K : PySem.W.Frag} {H : Hp} {x l : Int} (h : Sm x) : SpV (sp_is_from K) [.int x, .int l] H (.bl (decide (l ≤ x))) := fun H1 _ Q q E => ⟨x, l, rfl, h, q⟩

theorem ok_is_from {P : Program} {w : World} {K : PySem.W.Frag} {mg : Str → Option Value} {base : Heap} (T : Txt K mg) : FnOk P w K mg base CX0 2 T.a_is_from T.d_is_from ["value", "low"] (sp_is_from K) := by
  refine T.F_is_from.ok sc_is_from (fun vs H Q E h => ?_) (fun cdv A outer s H vs Q E hr h => ?_)
  · obtain ⟨x, l, rfl, _⟩ := h
    rfl
  · obtain ⟨x, l, rfl, hx, k⟩ := h
    refine ⟨_, (pss_one (ps_ret (pe_and (pe_call (ok_is_integer T) (hr.mono (by decide)) (by rfl) T.g_is_integer T.F_is_integer.kp T.b_is_integer .nil pass0 (pa_cons (pv 0) pa_nil)) (pe_one (pe_cmpR op_ge (pv 0) (pv 1) (nomark _)))))), ?_⟩
    refine s_ret (ev_andV (ev_call (ea_cons (ev_var rfl) ea_nil) (sv_is_integer hx)) fun _ => (ev_op (ev_var rfl) (ev_var rfl) rv_I0)) fun H1 e1 => k H1 e1


def sp_is_between (K : PySem.W.Frag) : Sp := fun vs H Q _ => ∃ (x l u : Int), vs = [.int x, .int l, .int u] ∧ Sm x ∧ RetV (.bl (decide (l ≤ x) && decide (x ≤ u))) H Q
theorem sv_is_between {K : PySem.W.Frag} {H : Hp} {x l u : Int} (h : Sm x) : SpV (sp_is_between K) [.int x, .int l, .int u] H (.bl (decide (l ≤ x) && decide (x ≤ u))) := fun H1 _ Q q E => ⟨x, l, u, rfl, h, q⟩

theorem ok_is_between {P : Program} {w : World} {K : PySem.W.Frag} {mg : Str → Option Value} {base : Heap} (T : Txt K mg) : FnOk P w K mg base CX0 2 T.a_is_between T.d_is_between ["value", "low", "high"] (sp_is_between K) := by
  refine T.F_is_between.ok sc_is_between (fun vs H Q E h => ?_) (fun cdv A outer s H vs Q E hr h => ?_)
  · obtain ⟨x, l, u, rfl, _⟩ := h
    rfl
  · obtain ⟨x, l, u, rfl, hx, k⟩ := h
    refine ⟨_, (pss_one (ps_ret (pe_and (pe_call (ok_is_integer T) (hr.mono (by decide)) (by rfl) T.g_is_integer T.F_is_integer.kp T.b_is_integer .nil pass0 (pa_cons (pv 0) pa_nil)) (pe_one (pe_chain op_le op_le (pv 1) (pv 0) (pv 2)))))), ?_⟩
    refine s_ret (ev_andV (ev_call (ea_cons (ev_var rfl) ea_nil) (sv_is_integer hx)) fun _ => (ev_chain (ev_var rfl) (ev_var rfl) rv_I0 (fun _ => ev_var rfl) (fun _ => rv_I0))) fun H1 e1 => k H1 e1


def sp_check_from (K : PySem.W.Frag) : Sp := fun vs H Q _ => ∃ (x l : Int), vs = [.int x, .int l] ∧ Sm x ∧ l ≤ x ∧ RetV .non H Q
theorem sv_check_from {K : PySem.W.Frag} {H : Hp} {x l : Int} (h : Sm x) (h2 : l ≤ x) : SpV (sp_check_from K) [.int x, .int l] H .non := fun H1 _ Q q E => ⟨x, l, rfl, h, h2, q⟩

theorem ok_check_from {P : Program} {w : World} {K : PySem.W.Frag} {mg : Str → Option Value} {base : Heap} (T : Txt K mg) : FnOk P w K mg base CX0 3 T.a_check_from T.d_check_from ["value", "low"] (sp_check_from K) := by
  refine T.F_check_from.ok sc_check_from (fun vs H Q E h => ?_) (fun cdv A outer s H vs Q E hr h => ?_)
  · obtain ⟨x, l, rfl, _⟩ := h
    rfl
  · obtain ⟨x, l, rfl, hx, hl, k⟩ := h
    refine ⟨_, (pss_one (ps_if (pt_not (pt_val (pe_call (ok_is_from T) (hr.mono (by decide)) (by rfl) T.g_is_from T.F_is_from.kp T.b_is_from .nil pass0 (pa_cons (pv 0) (pa_cons (pv 1) pa_nil))))) (pss_one ps_never) pss_nil)), ?_⟩
    refine s_when (et_not (et_B (ev_call (ea_cons (ev_var rfl) (ea_cons (ev_var rfl) ea_nil)) (sv_is_from hx)))) (fun hb => ?_) (fun _ H1 e1 => k H1 e1)
    rw [decide_eq_true hl] at hb
    cases hb


def sp_check_between (K : PySem.W.Frag) : Sp := fun vs H Q _ => ∃ (x l u : Int), vs = [.int x, .int l, .int u] ∧ Sm x ∧ l ≤ x ∧ x ≤ u ∧ RetV .non H Q
theorem sv_check_between {K : PySem.W.Frag} {H : Hp} {x l u : Int} (h : Sm x) (h2 : l ≤ x) (h3 : x ≤ u) : SpV (sp_check_between K) [.int x, .int l, .int u] H .non := fun H1 _ Q q E => ⟨x, l, u, rfl, h, h2, h3, q⟩

theorem ok_check_between {P : Program} {w : World} {K : PySem.W.Frag} {mg : Str → Option Value} {base : Heap} (T : Txt K mg) : FnOk P w K mg base CX0 3 T.a_check_between T.d_check_between ["value", "low", "high"] (sp_check_between K) := by
  refine T.F_check_between.ok sc_check_between (fun vs H Q E h => ?_) (fun cdv A outer s H vs Q E hr h => ?_)
  · obtain ⟨x, l, u, rfl, _⟩ := h
    rfl
  · obtain ⟨x, l, u, rfl, hx, hl, hu, k⟩ := h
    refine ⟨_, (pss_one (ps_if (pt_not (pt_val (pe_call (ok_is_between T) (hr.mono (by decide)) (by rfl) T.g_is_between T.F_is_between.kp T.b_is_between .nil pass0 (pa_cons (pv 0) (pa_cons (pv 1) (pa_cons (pv 2) pa_nil)))))) (pss_one ps_never) pss_nil)), ?_⟩
    refine s_when (et_not (et_B (ev_call (ea_cons (ev_var rfl) (ea_cons (ev_var rfl) (ea_cons (ev_var rfl) ea_nil))) (sv_is_between hx)))) (fun hb => ?_) (fun _ H1 e1 => k H1 e1)
    rw [decide_eq_true hl, decide_eq_true hu] at hb
    cases hb


def sp_check_base (K : PySem.W.Frag) : Sp := fun vs H Q _ => ∃ (b : Nat), vs = [N_ b] ∧ Bs b ∧ RetV .non H Q
theorem sv_check_base {K : PySem.W.Frag} {H : Hp} {b : Nat} (h : Bs b) : SpV (sp_check_base K) [N_ b] H .non := fun H1 _ Q q E => ⟨b, rfl, h, q⟩
theorem sm_b {b : Nat} (h : Bs b) : Sm (b : Int) := by
  have := h.2
  show (Int.natAbs (b : Int)) < 10 ^ 60
  have e : (1001 : Nat) ≤ 10 ^ 60 := by decide
  omega

theorem ok_check_base {P : Program} {w : World} {K : PySem.W.Frag} {mg : Str → Option Value} {base : Heap} (T : Txt K mg) : FnOk P w K mg base CX0 4 T.a_check_base T.d_check_base ["b"] (sp_check_base K) := by
  refine T.F_check_base.ok sc_check_base (fun vs H Q E h => ?_) (fun cdv A outer s H vs Q E hr h => ?_)
  · obtain ⟨b, rfl, _⟩ := h
    rfl
  · obtain ⟨b, rfl, hb, k⟩ := h
    refine ⟨_, (pss_one (ps_expr (pe_call (ok_check_between T) (hr.mono (by decide)) (by rfl) T.g_check_between T.F_check_between.kp T.b_check_between .nil pass0 (pa_cons (pv 0) (pa_cons pe_int (pa_cons pe_int pa_nil)))))), ?_⟩
    refine s_drop (ev_call (ea_cons (ev_var rfl) (ea_cons ev_c (ea_cons ev_c ea_nil))) (sv_check_between (sm_b hb) (by have := hb.1; omega) (by have := hb.2; omega))) fun H1 e1 => k H1 e1


def sp_check_numbers (K : PySem.W.Frag) : Sp := fun vs H Q _ => ∃ (a : Addr) (xs : List Nat), vs = [.ref a] ∧ SqT K H a (xs.map N_) ∧ 1 ≤ xs.length ∧ xs.length ≤ 400 ∧ (∀ d ∈ xs, d < 10 ^ 60) ∧ RetV .non H Q
theorem sv_check_numbers {K : PySem.W.Frag} {H : Hp} {a : Addr} {xs : List Nat} (h : SqT K H a (xs.map N_)) (h1 : 1 ≤ xs.length) (h2 : xs.length ≤ 400) (h3 : ∀ d ∈ xs, d < 10 ^ 60) : SpV (sp_check_numbers K) [.ref a] H .non := fun H1 e Q q E => ⟨a, xs, rfl, ex_t e h, h1, h2, h3, q⟩
theorem sm_n {n : Nat} (h : n < 10 ^ 60) : Sm (n : Int) := h

theorem ok_check_numbers {P : Program} {w : World} {K : PySem.W.Frag} {mg : Str → Option Value} {base : Heap} (T : Txt K mg) : FnOk P w K mg base CX0 3 T.a_check_numbers T.d_check_numbers ["numbers"] (sp_check_numbers K) := by
  refine T.F_check_numbers.ok sc_check_numbers (fun vs H Q E h => ?_) (fun cdv A outer s H vs Q E hr h => ?_)
  · obtain ⟨a, xs, rfl, _⟩ := h
    rfl
  · obtain ⟨a, xs, rfl, hx, h1, h2, h3, k⟩ := h
    refine ⟨_, (pss_cons (ps_if (PW.pt (pw_or (pt_not (pt_val (pe_callB call_isi (by rfl) T.z_isinstance (by decide +kernel) (pa_cons (pv 0) (pa_cons (pe_bltn (v := .ty "tuple") (u := .type "tuple") (by rfl) T.z_tuple (by decide +kernel) rfl) pa_nil))))) (pw_or1 (pt_not (pt_chain op_le op_le pe_int (pe_callB call_len_seq (by rfl) T.z_len (by decide +kernel) (pa_cons (pv 0) pa_nil)) (pe_glob (v := .int 400) (by rfl) T.c_MOST_NUMBERS ⟨_, rfl⟩)))))) (pss_one ps_never) pss_nil)
      (pss_one (ps_if (pt_not (pt_val (pe_callB (cr_all rfl) (by rfl) T.z_all (by decide +kernel) (pa_cons (pe_lc (own := [("number", 1)]) (g := gName 1) rfl sc_check_numbers.nd (pi_tup (pv 0)) (blkOk_by (N := ["numbers", "number"]) (sc := defScope s_check_numbers) (by decide +kernel)) (fun _ _ _ _ _ => pg_name (i := 1) sc_check_numbers.nd rfl (Or.inl rfl)) (fun _ _ _ _ _ => pts_nil) (fun _ _ _ _ _ => (pe_call (ok_is_from T) (hr.mono (by decide)) (by rfl) T.g_is_from T.F_is_from.kp T.b_is_from .nil pass0 (pa_cons (pv 1) (pa_cons pe_int pa_nil))))) pa_nil)))) (pss_one ps_never) pss_nil))), ?_⟩
    refine q_when (et_or (et_not (et_B (ev_cb (ea_cons (ev_var rfl) (ea_cons ev_c ea_nil)) (rc_isi (b := true) (tyx_tup hx) (kit_ty (by decide +kernel)))))) fun _ =>
      et_not (et_test (ev_chain ev_c (ev_cb (ea_cons (ev_var rfl) ea_nil) (rc_lenT hx)) rv_I0 (fun _ => ev_c) (fun _ => rv_I0)))) (fun hb => ?_) (fun _ H1 e1 => ?_)
    · rw [List.length_map, decide_eq_true (by omega), decide_eq_true (by omega)] at hb
      cases hb
    · refine s_when (et_not (et_B (ev_allN (bs := xs.map fun _ => true) (el_is (el_lcT (fun _ => true) (fun i => .bl true) (ev_var rfl) (ex_t e1 hx) (by rw [List.length_map]; omega) (fun _ => rfl) (fun _ _ _ _ _ => et_nil)
        (fun i x H2 e2 hi _ => ?_)) ?_)))) (fun hb => ?_) (fun _ H2 e2 => k H2 (e1.trans e2))
      · rw [List.getElem?_map] at hi
        obtain ⟨d, hd, rfl⟩ := Option.map_eq_some_iff.mp hi
        exact ev_is (ev_call (ea_cons (ev_var rfl) (ea_cons ev_c ea_nil)) (sv_is_from (sm_n (h3 d (List.mem_of_getElem? hd))))) (congrArg V.bl (decide_eq_true (by omega)))
      · rw [List.length_map, given_all xs (fun d => .bl true) _ (fun i y h => rfl), List.map_map]
        rfl
      · have : (xs.map fun _ => true).all id = true := by
          rw [List.all_eq_true]
          intro z hz
          obtain ⟨_, _, rfl⟩ := List.mem_map.mp hz
          rfl
        rw [this] at hb
        cases hb


def sp_digits (K : PySem.W.Frag) : Sp := fun vs H Q _ => ∃ (b n : Nat), vs = [N_ b, N_ n] ∧ Bs b ∧ n < 10 ^ 60 ∧ RetU ((dg b n).map N_) H Q
theorem gt_n {n : Nat} (h : n < 10 ^ 60) : Gt n := Nat.lt_trans h (by decide)
theorem sv_digits {K : PySem.W.Frag} {H : Hp} {b n : Nat} (hb : Bs b) (hn : n < 10 ^ 60) : SpU (sp_digits K) [N_ b, N_ n] H ((dg b n).map N_) := fun H1 _ Q q E => ⟨b, n, rfl, hb, hn, q⟩


def sp_of_digits (K : PySem.W.Frag) : Sp := fun vs H Q _ => ∃ (b : Nat) (a : Addr) (xs : List Nat), vs = [N_ b, .ref a] ∧ Bs b ∧ SqT K H a (xs.map N_) ∧ xs.length ≤ 400 ∧ (∀ d ∈ xs, d < b) ∧ RetV (N_ (od b xs)) H Q
theorem sv_of_digits {K : PySem.W.Frag} {H : Hp} {b : Nat} {a : Addr} {xs : List Nat} (hb : Bs b) (h : SqT K H a (xs.map N_)) (hl : xs.length ≤ 400) (hx : ∀ d ∈ xs, d < b) : SpV (sp_of_digits K) [N_ b, .ref a] H (N_ (od b xs)) := fun H1 e Q q E => ⟨b, a, xs, rfl, hb, ex_t e h, hl, hx, q⟩
theorem sv_row_integer {K : PySem.W.Frag} {H : Hp} {b : Nat} {a : Addr} {xs : List Nat} (hb : Bs b) (h : SqT K H a (xs.map N_)) (hl : xs.length ≤ 410) (hx : ∀ d ∈ xs, d < b) : SpV (sp_row_integer K) [N_ b, .ref a] H (N_ (od b xs)) := fun H1 e Q q E => ⟨b, a, xs, rfl, hb, ex_t e h, hl, hx, q⟩
theorem all_true {α : Type} (xs : List α) : (xs.map fun _ => true).all id = true := by
  rw [List.all_eq_true]
  intro z hz
  obtain ⟨_, _, rfl⟩ := List.mem_map.mp hz
  rfl


def sp_digit_sum (K : PySem.W.Frag) : Sp := fun vs H Q _ => ∃ (b n : Nat), vs = [N_ b, N_ n] ∧ Bs b ∧ n < 10 ^ 60 ∧ RetV (N_ (ds b n)) H Q
theorem sv_digit_sum {K : PySem.W.Frag} {H : Hp} {b n : Nat} (hb : Bs b) (hn : n < 10 ^ 60) : SpV (sp_digit_sum K) [N_ b, N_ n] H (N_ (ds b n)) := fun H1 _ Q q E => ⟨b, n, rfl, hb, hn, q⟩

theorem ok_digit_sum {P : Program} {w : World} {K : PySem.W.Frag} {mg : Str → Option Value} {base : Heap} (T : Txt K mg) : FnOk P w K mg base CX0 5 T.a_digit_sum T.d_digit_sum ["b", "k"] (sp_digit_sum K) := by
  refine T.F_digit_sum.ok sc_digit_sum (fun vs H Q E h => ?_) (fun cdv A outer s H vs Q E hr h => ?_)
  · obtain ⟨b, n, rfl, _⟩ := h
    rfl
  · obtain ⟨b, n, rfl, hb, hn, k⟩ := h
    refine ⟨_, (pss_cons (ps_expr (pe_call (ok_check_base T) (hr.mono (by decide)) (by rfl) T.g_check_base T.F_check_base.kp T.b_check_base .nil pass0 (pa_cons (pv 0) pa_nil)))
      (pss_cons (ps_expr (pe_call (ok_check_from T) (hr.mono (by decide)) (by rfl) T.g_check_from T.F_check_from.kp T.b_check_from .nil pass0 (pa_cons (pv 1) (pa_cons pe_int pa_nil))))
      (pss_one (ps_ret (pe_call (ok_digit_total T) (hr.mono (by decide)) (by rfl) T.g_digit_total T.F_digit_total.kp T.b_digit_total .nil pass0 (pa_cons (pv 0) (pa_cons (pv 1) pa_nil))))))), ?_⟩
    refine q_drop (ev_call (ea_cons (ev_var rfl) ea_nil) (sv_check_base hb)) fun H1 e1 => ?_
    refine q_drop (ev_call (ea_cons (ev_var rfl) (ea_cons ev_c ea_nil)) (sv_check_from (sm_n hn) (by omega))) fun H2 e2 => ?_
    exact s_ret (ev_call (ea_cons (ev_var rfl) (ea_cons (ev_var rfl) ea_nil)) (sv_digit_total hb (gt_n hn))) fun H3 e3 => k H3 ((e1.trans e2).trans e3)


def sp_carries (K : PySem.W.Frag) : Sp := fun vs H Q _ => ∃ (b x y : Nat), vs = [N_ b, N_ x, N_ y] ∧ Bs b ∧ x < 10 ^ 60 ∧ y < 10 ^ 60 ∧ RetV (N_ (cc b 0 x y)) H Q
theorem sv_carries {K : PySem.W.Frag} {H : Hp} {b x y : Nat} (hb : Bs b) (hx : x < 10 ^ 60) (hy : y < 10 ^ 60) : SpV (sp_carries K) [N_ b, N_ x, N_ y] H (N_ (cc b 0 x y)) := fun H1 _ Q q E => ⟨b, x, y, rfl, hb, hx, hy, q⟩
theorem car_eq {b x y : Nat} (hb : Bs b) : ((ds b x : Nat) + (ds b y : Nat) - (ds b (x + y) : Nat) : Int) / ((b : Int) - 1) = ((cc b 0 x y : Nat) : Int) := by
  have h := ds_plus (b := b) hb.1 x y
  have e : ((ds b x : Nat) + (ds b y : Nat) - (ds b (x + y) : Nat) : Int) = ((b : Int) - 1) * ((cc b 0 x y : Nat) : Int) := by
    have h2 : ((b : Int) - 1) = ((b - 1 : Nat) : Int) := by have := hb.1; omega
    rw [h2, ← Int.natCast_mul]
    omega
  rw [e]
  exact Int.mul_ediv_cancel_left _ (by have := hb.1; omega)


def sp_has_no_carries (K : PySem.W.Frag) : Sp := fun vs H Q _ => ∃ (b : Nat) (a : Addr) (xs : List Nat), vs = [N_ b, .ref a] ∧ Bs b ∧ SqT K H a (xs.map N_) ∧ 1 ≤ xs.length ∧ xs.length ≤ 400 ∧ (∀ d ∈ xs, d < 10 ^ 60) ∧ RetV (.bl (decide ((xs.map (ds b)).sum = ds b xs.sum))) H Q
theorem sv_has_no_carries {K : PySem.W.Frag} {H : Hp} {b : Nat} {a : Addr} {xs : List Nat} (hb : Bs b) (h : SqT K H a (xs.map N_)) (h1 : 1 ≤ xs.length) (h2 : xs.length ≤ 400) (h3 : ∀ d ∈ xs, d < 10 ^ 60) : SpV (sp_has_no_carries K) [N_ b, .ref a] H (.bl (decide ((xs.map (ds b)).sum = ds b xs.sum))) := fun H1 e Q q E => ⟨b, a, xs, rfl, hb, ex_t e h, h1, h2, h3, q⟩
theorem sv_are_carry_free {K : PySem.W.Frag} {H : Hp} {b : Nat} {a : Addr} {xs : List Nat} (hb : Bs b) (h : SqT K H a (xs.map N_)) (h2 : xs.length ≤ 410) (h3 : Gt xs.sum) : SpV (sp_are_carry_free K) [N_ b, .ref a] H (.bl (decide ((xs.map (ds b)).sum = ds b xs.sum))) := fun H1 e Q q E => ⟨b, a, xs, rfl, hb, ex_t e h, h2, h3, q⟩
theorem sum_bound {m : Nat} : ∀ xs : List Nat, (∀ d ∈ xs, d < m) → xs.sum ≤ xs.length * m
  | [], _ => Nat.zero_le _
  | x :: r, h => by
    rw [List.sum_cons, List.length_cons, Nat.succ_mul]
    have h1 := h x (List.mem_cons_self ..)
    have h2 := sum_bound r fun d hd => h d (List.mem_cons_of_mem _ hd)
    omega

theorem ok_has_no_carries {P : Program} {w : World} {K : PySem.W.Frag} {mg : Str → Option Value} {base : Heap} (T : Txt K mg) : FnOk P w K mg base CX0 5 T.a_has_no_carries T.d_has_no_carries ["b", "numbers"] (sp_has_no_carries K) := by
  refine T.F_has_no_carries.ok sc_has_no_carries (fun vs H Q E h => ?_) (fun cdv A outer s H vs Q E hr h => ?_)
  · obtain ⟨b, a, xs, rfl, _⟩ := h
    rfl
  · obtain ⟨b, a, xs, rfl, hb, hx, h1, h2, h3, k⟩ := h
    refine ⟨_, (pss_cons (ps_expr (pe_call (ok_check_base T) (hr.mono (by decide)) (by rfl) T.g_check_base T.F_check_base.kp T.b_check_base .nil pass0 (pa_cons (pv 0) pa_nil)))
      (pss_cons (ps_expr (pe_call (ok_check_numbers T) (hr.mono (by decide)) (by rfl) T.g_check_numbers T.F_check_numbers.kp T.b_check_numbers .nil pass0 (pa_cons (pv 1) pa_nil)))
      (pss_one (ps_ret (pe_call (ok_are_carry_free T) (hr.mono (by decide)) (by rfl) T.g_are_carry_free T.F_are_carry_free.kp T.b_are_carry_free .nil pass0 (pa_cons (pv 0) (pa_cons (pv 1) pa_nil))))))), ?_⟩
    refine q_drop (ev_call (ea_cons (ev_var rfl) ea_nil) (sv_check_base hb)) fun H1 e1 => ?_
    refine q_drop (ev_call (ea_cons (ev_var rfl) ea_nil) (sv_check_numbers (ex_t e1 hx) h1 h2 h3)) fun H2 e2 => ?_
    have hs : Gt xs.sum := Nat.lt_of_le_of_lt (Nat.le_trans (sum_bound xs h3) (Nat.mul_le_mul_right _ h2)) (by decide)
    exact s_ret (ev_call (ea_cons (ev_var rfl) (ea_cons (ev_var rfl) ea_nil)) (sv_are_carry_free hb (ex_t (e1.trans e2) hx) (by omega) hs)) fun H3 e3 => k H3 ((e1.trans e2).trans e3)


def FQ : List Nat := [2, 3, 4, 5, 7, 8, 9]
def Fq (q : Nat) : Prop := q ∈ FQ
theorem Fq.b {q : Nat} (h : Fq q) : 2 ≤ q ∧ q ≤ 9 := by
  unfold Fq FQ at h
  simp only [List.mem_cons, List.not_mem_nil, or_false] at h
  omega
def g0 (t : List (Int × Int)) (q : Nat) : Option Int := t.lookup (q : Int)
def prE (q : Nat) : Nat := ((g0 W_PRIMES q).getD 0).toNat
def poE (q : Nat) : Nat := ((g0 W_POWERS q).getD 0).toNat
def chkAll (f : Nat → Bool) : Bool := FQ.all f
theorem chk_get {f : Nat → Bool} (h : chkAll f = true) {q : Nat} (hq : Fq q) : f q = true := List.all_eq_true.mp h q hq
def all1 (q : Nat) (f : Nat → Bool) : Bool := (List.range q).all f
theorem all1_get {q : Nat} {f : Nat → Bool} (h : all1 q f = true) {a : Nat} (ha : a < q) : f a = true := List.all_eq_true.mp h a (List.mem_range.mpr ha)
theorem chk_tabs : chkAll (fun q => decide (g0 W_PRIMES q = some ((prE q : Nat) : Int)) && decide (g0 W_POWERS q = some ((poE q : Nat) : Int)) && decide (2 ≤ prE q) && decide (prE q ≤ 7) && decide (1 ≤ poE q) && decide (poE q ≤ 3) && decide (prE q ^ poE q = q)) = true := by decide +kernel
structure T0 (q : Nat) : Prop where
  pr : g0 W_PRIMES q = some ((prE q : Nat) : Int)
  po : g0 W_POWERS q = some ((poE q : Nat) : Int)
  p2 : 2 ≤ prE q
  p7 : prE q ≤ 7
  f1 : 1 ≤ poE q
  f3 : poE q ≤ 3
  pw : prE q ^ poE q = q
theorem t0_of {q : Nat} (hq : Fq q) : T0 q := by
  have h := chk_get chk_tabs hq
  simp only [Bool.and_eq_true, decide_eq_true_eq] at h
  exact ⟨h.1.1.1.1.1.1, h.1.1.1.1.1.2, h.1.1.1.1.2, h.1.1.1.2, h.1.1.2, h.1.2, h.2⟩
theorem tup_of {K : PySem.W.Frag} {a : Addr} {ns : List Int} (h : asRow K (.ref a) = some ns) (H : Hp) : SqT K H a (ns.map V.int) := by
  obtain ⟨b, e, hs⟩ := asRow_eq h
  cases e
  exact hs H
theorem inV_ints (i : Int) : ∀ ns : List Int, inV (.int i) (ns.map V.int) = decide (i ∈ ns)
  | [] => rfl
  | n :: r => by
    have ih := inV_ints i r
    unfold inV at ih ⊢
    rw [List.map_cons, List.any_cons, ih]
    show ((n == i) || decide (i ∈ r)) = decide (i ∈ n :: r)
    by_cases h : n = i
    · subst h
      rw [show (n == n) = true from beq_self_eq_true n, Bool.true_or, decide_eq_true (List.mem_cons_self ..)]
    · rw [show (n == i) = false from beq_eq_false_iff_ne.mpr h, Bool.false_or]
      by_cases h2 : i ∈ r
      · rw [decide_eq_true h2, decide_eq_true (List.mem_cons_of_mem _ h2)]
      · rw [decide_eq_false h2, decide_eq_false (fun z => by
          rcases List.mem_cons.mp z with z | z
          · exact h z.symm
          · exact h2 z)]
theorem flat_ints (ns : List Int) : (ns.map V.int).all flatV = true := by
  rw [List.all_eq_true]
  intro x hx
  obtain ⟨n, _, rfl⟩ := List.mem_map.mp hx
  rfl
theorem Fq.bs {q : Nat} (h : Fq q) : Bs q := ⟨h.b.1, by have := h.b.2; omega⟩
def sp_is_field (K : PySem.W.Frag) : Sp := fun vs H Q _ => ∃ (q : Nat), vs = [N_ q] ∧ Fq q ∧ RetV (.bl true) H Q
theorem sv_is_field {K : PySem.W.Frag} {H : Hp} {q : Nat} (hq : Fq q) : SpV (sp_is_field K) [N_ q] H (.bl true) := fun H1 e Q k E => ⟨q, rfl, hq, k⟩
theorem in_F {q : Nat} (hq : Fq q) : decide ((q : Int) ∈ W_FIELDS) = true := by
  unfold Fq FQ at hq
  simp only [List.mem_cons, List.not_mem_nil, or_false] at hq
  rcases hq with rfl | rfl | rfl | rfl | rfl | rfl | rfl <;> decide

theorem ok_is_field {P : Program} {w : World} {K : PySem.W.Frag} {mg : Str → Option Value} {base : Heap} (T : Txt K mg) : FnOk P w K mg base CX0 2 T.a_is_field T.d_is_field ["value"] (sp_is_field K) := by
  refine T.F_is_field.ok sc_is_field (fun vs H Q E h => ?_) (fun cdv A outer s H vs Q E hr h => ?_)
  · obtain ⟨q, rfl, _⟩ := h
    rfl
  · obtain ⟨q, rfl, hq, k⟩ := h
    refine ⟨_, (pss_one (ps_ret (pe_and (pe_call (ok_is_integer T) (hr.mono (by decide)) (by rfl) T.g_is_integer T.F_is_integer.kp T.b_is_integer .nil pass0 (pa_cons (pv 0) pa_nil)) (pe_one (pe_cmpR op_in_seq (pv 0) (pe_glob (v := .ref T.a_FIELDS) (by rfl) T.g_FIELDS rfl) (by rfl)))))), ?_⟩
    exact s_ret (ev_andV (b := true) (ev_call (ea_cons (ev_var rfl) ea_nil) (sv_is_integer (sm_b hq.bs))) fun _ => (ev_is (ev_op (ev_var rfl) ev_c (rv_isT (tup_of T.w_FIELDS H) rfl (flat_ints _))) (congrArg V.bl ((inV_ints _ _).trans (in_F hq))))) fun H1 e1 => k H1 e1


def sp_check_field (K : PySem.W.Frag) : Sp := fun vs H Q _ => ∃ (q : Nat), vs = [N_ q] ∧ Fq q ∧ RetV .non H Q
theorem sv_check_field {K : PySem.W.Frag} {H : Hp} {q : Nat} (hq : Fq q) : SpV (sp_check_field K) [N_ q] H .non := fun H1 e Q k E => ⟨q, rfl, hq, k⟩

theorem ok_check_field {P : Program} {w : World} {K : PySem.W.Frag} {mg : Str → Option Value} {base : Heap} (T : Txt K mg) : FnOk P w K mg base CX0 3 T.a_check_field T.d_check_field ["q"] (sp_check_field K) := by
  refine T.F_check_field.ok sc_check_field (fun vs H Q E h => ?_) (fun cdv A outer s H vs Q E hr h => ?_)
  · obtain ⟨q, rfl, _⟩ := h
    rfl
  · obtain ⟨q, rfl, hq, k⟩ := h
    refine ⟨_, (pss_one (ps_if (pt_not (pt_val (pe_call (ok_is_field T) (hr.mono (by decide)) (by rfl) T.g_is_field T.F_is_field.kp T.b_is_field .nil pass0 (pa_cons (pv 0) pa_nil)))) (pss_one ps_never) pss_nil)), ?_⟩
    exact s_when (et_not (et_B (ev_call (ea_cons (ev_var rfl) ea_nil) (sv_is_field hq)))) (fun z => nomatch z) (fun _ H1 e1 => k H1 e1)


section
variable {K : PySem.W.Frag} {σ : L2.St} {H H' : Hp} {te : TE}
theorem el_slN {tl th : TO} {xs : List V} {lo hi : Option Int} (h : EvL te σ H xs) (h1 : EvO tl σ H lo) (h2 : EvO th σ H hi) : EvL (tSl (rSlL K) te tl th) σ H (cutV xs lo hi) := fun H1 e _ q =>
  h H1 e _ fun a H2 _ e2 hx => h1 H2 (e.trans e2) _ fun H3 e3 => h2 H3 ((e.trans e2).trans e3) _ fun H4 e4 =>
    ⟨a, xs, rfl, sq_of (e4 _ _ (e3 _ _ hx)), fun p hp => q p _ (fresh_back ((e2.trans e3).trans e4) hp) (((e2.trans e3).trans e4).trans (Ex.new hp)) upd_same⟩
end
theorem ev_minN {K : PySem.W.Frag} {σ : L2.St} {H : Hp} {ta : TE} {ns : List Int} {m : Int} (h : EvL ta σ H (ns.map V.int)) (hm : m ∈ ns) (hl : ∀ y ∈ ns, m ≤ y) : Ev (tCB (rMin K) (tCons ta tNil)) σ H (.int m) := fun H1 e Q q =>
  h H1 e _ fun p H2 _ e2 h2 => ⟨p, ns, rfl, sq_of h2, List.length_pos_of_mem hm, fun m' hm' hl' => by
    have : m' = m := Int.le_antisymm (hl' m hm) (hl m' hm')
    subst this
    exact q H2 e2⟩
def minL : List Nat → Nat
  | [] => 0
  | [x] => x
  | x :: y :: r => min x (minL (y :: r))
theorem minL_mem : ∀ xs : List Nat, xs ≠ [] → minL xs ∈ xs
  | [], h => absurd rfl h
  | [x], _ => List.mem_cons_self ..
  | x :: y :: r, _ => by
    have ih := minL_mem (y :: r) (by simp)
    show min x (minL (y :: r)) ∈ x :: y :: r
    rcases Nat.le_total x (minL (y :: r)) with h | h
    · rw [Nat.min_eq_left h]
      exact List.mem_cons_self ..
    · rw [Nat.min_eq_right h]
      exact List.mem_cons_of_mem _ ih
theorem minL_le : ∀ (xs : List Nat) (y : Nat), y ∈ xs → minL xs ≤ y
  | [], y, h => by simp at h
  | [x], y, h => by
    rw [List.mem_singleton.mp h]
    exact Nat.le_refl _
  | x :: z :: r, y, h => by
    show min x (minL (z :: r)) ≤ y
    rcases List.mem_cons.mp h with h | h
    · rw [h]
      exact Nat.min_le_left _ _
    · exact Nat.le_trans (Nat.min_le_right _ _) (minL_le (z :: r) y h)
def ssL (q k : Nat) : List Nat := (List.range (poE q)).map fun j => ds q (prE q ^ j * k)
def mpN (q k : Nat) : Nat := minL (ssL q k) / (q - 1)
theorem ssL_len (q k : Nat) : (ssL q k).length = poE q := by unfold ssL; rw [List.length_map, List.length_range]
theorem given_range (n : Nat) (v : Nat → V) : given n (fun _ => true) v = (List.range n).map v := by
  unfold given
  rw [List.filter_eq_self.mpr (fun _ _ => rfl)]
theorem p49 {q j : Nat} (hq : Fq q) (hj : j ≤ 2) : prE q ^ j ≤ 49 := Nat.le_trans (Nat.pow_le_pow_left (t0_of hq).p7 j) (Nat.le_trans (Nat.pow_le_pow_right (by decide) hj) (by decide))
theorem gt_pk {q j k : Nat} (hq : Fq q) (hj : j ≤ 2) (hk : k < 10 ^ 60) : Gt (prE q ^ j * k) := Nat.lt_of_le_of_lt (Nat.mul_le_mul (p49 hq hj) (Nat.le_of_lt hk)) (by decide +kernel)
def sp_shift_sum_list (K : PySem.W.Frag) : Sp := fun vs H Q _ => ∃ (q k : Nat), vs = [N_ q, N_ k] ∧ Fq q ∧ k < 10 ^ 60 ∧ RetL ((ssL q k).map N_) H Q
theorem sv_shift_sum_list {K : PySem.W.Frag} {H : Hp} {q k : Nat} (hq : Fq q) (hk : k < 10 ^ 60) : SpL (sp_shift_sum_list K) [N_ q, N_ k] H ((ssL q k).map N_) := fun H1 e Q kk E => ⟨q, k, rfl, hq, hk, kk⟩

theorem ok_shift_sum_list {P : Program} {w : World} {K : PySem.W.Frag} {mg : Str → Option Value} {base : Heap} (T : Txt K mg) : FnOk P w K mg base CX0 3 T.a_shift_sum_list T.d_shift_sum_list ["q", "k"] (sp_shift_sum_list K) := by
  refine T.F_shift_sum_list.ok sc_shift_sum_list (fun vs H Q E h => ?_) (fun cdv A outer s H vs Q E hr h => ?_)
  · obtain ⟨q, k, rfl, _⟩ := h
    rfl
  · obtain ⟨q, k, rfl, hq, hk, kk⟩ := h
    refine ⟨_, (pss_one (ps_ret (pe_slice sl_list (pe_lc (own := [("j", 2)]) (g := gName 2) rfl sc_shift_sum_list.nd (pi_range2 rfl T.z_range (pa_cons pe_int (pa_cons pe_int pa_nil))) (blkOk_by (N := ["q", "k", "j"]) (sc := defScope s_shift_sum_list) (by decide +kernel)) (fun _ _ _ _ _ => pg_name (i := 2) sc_shift_sum_list.nd rfl (Or.inl rfl)) (fun _ _ _ _ _ => pts_nil) (fun _ _ _ _ _ => (pe_call (ok_digit_total T) (hr.mono (by decide)) (by rfl) T.g_digit_total T.F_digit_total.kp T.b_digit_total .nil pass0 (pa_cons (pv 0) (pa_cons (pe_op op_mulW (pe_op op_powW (pe_ix (r := rIxW K) ix_tab (pe_glob (v := .ref T.a_PRIMES) (by rfl) T.g_PRIMES rfl) (pv 0) (fun _ _ => rfl)) (pv 2)) (pv 1)) pa_nil))))) po_none (po_some (pe_ix (r := rIxW K) ix_tab (pe_glob (v := .ref T.a_POWERS) (by rfl) T.g_POWERS rfl) (pv 0) (fun _ _ => rfl)))))), ?_⟩
    have ht := t0_of hq
    refine s_retL (el_is (el_slN (el_lcR2 (lo := 0) (n := 3) (fun _ => true) (fun j => N_ (ds q (prE q ^ j * k))) (ea_cons ev_c (ea_cons ev_c ea_nil)) (by decide) (fun _ => rfl) (fun _ _ _ _ => et_nil) (fun j H1 e1 hj _ => ?_)) eo_none (eo_some (ev_tab0 T.w_POWERS ht.po (ev_var rfl)))) ?_) fun p H2 np e2 h2 => kk p H2 np e2 h2
    · rw [Int.zero_add]
      have hj2 : j ≤ 2 := by omega
      have hp := p49 hq hj2
      refine ev_call (ea_cons (ev_var rfl) (ea_cons (ev_is (ev_op (ev_op (ev_tab0 T.w_PRIMES ht.pr (ev_var rfl)) (ev_var rfl) (rv_I ⟨by omega, by omega, Nat.lt_of_le_of_lt (show prE q ≤ 7 from ht.p7) (Nat.lt_of_lt_of_le (show 7 < 2 ^ 3 by decide) (Nat.pow_le_pow_right (by decide) (by decide : 3 ≤ 1000)))⟩)) (ev_var rfl) (rv_I (wide_mul (a := 10) (b := 200) ?_ (Nat.lt_trans hk (by decide)) (by decide) (by decide) (by decide)))) (congrArg V.int ?_)) ea_nil)) (sv_digit_total (n := prE q ^ j * k) hq.bs (gt_pk hq hj2 hk))
      · rw [Int.toNat_natCast, ← Int.natCast_pow]
        show prE q ^ j < 1024
        omega
      · rw [Int.toNat_natCast, Int.natCast_mul, Int.natCast_pow]
    · rw [cutTake, given_range]
      unfold ssL
      show ((List.range 3).map _).take _ = _
      rw [← List.map_take, List.take_range, Nat.min_eq_left ht.f3, List.map_map]
      rfl


def sp_parts_bound (K : PySem.W.Frag) : Sp := fun vs H Q _ => ∃ (q k : Nat), vs = [N_ q, N_ k] ∧ Fq q ∧ k < 10 ^ 60 ∧ RetV (N_ (mpN q k)) H Q
theorem sv_parts_bound {K : PySem.W.Frag} {H : Hp} {q k : Nat} (hq : Fq q) (hk : k < 10 ^ 60) : SpV (sp_parts_bound K) [N_ q, N_ k] H (N_ (mpN q k)) := fun H1 e Q kk E => ⟨q, k, rfl, hq, hk, kk⟩
theorem ssL_ne {q k : Nat} (hq : Fq q) : ssL q k ≠ [] := fun z => by
  have h := ssL_len q k
  rw [z] at h
  have := (t0_of hq).f1
  have e : ([] : List Nat).length = 0 := rfl
  omega
theorem ev_minS {K : PySem.W.Frag} {σ : L2.St} {H : Hp} {ta : TE} {xs : List Nat} (h : EvL ta σ H (xs.map N_)) (hn : xs ≠ []) : Ev (tCB (rMin K) (tCons ta tNil)) σ H (N_ (minL xs)) :=
  ev_minN (ns := xs.map Int.ofNat) (m := ((minL xs : Nat) : Int)) (el_is h (mapN xs)) (List.mem_map.mpr ⟨minL xs, minL_mem xs hn, rfl⟩) fun y hy => by
    obtain ⟨z, hz, rfl⟩ := List.mem_map.mp hy
    exact Int.ofNat_le.mpr (minL_le xs z hz)

theorem ok_parts_bound {P : Program} {w : World} {K : PySem.W.Frag} {mg : Str → Option Value} {base : Heap} (T : Txt K mg) : FnOk P w K mg base CX0 4 T.a_parts_bound T.d_parts_bound ["q", "k"] (sp_parts_bound K) := by
  refine T.F_parts_bound.ok sc_parts_bound (fun vs H Q E h => ?_) (fun cdv A outer s H vs Q E hr h => ?_)
  · obtain ⟨q, k, rfl, _⟩ := h
    rfl
  · obtain ⟨q, k, rfl, hq, hk, kk⟩ := h
    refine ⟨_, (pss_one (ps_ret (pe_op op_fdivW (pe_callB (cr_min rfl) (by rfl) T.z_min (by decide +kernel) (pa_cons (pe_call (ok_shift_sum_list T) (hr.mono (by decide)) (by rfl) T.g_shift_sum_list T.F_shift_sum_list.kp T.b_shift_sum_list .nil pass0 (pa_cons (pv 0) (pa_cons (pv 1) pa_nil))) pa_nil)) (pe_op op_sub (pv 0) pe_int)))), ?_⟩
    have hb := hq.b
    refine s_ret (ev_is (ev_op (ev_minS (el_call (ea_cons (ev_var rfl) (ea_cons (ev_var rfl) ea_nil)) (sv_shift_sum_list hq hk)) (ssL_ne hq)) (ev_op (ev_var rfl) ev_c rv_I0) (rv_I (wide_div (b := 10) (by omega) (by show Int.natAbs ((q : Int) - 1) < 1024; omega) (by decide) (by decide)))) (congrArg V.int ?_)) fun H1 e1 => kk H1 e1
    rw [show ((q : Int) - 1) = ((q - 1 : Nat) : Int) by omega]
    rfl


def sp_shift_sums (K : PySem.W.Frag) : Sp := fun vs H Q _ => ∃ (q k : Nat), vs = [N_ q, N_ k] ∧ Fq q ∧ k < 10 ^ 60 ∧ RetU ((ssL q k).map N_) H Q
theorem sv_shift_sums {K : PySem.W.Frag} {H : Hp} {q k : Nat} (hq : Fq q) (hk : k < 10 ^ 60) : SpU (sp_shift_sums K) [N_ q, N_ k] H ((ssL q k).map N_) := fun H1 e Q kk E => ⟨q, k, rfl, hq, hk, kk⟩
def sp_most_parts (K : PySem.W.Frag) : Sp := fun vs H Q _ => ∃ (q k : Nat), vs = [N_ q, N_ k] ∧ Fq q ∧ k < 10 ^ 60 ∧ RetV (N_ (mpN q k)) H Q
theorem sv_most_parts {K : PySem.W.Frag} {H : Hp} {q k : Nat} (hq : Fq q) (hk : k < 10 ^ 60) : SpV (sp_most_parts K) [N_ q, N_ k] H (N_ (mpN q k)) := fun H1 e Q kk E => ⟨q, k, rfl, hq, hk, kk⟩

theorem ok_shift_sums {P : Program} {w : World} {K : PySem.W.Frag} {mg : Str → Option Value} {base : Heap} (T : Txt K mg) : FnOk P w K mg base CX0 4 T.a_shift_sums T.d_shift_sums ["q", "k"] (sp_shift_sums K) := by
  refine T.F_shift_sums.ok sc_shift_sums (fun vs H Q E h => ?_) (fun cdv A outer s H vs Q E hr h => ?_)
  · obtain ⟨q, k, rfl, _⟩ := h
    rfl
  · obtain ⟨q, k, rfl, hq, hk, kk⟩ := h
    refine ⟨_, (pss_cons (ps_expr (pe_call (ok_check_field T) (hr.mono (by decide)) (by rfl) T.g_check_field T.F_check_field.kp T.b_check_field .nil pass0 (pa_cons (pv 0) pa_nil)))
      (pss_cons (ps_expr (pe_call (ok_check_from T) (hr.mono (by decide)) (by rfl) T.g_check_from T.F_check_from.kp T.b_check_from .nil pass0 (pa_cons (pv 1) (pa_cons pe_int pa_nil))))
      (pss_one (ps_ret (pe_callTy call_tuple_of (by rfl) T.z_tuple (by decide +kernel) (pa_cons (pe_call (ok_shift_sum_list T) (hr.mono (by decide)) (by rfl) T.g_shift_sum_list T.F_shift_sum_list.kp T.b_shift_sum_list .nil pass0 (pa_cons (pv 0) (pa_cons (pv 1) pa_nil))) pa_nil)))))), ?_⟩
    refine q_drop (ev_call (ea_cons (ev_var rfl) ea_nil) (sv_check_field hq)) fun H1 e1 => ?_
    refine q_drop (ev_call (ea_cons (ev_var rfl) (ea_cons ev_c ea_nil)) (sv_check_from (sm_n hk) (by omega))) fun H2 e2 => ?_
    exact s_retU (eu_tupleN (el_call (ea_cons (ev_var rfl) (ea_cons (ev_var rfl) ea_nil)) (sv_shift_sum_list hq hk))) fun p H3 hp e3 h3 => kk.go (e1.trans e2) hp e3 h3


theorem ok_most_parts {P : Program} {w : World} {K : PySem.W.Frag} {mg : Str → Option Value} {base : Heap} (T : Txt K mg) : FnOk P w K mg base CX0 5 T.a_most_parts T.d_most_parts ["q", "k"] (sp_most_parts K) := by
  refine T.F_most_parts.ok sc_most_parts (fun vs H Q E h => ?_) (fun cdv A outer s H vs Q E hr h => ?_)
  · obtain ⟨q, k, rfl, _⟩ := h
    rfl
  · obtain ⟨q, k, rfl, hq, hk, kk⟩ := h
    refine ⟨_, (pss_cons (ps_expr (pe_call (ok_check_field T) (hr.mono (by decide)) (by rfl) T.g_check_field T.F_check_field.kp T.b_check_field .nil pass0 (pa_cons (pv 0) pa_nil)))
      (pss_cons (ps_expr (pe_call (ok_check_from T) (hr.mono (by decide)) (by rfl) T.g_check_from T.F_check_from.kp T.b_check_from .nil pass0 (pa_cons (pv 1) (pa_cons pe_int pa_nil))))
      (pss_one (ps_ret (pe_call (ok_parts_bound T) (hr.mono (by decide)) (by rfl) T.g_parts_bound T.F_parts_bound.kp T.b_parts_bound .nil pass0 (pa_cons (pv 0) (pa_cons (pv 1) pa_nil))))))), ?_⟩
    refine q_drop (ev_call (ea_cons (ev_var rfl) ea_nil) (sv_check_field hq)) fun H1 e1 => ?_
    refine q_drop (ev_call (ea_cons (ev_var rfl) (ea_cons ev_c ea_nil)) (sv_check_from (sm_n hk) (by omega))) fun H2 e2 => ?_
    exact s_ret (ev_call (ea_cons (ev_var rfl) (ea_cons (ev_var rfl) ea_nil)) (sv_parts_bound hq hk)) fun H3 e3 => kk H3 ((e1.trans e2).trans e3)


end Own
namespace Own
open PySem PySem.Spec PyProof.Rows L2 Evl

def sp__law_dice (K : PySem.W.Frag) : Sp := fun vs H Q _ => ∃ (a : Addr) (ns : List Int) (at_ : Nat), vs = [.ref a, N_ at_] ∧ SqL K H a (ns.map V.int) ∧ ns.length ≤ 63 ∧ at_ ≤ 100 ∧ ∀ p H', H p = none → Ex H H' → IsDice H' p → Q (.ref p) H'

theorem ok__law_dice {P : Program} {w : World} {K : PySem.W.Frag} {mg : Str → Option Value} {base : Heap} (T : Txt K mg) : FnOk P w K mg base CX0 1 T.a__law_dice T.d__law_dice ["_law_script", "_law_at"] (sp__law_dice K) := by
  refine T.F__law_dice.ok sc__law_dice (fun vs H Q E h => ?_) (fun cdv A outer s H vs Q E hr h => ?_)
  · obtain ⟨a, ns, at_, rfl, _⟩ := h
    rfl
  · obtain ⟨a, ns, at_, rfl, hx, hlen, hat, k⟩ := h
    refine ⟨_, (pss_cons (ps_set (i := 2) sc__law_dice.nd rfl (Or.inl rfl) (pe_op op_add (pe_op op_mul pe_int (pv 1)) pe_int))
      (pss_cons (ps_if (pt_cmpR op_lt (pv 1) (pe_callB call_len_seq (by rfl) T.z_len (by decide +kernel) (pa_cons (pv 0) pa_nil)) (nomark _)) (pss_one (ps_set (i := 2) sc__law_dice.nd rfl (Or.inl rfl) (pe_ix (r := rIxL K) ix_list (pv 0) (pv 1) (fun _ _ => rfl)))) pss_nil)
      (pss_cons (ps_set (i := 3) sc__law_dice.nd rfl (Or.inl rfl) (pe_op op_mod (pe_callTy call_int1 (by rfl) T.z_int (by decide +kernel) (pa_cons (pe_callB call_abs (by rfl) T.z_abs (by decide +kernel) (pa_cons (pv 2) pa_nil)) pa_nil)) (pe_op op_powW (pe_op op_powW pe_int pe_int) pe_int)))
      (pss_cons (ps_set (i := 4) sc__law_dice.nd rfl (Or.inl rfl) (pe_op op_fdivW (pv 3) (pe_op op_powW pe_int pe_int)))
      (pss_cons (ps_set (i := 5) sc__law_dice.nd rfl (Or.inl rfl) (pe_op op_add (pe_op op_add (pe_op op_add (pe_op op_mul (pe_op op_mod (pv 3) pe_int) pe_int) (pe_op op_mul pe_int (pv 1))) (pe_op op_mul pe_int (pe_callTy call_int1 (by rfl) T.z_int (by decide +kernel) (pa_cons (pe_cmpR op_lt (pv 2) pe_int (nomark _)) pa_nil)))) pe_int))
      (pss_one (ps_ret (pe_lst (pa_cons (pv 4) (pa_cons (pe_op op_mod (pv 5) pe_int) (pa_cons pe_int pa_nil))))))))))), ?_⟩
    refine q_asg (ev_op (ev_op ev_c (ev_var rfl) (rv_I (.inl ⟨by decide, by decide⟩))) ev_c rv_I0) fun H1 e1 => ?_
    have hz : ∃ z : Int, (decide ((at_ : Int) < ((ns.map V.int).length : Nat)) = true → (ns.map V.int)[at_]? = some (.int z)) ∧ (decide ((at_ : Int) < ((ns.map V.int).length : Nat)) = false → z = 103 * (at_ : Int) + 43) := by
      by_cases hlt : at_ < ns.length
      · refine ⟨ns[at_], fun _ => ?_, fun h => ?_⟩
        · rw [List.getElem?_map, List.getElem?_eq_getElem hlt]
          rfl
        · have := of_decide_eq_false h
          rw [List.length_map] at this
          omega
      · refine ⟨103 * (at_ : Int) + 43, fun h => ?_, fun _ => rfl⟩
        have := of_decide_eq_true h
        rw [List.length_map] at this
        omega
    obtain ⟨z, hz1, hz2⟩ := hz
    refine q_ifAsg (v := .int z) (et_test (ev_op (ev_var rfl) (ev_cb (ea_cons (ev_var rfl) ea_nil) (rc_lenL (ex_l e1 hx))) rv_I0)) (fun hb => ev_op (ev_var rfl) (ev_var rfl) (rv_ixL (ex_l e1 hx) (atI_nat (hz1 hb)))) (fun hb => ?_) (fun H2 e2' => ?_)
    · rw [hz2 hb]
      rfl
    have e2 := e1.trans e2'
    refine q_asg (ev_op (ev_cb (ea_cons (ev_cb (ea_cons (ev_var rfl) ea_nil) rc_abs) ea_nil) rc_int) (ev_op (ev_op ev_c ev_c (rv_I ⟨by decide, by decide, by decide⟩)) ev_c (rv_I ⟨by decide, by decide, by decide +kernel⟩)) (rv_I (by decide +kernel))) fun H3 e3 => ?_
    refine q_asg (ev_op (ev_var rfl) (ev_op ev_c ev_c (rv_I ⟨by decide, by decide, by decide⟩)) (rv_I (wide_div (b := 100) (by decide +kernel) (by decide +kernel) (by decide) (by decide)))) fun H4 e4 => ?_
    refine q_asg (ev_op (ev_op (ev_op (ev_op (ev_op (ev_var rfl) ev_c (rv_I (by decide))) ev_c (rv_I (.inr ⟨by decide, by decide⟩))) (ev_op ev_c (ev_var rfl) (rv_I (.inl ⟨by decide, by decide⟩))) rv_I0) (ev_op ev_c (ev_cb (ea_cons (ev_op (ev_var rfl) ev_c rv_I0) ea_nil) rc_intB) (rv_I (.inl ⟨by decide, by decide⟩))) rv_I0) ev_c rv_I0) fun H5 e5 => ?_
    exact s_retL (el_lst (ea_cons (ev_var rfl) (ea_cons (ev_op (ev_var rfl) ev_c (rv_I (by decide))) (ea_cons ev_c ea_nil))) (by show 3 ≤ 100000; decide)) fun p H6 hp e6 h6 => k p H6 (fresh_back ((((e2.trans e3).trans e4).trans e5)) hp) ((((e2.trans e3).trans e4).trans e5).trans e6) ⟨_, _, _, h6⟩


def sp__law_roll (K : PySem.W.Frag) : Sp := fun vs H Q _ => ∃ (p : Addr) (m : Nat), vs = [.ref p, N_ m] ∧ IsDice H p ∧ 0 < m ∧ m < 2 ^ 1000 ∧ ∀ (r : Nat) H', r < m → Exd p H H' → IsDice H' p → Q (N_ r) H'
theorem nat_mod (x : Int) {m : Nat} (h : 0 < m) : ∃ r : Nat, r < m ∧ x % (m : Int) = (r : Int) := by
  have h1 := Int.emod_nonneg x (by omega : (m : Int) ≠ 0)
  have h2 := Int.emod_lt_of_pos x (by omega : (0 : Int) < m)
  exact ⟨(x % (m : Int)).toNat, by omega, by omega⟩

theorem ok__law_roll {P : Program} {w : World} {K : PySem.W.Frag} {mg : Str → Option Value} {base : Heap} (T : Txt K mg) : FnOk P w K mg base CX0 1 T.a__law_roll T.d__law_roll ["_law_dice_here", "_law_total"] (sp__law_roll K) := by
  refine T.F__law_roll.ok sc__law_roll (fun vs H Q E h => ?_) (fun cdv A outer s H vs Q E hr h => ?_)
  · obtain ⟨p, m, rfl, _⟩ := h
    rfl
  · obtain ⟨p, m, rfl, hd, hm, hM, k⟩ := h
    refine ⟨_, (pss_cons (ps_set (i := 2) sc__law_roll.nd rfl (Or.inl rfl) (pe_callTy call_int1 (by rfl) T.z_int (by decide +kernel) (pa_cons (pv 1) pa_nil)))
      (pss_cons (ps_if (pt_cmpR op_gt (pe_ix (r := rIxL K) ix_list (pv 0) pe_int (fun _ _ => rfl)) pe_int (nomark _)) (pss_cons (ps_set (i := 3) sc__law_roll.nd rfl (Or.inl rfl) (pe_op op_mod (pe_ix (r := rIxL K) ix_list (pv 0) pe_int (fun _ _ => rfl)) (pv 2)))
      (pss_cons (ps_asg (pe_op op_fdivW (pe_ix (r := rIxL K) ix_list (pv 0) pe_int (fun _ _ => rfl)) (pv 2)) (pg_sub (pv 0) pe_int set_list))
      (pss_one (ps_ret (pe_callTy call_int1 (by rfl) T.z_int (by decide +kernel) (pa_cons (pv 3) pa_nil)))))) pss_nil)
      (pss_cons (ps_asg (pe_op op_add (pe_ix (r := rIxL K) ix_list (pv 0) pe_int (fun _ _ => rfl)) pe_int) (pg_sub (pv 0) pe_int set_list))
      (pss_cons (ps_set (i := 4) sc__law_roll.nd rfl (Or.inl rfl) (pe_op op_mod (pe_op op_add (pe_ix (r := rIxL K) ix_list (pv 0) pe_int (fun _ _ => rfl)) (pe_op op_mul pe_int (pe_ix (r := rIxL K) ix_list (pv 0) pe_int (fun _ _ => rfl)))) pe_int))
      (pss_cons (ps_set (i := 5) sc__law_roll.nd rfl (Or.inl rfl) (pe_op op_add (pe_op op_mulW (pe_op op_mod (pe_op op_mulW (pv 4) (pv 4)) pe_int) (pv 4)) (pe_op op_mul pe_int (pe_ix (r := rIxL K) ix_list (pv 0) pe_int (fun _ _ => rfl)))))
      (pss_cons (ps_set (i := 5) sc__law_roll.nd rfl (Or.inl rfl) (pe_op op_mod (pv 5) pe_int))
      (pss_one (ps_ret (pe_callTy call_int1 (by rfl) T.z_int (by decide +kernel) (pa_cons (pe_op op_mod (pe_op op_fdivW (pv 5) pe_int) (pv 2)) pa_nil)))))))))), ?_⟩
    obtain ⟨d0, d1, d2, hd⟩ := hd
    refine q_asg (ev_cb (ea_cons (ev_var rfl) ea_nil) rc_int) fun H1 e1 => ?_
    have h1 := e1 _ _ hd
    refine q_if (et_test (ev_op (ev_op (ev_var rfl) ev_c (rv_ixL (sq_of h1) (atI_nat (j := 0) rfl))) ev_c rv_I0)) (fun hb H2 e2 => ?_) (fun _ H2 e2 => ?_)
    · have h2 := e2 _ _ h1
      obtain ⟨r, hr1, hr2⟩ := nat_mod d0 hm
      refine q_asg (ev_op (ev_op (ev_var rfl) ev_c (rv_ixL (sq_of h2) (atI_nat (j := 0) rfl))) (ev_var rfl) (rv_I (by omega))) fun H3 e3 => ?_
      have h3 := e3 _ _ h2
      refine q_setL (j := 0) h3 (ev_op (ev_op (ev_var rfl) ev_c (rv_ixL (sq_of h3) (atI_nat (j := 0) rfl))) (ev_var rfl) (rv_I (wide_div (b := 1000) (by omega) (by exact hM) (by decide) (by decide)))) (ev_var rfl) ev_c (by show 0 < 3; decide) fun H4 e4 => ?_
      refine s_ret (ev_cb (ea_cons (ev_var rfl) ea_nil) rc_int) fun H5 e5 => ?_
      rw [hr2]
      exact k r H5 hr1 (((Exd.of (((e1.trans e2).trans e3).trans e4)).trans Exd.put).trans (Exd.of e5)) (IsDice.ex ⟨_, _, _, upd_same⟩ e5)
    · have h2 := e2 _ _ h1
      refine q_setL (j := 2) h2 (ev_op (ev_op (ev_var rfl) ev_c (rv_ixL (sq_of h2) (atI_nat (j := 2) rfl))) ev_c rv_I0) (ev_var rfl) ev_c (by show 2 < 3; decide) fun H3 e3 => ?_
      have h3 : (upd H3 p (.lst ([V.int d0, .int d1, .int d2].set 2 (.int (d2 + 1))))) p = some (.lst [.int d0, .int d1, .int (d2 + 1)]) := upd_same
      generalize hg : upd H3 p (.lst ([V.int d0, .int d1, .int d2].set 2 (.int (d2 + 1)))) = G at h3
      have eG : Exd p H G := by
        rw [← hg]
        exact (Exd.of ((e1.trans e2).trans e3)).trans Exd.put
      refine q_asg (ev_op (ev_op (ev_op (ev_var rfl) ev_c (rv_ixL (sq_of h3) (atI_nat (j := 1) rfl))) (ev_op ev_c (ev_op (ev_var rfl) ev_c (rv_ixL (sq_of h3) (atI_nat (j := 2) rfl))) (rv_I (.inl ⟨by decide, by decide⟩))) rv_I0) ev_c (rv_I (by decide))) fun H4 e4 => ?_
      have h4 := e4 _ _ h3
      have b1 : ∀ x : Int, (x % 2305843009213693951).natAbs < 2 ^ 61 := fun x => mod_abs (by decide) (by decide)
      have b2 : ∀ x : Int, (x % 2305843009213693921).natAbs < 2 ^ 61 := fun x => mod_abs (by decide) (by decide)
      refine q_asg (ev_op (ev_op (ev_op (ev_op (ev_var rfl) (ev_var rfl) (rv_I (wide_mul (b1 _) (b1 _) (by decide) (by decide) (by decide)))) ev_c (rv_I (by decide))) (ev_var rfl) (rv_I (wide_mul (b2 _) (b1 _) (by decide) (by decide) (by decide)))) (ev_op ev_c (ev_op (ev_var rfl) ev_c (rv_ixL (sq_of h4) (atI_nat (j := 2) rfl))) (rv_I (.inl ⟨by decide, by decide⟩))) rv_I0) fun H5 e5 => ?_
      refine q_asg (ev_op (ev_var rfl) ev_c (rv_I (by decide))) fun H6 e6 => ?_
      refine s_ret (ev_cb (ea_cons (ev_op (ev_op (ev_var rfl) ev_c (rv_I (wide_div (b := 20) (by decide) (by decide) (by decide) (by decide)))) (ev_var rfl) (rv_I (by omega))) ea_nil) rc_int) fun H7 e7 => ?_
      obtain ⟨r, hr1, hr2⟩ := nat_mod _ hm
      rw [hr2]
      exact k r H7 hr1 (eG.trans (Exd.of (((e4.trans e5).trans e6).trans e7))) (IsDice.ex ⟨_, _, _, h4⟩ ((e5.trans e6).trans e7))


def sp__law_one_of (K : PySem.W.Frag) : Sp := fun vs H Q _ => ∃ (p a : Addr) (xs : List V), vs = [.ref p, .ref a] ∧ IsDice H p ∧ SqL K H a xs ∧ a ≠ p ∧ 0 < xs.length ∧ xs.length ≤ 1000 ∧ ∀ (x : V) H', x ∈ xs → Exd p H H' → IsDice H' p → Q x H'

theorem ok__law_one_of {P : Program} {w : World} {K : PySem.W.Frag} {mg : Str → Option Value} {base : Heap} (T : Txt K mg) : FnOk P w K mg base CX0 2 T.a__law_one_of T.d__law_one_of ["_law_dice_here", "_law_items"] (sp__law_one_of K) := by
  refine T.F__law_one_of.ok sc__law_one_of (fun vs H Q E h => ?_) (fun cdv A outer s H vs Q E hr h => ?_)
  · obtain ⟨p, a, xs, rfl, _⟩ := h
    rfl
  · obtain ⟨p, a, xs, rfl, hd, hx, hne, hpos, hlen, k⟩ := h
    refine ⟨_, (pss_one (ps_ret (pe_ix (r := rIxL K) ix_list (pv 1) (pe_call (ok__law_roll T) (hr.mono (by decide)) (by rfl) T.g__law_roll T.F__law_roll.kp T.b__law_roll .nil pass0 (pa_cons (pv 0) (pa_cons (pe_callB call_len_seq (by rfl) T.z_len (by decide +kernel) (pa_cons (pv 1) pa_nil)) pa_nil))) (fun _ _ => rfl)))), ?_⟩
    refine ⟨.ref a, rfl, .ref p, rfl, .ref a, rfl, a, xs, rfl, .inl hx, p, xs.length, rfl, hd, hpos, Nat.lt_of_le_of_lt hlen (by decide), fun r H' hr ex hd' => ?_⟩
    exact ⟨a, xs, (r : Int), xs[r], rfl, rfl, exd_l hne ex hx, atI_nat (List.getElem?_eq_getElem hr), k _ _ (List.getElem_mem hr) ex hd'⟩


def sp__law_raised (K : PySem.W.Frag) : Sp := fun vs H Q _ => ∃ (b c : Nat), vs = [N_ b, N_ c] ∧ b ≤ 1000 ∧ c ≤ 1000 ∧ RetV (N_ (b ^ c)) H Q
theorem sv_raised {K : PySem.W.Frag} {H : Hp} {b c : Nat} (hb : b ≤ 1000) (hc : c ≤ 1000) : SpV (sp__law_raised K) [N_ b, N_ c] H (N_ (b ^ c)) := fun H1 _ Q q E => ⟨b, c, rfl, hb, hc, q⟩
theorem pow_bd {b : Nat} (hb : b ≤ 1000) : ∀ i : Nat, b ^ i ≤ 2 ^ (10 * i)
  | 0 => Nat.le_refl _
  | i + 1 => by
    have ih := pow_bd hb i
    rw [Nat.pow_succ, Nat.mul_add, Nat.pow_add]
    exact Nat.mul_le_mul ih (by show b ≤ 1024; omega)

theorem ok__law_raised {P : Program} {w : World} {K : PySem.W.Frag} {mg : Str → Option Value} {base : Heap} (T : Txt K mg) : FnOk P w K mg base CX0 1 T.a__law_raised T.d__law_raised ["_law_base", "_law_count"] (sp__law_raised K) := by
  refine T.F__law_raised.ok sc__law_raised (fun vs H Q E h => ?_) (fun cdv A outer s H vs Q E hr h => ?_)
  · obtain ⟨b, c, rfl, _⟩ := h
    rfl
  · obtain ⟨b, c, rfl, hb, hc, k⟩ := h
    refine ⟨_, (pss_cons (ps_set (i := 2) sc__law_raised.nd rfl (Or.inl rfl) pe_int)
      (pss_cons (ps_for PassesOwn.never rfl (pi_range1 rfl T.z_range (pa_cons (pv 1) pa_nil)) (pg_name (i := 3) sc__law_raised.nd rfl (Or.inl rfl)) (pss_one (ps_set (i := 2) sc__law_raised.nd rfl (Or.inl rfl) (pe_op op_mulW (pv 2) (pv 0)))))
      (pss_one (ps_ret (pv 2))))), ?_⟩
    refine q_asg ev_c fun H1 e1 => ?_
    refine q_forR1 (n := (c : Int)) (ea_cons (ev_var rfl) ea_nil) ⟨by omega, by omega⟩ (fun i σ H' => ∃ y, σ = [some (N_ b), some (N_ c), some (N_ (b ^ i)), y] ∧ Ex H H') (fun H2 e2 => ⟨none, rfl, e1.trans e2⟩) (fun i σ H' hi hw => ?_) (fun σ H' hw => ?_)
    · obtain ⟨y, rfl, e2⟩ := hw
      have hb2 : b ^ i < 2 ^ 10001 := Nat.lt_of_le_of_lt (Nat.le_trans (pow_bd hb i) (Nat.pow_le_pow_right (by decide) (by omega : 10 * i ≤ 10000))) (Nat.pow_lt_pow_right (by decide) (by decide))
      refine s_asg (ev_op (ev_var rfl) (ev_var rfl) (rv_I (wide_mul (a := 10001) (b := 10) (by exact hb2) (by show b < 1024; omega) (by decide) (by decide) (by decide)))) fun H3 e3 => ⟨some (N_ i), ?_, e2.trans e3⟩
      rw [show N_ (b ^ (i + 1)) = V.int (((b ^ i : Nat) : Int) * (b : Int)) from congrArg V.int (by rw [Nat.pow_succ, Int.natCast_mul])]
      rfl
    · obtain ⟨y, rfl, e2⟩ := hw
      rw [Int.toNat_natCast]
      exact s_ret (ev_var rfl) fun H3 e3 => k H3 (e2.trans e3)


def sp__law_digits (K : PySem.W.Frag) : Sp := fun vs H Q _ => ∃ (b n : Nat), vs = [N_ b, N_ n] ∧ Bs b ∧ Gt n ∧ RetL ((dg b n).map N_) H Q
theorem sv__law_digits {K : PySem.W.Frag} {H : Hp} {b n : Nat} (hb : Bs b) (hn : Gt n) : SpL (sp__law_digits K) [N_ b, N_ n] H ((dg b n).map N_) := fun H1 _ Q q E => ⟨b, n, rfl, hb, hn, q⟩

theorem ok__law_digits {P : Program} {w : World} {K : PySem.W.Frag} {mg : Str → Option Value} {base : Heap} (T : Txt K mg) : FnOk P w K mg base CX0 1 T.a__law_digits T.d__law_digits ["_law_base", "_law_number"] (sp__law_digits K) := by
  refine T.F__law_digits.ok sc__law_digits (fun vs H Q E h => ?_) (fun cdv A outer s H vs Q E hr h => ?_)
  · obtain ⟨b, n, rfl, _⟩ := h
    rfl
  · obtain ⟨b, n, rfl, hb, hn, k⟩ := h
    refine ⟨_, (pss_cons (ps_par (i := 2) (j := 3) (by rfl) sc__law_digits.nd rfl rfl (by decide) rfl rfl (pa_cons (pe_lst pa_nil) (pa_cons (pv 1) pa_nil)) (by rfl))
      (pss_cons (ps_while PassesOwn.never (pt_cmpR op_gt (pv 3) pe_int (nomark _)) (pss_cons (ps_expr (pe_bm PySem.F.plainAttrs_list PySem.F.slot_list_append PySem.F.type_list_append mt_append (pv 2) (pa_cons (pe_op op_mod (pv 3) (pv 0)) pa_nil)))
      (pss_one (ps_set (i := 3) sc__law_digits.nd rfl (Or.inl rfl) (pe_op op_fdivW (pv 3) (pv 0))))))
      (pss_one (ps_ret (pv 2))))), ?_⟩
    refine q_parL (el_lst ea_nil (by decide)) (fun p H1 np e1 h1 => ev_var rfl) fun p H1 np e1 h1 => ?_
    refine q_while (fun l σ H' => ∃ acc : List Nat, σ = [some (N_ b), some (N_ n), some (.ref p), some (N_ l)] ∧ acc ++ dg b l = dg b n ∧ Ex H H' ∧ H' p = some (.lst (acc.map N_))) n
      ⟨[], rfl, rfl, e1, h1⟩ fun l σ H3 hw => ?_
    obtain ⟨acc, rfl, ha, e3, h3⟩ := hw
    refine ⟨decide (0 < (l : Int)), et_test (ev_op (ev_var rfl) ev_c rv_I0), fun ht H4 e4 => ?_, fun hf H4 e4 => ?_⟩
    · have hl : 0 < l := by have := of_decide_eq_true ht; omega
      refine ⟨fun σ' H' => σ' = [some (N_ b), some (N_ n), some (.ref p), some (N_ (l / b))] ∧ Ex H H' ∧ H' p = some (.lst ((acc ++ [l % b]).map N_)), fun σ2 H2' hN => ?_, ?_⟩
      · obtain ⟨rfl, e5, h5⟩ := hN
        refine ⟨l / b, Nat.div_lt_self hl hb.1, acc ++ [l % b], rfl, ?_, e5, h5⟩
        rw [← ha, dg_pos hb.1 hl, List.append_assoc]
        rfl
      · have hlen : acc.length < 100000 := by
          have h6 := dg_len hb.1 400 n hn
          rw [← ha, List.length_append] at h6
          omega
        refine q_app (e4 p _ h3) (ev_var rfl) (ev_op (ev_var rfl) (ev_var rfl) (rv_I (by have := hb.1; omega))) (by rw [List.length_map]; exact hlen) fun H5 e5 => ?_
        refine s_asg (ev_op (ev_var rfl) (ev_var rfl) (rv_I (divW (by have := hb.1; omega) hb.2))) fun H6 e6 => ?_
        refine ⟨rfl, ((e3.trans (e4.trans e5)).mut np).trans e6, ?_⟩
        rw [e6 p _ upd_same, List.map_append]
        rfl
    · have hl : l = 0 := by have := of_decide_eq_false hf; omega
      subst hl
      rw [dg_zero, List.append_nil] at ha
      subst ha
      exact s_ret (ev_var rfl) fun H5 e5 => k p H5 np ((e3.trans e4).trans e5) (e5 p _ (e4 p _ h3))


def sp__law_size (K : PySem.W.Frag) : Sp := fun vs H Q _ => ∃ (b m : Nat), vs = [N_ b, N_ m] ∧ Bs b ∧ 0 < m ∧ m < 2 ^ 300 ∧ ∀ (d : Nat) H', b ^ d ≤ m → m < b ^ (d + 1) → d ≤ 300 → Ex H H' → Q (N_ d) H'

theorem ok__law_size {P : Program} {w : World} {K : PySem.W.Frag} {mg : Str → Option Value} {base : Heap} (T : Txt K mg) : FnOk P w K mg base CX0 2 T.a__law_size T.d__law_size ["_law_q_here", "_law_most"] (sp__law_size K) := by
  refine T.F__law_size.ok sc__law_size (fun vs H Q E h => ?_) (fun cdv A outer s H vs Q E hr h => ?_)
  · obtain ⟨b, m, rfl, _⟩ := h
    rfl
  · obtain ⟨b, m, rfl, hb, hm0, hm, k⟩ := h
    refine ⟨_, (pss_cons (ps_set (i := 2) sc__law_size.nd rfl (Or.inl rfl) pe_int)
      (pss_cons (ps_while PassesOwn.never (pt_cmpR op_le (pe_call (ok__law_raised T) (hr.mono (by decide)) (by rfl) T.g__law_raised T.F__law_raised.kp T.b__law_raised .nil pass0 (pa_cons (pv 0) (pa_cons (pe_op op_add (pv 2) pe_int) pa_nil))) (pv 1) (nomark _)) (pss_one (ps_set (i := 2) sc__law_size.nd rfl (Or.inl rfl) (pe_op op_add (pv 2) pe_int))))
      (pss_one (ps_ret (pv 2))))), ?_⟩
    have bd : ∀ d : Nat, b ^ d ≤ m → d ≤ 300 := fun d h => by
      by_cases h2 : d ≤ 300
      · exact h2
      · have h3 : 2 ^ d ≤ b ^ d := Nat.pow_le_pow_left hb.1 d
        have h4 : 2 ^ 300 ≤ 2 ^ d := Nat.pow_le_pow_right (by decide) (by omega)
        exact absurd (Nat.le_trans h4 (Nat.le_trans h3 h)) (Nat.not_le_of_lt hm)
    refine q_asg ev_c fun H1 e1 => ?_
    refine q_while (fun l σ H' => ∃ d : Nat, σ = [some (N_ b), some (N_ m), some (N_ d)] ∧ l + d = 301 ∧ b ^ d ≤ m ∧ Ex H H') 301 ⟨0, rfl, rfl, by rw [Nat.pow_zero]; omega, e1⟩ fun l σ H3 hw => ?_
    obtain ⟨d, rfl, hl, hd, e3⟩ := hw
    have hd300 := bd d hd
    refine ⟨decide (((b ^ (d + 1) : Nat) : Int) ≤ (m : Int)), et_test (ev_op (ev_call (ea_cons (ev_var rfl) (ea_cons (ev_op (ev_var rfl) ev_c rv_I0) ea_nil)) (sv_raised (c := d + 1) hb.2 (by omega))) (ev_var rfl) rv_I0), fun ht H4 e4 => ?_, fun hf H4 e4 => ?_⟩
    · have hle : b ^ (d + 1) ≤ m := by have := of_decide_eq_true ht; exact Int.ofNat_le.mp this
      have := bd _ hle
      refine ⟨fun σ' H' => σ' = [some (N_ b), some (N_ m), some (N_ (d + 1))] ∧ Ex H H', fun σ2 H2' hN => ?_, ?_⟩
      · obtain ⟨rfl, e5⟩ := hN
        exact ⟨l - 1, by omega, d + 1, rfl, by omega, hle, e5⟩
      · exact s_asg (ev_op (ev_var rfl) ev_c rv_I0) fun H5 e5 => ⟨rfl, (e3.trans e4).trans e5⟩
    · have hlt : m < b ^ (d + 1) := by have := of_decide_eq_false hf; exact Nat.lt_of_not_le fun z => this (Int.ofNat_le.mpr z)
      exact s_ret (ev_var rfl) fun H5 e5 => k d H5 hd hlt hd300 ((e3.trans e4).trans e5)


/-! the law's own sums and products of elements, as plain functions -/
def esR (p a b : Nat) : Nat → Nat × Nat
  | 0 => (0, 1)
  | i + 1 => ((esR p a b i).1 + (a / (esR p a b i).2 + b / (esR p a b i).2) % p * (esR p a b i).2, (esR p a b i).2 * p)
theorem esR_pow (p a b : Nat) : ∀ i, (esR p a b i).2 = p ^ i
  | 0 => rfl
  | i + 1 => by
    show (esR p a b i).2 * p = p ^ (i + 1)
    rw [esR_pow p a b i, Nat.pow_succ]
def esL (p f a b : Nat) : Nat := (esR p a b f).1
/-- p and f of a field, small -/
structure PF_ (p f : Nat) : Prop where
  p2 : 2 ≤ p
  p7 : p ≤ 7
  f1 : 1 ≤ f
  f3 : f ≤ 3
def sp__law_element_sum (K : PySem.W.Frag) : Sp := fun vs H Q _ => ∃ (p f a b : Nat), vs = [N_ p, N_ f, N_ a, N_ b] ∧ PF_ p f ∧ RetV (N_ (esL p f a b)) H Q
theorem sv__law_element_sum {K : PySem.W.Frag} {H : Hp} {p f a b : Nat} (h : PF_ p f) : SpV (sp__law_element_sum K) [N_ p, N_ f, N_ a, N_ b] H (N_ (esL p f a b)) := fun H1 _ Q kk E => ⟨p, f, a, b, rfl, h, kk⟩

theorem ok__law_element_sum {P : Program} {w : World} {K : PySem.W.Frag} {mg : Str → Option Value} {base : Heap} (T : Txt K mg) : FnOk P w K mg base CX0 1 T.a__law_element_sum T.d__law_element_sum ["_law_p", "_law_f", "_law_one", "_law_other"] (sp__law_element_sum K) := by
  refine T.F__law_element_sum.ok sc__law_element_sum (fun vs H Q E h => ?_) (fun cdv A outer s H vs Q E hr h => ?_)
  · obtain ⟨p, f, a, b, rfl, _⟩ := h
    rfl
  · obtain ⟨p, f, a, b, rfl, hp, k⟩ := h
    refine ⟨_, (pss_cons (ps_asg (pe_tup (pa_cons pe_int (pa_cons pe_int pa_nil))) (pg_tup (by rfl) (pgs_cons (pg_name (i := 4) sc__law_element_sum.nd rfl (Or.inl rfl)) (pgs_cons (pg_name (i := 5) sc__law_element_sum.nd rfl (Or.inl rfl)) pgs_nil))))
      (pss_cons (ps_for PassesOwn.never rfl (pi_range1 rfl T.z_range (pa_cons (pv 1) pa_nil)) (pg_name (i := 6) sc__law_element_sum.nd rfl (Or.inl rfl)) (pss_cons (ps_set (i := 4) sc__law_element_sum.nd rfl (Or.inl rfl) (pe_op op_add (pv 4) (pe_op op_mulW (pe_op op_mod (pe_op op_add (pe_op op_fdivW (pv 2) (pv 5)) (pe_op op_fdivW (pv 3) (pv 5))) (pv 0)) (pv 5))))
      (pss_one (ps_set (i := 5) sc__law_element_sum.nd rfl (Or.inl rfl) (pe_op op_mulW (pv 5) (pv 0))))))
      (pss_one (ps_ret (pv 4))))), ?_⟩
    refine q_tupNN ev_c ev_c fun H1 e1 => ?_
    refine q_forR1 (n := (f : Int)) (ea_cons (ev_var rfl) ea_nil) ⟨by omega, by have := hp.f3; omega⟩ (fun i σ H' => ∃ y, σ = [some (N_ p), some (N_ f), some (N_ a), some (N_ b), some (N_ (esR p a b i).1), some (N_ (esR p a b i).2), y] ∧ Ex H H') (fun H2 e2 => ⟨none, rfl, e1.trans e2⟩) (fun i σ H' hi hw => ?_) (fun σ H' hw => ?_)
    · obtain ⟨y, rfl, e2⟩ := hw
      have h2 := esR_pow p a b i
      have hpl : (esR p a b i).2 ≤ 343 := by
        rw [h2]
        exact Nat.le_trans (Nat.pow_le_pow_left hp.p7 i) (Nat.le_trans (Nat.pow_le_pow_right (by decide) (show i ≤ 3 by have := hp.f3; omega)) (by decide))
      have hpl0 : 0 < (esR p a b i).2 := by rw [h2]; exact Nat.pow_pos (by have := hp.p2; omega)
      have hdv : ∀ x : Nat, CDivW (x : Int) (((esR p a b i).2 : Nat) : Int) := fun x => wide_div (b := 10) (by omega) (by show (esR p a b i).2 < 1024; omega) (by decide) (by decide)
      refine q_asg (ev_op (ev_var rfl) (ev_op (ev_op (ev_op (ev_op (ev_var rfl) (ev_var rfl) (rv_I (hdv a))) (ev_op (ev_var rfl) (ev_var rfl) (rv_I (hdv b))) rv_I0) (ev_var rfl) (rv_I (by have := hp.p2; omega))) (ev_var rfl) (rv_I (wide_mul (a := 10) (b := 10) (mod_abs (by have := hp.p2; omega) (by show p ≤ 1024; have := hp.p7; omega)) (by show (esR p a b i).2 < 1024; omega) (by decide) (by decide) (by decide)))) rv_I0) fun H3 e3 => ?_
      exact s_asg (ev_op (ev_var rfl) (ev_var rfl) (rv_I (wide_mul (a := 10) (b := 10) (by show (esR p a b i).2 < 1024; omega) (by show p < 1024; have := hp.p7; omega) (by decide) (by decide) (by decide)))) fun H4 e4 => ⟨some (.int (i : Int)), rfl, (e2.trans e3).trans e4⟩
    · obtain ⟨y, rfl, e2⟩ := hw
      rw [Int.toNat_natCast]
      exact s_ret (ev_var rfl) fun H3 e3 => k H3 (e2.trans e3)


def inL (p i l : Nat) : Nat → List Nat → List Nat → List Nat
  | _, [], fd => fd
  | j, r :: rs, fd => inL p i l (j + 1) rs (fd.set (i + j) ((fd.getD (i + j) 0 + l * r) % p))
def ouL (p : Nat) (os : List Nat) : Nat → List Nat → List Nat → List Nat
  | _, [], fd => fd
  | i, l :: ls, fd => ouL p os (i + 1) ls (inL p i l 0 os fd)
def rdL (p f i : Nat) (fd : List Nat) : List Nat :=
  if 1 < f then
    let f1 := fd.set (i - f) ((fd.getD (i - f) 0 + fd.getD i 0) % p)
    let f2 := f1.set (i - f + 1) ((f1.getD (i - f + 1) 0 + f1.getD i 0) % p)
    f2.set i 0
  else fd
def dnL (p f : Nat) (fd : List Nat) : Nat → List Nat
  | 0 => fd
  | k + 1 => rdL p f (2 * f - 1 - k) (dnL p f fd k)
def epL (p f a b : Nat) : Nat := od p ((dnL p f (ouL p (dg p b) 0 (dg p a) (List.replicate (2 * f) 0)) f).take f)
theorem inL_len (p i l : Nat) : ∀ (rs : List Nat) (j : Nat) (fd : List Nat), (inL p i l j rs fd).length = fd.length
  | [], _, _ => rfl
  | r :: rs, j, fd => by
    show (inL p i l (j + 1) rs _).length = _
    rw [inL_len p i l rs, List.length_set]
theorem ouL_len (p : Nat) (os : List Nat) : ∀ (ls : List Nat) (i : Nat) (fd : List Nat), (ouL p os i ls fd).length = fd.length
  | [], _, _ => rfl
  | l :: ls, i, fd => by
    show (ouL p os (i + 1) ls _).length = _
    rw [ouL_len p os ls, inL_len]
theorem rdL_len (p f i : Nat) (fd : List Nat) : (rdL p f i fd).length = fd.length := by
  unfold rdL
  split
  · simp
  · rfl
theorem dnL_len (p f : Nat) (fd : List Nat) : ∀ k, (dnL p f fd k).length = fd.length
  | 0 => rfl
  | k + 1 => by
    show (rdL p f _ _).length = _
    rw [rdL_len, dnL_len]
def lt_all (p : Nat) (fd : List Nat) : Prop := ∀ x ∈ fd, x < p
theorem lt_all_set {p i x : Nat} {fd : List Nat} (h : lt_all p fd) (hx : x < p) : lt_all p (fd.set i x) := fun y hy => by
  rcases List.mem_or_eq_of_mem_set hy with h1 | h1
  · exact h y h1
  · rw [h1]; exact hx
theorem inL_lt {p : Nat} (h0 : 0 < p) (i l : Nat) : ∀ (rs : List Nat) (j : Nat) (fd : List Nat), lt_all p fd → lt_all p (inL p i l j rs fd)
  | [], _, _, h => h
  | r :: rs, j, fd, h => inL_lt h0 i l rs (j + 1) _ (lt_all_set h (Nat.mod_lt _ h0))
theorem ouL_lt {p : Nat} (h0 : 0 < p) (os : List Nat) : ∀ (ls : List Nat) (i : Nat) (fd : List Nat), lt_all p fd → lt_all p (ouL p os i ls fd)
  | [], _, _, h => h
  | l :: ls, i, fd, h => ouL_lt h0 os ls (i + 1) _ (inL_lt h0 i l os 0 fd h)
theorem rdL_lt {p : Nat} (h0 : 0 < p) (f i : Nat) {fd : List Nat} (h : lt_all p fd) : lt_all p (rdL p f i fd) := by
  unfold rdL
  split
  · exact lt_all_set (lt_all_set (lt_all_set h (Nat.mod_lt _ h0)) (Nat.mod_lt _ h0)) h0
  · exact h
theorem dnL_lt {p : Nat} (h0 : 0 < p) (f : Nat) {fd : List Nat} (h : lt_all p fd) : ∀ k, lt_all p (dnL p f fd k)
  | 0 => h
  | k + 1 => rdL_lt h0 f _ (dnL_lt h0 f h k)
theorem inL_snoc (p i l : Nat) : ∀ (rs : List Nat) (j : Nat) (fd : List Nat) (r : Nat), inL p i l j (rs ++ [r]) fd = (inL p i l j rs fd).set (i + (j + rs.length)) (((inL p i l j rs fd).getD (i + (j + rs.length)) 0 + l * r) % p)
  | [], j, fd, r => rfl
  | z :: rs, j, fd, r => by
    show inL p i l (j + 1) (rs ++ [r]) _ = _
    rw [inL_snoc p i l rs (j + 1) _ r]
    show (inL p i l (j + 1) rs _).set _ _ = (inL p i l (j + 1) rs _).set _ _
    rw [show j + 1 + rs.length = j + (z :: rs).length by rw [List.length_cons]; omega]
    rfl
theorem ouL_snoc (p : Nat) (os : List Nat) : ∀ (ls : List Nat) (i : Nat) (fd : List Nat) (l : Nat), ouL p os i (ls ++ [l]) fd = inL p (i + ls.length) l 0 os (ouL p os i ls fd)
  | [], i, fd, l => rfl
  | z :: ls, i, fd, l => by
    show ouL p os (i + 1) (ls ++ [l]) _ = _
    rw [ouL_snoc p os ls (i + 1) _ l, show i + 1 + ls.length = i + (z :: ls).length by rw [List.length_cons]; omega]
    rfl
theorem take_snoc {xs : List Nat} {i x : Nat} (h : xs[i]? = some x) : xs.take (i + 1) = xs.take i ++ [x] := by
  rw [List.take_add_one, h]
  rfl
theorem dg_len2 {p f a : Nat} (hp : 2 ≤ p) : ∀ (f a : Nat), a < p ^ f → (dg p a).length ≤ f
  | 0, a, h => by
    have : a = 0 := by rw [Nat.pow_zero] at h; omega
    subst this
    rw [dg_zero]
    exact Nat.le_refl _
  | f + 1, a, h => by
    by_cases ha : 0 < a
    · rw [dg_pos hp ha, List.length_cons]
      have : a / p < p ^ f := by
        rw [Nat.pow_succ] at h
        exact Nat.div_lt_of_lt_mul (by rw [Nat.mul_comm]; exact h)
      have := dg_len2 (f := f) (a := a) hp f (a / p) this
      omega
    · have : a = 0 := by omega
      subst this
      rw [dg_zero]
      exact Nat.zero_le _
theorem getD_some {xs : List Nat} {i : Nat} (h : i < xs.length) : xs[i]? = some (xs.getD i 0) := by
  rw [List.getElem?_eq_getElem h, List.getD_eq_getElem?_getD, List.getElem?_eq_getElem h]
  rfl
theorem get_N {xs : List Nat} {i : Nat} (h : i < xs.length) : (xs.map N_)[i]? = some (N_ (xs.getD i 0)) := by
  rw [List.getElem?_map, getD_some h]
  rfl
theorem getD_lt {p i : Nat} {fd : List Nat} (h : lt_all p fd) (hi : i < fd.length) : fd.getD i 0 < p := h _ (List.mem_of_getElem? (getD_some hi))
theorem exl {l : Addr} {H H' : Hp} (n : H l = none) (x : Exd l H H') : Ex H H' := fun a o h => x a o (fun z => by rw [z, n] at h; cases h) h
def sp__law_element_product (K : PySem.W.Frag) : Sp := fun vs H Q _ => ∃ (p f a b : Nat), vs = [N_ p, N_ f, N_ a, N_ b] ∧ PF_ p f ∧ a < p ^ f ∧ b < p ^ f ∧ RetV (N_ (epL p f a b)) H Q
theorem sv__law_element_product {K : PySem.W.Frag} {H : Hp} {p f a b : Nat} (h : PF_ p f) (ha : a < p ^ f) (hb : b < p ^ f) : SpV (sp__law_element_product K) [N_ p, N_ f, N_ a, N_ b] H (N_ (epL p f a b)) := fun H1 _ Q kk E => ⟨p, f, a, b, rfl, h, ha, hb, kk⟩
theorem pf_343 {p f a : Nat} (h : PF_ p f) (ha : a < p ^ f) : a < 343 := Nat.lt_of_lt_of_le ha (Nat.le_trans (Nat.pow_le_pow_left h.p7 f) (Nat.le_trans (Nat.pow_le_pow_right (by decide) h.f3) (by decide)))

theorem ok__law_element_product {P : Program} {w : World} {K : PySem.W.Frag} {mg : Str → Option Value} {base : Heap} (T : Txt K mg) : FnOk P w K mg base CX0 2 T.a__law_element_product T.d__law_element_product ["_law_p", "_law_f", "_law_one", "_law_other"] (sp__law_element_product K) := by
  refine T.F__law_element_product.ok sc__law_element_product (fun vs H Q E h => ?_) (fun cdv A outer s H vs Q E hr h => ?_)
  · obtain ⟨p, f, a, b, rfl, _⟩ := h
    rfl
  · obtain ⟨p, f, a, b, rfl, hp, ha, hb, k⟩ := h
    refine ⟨_, (pss_cons (ps_set (i := 4) sc__law_element_product.nd rfl (Or.inl rfl) (pe_op op_rep (pe_lst (pa_cons pe_int pa_nil)) (pe_op op_mul pe_int (pv 1))))
      (pss_cons (ps_for PassesOwn.never rfl (pi_enum (by rfl) T.z_enumerate (pa_cons (pe_call (ok__law_digits T) (hr.mono (by decide)) (by rfl) T.g__law_digits T.F__law_digits.kp T.b__law_digits .nil pass0 (pa_cons (pv 0) (pa_cons (pv 2) pa_nil))) pa_nil)) (pg_tup (by rfl) (pgs_cons (pg_name (i := 5) sc__law_element_product.nd rfl (Or.inl rfl)) (pgs_cons (pg_name (i := 6) sc__law_element_product.nd rfl (Or.inl rfl)) pgs_nil))) (pss_one (ps_for PassesOwn.never rfl (pi_enum (by rfl) T.z_enumerate (pa_cons (pe_call (ok__law_digits T) (hr.mono (by decide)) (by rfl) T.g__law_digits T.F__law_digits.kp T.b__law_digits .nil pass0 (pa_cons (pv 0) (pa_cons (pv 3) pa_nil))) pa_nil)) (pg_tup (by rfl) (pgs_cons (pg_name (i := 7) sc__law_element_product.nd rfl (Or.inl rfl)) (pgs_cons (pg_name (i := 8) sc__law_element_product.nd rfl (Or.inl rfl)) pgs_nil))) (pss_one (ps_asg (pe_op op_mod (pe_op op_add (pe_ix (r := rIxL K) ix_list (pv 4) (pe_op op_add (pv 5) (pv 7)) (fun _ _ => rfl)) (pe_op op_mulW (pv 6) (pv 8))) (pv 0)) (pg_sub (pv 4) (pe_op op_add (pv 5) (pv 7)) set_list))))))
      (pss_cons (ps_for PassesOwn.never rfl (pi_range3 rfl T.z_range (pa_cons (pe_op op_sub (pe_op op_mul pe_int (pv 1)) pe_int) (pa_cons (pe_op op_sub (pv 1) pe_int) (pa_cons (pe_un un_neg pe_int) pa_nil)))) (pg_name (i := 5) sc__law_element_product.nd rfl (Or.inl rfl)) (pss_one (ps_if (pt_cmpR op_gt (pv 1) pe_int (nomark _)) (pss_cons (ps_asg (pe_op op_mod (pe_op op_add (pe_ix (r := rIxL K) ix_list (pv 4) (pe_op op_sub (pv 5) (pv 1)) (fun _ _ => rfl)) (pe_ix (r := rIxL K) ix_list (pv 4) (pv 5) (fun _ _ => rfl))) (pv 0)) (pg_sub (pv 4) (pe_op op_sub (pv 5) (pv 1)) set_list))
      (pss_cons (ps_asg (pe_op op_mod (pe_op op_add (pe_ix (r := rIxL K) ix_list (pv 4) (pe_op op_add (pe_op op_sub (pv 5) (pv 1)) pe_int) (fun _ _ => rfl)) (pe_ix (r := rIxL K) ix_list (pv 4) (pv 5) (fun _ _ => rfl))) (pv 0)) (pg_sub (pv 4) (pe_op op_add (pe_op op_sub (pv 5) (pv 1)) pe_int) set_list))
      (pss_one (ps_asg pe_int (pg_sub (pv 4) (pv 5) set_list))))) pss_nil)))
      (pss_cons (ps_set (i := 9) sc__law_element_product.nd rfl (Or.inl rfl) pe_int)
      (pss_cons (ps_for PassesOwn.never rfl (pi_list (pe_revL (pe_slice sl_list (pv 4) po_none (po_some (pv 1))))) (pg_name (i := 10) sc__law_element_product.nd rfl (Or.inl rfl)) (pss_one (ps_set (i := 9) sc__law_element_product.nd rfl (Or.inl rfl) (pe_op op_add (pe_op op_mulW (pv 9) (pv 0)) (pv 10)))))
      (pss_one (ps_ret (pv 9)))))))), ?_⟩
    have hp2 := hp.p2
    have hp7 := hp.p7
    have hf1 := hp.f1
    have hf3 := hp.f3
    have ha343 := pf_343 hp ha
    have hb343 := pf_343 hp hb
    have h0 : 0 < p := by omega
    have hBs : Bs p := ⟨hp2, by omega⟩
    have hla : (dg p a).length ≤ f := dg_len2 (f := f) (a := a) hp2 f a ha
    have hlb : (dg p b).length ≤ f := dg_len2 (f := f) (a := b) hp2 f b hb
    have hGa : Gt a := Nat.lt_trans ha343 (show 343 < 2 ^ 400 from Nat.lt_of_lt_of_le (show 343 < 2 ^ 10 by decide) (Nat.pow_le_pow_right (by decide) (by decide : 10 ≤ 400)))
    have hGb : Gt b := Nat.lt_trans hb343 (show 343 < 2 ^ 400 from Nat.lt_of_lt_of_le (show 343 < 2 ^ 10 by decide) (Nat.pow_le_pow_right (by decide) (by decide : 10 ≤ 400)))
    -- found = [0] * (2 * f)
    refine q_asgL (el_rep (k := ((2 * f : Nat) : Int)) (el_lst (ea_cons ev_c ea_nil) (by show 1 ≤ 100000; decide)) (ev_is (ev_op ev_c (ev_var rfl) (rv_I (.inl ⟨by decide, by decide⟩))) (congrArg V.int (by omega))) (by omega) (by show 1 * _ ≤ _; omega) (by omega)) fun l H1 nl e1 h1 => ?_
    rw [Int.toNat_natCast, rep_zero] at h1
    -- the double loop
    generalize hfd : ouL p (dg p b) 0 (dg p a) (List.replicate (2 * f) 0) = fd
    have hrl : lt_all p (List.replicate (2 * f) 0) := fun x hx => by rw [(List.mem_replicate.mp hx).2]; exact h0
    have hfl : fd.length = 2 * f := by rw [← hfd, ouL_len, List.length_replicate]
    have hft : lt_all p fd := by rw [← hfd]; exact ouL_lt h0 _ _ _ _ hrl
    refine q_forEN (xs := (dg p a).map N_) (el_call (ea_cons (ev_var rfl) (ea_cons (ev_var rfl) ea_nil)) (sv__law_digits hBs hGa)) (fun q i σ H' => ∃ y5 y6 y7 y8 : Option V, σ = [some (N_ p), some (N_ f), some (N_ a), some (N_ b), some (.ref l), y5, y6, y7, y8, none, none] ∧ Exd l H H' ∧ SqL K H' q ((dg p a).map N_) ∧ q ≠ l ∧ H' l = some (.lst ((ouL p (dg p b) 0 ((dg p a).take i) (List.replicate (2 * f) 0)).map N_)))
      (fun q H2 nq e2 h2 => ⟨none, none, none, none, rfl, (Exd.of (e1.trans e2)), sq_of h2, (fun z => by rw [z, h1] at nq; cases nq), e2 _ _ h1⟩) (fun q i σ H2 hi hw => ?_) (fun q i x σ H2 H3 hx hw e3 => ?_) (fun q σ H2 hw => ?_)
    · obtain ⟨y5, y6, y7, y8, rfl, x2, s2, n2, h2⟩ := hw
      exact s2
    · obtain ⟨y5, y6, y7, y8, rfl, x2, s2, n2, h2⟩ := hw
      rw [List.getElem?_map] at hx
      obtain ⟨d, hd, rfl⟩ := Option.map_eq_some_iff.mp hx
      have hil : i < (dg p a).length := (List.getElem?_eq_some_iff.mp hd).1
      have hdp : d < p := dg_lt hp2 a d (List.mem_of_getElem? hd)
      have h3 := e3 _ _ h2
      have s3 := ex_l e3 s2
      generalize hA : ouL p (dg p b) 0 ((dg p a).take i) (List.replicate (2 * f) 0) = fA at h3
      have hAl : fA.length = 2 * f := by rw [← hA, ouL_len, List.length_replicate]
      have hAt : lt_all p fA := by rw [← hA]; exact ouL_lt h0 _ _ _ _ hrl
      refine s_forEN (xs := (dg p b).map N_) (el_call (ea_cons (ev_var rfl) (ea_cons (ev_var rfl) ea_nil)) (sv__law_digits hBs hGb)) (fun q2 j σ H' => ∃ y7 y8 : Option V, σ = [some (N_ p), some (N_ f), some (N_ a), some (N_ b), some (.ref l), some (N_ i), some (N_ d), y7, y8, none, none] ∧ Exd l H H' ∧ SqL K H' q ((dg p a).map N_) ∧ SqL K H' q2 ((dg p b).map N_) ∧ q2 ≠ l ∧ H' l = some (.lst ((inL p i d 0 ((dg p b).take j) fA).map N_)))
        (fun q2 H4 nq4 e4 h4 => ⟨y7, y8, rfl, (x2.trans (Exd.of e3)).trans (Exd.of e4), ex_l e4 s3, sq_of h4, (fun z => by rw [z, h3] at nq4; cases nq4), e4 _ _ h3⟩) (fun q2 j σ H4 hj hw4 => ?_) (fun q2 j x σ H4 H5 hxj hw4 e5 => ?_) (fun q2 σ H4 hw4 => ?_)
      · obtain ⟨y7, y8, rfl, x4, s4, s42, n42, h4⟩ := hw4
        exact s42
      · obtain ⟨y7, y8, rfl, x4, s4, s42, n42, h4⟩ := hw4
        rw [List.getElem?_map] at hxj
        obtain ⟨g, hg, rfl⟩ := Option.map_eq_some_iff.mp hxj
        have hjl : j < (dg p b).length := (List.getElem?_eq_some_iff.mp hg).1
        have hgp : g < p := dg_lt hp2 b g (List.mem_of_getElem? hg)
        have h5 := e5 _ _ h4
        generalize hB : inL p i d 0 ((dg p b).take j) fA = fB at h5
        have hBl : fB.length = 2 * f := by rw [← hB, inL_len, hAl]
        have hij : i + j < fB.length := by omega
        have hget := get_N hij
        refine s_setL (l := l) (j := i + j) h5 (ev_op (ev_op (ev_op (ev_var rfl) (ev_op (ev_var rfl) (ev_var rfl) rv_I0) (rv_ixL (sq_of h5) (atI_nat hget))) (ev_op (ev_var rfl) (ev_var rfl) (rv_I (wide_mul (a := 10) (b := 10) (by show d < 1024; omega) (by show g < 1024; omega) (by decide) (by decide) (by decide)))) rv_I0) (ev_var rfl) (rv_I (by omega))) (ev_var rfl) (ev_op (ev_var rfl) (ev_var rfl) rv_I0) (by rw [List.length_map]; exact hij) fun H6 e6 => ?_
        refine ⟨some (N_ j), some (N_ g), rfl, ((x4.trans (Exd.of e5)).trans (Exd.of e6)).trans Exd.put, exd_l n2 ((Exd.of (e5.trans e6)).trans Exd.put) s4, exd_l n42 ((Exd.of (e5.trans e6)).trans Exd.put) s42, n42, ?_⟩
        rw [upd_same, take_snoc hg, inL_snoc, hB, List.length_take, Nat.min_eq_left (Nat.le_of_lt hjl), Nat.zero_add, List.map_set]
        rfl
      · obtain ⟨y7, y8, rfl, x4, s4, s42, n42, h4⟩ := hw4
        rw [List.length_map, List.take_length] at h4
        refine ⟨some (N_ i), some (N_ d), y7, y8, rfl, x4, s4, n2, ?_⟩
        rw [h4, take_snoc hd, ouL_snoc, hA, List.length_take, Nat.min_eq_left (Nat.le_of_lt hil), Nat.zero_add]
    · obtain ⟨y5, y6, y7, y8, rfl, x2, s2, n2, h2⟩ := hw
      rw [List.length_map, List.take_length, hfd] at h2
      -- the powers of u from f on
      refine q_forRd (lo := ((2 * f : Nat) : Int) - 1) (n := (f : Int) - 1) (ea_cons (ev_is (ev_op (ev_op ev_c (ev_var rfl) (rv_I (.inl ⟨by decide, by decide⟩))) ev_c rv_I0) (congrArg V.int (by omega))) (ea_cons (ev_op (ev_var rfl) ev_c rv_I0) (ea_cons (ev_un ev_c ru_neg) ea_nil))) ⟨by omega, by omega, by omega, by omega⟩ (fun i σ H' => ∃ y5 y6 y7 y8 : Option V, σ = [some (N_ p), some (N_ f), some (N_ a), some (N_ b), some (.ref l), y5, y6, y7, y8, none, none] ∧ Exd l H H' ∧ H' l = some (.lst ((dnL p f fd i).map N_)))
        (fun H3 e3 => ⟨y5, y6, y7, y8, rfl, x2.trans (Exd.of e3), e3 _ _ h2⟩) (fun i σ H3 hi hw3 => ?_) (fun σ H3 hw3 => ?_)
      · obtain ⟨y5, y6, y7, y8, rfl, x3, h3⟩ := hw3
        have hif : i < f := by omega
        have hm : ((2 * f : Nat) : Int) - 1 - (i : Int) = ((2 * f - 1 - i : Nat) : Int) := by omega
        rw [hm]
        generalize hmm : 2 * f - 1 - i = m
        have hmf : f ≤ m ∧ m < 2 * f := by omega
        generalize hG : dnL p f fd i = g0 at h3
        have hgl : g0.length = 2 * f := by rw [← hG, dnL_len, hfl]
        have hstep : dnL p f fd (i + 1) = rdL p f m g0 := by rw [← hG, ← hmm]; rfl
        refine s_when (et_test (ev_op (ev_var rfl) ev_c rv_I0)) (fun hb H4 e4 => ?_) (fun hb H4 e4 => ?_)
        · have hf2 : 1 < f := by have := of_decide_eq_true hb; omega
          have h4 := e4 _ _ h3
          have em : ∀ H, Ev (tOp (rI0 fun i j => V.int (i - j)) (tVar 5) (tVar 1)) [some (N_ p), some (N_ f), some (N_ a), some (N_ b), some (.ref l), some (N_ m), y6, y7, y8, none, none] H (N_ (m - f)) := fun H => ev_is (ev_op (ev_var rfl) (ev_var rfl) rv_I0) (congrArg V.int (by omega))
          have em1 : ∀ H, Ev (tOp (rI0 fun i j => V.int (i + j)) (tOp (rI0 fun i j => V.int (i - j)) (tVar 5) (tVar 1)) (tC (.int 1))) [some (N_ p), some (N_ f), some (N_ a), some (N_ b), some (.ref l), some (N_ m), y6, y7, y8, none, none] H (N_ (m - f + 1)) := fun H => ev_is (ev_op (em H) ev_c rv_I0) (congrArg V.int (by omega))
          refine q_setL (l := l) (j := m - f) h4 (ev_op (ev_op (ev_op (ev_var rfl) (em _) (rv_ixL (sq_of h4) (atI_nat (get_N (by omega))))) (ev_op (ev_var rfl) (ev_var rfl) (rv_ixL (sq_of h4) (atI_nat (get_N (i := m) (by omega))))) rv_I0) (ev_var rfl) (rv_I (by omega))) (ev_var rfl) (em _) (by rw [List.length_map]; omega) fun H5 e5 => ?_
          have h5 : (upd H5 l (.lst ((g0.map N_).set (m - f) (N_ ((g0.getD (m - f) 0 + g0.getD m 0) % p))))) l = some (.lst ((g0.set (m - f) ((g0.getD (m - f) 0 + g0.getD m 0) % p)).map N_)) := by rw [upd_same, List.map_set]
          have x5 : Exd l H (upd H5 l (.lst ((g0.map N_).set (m - f) (N_ ((g0.getD (m - f) 0 + g0.getD m 0) % p))))) := (x3.trans (Exd.of (e4.trans e5))).trans Exd.put
          generalize hg1 : g0.set (m - f) ((g0.getD (m - f) 0 + g0.getD m 0) % p) = g1 at h5
          have hl1 : g1.length = 2 * f := by rw [← hg1, List.length_set, hgl]
          refine q_setL (l := l) (j := m - f + 1) h5 (ev_op (ev_op (ev_op (ev_var rfl) (em1 _) (rv_ixL (sq_of h5) (atI_nat (get_N (by omega))))) (ev_op (ev_var rfl) (ev_var rfl) (rv_ixL (sq_of h5) (atI_nat (get_N (i := m) (by omega))))) rv_I0) (ev_var rfl) (rv_I (by omega))) (ev_var rfl) (em1 _) (by rw [List.length_map]; omega) fun H6 e6 => ?_
          have h6 : (upd H6 l (.lst ((g1.map N_).set (m - f + 1) (N_ ((g1.getD (m - f + 1) 0 + g1.getD m 0) % p))))) l = some (.lst ((g1.set (m - f + 1) ((g1.getD (m - f + 1) 0 + g1.getD m 0) % p)).map N_)) := by rw [upd_same, List.map_set]
          have x6 := (x5.trans (Exd.of e6)).trans (Exd.put (o := .lst ((g1.map N_).set (m - f + 1) (N_ ((g1.getD (m - f + 1) 0 + g1.getD m 0) % p)))))
          generalize hg2 : g1.set (m - f + 1) ((g1.getD (m - f + 1) 0 + g1.getD m 0) % p) = g2' at h6
          have hl2 : g2'.length = 2 * f := by rw [← hg2, List.length_set, hl1]
          refine s_setL (l := l) (j := m) h6 ev_c (ev_var rfl) (ev_var rfl) (by rw [List.length_map]; omega) fun H7 e7 => ⟨some (N_ m), y6, y7, y8, rfl, (x6.trans (Exd.of e7)).trans Exd.put, ?_⟩
          rw [upd_same, hstep]
          unfold rdL
          rw [if_pos hf2]
          show some (HO.lst ((g2'.map N_).set m (N_ 0))) = some (.lst (((((g0.set (m - f) ((g0.getD (m - f) 0 + g0.getD m 0) % p)).set (m - f + 1) (((g0.set (m - f) ((g0.getD (m - f) 0 + g0.getD m 0) % p)).getD (m - f + 1) 0 + (g0.set (m - f) ((g0.getD (m - f) 0 + g0.getD m 0) % p)).getD m 0) % p)).set m 0)).map N_))
          rw [hg1, hg2, List.map_set]
        · have hf2 : ¬ 1 < f := by have := of_decide_eq_false hb; omega
          refine ⟨some (N_ m), y6, y7, y8, rfl, x3.trans (Exd.of e4), ?_⟩
          rw [hstep]
          unfold rdL
          rw [if_neg hf2]
          exact e4 _ _ h3
      · obtain ⟨y5, y6, y7, y8, rfl, x3, h3⟩ := hw3
        have hn : (((2 * f : Nat) : Int) - 1 - ((f : Int) - 1)).toNat = f := by omega
        rw [hn] at h3
        generalize hG : dnL p f fd f = g0 at h3
        have hgl : g0.length = 2 * f := by rw [← hG, dnL_len, hfl]
        have hgt : lt_all p g0 := by rw [← hG]; exact dnL_lt h0 f hft f
        refine q_asg ev_c fun H4 e4 => ?_
        have h4 := e4 _ _ h3
        generalize hys : g0.take f = ys
        have hyl : ys.length = f := by rw [← hys, List.length_take, hgl]; omega
        have hyt : ∀ d ∈ ys, d < p := fun d hd => hgt d (by rw [← hys] at hd; exact List.mem_of_mem_take hd)
        have ek : epL p f a b = od p ys := by
          unfold epL
          rw [hfd, hG, hys]
        rw [ek] at k
        refine q_forNLn (xs := (ys.map N_).reverse) (el_is (el_revN (el_sl (ev_var rfl) eo_none (eo_some (ev_var rfl)) (sq_of h4))) (by rw [cutTake, ← List.map_take, hys])) (fun q i σ H' => ∃ y10, σ = [some (N_ p), some (N_ f), some (N_ a), some (N_ b), some (.ref l), y5, y6, y7, y8, some (N_ (od p (ys.drop (ys.length - i)))), y10] ∧ Exd l H H' ∧ SqL K H' q (ys.map N_).reverse)
          (fun q H5 nq e5 h5 => ⟨none, by rw [Nat.sub_zero, List.drop_length]; rfl, x3.trans (Exd.of (e4.trans e5)), sq_of h5⟩) (fun q i σ H5 hi hw => ?_) (fun q i x σ H5 hx hw => ?_) (fun q σ H5 hw => ?_)
        · obtain ⟨y10, rfl, x5, s5⟩ := hw
          exact s5
        · obtain ⟨y10, rfl, x5, s5⟩ := hw
          rw [← List.map_reverse, List.getElem?_map] at hx
          obtain ⟨d, hd, rfl⟩ := Option.map_eq_some_iff.mp hx
          have hil : i < ys.length := by
            have := (List.getElem?_eq_some_iff.mp hd).1
            rwa [List.length_reverse] at this
          have hlt := od_lt (b := p) (by omega) (ys.drop (ys.length - i)) fun z hz => hyt z (List.mem_of_mem_drop hz)
          have hlt2 : od p (ys.drop (ys.length - i)) < 2 ^ 40 := Nat.lt_of_lt_of_le hlt (Nat.pow_le_pow_right (by decide) (by rw [List.length_drop]; omega))
          refine s_asg (ev_op (ev_op (ev_var rfl) (ev_var rfl) (rv_I (wide_mul (a := 40) (b := 10) (by exact hlt2) (by show p < 1024; omega) (by decide) (by decide) (by decide)))) (ev_var rfl) rv_I0) fun H6 e6 => ⟨some (N_ d), ?_, x5.trans (Exd.of e6), ex_l e6 s5⟩
          rw [od_drop hil hd, show N_ (d + p * od p (ys.drop (ys.length - i))) = V.int (((od p (ys.drop (ys.length - i)) : Nat) : Int) * (p : Int) + (d : Int)) from congrArg V.int (by rw [Int.natCast_add, Int.natCast_mul, Int.mul_comm, Int.add_comm])]
          rfl
        · obtain ⟨y10, rfl, x5, s5⟩ := hw
          rw [List.length_reverse, List.length_map, Nat.sub_self, List.drop_zero]
          exact s_ret (ev_var rfl) fun H6 e6 => k H6 (exl nl (x5.trans (Exd.of e6)))


end Own
namespace Own
open PySem PySem.Spec PyProof.Rows L2 Evl
def sE (q a b : Nat) : Nat := esL (prE q) (poE q) a b
def pE (q a b : Nat) : Nat := epL (prE q) (poE q) a b
def oE (q a : Nat) : Nat := ((List.range q).find? fun b => decide (sE q a b = 0)).getD 0
theorem chk_own : chkAll (fun q => all1 q fun a => decide (oE q a < q) && decide (sE q a (oE q a) = 0) && (all1 (oE q a) fun b => decide (sE q a b ≠ 0))) = true := by decide +kernel
theorem pow_q {q : Nat} (hq : Fq q) : prE q ^ poE q = q := (t0_of hq).pw
theorem pf_q {q : Nat} (hq : Fq q) : PF_ (prE q) (poE q) := ⟨(t0_of hq).p2, (t0_of hq).p7, (t0_of hq).f1, (t0_of hq).f3⟩
structure T1 (q a : Nat) : Prop where
  oL : oE q a < q
theorem t1_of {q a : Nat} (hq : Fq q) (ha : a < q) : T1 q a := by
  have h := all1_get (chk_get chk_own hq) ha
  simp only [Bool.and_eq_true, decide_eq_true_eq] at h
  exact ⟨h.1.1⟩
theorem op_q {q a : Nat} (hq : Fq q) (ha : a < q) : sE q a (oE q a) = 0 ∧ ∀ b, b < oE q a → sE q a b ≠ 0 := by
  have h := all1_get (chk_get chk_own hq) ha
  simp only [Bool.and_eq_true, decide_eq_true_eq] at h
  exact ⟨h.1.2, fun b hb => of_decide_eq_true (all1_get h.2 hb)⟩
def row2 (g : Nat → Nat → Nat → Nat) (q : Nat) : List (List Nat) := (List.range q).map fun a => (List.range q).map fun b => g q a b
/-- a list of lists of natural numbers that stands in the heap, all at addresses of the kind N -/
def LLt (N : Addr → Prop) (H : Hp) (a : Addr) (xss : List (List Nat)) : Prop := ∃ rs : List Addr, N a ∧ H a = some (.lst (rs.map V.ref)) ∧ rs.length = xss.length ∧ ∀ (i : Nat) (r : Addr) (xs : List Nat), rs[i]? = some r → xss[i]? = some xs → N r ∧ H r = some (.lst (xs.map N_))
structure FldAt (N : Addr → Prop) (H : Hp) (d : Addr) (q : Nat) : Prop where
  nd : N d
  dc : ∃ (kvs : List (Key × V)) (a1 a2 a3 : Addr), H d = some (.dK kvs) ∧ valV kvs (Sum.inr "q") = some (N_ q) ∧ valV kvs (Sum.inr "p") = some (N_ (prE q)) ∧ valV kvs (Sum.inr "f") = some (N_ (poE q)) ∧ valV kvs (Sum.inr "plus") = some (.ref a1) ∧ valV kvs (Sum.inr "mul") = some (.ref a2) ∧ valV kvs (Sum.inr "minus") = some (.ref a3) ∧
    LLt N H a1 (row2 sE q) ∧ LLt N H a2 (row2 pE q) ∧ N a3 ∧ H a3 = some (.lst (((List.range q).map (oE q)).map N_))
theorem LLt.keep {N M : Addr → Prop} {H H' : Hp} {a : Addr} {xss : List (List Nat)} (h : LLt N H a xss) (hk : ∀ b o, N b → H b = some o → M b ∧ H' b = some o) : LLt M H' a xss := by
  obtain ⟨rs, n, h1, h2, h3⟩ := h
  exact ⟨rs, (hk _ _ n h1).1, (hk _ _ n h1).2, h2, fun i r xs e1 e2 => hk _ _ (h3 i r xs e1 e2).1 (h3 i r xs e1 e2).2⟩
theorem FldAt.keep {N M : Addr → Prop} {H H' : Hp} {d : Addr} {q : Nat} (h : FldAt N H d q) (hk : ∀ b o, N b → H b = some o → M b ∧ H' b = some o) : FldAt M H' d q := by
  obtain ⟨nd, kvs, a1, a2, a3, h1, g1, g2, g3, g4, g5, g6, l1, l2, n3, h3⟩ := h
  exact ⟨(hk _ _ nd h1).1, kvs, a1, a2, a3, (hk _ _ nd h1).2, g1, g2, g3, g4, g5, g6, l1.keep hk, l2.keep hk, (hk _ _ n3 h3).1, (hk _ _ n3 h3).2⟩
theorem FldAt.ex {N : Addr → Prop} {H H' : Hp} {d : Addr} {q : Nat} (h : FldAt N H d q) (e : Ex H H') : FldAt N H' d q := h.keep fun b o n q => ⟨n, e _ _ q⟩
section
variable {K : PySem.W.Frag} {σ : L2.St} {H H' : Hp} {ta tb te : TE} {D : Ends} {tz : TS}
theorem q_asgLL {i : Nat} {xss : List (List V)} (h : EvLL te σ H xss) (k : ∀ (p : Addr) (rs : List Addr) H1, H p = none → Ex H H1 → H1 p = some (.lst (rs.map V.ref)) → rs.length = xss.length → (∀ (i : Nat) (r : Addr) (xs : List V), rs[i]? = some r → xss[i]? = some xs → H r = none ∧ H1 r = some (.lst xs)) → tz D (σ.set i (some (.ref p))) H1) : tSeq (tAsg te (gName i)) tz D σ H := h H (Ex.refl H) _ k
end
theorem ll_of {H0 H1 : Hp} {p : Addr} {rs : List Addr} {g : Nat → Nat → Nat → Nat} {q : Nat} (hp : H0 p = none) (h1 : H1 p = some (.lst (rs.map V.ref))) (hl : rs.length = ((row2 g q).map (·.map N_)).length) (hr : ∀ (i : Nat) (r : Addr) (xs : List V), rs[i]? = some r → ((row2 g q).map (·.map N_))[i]? = some xs → H0 r = none ∧ H1 r = some (.lst xs)) : LLt (fun x => H0 x = none) H1 p (row2 g q) :=
  ⟨rs, hp, h1, by rw [hl, List.length_map], fun i r xs e1 e2 => hr i r _ e1 (by rw [List.getElem?_map, e2]; rfl)⟩

theorem valV_merge : ∀ (more acc : List (Key × V)) (k : Key) (v : V), valV more.reverse k = some v → valV (mergeK acc more) k = some v
  | [], acc, k, v, h => by cases h
  | (k', v') :: r, acc, k, v, h => by
    show valV (mergeK (putK acc k' v') r) k = some v
    by_cases hr : (valV r.reverse k).isSome
    · obtain ⟨v2, h2⟩ := Option.isSome_iff_exists.mp hr
      have : valV ((k', v') :: r).reverse k = some v2 := by
        rw [List.reverse_cons]
        unfold valV at h2 ⊢
        rw [List.find?_append]
        obtain ⟨p, hp, hp2⟩ := Option.map_eq_some_iff.mp h2
        rw [hp]
        exact congrArg some hp2
      rw [this] at h
      exact valV_merge r _ k v (by rw [h2]; exact h)
    · have hn : valV r.reverse k = none := by
        cases e : valV r.reverse k with
        | none => rfl
        | some x => rw [e] at hr; exact absurd rfl hr
      have hk : k' = k ∧ v' = v := by
        rw [List.reverse_cons] at h
        unfold valV at h hn
        rw [List.find?_append] at h
        have h0 : (r.reverse.find? fun kv => decide (kv.1 = k)) = none := Option.map_eq_none_iff.mp hn
        rw [h0, Option.none_or, List.find?_cons] at h
        by_cases e : k' = k
        · rw [decide_eq_true e] at h
          exact ⟨e, Option.some.inj h⟩
        · rw [decide_eq_false e] at h
          cases h
      obtain ⟨rfl, rfl⟩ := hk
      have hany : ∀ (r : List (Key × V)) (acc : List (Key × V)), valV r.reverse k' = none → valV (mergeK acc r) k' = valV acc k' := by
        intro r
        induction r with
        | nil => intro acc _; rfl
        | cons p r ih =>
          intro acc h
          rw [List.reverse_cons] at h
          unfold valV at h
          rw [List.find?_append] at h
          have h1 := Option.map_eq_none_iff.mp h
          rw [Option.or_eq_none_iff] at h1
          have h2 : ¬ p.1 = k' := fun e => by
            have := h1.2
            rw [List.find?_cons, decide_eq_true e] at this
            cases this
          show valV (mergeK (putK acc p.1 p.2) r) k' = _
          rw [ih (putK acc p.1 p.2) (by unfold valV; rw [h1.1]; rfl), valV_put, if_neg (fun e => h2 e.symm)]
      rw [hany r _ hn, valV_put, if_pos rfl]
theorem pairs_go {te : TE} {σ : L2.St} {H : Hp} {xs : List V} {kx : V} {Q : List (V × V) → Hp → Prop} (h : EvL te σ H xs) (k : ∀ p H2, H p = none → Ex H H2 → H2 p = some (.lst xs) → Q [(kx, .ref p)] H2) : tPairs [(tC kx, te)] σ H Q := h H (Ex.refl H) _ k
def sp__law_field (K : PySem.W.Frag) : Sp := fun vs H Q _ => ∃ (q : Nat), vs = [N_ q] ∧ Fq q ∧ ∀ d H', Ex H H' → FldAt (fun x => H x = none) H' d q → Q (.ref d) H'

theorem ok__law_field {P : Program} {w : World} {K : PySem.W.Frag} {mg : Str → Option Value} {base : Heap} (T : Txt K mg) : FnOk P w K mg base CX0 3 T.a__law_field T.d__law_field ["_law_q_here"] (sp__law_field K) := by
  refine T.F__law_field.ok sc__law_field (fun vs H Q E h => ?_) (fun cdv A outer s H vs Q E hr h => ?_)
  · obtain ⟨q, rfl, _⟩ := h
    rfl
  · obtain ⟨q, rfl, hq, k⟩ := h
    refine ⟨_, (pss_cons (ps_asg (pe_dget (hu_of hr) (pe_disp (pps_cons pe_int (pe_tup (pa_cons pe_int (pa_cons pe_int pa_nil))) (pps_cons pe_int (pe_tup (pa_cons pe_int (pa_cons pe_int pa_nil))) (pps_cons pe_int (pe_tup (pa_cons pe_int (pa_cons pe_int pa_nil))) (pps_cons pe_int (pe_tup (pa_cons pe_int (pa_cons pe_int pa_nil))) (pps_cons pe_int (pe_tup (pa_cons pe_int (pa_cons pe_int pa_nil))) (pps_cons pe_int (pe_tup (pa_cons pe_int (pa_cons pe_int pa_nil))) (pps_cons pe_int (pe_tup (pa_cons pe_int (pa_cons pe_int pa_nil))) pps_nil))))))) (by rfl) (by rfl) (fun z => by cases z) (by decide)) (pv 0) (fun _ _ => rfl)) (pg_tup (by rfl) (pgs_cons (pg_name (i := 1) sc__law_field.nd rfl (Or.inr rfl)) (pgs_cons (pg_name (i := 2) sc__law_field.nd rfl (Or.inr rfl)) pgs_nil))))
      (pss_cons (ps_setLc (i := 3) (own := [("_law_one", 5)]) (g := gName 5) (by rfl) sc__law_field.nd rfl rfl (sw_true rfl rfl rfl (by decide +kernel)) (pi_range1 rfl T.z_range (pa_cons (pv 0) pa_nil)) (blkOk_by (N := ["_law_q_here", "_law_p", "_law_f", "_law_plus", "_law_other", "_law_one", "_law_mul", "_law_row"]) (sc := defScope s__law_field) (by decide +kernel)) (fun _ _ _ _ _ => pg_name (i := 5) sc__law_field.nd rfl (Or.inr rfl)) (fun _ _ _ _ _ => pts_nil) (fun _ _ _ _ _ => (pe_lc (own := [("_law_other", 4)]) (g := gName 4) rfl sc__law_field.nd (pi_range1 rfl T.z_range (pa_cons (pv 0) pa_nil)) (blkOk_by (by kernel_rfl)) (fun _ _ _ _ _ => pg_name (i := 4) sc__law_field.nd rfl (Or.inl rfl)) (fun _ _ _ _ _ => pts_nil) (fun _ _ _ _ _ => (pe_call (ok__law_element_sum T) (hr.mono (by decide)) (by rfl) T.g__law_element_sum T.F__law_element_sum.kp T.b__law_element_sum .nil pass0 (pa_cons (pv 1) (pa_cons (pv 2) (pa_cons (pv 5) (pa_cons (pv 4) pa_nil)))))))))
      (pss_cons (ps_setLc (i := 6) (own := [("_law_one", 5)]) (g := gName 5) (by rfl) sc__law_field.nd rfl rfl (sw_true rfl rfl rfl (by decide +kernel)) (pi_range1 rfl T.z_range (pa_cons (pv 0) pa_nil)) (blkOk_by (N := ["_law_q_here", "_law_p", "_law_f", "_law_plus", "_law_other", "_law_one", "_law_mul", "_law_row"]) (sc := defScope s__law_field) (by decide +kernel)) (fun _ _ _ _ _ => pg_name (i := 5) sc__law_field.nd rfl (Or.inr rfl)) (fun _ _ _ _ _ => pts_nil) (fun _ _ _ _ _ => (pe_lc (own := [("_law_other", 4)]) (g := gName 4) rfl sc__law_field.nd (pi_range1 rfl T.z_range (pa_cons (pv 0) pa_nil)) (blkOk_by (by kernel_rfl)) (fun _ _ _ _ _ => pg_name (i := 4) sc__law_field.nd rfl (Or.inl rfl)) (fun _ _ _ _ _ => pts_nil) (fun _ _ _ _ _ => (pe_call (ok__law_element_product T) (hr.mono (by decide)) (by rfl) T.g__law_element_product T.F__law_element_product.kp T.b__law_element_product .nil pass0 (pa_cons (pv 1) (pa_cons (pv 2) (pa_cons (pv 5) (pa_cons (pv 4) pa_nil)))))))))
      (pss_one (ps_ret (pe_disp (pps_cons pe_str (pv 0) (pps_cons pe_str (pv 1) (pps_cons pe_str (pv 2) (pps_cons pe_str (pv 3) (pps_cons pe_str (pv 6) (pps_cons pe_str (pe_lc (own := [("_law_row", 7)]) (g := gName 7) rfl sc__law_field.nd (pi_list (pv 3)) (blkOk_by (N := ["_law_q_here", "_law_p", "_law_f", "_law_plus", "_law_other", "_law_one", "_law_mul", "_law_row"]) (sc := defScope s__law_field) (by decide +kernel)) (fun _ _ _ _ _ => pg_name (i := 7) sc__law_field.nd rfl (Or.inl rfl)) (fun _ _ _ _ _ => pts_nil) (fun _ _ _ _ _ => (show PE _ _ (tBM K "list" (rIndex K) (tVar 7) (tCons (tC (.int 0)) tNil)) from (pe_bm PySem.F.plainAttrs_list PySem.F.slot_list_index PySem.F.type_list_index mt_index (pv 7) (pa_cons pe_int pa_nil))))) pps_nil)))))) (by rfl) (by rfl) (fun z => by cases z) (by decide))))))), ?_⟩
    have hpf := pf_q hq
    have hqb := hq.b
    intro d0 nd0
    refine ⟨by show 2 ≤ sizeLine; decide, fun t1 n1 => ⟨by show 2 ≤ sizeLine; decide, fun t2 n2 => ⟨by show 2 ≤ sizeLine; decide, fun t3 n3 => ⟨by show 2 ≤ sizeLine; decide, fun t4 n4 => ⟨by show 2 ≤ sizeLine; decide, fun t5 n5 => ⟨by show 2 ≤ sizeLine; decide, fun t6 n6 => ⟨by show 2 ≤ sizeLine; decide, fun t7 n7 => ?_⟩⟩⟩⟩⟩⟩⟩
    generalize hD : upd (upd (upd (upd (upd (upd (upd (upd H d0 (.dK [])) t1 (.tup [.int 2, .int 1])) t2 (.tup [.int 3, .int 1])) t3 (.tup [.int 2, .int 2])) t4 (.tup [.int 5, .int 1])) t5 (.tup [.int 7, .int 1])) t6 (.tup [.int 2, .int 3])) t7 (.tup [.int 3, .int 2]) = HD
    have x0 : Ex H (upd H d0 (.dK [])) := Ex.new nd0
    have eD : Ex H HD := by rw [← hD]; exact ((((((x0.trans (Ex.new n1)).trans (Ex.new n2)).trans (Ex.new n3)).trans (Ex.new n4)).trans (Ex.new n5)).trans (Ex.new n6)).trans (Ex.new n7)
    have eD0 : Ex (upd H d0 (.dK [])) HD := by rw [← hD]; exact (((((((Ex.new n1).trans (Ex.new n2)).trans (Ex.new n3)).trans (Ex.new n4)).trans (Ex.new n5)).trans (Ex.new n6)).trans (Ex.new n7))
    have g7 : HD t7 = some (.tup [.int 3, .int 2]) := by rw [← hD]; exact upd_same
    have g6 : HD t6 = some (.tup [.int 2, .int 3]) := by rw [← hD]; exact (Ex.new n7) _ _ upd_same
    have g5 : HD t5 = some (.tup [.int 7, .int 1]) := by rw [← hD]; exact ((Ex.new n6).trans (Ex.new n7)) _ _ upd_same
    have g4 : HD t4 = some (.tup [.int 5, .int 1]) := by rw [← hD]; exact (((Ex.new n5).trans (Ex.new n6)).trans (Ex.new n7)) _ _ upd_same
    have g3 : HD t3 = some (.tup [.int 2, .int 2]) := by rw [← hD]; exact ((((Ex.new n4).trans (Ex.new n5)).trans (Ex.new n6)).trans (Ex.new n7)) _ _ upd_same
    have g2' : HD t2 = some (.tup [.int 3, .int 1]) := by rw [← hD]; exact (((((Ex.new n3).trans (Ex.new n4)).trans (Ex.new n5)).trans (Ex.new n6)).trans (Ex.new n7)) _ _ upd_same
    have g1' : HD t1 = some (.tup [.int 2, .int 1]) := by rw [← hD]; exact ((((((Ex.new n2).trans (Ex.new n3)).trans (Ex.new n4)).trans (Ex.new n5)).trans (Ex.new n6)).trans (Ex.new n7)) _ _ upd_same
    clear hD
    have hd0 : HD d0 = some (.dK []) := eD0 _ _ upd_same
    have hnew : ∀ x o, HD x = some o → x ≠ d0 → (upd HD d0 (.dK (mergeK [] [(Sum.inl 2, .ref t1), (Sum.inl 3, .ref t2), (Sum.inl 4, .ref t3), (Sum.inl 5, .ref t4), (Sum.inl 7, .ref t5), (Sum.inl 8, .ref t6), (Sum.inl 9, .ref t7)]))) x = some o := fun x o h n => by rw [upd_ne n]; exact h
    refine ⟨hd0, [(Sum.inl 2, .ref t1), (Sum.inl 3, .ref t2), (Sum.inl 4, .ref t3), (Sum.inl 5, .ref t4), (Sum.inl 7, .ref t5), (Sum.inl 8, .ref t6), (Sum.inl 9, .ref t7)], rfl, by show 7 ≤ 15; decide, ?_⟩
    have hv : ∃ t, valV (mergeK [] ([(Sum.inl 2, .ref t1), (Sum.inl 3, .ref t2), (Sum.inl 4, .ref t3), (Sum.inl 5, .ref t4), (Sum.inl 7, .ref t5), (Sum.inl 8, .ref t6), (Sum.inl 9, .ref t7)] : List (Key × V))) (Sum.inl (q : Int)) = some (.ref t) ∧ HD t = some (.tup [N_ (prE q), N_ (poE q)]) := by
      have hq' := hq
      unfold Fq FQ at hq'
      simp only [List.mem_cons, List.not_mem_nil, or_false] at hq'
      rcases hq' with rfl | rfl | rfl | rfl | rfl | rfl | rfl
      · exact ⟨t1, valV_merge _ _ _ _ rfl, g1'⟩
      · exact ⟨t2, valV_merge _ _ _ _ rfl, g2'⟩
      · exact ⟨t3, valV_merge _ _ _ _ rfl, g3⟩
      · exact ⟨t4, valV_merge _ _ _ _ rfl, g4⟩
      · exact ⟨t5, valV_merge _ _ _ _ rfl, g5⟩
      · exact ⟨t6, valV_merge _ _ _ _ rfl, g6⟩
      · exact ⟨t7, valV_merge _ _ _ _ rfl, g7⟩
    obtain ⟨t, hv1, hv2⟩ := hv
    have htd : t ≠ d0 := fun z => by rw [z, hd0] at hv2; cases hv2
    refine ⟨N_ q, rfl, d0, .ref t, rfl, hv1 ▸ DGet.k (k := Sum.inl (q : Int)) upd_same, t, [N_ (prE q), N_ (poE q)], rfl, st_of (hnew _ _ hv2 htd), rfl, N_ (prE q), [N_ (poE q)], rfl, N_ (poE q), [], rfl, rfl, ?_⟩
    have eF : Ex H (upd HD d0 (.dK (mergeK [] [(Sum.inl 2, .ref t1), (Sum.inl 3, .ref t2), (Sum.inl 4, .ref t3), (Sum.inl 5, .ref t4), (Sum.inl 7, .ref t5), (Sum.inl 8, .ref t6), (Sum.inl 9, .ref t7)]))) := Ex.mut eD nd0
    generalize (upd HD d0 (.dK (mergeK [] [(Sum.inl 2, .ref t1), (Sum.inl 3, .ref t2), (Sum.inl 4, .ref t3), (Sum.inl 5, .ref t4), (Sum.inl 7, .ref t5), (Sum.inl 8, .ref t6), (Sum.inl 9, .ref t7)]))) = HF at eF
    clear hnew
    -- plus, mul
    refine q_asgLL (ell_is (ell_lcR1 (n := q) (ea_cons (ev_var rfl) ea_nil) (by omega) (xss := (row2 sE q).map (·.map N_)) (by rw [List.length_map]; unfold row2; rw [List.length_map, List.length_range]) (fun _ => rfl) (fun i xs H1 e1 hi hx => ?_)) rfl) fun a1 rs1 H1 na1 e1 h1 hl1 hr1 => ?_
    · unfold row2 at hx
      rw [List.getElem?_map, List.getElem?_map, List.getElem?_range hi] at hx
      cases (Option.some.inj hx : _ = xs)
      refine el_is (el_lcR1 (n := (q : Int)) (fun _ => true) (fun j => N_ (esL (prE q) (poE q) i j)) (ea_cons (ev_var rfl) ea_nil) ⟨by omega, by omega⟩ (fun _ => rfl) (fun _ _ _ _ => et_nil) (fun j H2 e2 hj _ => ev_call (ea_cons (ev_var rfl) (ea_cons (ev_var rfl) (ea_cons (ev_var rfl) (ea_cons (ev_var rfl) ea_nil)))) (sv__law_element_sum hpf))) ?_
      rw [Int.toNat_natCast, given_range]
      show _ = ((List.range q).map fun b => sE q i b).map N_
      rw [List.map_map]
      exact List.map_congr_left fun j hj => rfl
    refine q_asgLL (ell_is (ell_lcR1 (n := q) (ea_cons (ev_var rfl) ea_nil) (by omega) (xss := (row2 pE q).map (·.map N_)) (by rw [List.length_map]; unfold row2; rw [List.length_map, List.length_range]) (fun _ => rfl) (fun i xs H2 e2 hi hx => ?_)) rfl) fun a2 rs2 H2 na2 e2 h2 hl2 hr2 => ?_
    · unfold row2 at hx
      rw [List.getElem?_map, List.getElem?_map, List.getElem?_range hi] at hx
      cases (Option.some.inj hx : _ = xs)
      have hpq := pow_q hq
      refine el_is (el_lcR1 (n := (q : Int)) (fun j => true) (fun j => N_ (epL (prE q) (poE q) i j)) (ea_cons (ev_var rfl) ea_nil) ⟨by omega, by omega⟩ (fun _ => rfl) (fun _ _ _ _ => et_nil) (fun j H3 e3 hj _ => ev_call (ea_cons (ev_var rfl) (ea_cons (ev_var rfl) (ea_cons (ev_var rfl) (ea_cons (ev_var rfl) ea_nil)))) (sv__law_element_product hpf (by rw [hpq]; exact hi) (by rw [hpq]; omega)))) ?_
      rw [Int.toNat_natCast, given_range]
      show _ = ((List.range q).map fun b => pE q i b).map N_
      rw [List.map_map]
      exact List.map_congr_left fun j hj => rfl
    have L1 : LLt (fun x => H x = none) H1 a1 (row2 sE q) := (ll_of na1 h1 hl1 hr1).keep fun b o n h => ⟨fresh_back eF n, h⟩
    have L2' : LLt (fun x => H x = none) H2 a2 (row2 pE q) := (ll_of na2 h2 hl2 hr2).keep fun b o n h => ⟨fresh_back (eF.trans e1) n, h⟩
    -- the dict
    intro d nd
    have xd : Ex H2 (upd H2 d (.dK [])) := Ex.new nd
    have hq9 := hqb.2
    have hl1' : rs1.length = q := by rw [hl1, List.length_map]; unfold row2; rw [List.length_map, List.length_range]
    refine ⟨N_ q, rfl, N_ (prE q), rfl, N_ (poE q), rfl, .ref a1, rfl, .ref a2, rfl, ?_⟩
    show tPairs [_] _ _ _
    refine pairs_go (el_is (ys := ((List.range q).map (oE q)).map N_) (el_lcL (xs := rs1.map V.ref) (fun _ => true) (fun i => N_ (oE q i)) (ev_var rfl) (sq_of (xd _ _ (e2 _ _ h1))) (by rw [List.length_map]; omega) (fun _ => rfl) (fun _ _ _ _ _ => et_nil) (fun i x H3 e3 hx _ => ?_)) ?_) fun a3 H3 na3 e3 h3 => ?_
    · rw [List.getElem?_map] at hx
      obtain ⟨r, hr, hx2⟩ := Option.map_eq_some_iff.mp hx
      subst hx2
      have hi : i < q := by rw [← hl1']; exact (List.getElem?_eq_some_iff.mp hr).1
      have ho := op_q hq hi
      have hoL := (t1_of hq hi).oL
      have hrow : (row2 sE q)[i]? = some ((List.range q).map fun b => sE q i b) := by unfold row2; rw [List.getElem?_map, List.getElem?_range hi]; rfl
      have hst := (hr1 i r _ hr (by rw [List.getElem?_map, hrow]; rfl)).2
      refine fun H4 e4 Q' q' => ⟨.ref r, rfl, Or.inl ⟨rfl, _, sq_of (e4 _ _ (e3 _ _ (xd _ _ (e2 _ _ hst))))⟩, r, _, .int 0, oE q i, N_ (sE q i (oE q i)), rfl, rfl, sq_of (e4 _ _ (e3 _ _ (xd _ _ (e2 _ _ hst)))), rfl, ?_, ?_, ?_, fun m z hm hz => ?_, q' H4 (Ex.refl H4)⟩
      · rw [List.all_eq_true]
        intro y hy
        obtain ⟨b, _, rfl⟩ := List.mem_map.mp hy
        rfl
      · rw [List.getElem?_map, List.getElem?_map, List.getElem?_range hoL]
        rfl
      · rw [ho.1]
        rfl
      · rw [List.getElem?_map, List.getElem?_map, List.getElem?_range (by omega)] at hz
        cases (Option.some.inj hz : N_ (sE q i m) = z)
        show ((((sE q i m : Nat) : Int)) == (0 : Int)) = false
        have := ho.2 m hm
        exact beq_eq_false_iff_ne.mpr (by omega)
    · rw [List.length_map, hl1', given_range, List.map_map]
      rfl
    have eX : Ex H2 H3 := xd.trans e3
    have hd3 : H3 d = some (.dK []) := e3 _ _ upd_same
    have na3' : (upd H2 d (.dK [])) a3 = none := na3
    have nd3 : a3 ≠ d := fun z => by rw [z, upd_same] at na3'; cases na3'
    have nH2 : ∀ b, H2 b = none → H b = none := fun b n => fresh_back ((eF.trans e1).trans e2) n
    refine ⟨hd3, [(Sum.inr (Str.ofString "q"), N_ q), (Sum.inr (Str.ofString "p"), N_ (prE q)), (Sum.inr (Str.ofString "f"), N_ (poE q)), (Sum.inr (Str.ofString "plus"), .ref a1), (Sum.inr (Str.ofString "mul"), .ref a2), (Sum.inr (Str.ofString "minus"), .ref a3)], rfl, by show 6 ≤ 15; decide, ?_⟩
    have hkeep : ∀ b o, H3 b = some o → b ≠ d → (upd H3 d (.dK (mergeK [] [(Sum.inr (Str.ofString "q"), N_ q), (Sum.inr (Str.ofString "p"), N_ (prE q)), (Sum.inr (Str.ofString "f"), N_ (poE q)), (Sum.inr (Str.ofString "plus"), .ref a1), (Sum.inr (Str.ofString "mul"), .ref a2), (Sum.inr (Str.ofString "minus"), .ref a3)]))) b = some o := fun b o h n => by rw [upd_ne n]; exact h
    have hne : ∀ b o, H2 b = some o → b ≠ d := fun b o h z => by rw [z, nd] at h; cases h
    refine k d _ (Ex.mut (((eF.trans e1).trans e2).trans eX) (nH2 d nd)) ⟨nH2 d nd, _, a1, a2, a3, upd_same, valV_merge _ _ _ _ rfl, valV_merge _ _ _ _ rfl, valV_merge _ _ _ _ rfl, valV_merge _ _ _ _ rfl, valV_merge _ _ _ _ rfl, valV_merge _ _ _ _ rfl, L1.keep fun b o n h => ⟨n, hkeep b o (eX _ _ (e2 _ _ h)) (hne b o (e2 _ _ h))⟩, L2'.keep fun b o n h => ⟨n, hkeep b o (eX _ _ h) (hne b o h)⟩, nH2 a3 (fresh_back xd na3), ?_⟩
    rw [upd_ne nd3]
    exact h3


end Own
namespace Own
open PySem PySem.Spec PyProof.Rows L2 Evl

section
variable {K : PySem.W.Frag} {σ : L2.St} {H H' : Hp} {td : TE}
theorem ev_dg {d : Addr} {kvs : List (Key × V)} {s : Str} {v : V} (h : Ev td σ H (.ref d)) (hd : H d = some (.dK kvs)) (hv : valV kvs (Sum.inr s) = some v) : Ev (tDGet td (tC (.str s))) σ H v := fun H1 e Q q =>
  h H1 e _ fun H2 e2 => ⟨d, v, rfl, hv ▸ DGet.k (k := Sum.inr s) (e2 _ _ (e _ _ hd)), q H2 e2⟩
end
theorem q_of {x : V} (h : x ∈ ([.int 2, .int 2, .int 3, .int 3, .int 4, .int 5, .int 7, .int 8, .int 9] : List V)) : ∃ q : Nat, Fq q ∧ x = N_ q := by
  simp only [List.mem_cons, List.not_mem_nil, or_false] at h
  rcases h with h | h | h | h | h | h | h | h | h <;> subst h
  · exact ⟨2, by unfold Fq FQ; decide, rfl⟩
  · exact ⟨2, by unfold Fq FQ; decide, rfl⟩
  · exact ⟨3, by unfold Fq FQ; decide, rfl⟩
  · exact ⟨3, by unfold Fq FQ; decide, rfl⟩
  · exact ⟨4, by unfold Fq FQ; decide, rfl⟩
  · exact ⟨5, by unfold Fq FQ; decide, rfl⟩
  · exact ⟨7, by unfold Fq FQ; decide, rfl⟩
  · exact ⟨8, by unfold Fq FQ; decide, rfl⟩
  · exact ⟨9, by unfold Fq FQ; decide, rfl⟩
theorem lt1000 {n : Nat} (h : n < 2 ^ 40) : n < 2 ^ 1000 := Nat.lt_of_lt_of_le h (Nat.pow_le_pow_right (by decide) (by decide : 40 ≤ 1000))
def sp__law_q (K : PySem.W.Frag) : Sp := fun vs H Q _ => ∃ (p : Addr), vs = [.ref p] ∧ IsDice H p ∧ ∀ (q : Nat) H', Fq q → Exd p H H' → IsDice H' p → Q (N_ q) H'

theorem ok__law_q {P : Program} {w : World} {K : PySem.W.Frag} {mg : Str → Option Value} {base : Heap} (T : Txt K mg) : FnOk P w K mg base CX0 3 T.a__law_q T.d__law_q ["_law_dice_here"] (sp__law_q K) := by
  refine T.F__law_q.ok sc__law_q (fun vs H Q E h => ?_) (fun cdv A outer s H vs Q E hr h => ?_)
  · obtain ⟨p, rfl, _⟩ := h
    rfl
  · obtain ⟨p, rfl, hd, k⟩ := h
    refine ⟨_, (pss_one (ps_ret (pe_call (ok__law_one_of T) (hr.mono (by decide)) (by rfl) T.g__law_one_of T.F__law_one_of.kp T.b__law_one_of .nil pass0 (pa_cons (pv 0) (pa_cons (pe_lst (pa_cons pe_int (pa_cons pe_int (pa_cons pe_int (pa_cons pe_int (pa_cons pe_int (pa_cons pe_int (pa_cons pe_int (pa_cons pe_int (pa_cons pe_int pa_nil)))))))))) pa_nil))))), ?_⟩
    refine ⟨.ref p, rfl, by show 9 ≤ sizeLine; decide, fun l nl => ⟨p, l, _, rfl, hd.ex (Ex.new nl), sq_of upd_same, new_ne nl hd, by show 0 < 9; decide, by show 9 ≤ 1000; decide, fun x H1 hx x1' d1 => ?_⟩⟩
    obtain ⟨q, hq, rfl⟩ := q_of hx
    exact k q H1 hq ((Exd.of (Ex.new nl)).trans x1') d1


def sp__law_digit_sum (K : PySem.W.Frag) : Sp := fun vs H Q _ => ∃ (b n : Nat), vs = [N_ b, N_ n] ∧ Bs b ∧ Gt n ∧ RetV (N_ (ds b n)) H Q
theorem sv__law_digit_sum {K : PySem.W.Frag} {H : Hp} {b n : Nat} (hb : Bs b) (hn : Gt n) : SpV (sp__law_digit_sum K) [N_ b, N_ n] H (N_ (ds b n)) := fun H1 e Q q E => ⟨b, n, rfl, hb, hn, q⟩

theorem ok__law_digit_sum {P : Program} {w : World} {K : PySem.W.Frag} {mg : Str → Option Value} {base : Heap} (T : Txt K mg) : FnOk P w K mg base CX0 2 T.a__law_digit_sum T.d__law_digit_sum ["_law_base", "_law_number"] (sp__law_digit_sum K) := by
  refine T.F__law_digit_sum.ok sc__law_digit_sum (fun vs H Q E h => ?_) (fun cdv A outer s H vs Q E hr h => ?_)
  · obtain ⟨b, n, rfl, _⟩ := h
    rfl
  · obtain ⟨b, n, rfl, hb, hn, k⟩ := h
    refine ⟨_, (pss_one (ps_ret (pe_callB (cr_sum rfl) (by rfl) T.z_sum (by decide +kernel) (pa_cons (pe_call (ok__law_digits T) (hr.mono (by decide)) (by rfl) T.g__law_digits T.F__law_digits.kp T.b__law_digits .nil pass0 (pa_cons (pv 0) (pa_cons (pv 1) pa_nil))) pa_nil)))), ?_⟩
    exact s_ret (ev_is (ev_sumN (ns := (dg b n).map Int.ofNat) (el_is (el_call (ea_cons (ev_var rfl) (ea_cons (ev_var rfl) ea_nil)) (sv__law_digits hb hn)) (mapN _))) (congrArg V.int (sumN _))) fun H1 e1 => k H1 e1


def sp__law_own_shifts (K : PySem.W.Frag) : Sp := fun vs H Q _ => ∃ (d : Addr) (q k : Nat), vs = [.ref d, N_ k] ∧ Fq q ∧ FldAt (fun _ => True) H d q ∧ k < 10 ^ 60 ∧ RetL ((ssL q k).map N_) H Q
theorem sv__law_own_shifts {K : PySem.W.Frag} {H : Hp} {d : Addr} {q k : Nat} (hq : Fq q) (h : FldAt (fun _ => True) H d q) (hk : k < 10 ^ 60) : SpL (sp__law_own_shifts K) [.ref d, N_ k] H ((ssL q k).map N_) := fun H1 e Q kk E => ⟨d, q, k, rfl, hq, h.ex e, hk, kk⟩

theorem ok__law_own_shifts {P : Program} {w : World} {K : PySem.W.Frag} {mg : Str → Option Value} {base : Heap} (T : Txt K mg) : FnOk P w K mg base CX0 3 T.a__law_own_shifts T.d__law_own_shifts ["_law_field_here", "_law_k"] (sp__law_own_shifts K) := by
  refine T.F__law_own_shifts.ok sc__law_own_shifts (fun vs H Q E h => ?_) (fun cdv A outer s H vs Q E hr h => ?_)
  · obtain ⟨d, q, k, rfl, _⟩ := h
    rfl
  · obtain ⟨d, q, k, rfl, hq, hf, hk, kk⟩ := h
    refine ⟨_, (pss_one (ps_ret (pe_lc (own := [("_law_j", 2)]) (g := gName 2) rfl sc__law_own_shifts.nd (pi_range1 rfl T.z_range (pa_cons (pe_dget (hu_of hr) (pv 0) pe_str (fun _ _ => rfl)) pa_nil)) (blkOk_by (N := ["_law_field_here", "_law_k", "_law_j"]) (sc := defScope s__law_own_shifts) (by decide +kernel)) (fun _ _ _ _ _ => pg_name (i := 2) sc__law_own_shifts.nd rfl (Or.inl rfl)) (fun _ _ _ _ _ => pts_nil) (fun _ _ _ _ _ => (pe_call (ok__law_digit_sum T) (hr.mono (by decide)) (by rfl) T.g__law_digit_sum T.F__law_digit_sum.kp T.b__law_digit_sum .nil pass0 (pa_cons (pe_dget (hu_of hr) (pv 0) pe_str (fun _ _ => rfl)) (pa_cons (pe_op op_mulW (pe_call (ok__law_raised T) (hr.mono (by decide)) (by rfl) T.g__law_raised T.F__law_raised.kp T.b__law_raised .nil pass0 (pa_cons (pe_dget (hu_of hr) (pv 0) pe_str (fun _ _ => rfl)) (pa_cons (pv 2) pa_nil))) (pv 1)) pa_nil))))))), ?_⟩
    obtain ⟨_, kvs, a1, a2, a3, hdk, gq, gp, gf, g1, g2, g3, _, _, _, hm⟩ := hf
    have ht := t0_of hq
    refine s_retL (el_is (el_lcR1 (n := (poE q : Int)) (fun _ => true) (fun j => N_ (ds q (prE q ^ j * k))) (ea_cons (ev_dg (ev_var rfl) hdk gf) ea_nil) ⟨by omega, by have := ht.f3; omega⟩ (fun _ => rfl) (fun _ _ _ _ => et_nil) (fun j H1 e1 hj _ => ?_)) ?_) fun p H2 np e2 h2 => kk p H2 np e2 h2
    · have hj2 : j ≤ 2 := by have := ht.f3; omega
      have hp := p49 hq hj2
      have hg := gt_pk (k := k) hq hj2 hk
      refine ev_call (ea_cons (ev_dg (ev_var rfl) (e1 _ _ hdk) gq) (ea_cons (ev_is (ev_op (ev_call (ea_cons (ev_dg (ev_var rfl) (e1 _ _ hdk) gp) (ea_cons (ev_var rfl) ea_nil)) (sv_raised (c := j) (by have := ht.p7; omega) (by omega))) (ev_var rfl) (rv_I (wide_mul (a := 10) (b := 200) (by show prE q ^ j < 1024; omega) (Nat.lt_trans hk (by decide)) (by decide) (by decide) (by decide)))) (congrArg V.int (by rw [Int.natCast_mul]))) ea_nil)) (sv__law_digit_sum (n := prE q ^ j * k) hq.bs hg)
    · rw [Int.toNat_natCast, given_range]
      unfold ssL
      rw [List.map_map]
      rfl


section
variable {K : PySem.W.Frag} {σ : L2.St} {H : Hp} {D : Ends} {tu tz : TS}
theorem q_forRaw1 {j : Nat} {ta : TA} (M : Nat → Hp → Prop) (h : ∀ Q : List V → Hp → Prop, (∀ n H1, M n H1 → Q [N_ n] H1) → ta σ H Q) (k : ∀ n H1, M n H1 → tSeq (tFor (iRng1 (tCons (tC (N_ n)) tNil)) (gName j) tu) tz D σ H1) : tSeq (tFor (iRng1 ta) (gName j) tu) tz D σ H := h _ (fun n H1 m => k n H1 m)
end
def sp__law_small_k (K : PySem.W.Frag) : Sp := fun vs H Q _ => ∃ (p : Addr) (q m : Nat), vs = [.ref p, N_ q, N_ m] ∧ Fq q ∧ m ≤ 100 ∧ 0 < m ∧ IsDice H p ∧ ∀ (r : Nat) H', r ≤ m → Exd p H H' → IsDice H' p → Q (N_ r) H'

theorem ok__law_small_k {P : Program} {w : World} {K : PySem.W.Frag} {mg : Str → Option Value} {base : Heap} (T : Txt K mg) : FnOk P w K mg base CX0 3 T.a__law_small_k T.d__law_small_k ["_law_dice_here", "_law_q_here", "_law_most"] (sp__law_small_k K) := by
  refine T.F__law_small_k.ok sc__law_small_k (fun vs H Q E h => ?_) (fun cdv A outer s H vs Q E hr h => ?_)
  · obtain ⟨p, q, m, rfl, _⟩ := h
    rfl
  · obtain ⟨p, q, m, rfl, hq, hm, hm0, hd, k⟩ := h
    refine ⟨_, (pss_cons (ps_set (i := 3) sc__law_small_k.nd rfl (Or.inl rfl) (pe_call (ok__law_roll T) (hr.mono (by decide)) (by rfl) T.g__law_roll T.F__law_roll.kp T.b__law_roll .nil pass0 (pa_cons (pv 0) (pa_cons pe_int pa_nil))))
      (pss_cons (ps_if (pt_cmpR op_eq (pv 3) pe_int (nomark _)) (pss_one (ps_ret (pe_call (ok__law_roll T) (hr.mono (by decide)) (by rfl) T.g__law_roll T.F__law_roll.kp T.b__law_roll .nil pass0 (pa_cons (pv 0) (pa_cons (pe_op op_add (pv 2) pe_int) pa_nil))))) pss_nil)
      (pss_cons (ps_if (pt_cmpR op_eq (pv 3) pe_int (nomark _)) (pss_one (ps_ret (pe_op op_mulW (pe_op op_sub (pv 1) pe_int) (pe_call (ok__law_roll T) (hr.mono (by decide)) (by rfl) T.g__law_roll T.F__law_roll.kp T.b__law_roll .nil pass0 (pa_cons (pv 0) (pa_cons (pe_op op_add (pe_op op_fdivW (pv 2) (pe_op op_sub (pv 1) pe_int)) pe_int) pa_nil)))))) pss_nil)
      (pss_cons (ps_set (i := 4) sc__law_small_k.nd rfl (Or.inl rfl) pe_int)
      (pss_cons (ps_for PassesOwn.never rfl (pi_range1 rfl T.z_range (pa_cons (pe_op op_add pe_int (pe_call (ok__law_roll T) (hr.mono (by decide)) (by rfl) T.g__law_roll T.F__law_roll.kp T.b__law_roll .nil pass0 (pa_cons (pv 0) (pa_cons pe_int pa_nil)))) pa_nil)) (pg_name (i := 5) sc__law_small_k.nd rfl (Or.inl rfl)) (pss_one (ps_set (i := 4) sc__law_small_k.nd rfl (Or.inl rfl) (pe_op op_add (pv 4) (pe_call (ok__law_raised T) (hr.mono (by decide)) (by rfl) T.g__law_raised T.F__law_raised.kp T.b__law_raised .nil pass0 (pa_cons (pv 1) (pa_cons (pe_call (ok__law_roll T) (hr.mono (by decide)) (by rfl) T.g__law_roll T.F__law_roll.kp T.b__law_roll .nil pass0 (pa_cons (pv 0) (pa_cons (pe_op op_add (pe_call (ok__law_size T) (hr.mono (by decide)) (by rfl) T.g__law_size T.F__law_size.kp T.b__law_size .nil pass0 (pa_cons (pv 1) (pa_cons (pv 2) pa_nil))) pe_int) pa_nil))) pa_nil)))))))
      (pss_one (ps_ret (pe_callB (call_min2 rfl) (by rfl) T.z_min (by decide +kernel) (pa_cons (pv 4) (pa_cons (pv 2) pa_nil)))))))))), ?_⟩
    have hqb := hq.b
    have hm1 : ((q : Int) - 1) = ((q - 1 : Nat) : Int) := by omega
    refine ⟨.ref p, rfl, p, 4, rfl, hd, by decide, lt1000 (by decide), fun w H1 hw x1 d1 => ?_⟩
    refine q_when (et_is (et_test (ev_op (ev_var rfl) ev_c (rv_eq rfl))) (dec_int (y := 0))) (fun h H2 e2 => ?_) (fun h H2 e2 => ?_)
    · exact ⟨.ref p, rfl, N_ m, rfl, (m : Int), 1, rfl, rfl, p, m + 1, rfl, d1.ex e2, by omega, lt1000 (by omega), fun r H3 hr x3 d3 => k r H3 (by omega) ((x1.trans (Exd.of e2)).trans x3) d3⟩
    refine q_when (et_is (et_test (ev_op (ev_var rfl) ev_c (rv_eq rfl))) (dec_int (y := 1))) (fun h H3 e3 => ?_) (fun h H3 e3 => ?_)
    · have hdv : m / (q - 1) ≤ m := Nat.div_le_self m (q - 1)
      refine ⟨N_ q, rfl, (q : Int), 1, rfl, rfl, .ref p, rfl, N_ m, rfl, N_ q, rfl, (q : Int), 1, rfl, rfl, (m : Int), (q : Int) - 1, rfl, rfl, wide_div (b := 10) (by omega) (by show Int.natAbs ((q : Int) - 1) < 1024; omega) (by decide) (by decide), (m : Int) / ((q : Int) - 1), 1, rfl, rfl, p, m / (q - 1) + 1, by rw [hm1]; rfl, (d1.ex e2).ex e3, Nat.succ_pos _, lt1000 (Nat.lt_of_le_of_lt (Nat.succ_le_succ hdv) (by omega)), fun r H4 hr x4 d4 => ⟨(q : Int) - 1, (r : Int), rfl, rfl, wide_mul (a := 10) (b := 10) (by show Int.natAbs ((q : Int) - 1) < 1024; omega) (by show r < 1024; exact Nat.lt_of_le_of_lt (Nat.le_trans (Nat.le_of_lt_succ hr) hdv) (by omega)) (by decide) (by decide) (by decide), ?_⟩⟩
      have hv : V.int (((q : Int) - 1) * (r : Int)) = N_ ((q - 1) * r) := congrArg V.int (by rw [hm1, Int.natCast_mul])
      show Q (V.int (((q : Int) - 1) * (r : Int))) H4
      rw [hv]
      exact k _ H4 (Nat.le_trans (Nat.mul_le_mul_left (q - 1) (Nat.le_of_lt_succ hr)) (Nat.mul_div_le m (q - 1))) ((x1.trans (Exd.of (e2.trans e3))).trans x4) d4
    refine q_asg (v := N_ 0) ev_c fun H4 e4 => ?_
    have x4 : Exd p H H4 := x1.trans (Exd.of ((e2.trans e3).trans e4))
    have d4 := ((d1.ex e2).ex e3).ex e4
    refine q_forRaw1 (fun n H5 => n ≤ 4 ∧ Exd p H H5 ∧ IsDice H5 p) (fun Q' q' => ?_) (fun n H5 m5 => ?_)
    · exact ⟨.ref p, rfl, p, 4, rfl, d4, by decide, lt1000 (by decide), fun r H5 hr x5 d5 => ⟨1, (r : Int), rfl, rfl, by
        show Q' [V.int (1 + (r : Int))] H5
        rw [show V.int (1 + (r : Int)) = N_ (1 + r) from congrArg V.int (by omega)]
        exact q' (1 + r) H5 ⟨by omega, x4.trans x5, d5⟩⟩⟩
    · obtain ⟨hn4, x5, d5⟩ := m5
      refine q_forR1 (n := (n : Int)) (ea_cons ev_c ea_nil) ⟨by omega, by omega⟩ (fun i σ H' => ∃ f y, σ = [some (.ref p), some (N_ q), some (N_ m), some (N_ w), some (N_ f), y] ∧ Exd p H H' ∧ IsDice H' p) (fun H6 e6 => ⟨0, none, rfl, x5.trans (Exd.of e6), d5.ex e6⟩) (fun i σ H6 hi hw6 => ?_) (fun σ H6 hw6 => ?_)
      · obtain ⟨f, y, rfl, x6, d6⟩ := hw6
        exact ⟨N_ f, rfl, N_ q, rfl, .ref p, rfl, N_ q, rfl, N_ m, rfl, q, m, rfl, hq.bs, hm0, Nat.lt_trans (show m < 2 ^ 7 by omega) (Nat.pow_lt_pow_right (by decide) (by decide : 7 < 300)), fun s H7 h1 h2 h3 e7 => ⟨(s : Int), 1, rfl, rfl, p, s + 1, rfl, d6.ex e7, by omega, lt1000 (by omega), fun r H8 hr x8 d8 => ⟨q, r, rfl, by omega, by omega, fun H9 e9 => ⟨(f : Int), ((q ^ r : Nat) : Int), rfl, rfl, f + q ^ r, some (N_ i), rfl, ((x6.trans (Exd.of e7)).trans x8).trans (Exd.of e9), d8.ex e9⟩⟩⟩⟩
      · obtain ⟨f, y, rfl, x6, d6⟩ := hw6
        refine s_ret (ev_is (w := N_ (if m < f then m else f)) (ev_cb (ea_cons (ev_var rfl) (ea_cons (ev_var rfl) ea_nil)) rc_min2) ?_) fun H7 e7 => k _ H7 (by split <;> omega) (x6.trans (Exd.of e7)) (d6.ex e7)
        by_cases h : m < f
        · rw [if_pos h, if_pos (by omega)]
        · rw [if_neg h, if_neg (by omega)]


def sp__law_great_k (K : PySem.W.Frag) : Sp := fun vs H Q _ => ∃ (p d : Addr) (q : Nat), vs = [.ref p, .ref d] ∧ Fq q ∧ IsDice H p ∧ FldAt (fun b => b ≠ p) H d q ∧ ∀ (r : Nat) H', r < 10 ^ 60 → Exd p H H' → IsDice H' p → Q (N_ r) H'

theorem ok__law_great_k {P : Program} {w : World} {K : PySem.W.Frag} {mg : Str → Option Value} {base : Heap} (T : Txt K mg) : FnOk P w K mg base CX0 3 T.a__law_great_k T.d__law_great_k ["_law_dice_here", "_law_field_here"] (sp__law_great_k K) := by
  refine T.F__law_great_k.ok sc__law_great_k (fun vs H Q E h => ?_) (fun cdv A outer s H vs Q E hr h => ?_)
  · obtain ⟨p, d, q, rfl, _⟩ := h
    rfl
  · obtain ⟨p, d, q, rfl, hq, hd, hf, k⟩ := h
    refine ⟨_, (pss_cons (ps_par (i := 2) (j := 3) (by rfl) sc__law_great_k.nd rfl rfl (by decide) rfl rfl (pa_cons (pe_dget (hu_of hr) (pv 1) pe_str (fun _ _ => rfl)) (pa_cons pe_int pa_nil)) (by rfl))
      (pss_cons (ps_set (i := 4) sc__law_great_k.nd rfl (Or.inl rfl) (pe_call (ok__law_size T) (hr.mono (by decide)) (by rfl) T.g__law_size T.F__law_size.kp T.b__law_size .nil pass0 (pa_cons (pv 2) (pa_cons (pe_call (ok__law_one_of T) (hr.mono (by decide)) (by rfl) T.g__law_one_of T.F__law_one_of.kp T.b__law_one_of .nil pass0 (pa_cons (pv 0) (pa_cons (pe_lst (pa_cons (pe_op op_powW pe_int pe_int) (pa_cons (pe_op op_powW pe_int pe_int) (pa_cons (pe_op op_powW pe_int pe_int) (pa_cons (pe_op op_powW pe_int pe_int) pa_nil))))) pa_nil))) pa_nil))))
      (pss_cons (ps_set (i := 5) sc__law_great_k.nd rfl (Or.inl rfl) (pe_call (ok__law_one_of T) (hr.mono (by decide)) (by rfl) T.g__law_one_of T.F__law_one_of.kp T.b__law_one_of .nil pass0 (pa_cons (pv 0) (pa_cons (pe_lst (pa_cons pe_int (pa_cons pe_int (pa_cons pe_int (pa_cons pe_int (pa_cons pe_int pa_nil)))))) pa_nil))))
      (pss_cons (ps_for PassesOwn.never rfl (pi_range1 rfl T.z_range (pa_cons (pv 4) pa_nil)) (pg_name (i := 6) sc__law_great_k.nd rfl (Or.inl rfl)) (pss_cons (ps_set (i := 7) sc__law_great_k.nd rfl (Or.inl rfl) (pe_call (ok__law_one_of T) (hr.mono (by decide)) (by rfl) T.g__law_one_of T.F__law_one_of.kp T.b__law_one_of .nil pass0 (pa_cons (pv 0) (pa_cons (pe_lst (pa_cons pe_int (pa_cons pe_int (pa_cons (pe_op op_sub (pv 2) pe_int) (pa_cons (pe_call (ok__law_roll T) (hr.mono (by decide)) (by rfl) T.g__law_roll T.F__law_roll.kp T.b__law_roll .nil pass0 (pa_cons (pv 0) (pa_cons (pv 2) pa_nil))) pa_nil))))) pa_nil))))
      (pss_one (ps_set (i := 3) sc__law_great_k.nd rfl (Or.inl rfl) (pe_op op_add (pv 3) (pe_op op_mulW (pe_ifExp (pt_cmpR op_eq (pe_call (ok__law_roll T) (hr.mono (by decide)) (by rfl) T.g__law_roll T.F__law_roll.kp T.b__law_roll .nil pass0 (pa_cons (pv 0) (pa_cons (pv 5) pa_nil))) pe_int (nomark _)) (pv 7) pe_int) (pe_call (ok__law_raised T) (hr.mono (by decide)) (by rfl) T.g__law_raised T.F__law_raised.kp T.b__law_raised .nil pass0 (pa_cons (pv 2) (pa_cons (pv 6) pa_nil)))))))))
      (pss_one (ps_ret (pv 3))))))), ?_⟩
    have hqb := hq.b
    have ht := t0_of hq
    obtain ⟨nd, kvs, a1, a2, a3, hdk, gq, gp, gf, g1, g2, g3, _, _, _, hm⟩ := hf
    generalize hP : prE q = P at gp
    have hP2 : 2 ≤ P := by rw [← hP]; exact ht.p2
    have hP7 : P ≤ 7 := by rw [← hP]; exact ht.p7
    have hcp : ∀ j : Int, 0 ≤ j → j ≤ 1000 → CPowW 10 j := fun j h0 h1 => ⟨h0, h1, Nat.lt_of_lt_of_le (show (10 : Int).natAbs < 2 ^ 4 by decide) (Nat.pow_le_pow_right (by decide) (by decide : 4 ≤ 1000))⟩
    refine q_par (y := N_ 0) (ev_dg (ev_var rfl) hdk gp) ev_c fun H1 e1 => ?_
    have d1 := hd.ex e1
    refine ⟨N_ P, rfl, .ref p, rfl, 10, 6, rfl, rfl, hcp _ (by decide) (by decide), 10, 12, rfl, rfl, hcp _ (by decide) (by decide), 10, 30, rfl, rfl, hcp _ (by decide) (by decide), 10, 59, rfl, rfl, hcp _ (by decide) (by decide), by show 4 ≤ sizeLine; decide, fun l nl => ⟨p, l, _, rfl, d1.ex (Ex.new nl), sq_of upd_same, new_ne nl d1, by show 0 < 4; decide, by show 4 ≤ 1000; decide, fun x H2 hx x2' d2 => ?_⟩⟩
    obtain ⟨m, hm0, hm59, rfl⟩ : ∃ m : Nat, 0 < m ∧ m ≤ 10 ^ 59 ∧ x = N_ m := by
      simp only [List.mem_cons, List.not_mem_nil, or_false] at hx
      rcases hx with h | h | h | h
      · exact ⟨10 ^ 6, by decide, by decide, h⟩
      · exact ⟨10 ^ 12, by decide, by decide, h⟩
      · exact ⟨10 ^ 30, by decide, by decide, h⟩
      · exact ⟨10 ^ 59, by decide, by decide, h⟩
    have x2 : Exd p H H2 := ((Exd.of e1).trans (Exd.of (Ex.new nl))).trans x2'
    refine ⟨P, m, rfl, ⟨hP2, by omega⟩, hm0, Nat.lt_of_le_of_lt hm59 (Nat.lt_trans (show 10 ^ 59 < 2 ^ 200 by decide) (Nat.pow_lt_pow_right (by decide) (by decide : 200 < 300))), fun s H3 h1 h2 h3 e3 => ?_⟩
    have d3 := d2.ex e3
    refine ⟨.ref p, rfl, by show 5 ≤ sizeLine; decide, fun l2 nl2 => ⟨p, l2, _, rfl, d3.ex (Ex.new nl2), sq_of upd_same, new_ne nl2 d3, by show 0 < 5; decide, by show 5 ≤ 1000; decide, fun x H4 hx x4' d4 => ?_⟩⟩
    obtain ⟨t, ht0, ht30, rfl⟩ : ∃ t : Nat, 0 < t ∧ t ≤ 30 ∧ x = N_ t := by
      simp only [List.mem_cons, List.not_mem_nil, or_false] at hx
      rcases hx with h | h | h | h | h
      · exact ⟨1, by decide, by decide, h⟩
      · exact ⟨2, by decide, by decide, h⟩
      · exact ⟨2, by decide, by decide, h⟩
      · exact ⟨9, by decide, by decide, h⟩
      · exact ⟨30, by decide, by decide, h⟩
    have x4 : Exd p H H4 := (x2.trans (Exd.of (e3.trans (Ex.new nl2)))).trans x4'
    refine q_forR1 (n := (s : Int)) (ea_cons (ev_var rfl) ea_nil) ⟨by omega, by omega⟩ (fun i σ H' => ∃ f y6 y7, σ = [some (.ref p), some (.ref d), some (N_ P), some (N_ f), some (N_ s), some (N_ t), y6, y7] ∧ f < P ^ i ∧ Exd p H H' ∧ IsDice H' p) (fun H5 e5 => ⟨0, none, none, rfl, by rw [Nat.pow_zero]; decide, x4.trans (Exd.of e5), d4.ex e5⟩) (fun i σ H5 hi hw5 => ?_) (fun σ H5 hw5 => ?_)
    · obtain ⟨f, y6, y7, rfl, hf5, x5, d5⟩ := hw5
      have hi : i < s := by omega
      have hPi : P ^ i ≤ 10 ^ 59 := Nat.le_trans (Nat.pow_le_pow_right (by omega) (Nat.le_of_lt hi)) (Nat.le_trans h1 hm59)
      have hPw : P ^ i < 2 ^ 200 := Nat.lt_of_le_of_lt hPi (by decide)
      refine ⟨.ref p, rfl, N_ P, rfl, (P : Int), 1, rfl, rfl, .ref p, rfl, N_ P, rfl, p, P, rfl, d5, by omega, lt1000 (by omega), fun r H6 hr x6 d6 => ⟨by show 4 ≤ sizeLine; decide, fun l3 nl3 => ⟨p, l3, _, rfl, d6.ex (Ex.new nl3), sq_of upd_same, new_ne nl3 d6, by show 0 < 4; decide, by show 4 ≤ 1000; decide, fun x H7 hx x7' d7 => ?_⟩⟩⟩
      obtain ⟨g, hg, rfl⟩ : ∃ g : Nat, g < P ∧ x = N_ g := by
        simp only [List.mem_cons, List.not_mem_nil, or_false] at hx
        rcases hx with h | h | h | h
        · exact ⟨0, by omega, h⟩
        · exact ⟨1, by omega, h⟩
        · exact ⟨P - 1, by omega, h.trans (congrArg V.int (by omega))⟩
        · exact ⟨r, hr, h⟩
      have x7 : Exd p H H7 := ((x5.trans x6).trans (Exd.of (Ex.new nl3))).trans x7'
      have step : ∀ g : Nat, g < P → f + g * P ^ i < P ^ (i + 1) := fun g hg => by
        rw [Nat.pow_succ]
        have := Nat.mul_le_mul_right (P ^ i) (show g + 1 ≤ P by omega)
        rw [Nat.add_mul, Nat.one_mul, Nat.mul_comm P] at this
        omega
      refine ⟨N_ f, rfl, .ref p, rfl, N_ t, rfl, p, t, rfl, d7, ht0, lt1000 (by omega), fun r2 H8 hr2 x8 d8 => ⟨rfl, _, rfl, ?_⟩⟩
      show (if decide (N_ r2 = V.int 0) = true then _ else _)
      split
      · exact ⟨N_ g, rfl, N_ P, rfl, N_ i, rfl, P, i, rfl, by omega, by omega, fun H9 e9 => ⟨(g : Int), ((P ^ i : Nat) : Int), rfl, rfl, wide_mul (a := 10) (b := 200) (by show g < 1024; omega) hPw (by decide) (by decide) (by decide), (f : Int), (g : Int) * ((P ^ i : Nat) : Int), rfl, rfl, f + g * P ^ i, some (N_ i), some (N_ g), rfl, step g hg, (x7.trans x8).trans (Exd.of e9), d8.ex e9⟩⟩
      · exact ⟨N_ P, rfl, N_ i, rfl, P, i, rfl, by omega, by omega, fun H9 e9 => ⟨0, ((P ^ i : Nat) : Int), rfl, rfl, wide_mul (a := 10) (b := 200) (by decide) hPw (by decide) (by decide) (by decide), (f : Int), 0 * ((P ^ i : Nat) : Int), rfl, rfl, f + 0 * P ^ i, some (N_ i), some (N_ g), rfl, step 0 (by omega), (x7.trans x8).trans (Exd.of e9), d8.ex e9⟩⟩
    · obtain ⟨f, y6, y7, rfl, hf5, x5, d5⟩ := hw5
      rw [Int.toNat_natCast] at hf5
      have : f < 10 ^ 60 := Nat.lt_of_lt_of_le hf5 (Nat.le_trans h1 (Nat.le_trans hm59 (by decide)))
      exact s_ret (ev_var rfl) fun H6 e6 => k f H6 this (x5.trans (Exd.of e6)) (d5.ex e6)


theorem od_snoc (b r : Nat) : ∀ es : List Nat, od b (es ++ [r]) = od b es + b ^ es.length * r
  | [] => by
    show r + b * 0 = 0 + b ^ 0 * r
    rw [Nat.pow_zero]
    omega
  | e :: es => by
    rw [List.cons_append, od, od, od_snoc b r es, List.length_cons, Nat.pow_succ, Nat.mul_add, Nat.mul_comm (b ^ es.length) b, Nat.mul_assoc]
    omega
theorem Le2.len : ∀ {es xs : List Nat}, Le2 es xs → es.length = xs.length
  | _, _, .nil => rfl
  | _, _, .cons _ r => by rw [List.length_cons, List.length_cons, r.len]
theorem pow_wide {b j : Nat} (hb : b ≤ 1000) (hj : j ≤ 200) : b ^ j < 2 ^ 2001 := by
  have h1 : b ^ j ≤ (2 ^ 10) ^ j := Nat.pow_le_pow_left (by omega) j
  rw [← Nat.pow_mul] at h1
  exact Nat.lt_of_le_of_lt h1 (Nat.pow_lt_pow_right (by decide) (by omega))
section
variable {K : PySem.W.Frag} {σ : L2.St} {H : Hp} {D : Ends} {ta tb : TE}
theorem el_cat {l : Addr} {xs ys : List V} (h : Ev ta σ H (.ref l)) (hl : H l = some (.lst xs)) (h2 : EvL tb σ H ys) (hz : xs.length + ys.length ≤ 100000) : EvL (tOp rCat ta tb) σ H (xs ++ ys) := fun H1 e Q q =>
  h H1 e _ fun H2 e2 => h2 H2 (e.trans e2) _ fun p H3 hp e3 h3 => ⟨l, p, xs, ys, rfl, rfl, e3 _ _ (e2 _ _ (e _ _ hl)), h3, sz_of hz, fun r hr => q r _ (fresh_back (e2.trans e3) hr) ((e2.trans e3).trans (Ex.new hr)) upd_same⟩
theorem s_parL {i j : Nat} {xs : List V} {y : V} (h : EvL ta σ H xs) (h2 : ∀ p H1, H p = none → Ex H H1 → H1 p = some (.lst xs) → Ev tb σ H1 y) (k : ∀ p H1, H p = none → Ex H H1 → H1 p = some (.lst xs) → D.nx ((σ.set i (some (.ref p))).set j (some y)) H1) : tPar i j (tCons ta (tCons tb tNil)) D σ H :=
  h H (Ex.refl H) _ fun p H1 hp e1 hx => h2 p H1 hp e1 hx H1 (Ex.refl H1) _ fun H2 e2 => ⟨.ref p, y, rfl, k p H2 hp (e1.trans e2) (e2 _ _ hx)⟩
end
def sp__law_parts_of (K : PySem.W.Frag) : Sp := fun vs H Q _ => ∃ (p : Addr) (b n : Nat), vs = [.ref p, N_ b, N_ n] ∧ Bs b ∧ n < 10 ^ 60 ∧ IsDice H p ∧ ∀ (t : Addr) (xs : List Nat) H', Exd p H H' → IsDice H' p → SqT K H' t (xs.map N_) → CF b xs → xs.sum = n → 1 ≤ xs.length → xs.length ≤ 5 → Q (.ref t) H'

theorem ok__law_parts_of {P : Program} {w : World} {K : PySem.W.Frag} {mg : Str → Option Value} {base : Heap} (T : Txt K mg) : FnOk P w K mg base CX0 2 T.a__law_parts_of T.d__law_parts_of ["_law_dice_here", "_law_p", "_law_k"] (sp__law_parts_of K) := by
  refine T.F__law_parts_of.ok sc__law_parts_of (fun vs H Q E h => ?_) (fun cdv A outer s H vs Q E hr h => ?_)
  · obtain ⟨p, b, n, rfl, _⟩ := h
    rfl
  · obtain ⟨p, b, n, rfl, hb, hn, hd, k⟩ := h
    refine ⟨_, (pss_cons (ps_par (i := 3) (j := 4) (by rfl) sc__law_parts_of.nd rfl rfl (by decide) rfl rfl (pa_cons (pe_lst pa_nil) (pa_cons (pv 2) pa_nil)) (by rfl))
      (pss_cons (ps_for PassesOwn.never rfl (pi_range1 rfl T.z_range (pa_cons (pe_call (ok__law_roll T) (hr.mono (by decide)) (by rfl) T.g__law_roll T.F__law_roll.kp T.b__law_roll .nil pass0 (pa_cons (pv 0) (pa_cons pe_int pa_nil))) pa_nil)) (pg_name (i := 5) sc__law_parts_of.nd rfl (Or.inl rfl)) (pss_cons (ps_asg (pe_tup (pa_cons pe_int (pa_cons pe_int pa_nil))) (pg_tup (by rfl) (pgs_cons (pg_name (i := 6) sc__law_parts_of.nd rfl (Or.inl rfl)) (pgs_cons (pg_name (i := 7) sc__law_parts_of.nd rfl (Or.inl rfl)) pgs_nil))))
      (pss_cons (ps_for PassesOwn.never rfl (pi_list (pe_call (ok__law_digits T) (hr.mono (by decide)) (by rfl) T.g__law_digits T.F__law_digits.kp T.b__law_digits .nil pass0 (pa_cons (pv 1) (pa_cons (pv 4) pa_nil)))) (pg_name (i := 8) sc__law_parts_of.nd rfl (Or.inl rfl)) (pss_one (ps_par (i := 6) (j := 7) (by rfl) sc__law_parts_of.nd rfl rfl (by decide) rfl rfl (pa_cons (pe_op op_add (pv 6) (pe_op op_mulW (pe_call (ok__law_roll T) (hr.mono (by decide)) (by rfl) T.g__law_roll T.F__law_roll.kp T.b__law_roll .nil pass0 (pa_cons (pv 0) (pa_cons (pe_op op_add (pv 8) pe_int) pa_nil))) (pv 7))) (pa_cons (pe_op op_mulW (pv 7) (pv 1)) pa_nil)) (by rfl))))
      (pss_one (ps_par (i := 3) (j := 4) (by rfl) sc__law_parts_of.nd rfl rfl (by decide) rfl rfl (pa_cons (pe_op op_cat (pv 3) (pe_lst (pa_cons (pv 6) pa_nil))) (pa_cons (pe_op op_sub (pv 4) (pv 6)) pa_nil)) (by rfl))))))
      (pss_one (ps_ret (pe_callTy call_tuple_of (by rfl) T.z_tuple (by decide +kernel) (pa_cons (pe_op op_cat (pv 3) (pe_lst (pa_cons (pv 4) pa_nil))) pa_nil)))))), ?_⟩
    have hb2 := hb.1
    have hb10 := hb.2
    refine q_parL (el_lst ea_nil (by decide)) (fun l H1 nl e1 h1 => ev_var rfl) fun l H1 nl e1 h1 => ?_
    have d1 := hd.ex e1
    refine q_forRaw1 (fun m H2 => m ≤ 4 ∧ Exd p H1 H2 ∧ IsDice H2 p) (fun Q' q' => ⟨.ref p, rfl, p, 4, rfl, d1, by decide, lt1000 (by decide), fun r H2 hr x2 d2 => q' r H2 ⟨by omega, x2, d2⟩⟩) (fun m H2 m2 => ?_)
    obtain ⟨hm4, x2, d2⟩ := m2
    have hlp : l ≠ p := new_ne nl hd
    refine q_forR1 (n := (m : Int)) (ea_cons ev_c ea_nil) ⟨by omega, by omega⟩ (fun i σ H' => ∃ (lf : Addr) (fs : List Nat) (left : Nat) (y5 y6 y7 y8 : Option V), σ = [some (.ref p), some (N_ b), some (N_ n), some (.ref lf), some (N_ left), y5, y6, y7, y8] ∧ CF b (fs ++ [left]) ∧ (fs ++ [left]).sum = n ∧ fs.length = i ∧ H' lf = some (.lst (fs.map N_)) ∧ lf ≠ p ∧ Exd p H H' ∧ IsDice H' p)
      (fun H3 e3 => ⟨l, [], n, none, none, none, none, rfl, cf_single b n, by simp, rfl, e3 _ _ (x2 _ _ hlp h1), hlp, ((Exd.of e1).trans x2).trans (Exd.of e3), d2.ex e3⟩) (fun i σ H3 hi hw3 => ?_) (fun σ H3 hw3 => ?_)
    · obtain ⟨lf, fs, left, y5, y6, y7, y8, rfl, hcf, hsum, hlen, hlf, hlfp, x3, d3⟩ := hw3
      have hleft : left ≤ n := by
        rw [List.sum_append] at hsum
        have : [left].sum = left := by simp
        omega
      have hGl : Gt left := Nat.lt_trans (Nat.lt_of_le_of_lt hleft hn) (by decide +kernel)
      have hdl : (dg b left).length ≤ 200 := dg_len hb2 200 left (Nat.lt_of_le_of_lt hleft (Nat.lt_trans hn (by decide)))
      refine q_tupNN (x := N_ 0) (y := N_ 1) ev_c ev_c fun H4 e4 => ?_
      refine q_forNLn (xs := (dg b left).map N_) (el_call (ea_cons (ev_var rfl) (ea_cons (ev_var rfl) ea_nil)) (sv__law_digits hb hGl)) (fun q j σ H' => ∃ (es : List Nat) (y8 : Option V), σ = [some (.ref p), some (N_ b), some (N_ n), some (.ref lf), some (N_ left), some (N_ i), some (N_ (od b es)), some (N_ (b ^ j)), y8] ∧ Le2 es ((dg b left).take j) ∧ SqL K H' q ((dg b left).map N_) ∧ q ≠ p ∧ H' lf = some (.lst (fs.map N_)) ∧ Exd p H H' ∧ IsDice H' p)
        (fun q H5 nq e5 h5 => ⟨[], y8, rfl, .nil, sq_of h5, new_ne nq (d3.ex e4), e5 _ _ (e4 _ _ hlf), x3.trans (Exd.of (e4.trans e5)), (d3.ex e4).ex e5⟩) (fun q j σ H5 hj hw5 => ?_) (fun q j x σ H5 hx hw5 => ?_) (fun q σ H5 hw5 => ?_)
      · obtain ⟨es, y8, rfl, hle, s5, n5, hlf5, x5, d5⟩ := hw5
        exact s5
      · obtain ⟨es, y8, rfl, hle, s5, n5, hlf5, x5, d5⟩ := hw5
        rw [List.getElem?_map] at hx
        obtain ⟨g, hg, rfl⟩ := Option.map_eq_some_iff.mp hx
        have hjl : j < (dg b left).length := (List.getElem?_eq_some_iff.mp hg).1
        have hgb : g < b := dg_lt hb2 left g (List.mem_of_getElem? hg)
        have hesl : es.length = j := by rw [hle.len, List.length_take]; omega
        have hpw := pow_wide hb10 (show j ≤ 200 by omega)
        refine ⟨N_ (od b es), rfl, .ref p, rfl, N_ g, rfl, (g : Int), 1, rfl, rfl, p, g + 1, rfl, d5, Nat.succ_pos _, lt1000 (by omega), fun r H7 hr x7 d7 => ⟨N_ (b ^ j), rfl, (r : Int), ((b ^ j : Nat) : Int), rfl, rfl, wide_mul (a := 10) (b := 2001) (by show r < 1024; omega) hpw (by decide) (by decide) (by decide), ((od b es : Nat) : Int), (r : Int) * ((b ^ j : Nat) : Int), rfl, rfl, N_ (b ^ j), rfl, N_ b, rfl, ((b ^ j : Nat) : Int), (b : Int), rfl, rfl, wide_mul (a := 2001) (b := 10) hpw (by show b < 1024; omega) (by decide) (by decide) (by decide), _, _, rfl, es ++ [r], some (N_ g), ?_, ?_, exd_l n5 x7 s5, n5, x7 _ _ hlfp hlf5, x5.trans x7, d7⟩⟩
        · have e1 : N_ (od b (es ++ [r])) = V.int (((od b es : Nat) : Int) + (r : Int) * ((b ^ j : Nat) : Int)) := congrArg V.int (by rw [od_snoc, hesl, Int.natCast_add, Int.natCast_mul, Int.mul_comm ((b ^ j : Nat) : Int)])
          have e2 : N_ (b ^ (j + 1)) = V.int (((b ^ j : Nat) : Int) * (b : Int)) := congrArg V.int (by rw [Nat.pow_succ, Int.natCast_mul])
          rw [e1, e2]
          rfl
        · rw [take_snoc hg]
          exact hle.snoc (by omega)
      · obtain ⟨es, y8, rfl, hle, s5, n5, hlf5, x5, d5⟩ := hw5
        rw [List.length_map, List.take_length] at hle
        obtain ⟨p1, p2⟩ := le2_parts hb2 hle (dg_lt hb2 left)
        rw [od_dg hb2] at p1 p2
        refine s_parL (el_cat (ev_var rfl) hlf5 (el_lst (ea_cons (ev_var rfl) ea_nil) (by show 1 ≤ 100000; decide)) (by rw [List.length_map]; show _ + 1 ≤ _; omega)) (fun q2 H6 nq e6 h6 => ev_op (ev_var rfl) (ev_var rfl) rv_I0) fun q2 H6 nq e6 h6 => ?_
        refine ⟨q2, fs ++ [od b es], left - od b es, some (N_ i), some (N_ (od b es)), some (N_ (b ^ ((dg b left).map N_).length)), y8, ?_, cf_part hb2 hcf p1 p2, ?_, by rw [List.length_append, hlen]; rfl, by rw [h6, List.map_append]; rfl, new_ne nq d5, x5.trans (Exd.of e6), d5.ex e6⟩
        · have e1 : N_ (left - od b es) = V.int ((left : Int) - ((od b es : Nat) : Int)) := congrArg V.int (by omega)
          rw [e1]
          rfl
        · simp only [List.sum_append, List.sum_cons, List.sum_nil, Nat.add_zero] at hsum ⊢
          omega
    · obtain ⟨lf, fs, left, y5, y6, y7, y8, rfl, hcf, hsum, hlen, hlf, hlfp, x3, d3⟩ := hw3
      rw [Int.toNat_natCast] at hlen
      refine s_retU (eu_tupleN (el_cat (ev_var rfl) hlf (el_lst (ea_cons (ev_var rfl) ea_nil) (by show 1 ≤ 100000; decide)) (by rw [List.length_map]; show _ + 1 ≤ _; omega))) fun t H9 nt e9 h9 => ?_
      refine k t (fs ++ [left]) H9 (x3.trans (Exd.of e9)) (d3.ex e9) (st_of ?_) hcf hsum (by rw [List.length_append]; show 1 ≤ _ + 1; omega) (by rw [List.length_append]; show _ + 1 ≤ 5; omega)
      rw [h9, List.map_append]
      rfl


end Own
namespace Own
open PySem PySem.Spec PyProof.Rows L2 Evl

def wiS (fd : List Nat) (pl d : Nat) : List Nat := (List.range (d + 1)).flatMap fun m => fd.map fun o => o + m * pl
def wiP (b : Nat) (xs : List Nat) : Nat → List Nat
  | 0 => [0]
  | j + 1 => wiS (wiP b xs j) (b ^ j) (xs.getD j 0)
def wl (b k : Nat) : List Nat := wiP b (dg b k) (dg b k).length
def Pb (b : Nat) : Prop := b ∈ [2, 3, 5, 7]
def dgF (b : Nat) : Nat → Nat → List Nat
  | 0, _ => []
  | n + 1, k => if k = 0 then [] else (k % b) :: dgF b n (k / b)
theorem dgF_eq {b : Nat} (hb : 1 < b) : ∀ (n k : Nat), k < 2 ^ n → dgF b n k = dg b k
  | 0, k, h => by
    have : k = 0 := by rw [Nat.pow_zero] at h; omega
    subst this
    rw [dg_zero]
    rfl
  | n + 1, k, h => by
    unfold dgF
    by_cases hk : k = 0
    · rw [if_pos hk, hk, dg_zero]
    · rw [if_neg hk, dg_pos hb (by omega), dgF_eq hb n (k / b) (by
        have h1 : k / b ≤ k / 2 := Nat.div_le_div_left hb (by decide)
        rw [Nat.pow_succ] at h
        omega)]
theorem chk_wl : ([2, 3, 5, 7].all fun b => all1 61 fun k => all1 ((dgF b 6 k).length + 1) fun j => decide ((wiP b (dgF b 6 k) j).length ≤ 64)) = true := by decide +kernel
theorem wl_len {b k j : Nat} (hb : Pb b) (hk : k ≤ 60) (hj : j ≤ (dg b k).length) : (wiP b (dg b k) j).length ≤ 64 := by
  have h2 : 1 < b := by
    unfold Pb at hb
    simp only [List.mem_cons, List.not_mem_nil, or_false] at hb
    omega
  have e := dgF_eq h2 6 k (by omega)
  have h := all1_get (all1_get (List.all_eq_true.mp chk_wl b hb) (show k < 61 by omega)) (show j < (dgF b 6 k).length + 1 by rw [e]; omega)
  rw [e] at h
  exact of_decide_eq_true h
section
variable {K : PySem.W.Frag} {σ : L2.St} {H : Hp} {D : Ends} {ta tb te : TE} {tz : TS}
theorem s_tupLN {i j : Nat} {xs : List V} {y : V} (h : EvL ta σ H xs) (h2 : ∀ H1, Ex H H1 → Ev tb σ H1 y) (k : ∀ p H1, H p = none → Ex H H1 → H1 p = some (.lst xs) → D.nx ((σ.set i (some (.ref p))).set j (some y)) H1) : tAsg (tTup (tCons ta (tCons tb tNil))) (gTup K 2 (gCons (gName i) (gCons (gName j) gNil))) D σ H :=
  h H (Ex.refl H) _ fun p H1 hp e1 h1 => h2 H1 e1 H1 (Ex.refl H1) _ fun H2 e2 => ⟨by show 2 ≤ sizeLine; decide, fun t nt => ⟨t, [.ref p, y], rfl, st_of upd_same, rfl, .ref p, [y], rfl, y, [], rfl, rfl, k p _ hp ((e1.trans e2).trans (Ex.new nt)) ((Ex.new nt) _ _ (e2 _ _ h1))⟩⟩
theorem q_tupLN {i j : Nat} {xs : List V} {y : V} (h : EvL ta σ H xs) (h2 : ∀ H1, Ex H H1 → Ev tb σ H1 y) (k : ∀ p H1, H p = none → Ex H H1 → H1 p = some (.lst xs) → tz D ((σ.set i (some (.ref p))).set j (some y)) H1) : tSeq (tAsg (tTup (tCons ta (tCons tb tNil))) (gTup K 2 (gCons (gName i) (gCons (gName j) gNil)))) tz D σ H := s_tupLN (D := { D with nx := tz D }) h h2 k
theorem s_ext {l : Addr} {xs ys : List V} (hl : H l = some (.lst xs)) (ha : Ev ta σ H (.ref l)) (h : EvL te σ H ys) (hz : xs.length + ys.length ≤ 100000) (k : ∀ H1, Ex H H1 → D.nx σ (upd H1 l (.lst (xs ++ ys)))) : tDrop (tBM K "list" rExtend ta (tCons te tNil)) D σ H := ha H (Ex.refl H) _ fun H1 e1 =>
  ⟨Or.inl ⟨rfl, xs, sq_of (e1 l _ hl)⟩, h H1 e1 _ fun p H2 hp e2 h2 => ⟨l, p, xs, ys, rfl, rfl, e2 l _ (e1 l _ hl), h2, sz_of hz, k H2 (e1.trans e2)⟩⟩
theorem el_listL {a : Addr} {xs : List V} (h : Ev ta σ H (.ref a)) (hx : SqL K H a xs) : EvL (tCB (rLstQ K) (tCons ta tNil)) σ H xs := fun H1 e Q q =>
  h H1 e _ fun H2 e2 => ⟨a, xs, rfl, .inl (ex_l (e.trans e2) hx), fun l hl => q l _ (fresh_back e2 hl) (e2.trans (Ex.new hl)) upd_same⟩
end
theorem pb_b {b : Nat} (hb : Pb b) : 2 ≤ b ∧ b ≤ 7 := by
  unfold Pb at hb
  simp only [List.mem_cons, List.not_mem_nil, or_false] at hb
  omega
theorem wi_len (fd : List Nat) (pl : Nat) : ∀ m, ((List.range m).flatMap fun m => fd.map fun o => o + m * pl).length = m * fd.length
  | 0 => by simp
  | m + 1 => by
    rw [List.range_succ, List.flatMap_append, List.length_append, wi_len fd pl m, Nat.add_mul]
    simp
def sp__law_within (K : PySem.W.Frag) : Sp := fun vs H Q _ => ∃ (b k : Nat), vs = [N_ b, N_ k] ∧ Pb b ∧ k ≤ 60 ∧ RetL ((wl b k).map N_) H Q
theorem sv__law_within {K : PySem.W.Frag} {H : Hp} {b k : Nat} (hb : Pb b) (hk : k ≤ 60) : SpL (sp__law_within K) [N_ b, N_ k] H ((wl b k).map N_) := fun H1 e Q kk E => ⟨b, k, rfl, hb, hk, kk⟩

theorem ok__law_within {P : Program} {w : World} {K : PySem.W.Frag} {mg : Str → Option Value} {base : Heap} (T : Txt K mg) : FnOk P w K mg base CX0 2 T.a__law_within T.d__law_within ["_law_p", "_law_k"] (sp__law_within K) := by
  refine T.F__law_within.ok sc__law_within (fun vs H Q E h => ?_) (fun cdv A outer s H vs Q E hr h => ?_)
  · obtain ⟨b, k, rfl, _⟩ := h
    rfl
  · obtain ⟨b, k, rfl, hb, hk, kk⟩ := h
    refine ⟨_, (pss_cons (ps_asg (pe_tup (pa_cons (pe_lst (pa_cons pe_int pa_nil)) (pa_cons pe_int pa_nil))) (pg_tup (by rfl) (pgs_cons (pg_name (i := 2) sc__law_within.nd rfl (Or.inl rfl)) (pgs_cons (pg_name (i := 3) sc__law_within.nd rfl (Or.inr rfl)) pgs_nil))))
      (pss_cons (ps_for PassesOwn.never rfl (pi_list (pe_call (ok__law_digits T) (hr.mono (by decide)) (by rfl) T.g__law_digits T.F__law_digits.kp T.b__law_digits .nil pass0 (pa_cons (pv 0) (pa_cons (pv 1) pa_nil)))) (pg_name (i := 4) sc__law_within.nd rfl (Or.inl rfl)) (pss_cons (ps_set (i := 5) sc__law_within.nd rfl (Or.inl rfl) (pe_lst pa_nil))
      (pss_cons (ps_for PassesOwn.never rfl (pi_range1 rfl T.z_range (pa_cons (pe_op op_add (pv 4) pe_int) pa_nil)) (pg_name (i := 6) sc__law_within.nd rfl (Or.inr rfl)) (pss_one (ps_expr (pe_bm PySem.F.plainAttrs_list PySem.F.slot_list_extend PySem.F.type_list_extend mt_extend (pv 5) (pa_cons (pe_lc (own := [("_law_one", 7)]) (g := gName 7) rfl sc__law_within.nd (pi_list (pv 2)) (blkOk_by (N := ["_law_p", "_law_k", "_law_found", "_law_place", "_law_digit", "_law_longer", "_law_more", "_law_one"]) (sc := defScope s__law_within) (by decide +kernel)) (fun _ _ _ _ _ => pg_name (i := 7) sc__law_within.nd rfl (Or.inl rfl)) (fun _ _ _ _ _ => pts_nil) (fun _ _ _ _ _ => (pe_op op_add (pv 7) (pe_op op_mulW (pv 6) (pv 3))))) pa_nil)))))
      (pss_one (ps_asg (pe_tup (pa_cons (pe_callTy call_list_of (by rfl) T.z_list (by decide +kernel) (pa_cons (pv 5) pa_nil)) (pa_cons (pe_op op_mulW (pv 3) (pv 0)) pa_nil))) (pg_tup (by rfl) (pgs_cons (pg_name (i := 2) sc__law_within.nd rfl (Or.inl rfl)) (pgs_cons (pg_name (i := 3) sc__law_within.nd rfl (Or.inr rfl)) pgs_nil))))))))
      (pss_one (ps_ret (pv 2))))), ?_⟩
    obtain ⟨hb2, hb7⟩ := pb_b hb
    have hBs : Bs b := ⟨hb2, by omega⟩
    have hGk : Gt k := Nat.lt_trans (show k < 2 ^ 7 by omega) (Nat.pow_lt_pow_right (by decide) (by decide : 7 < 400))
    have hdl : (dg b k).length ≤ 6 := dg_len (by omega) 6 k (by omega)
    refine q_tupLN (y := N_ 1) (el_lst (ea_cons ev_c ea_nil) (by show 1 ≤ 100000; decide)) (fun H1 e1 => ev_c) fun l H1 nl e1 h1 => ?_
    refine q_forNLn (xs := (dg b k).map N_) (el_call (ea_cons (ev_var rfl) (ea_cons (ev_var rfl) ea_nil)) (sv__law_digits hBs hGk)) (fun q j σ H' => ∃ (lf : Addr) (y4 y5 y6 y7 : Option V), σ = [some (N_ b), some (N_ k), some (.ref lf), some (N_ (b ^ j)), y4, y5, y6, y7] ∧ H lf = none ∧ H' lf = some (.lst ((wiP b (dg b k) j).map N_)) ∧ Ex H H' ∧ SqL K H' q ((dg b k).map N_))
      (fun q H2 nq e2 h2 => ⟨l, none, none, none, none, rfl, nl, e2 _ _ h1, e1.trans e2, sq_of h2⟩) (fun q j σ H2 hj hw => ?_) (fun q j x σ H2 hx hw => ?_) (fun q σ H2 hw => ?_)
    · obtain ⟨lf, y4, y5, y6, y7, rfl, nf, hf2, e2, s2⟩ := hw
      exact s2
    · obtain ⟨lf, y4, y5, y6, y7, rfl, nf, hf2, e2, s2⟩ := hw
      rw [List.getElem?_map] at hx
      obtain ⟨g, hg, rfl⟩ := Option.map_eq_some_iff.mp hx
      have hjl : j < (dg b k).length := (List.getElem?_eq_some_iff.mp hg).1
      have hgb : g < b := dg_lt (by omega) k g (List.mem_of_getElem? hg)
      have hgD : (dg b k).getD j 0 = g := by rw [List.getD_eq_getElem?_getD, hg]; rfl
      have hfl := wl_len hb hk (Nat.le_of_lt hjl)
      have hpl : b ^ j ≤ 117649 := Nat.le_trans (Nat.pow_le_pow_left hb7 j) (Nat.le_trans (Nat.pow_le_pow_right (by decide) (show j ≤ 6 by omega)) (by decide))
      generalize hfd : wiP b (dg b k) j = fd at hf2 hfl
      refine q_asgL (el_lst ea_nil (by decide)) fun l2 H6 n2 e6 h6 => ?_
      have hl2 : lf ≠ l2 := fun z => by rw [← z, hf2] at n2; cases n2
      have hf6 := e6 _ _ hf2
      refine q_forR1 (n := ((g + 1 : Nat) : Int)) (ea_cons (ev_op (ev_var rfl) ev_c rv_I0) ea_nil) ⟨by omega, by omega⟩ (fun m σ H' => ∃ y6 y7, σ = [some (N_ b), some (N_ k), some (.ref lf), some (N_ (b ^ j)), some (N_ g), some (.ref l2), y6, y7] ∧ Exd l2 H6 H' ∧ H' l2 = some (.lst (((List.range m).flatMap fun m => fd.map fun o => o + m * b ^ j).map N_))) (fun H7 e7 => ⟨y6, y7, rfl, Exd.of e7, e7 _ _ h6⟩) (fun m σ H7 hm hw7 => ?_) (fun σ H7 hw7 => ?_)
      · obtain ⟨y6, y7, rfl, x7, h7⟩ := hw7
        have hf7 := x7 _ _ hl2 hf6
        refine s_ext (ys := (fd.map fun o => o + m * b ^ j).map N_) h7 (ev_var rfl) (el_is (el_lcL (xs := fd.map N_) (fun _ => true) (fun i => N_ (fd.getD i 0 + m * b ^ j)) (ev_var rfl) (sq_of hf7) (by rw [List.length_map]; omega) (fun _ => rfl) (fun _ _ _ _ _ => et_nil) (fun i x H8 e8 hi _ => ?_)) ?_) (by
          rw [List.length_map, List.length_map, List.length_map, wi_len]
          have : m * fd.length ≤ 8 * 64 := Nat.mul_le_mul (by omega) hfl
          omega) fun H8 e8 => ?_
        · rw [List.getElem?_map] at hi
          obtain ⟨o, ho, rfl⟩ := Option.map_eq_some_iff.mp hi
          have hoD : fd.getD i 0 = o := by rw [List.getD_eq_getElem?_getD, ho]; rfl
          rw [hoD]
          exact ev_is (ev_op (ev_var rfl) (ev_op (ev_var rfl) (ev_var rfl) (rv_I (wide_mul (a := 10) (b := 20) (by show m < 1024; omega) (by show b ^ j < 2 ^ 20; omega) (by decide) (by decide) (by decide)))) rv_I0) (congrArg V.int (by rw [Int.natCast_add, Int.natCast_mul]))
        · rw [List.length_map, given_all fd (fun o => N_ (o + m * b ^ j)) _ (fun i y h => by rw [List.getD_eq_getElem?_getD, h]; rfl), List.map_map]
          rfl
        · refine ⟨some (N_ m), y7, rfl, (x7.trans (Exd.of e8)).trans Exd.put, ?_⟩
          rw [upd_same, List.range_succ, List.flatMap_append, List.map_append]
          simp
      · obtain ⟨y6, y7, rfl, x7, h7⟩ := hw7
        rw [Int.toNat_natCast] at h7
        have E7 : Ex H2 H7 := exl n2 ((Exd.of e6).trans x7)
        refine s_tupLN (y := N_ (b ^ (j + 1))) (el_listL (ev_var rfl) (sq_of h7)) (fun H8 e8 => ev_is (ev_op (ev_var rfl) (ev_var rfl) (rv_I (wide_mul (a := 20) (b := 10) (by show b ^ j < 2 ^ 20; omega) (by show b < 1024; omega) (by decide) (by decide) (by decide)))) (congrArg V.int (by rw [Nat.pow_succ, Int.natCast_mul]))) fun l3 H8 n3 e8 h8 => ?_
        refine ⟨l3, some (N_ g), some (.ref l2), y6, y7, rfl, fresh_back (e2.trans E7) n3, ?_, (e2.trans E7).trans e8, ex_l (E7.trans e8) s2⟩
        show H8 l3 = some (.lst ((wiS (wiP b (dg b k) j) (b ^ j) ((dg b k).getD j 0)).map N_))
        rw [h8, hgD, hfd]
        rfl
    · obtain ⟨lf, y4, y5, y6, y7, rfl, nf, hf2, e2, s2⟩ := hw
      rw [List.length_map] at hf2
      exact s_ret (ev_var rfl) fun H3 e3 => kk lf H3 nf (e2.trans e3) (e3 _ _ hf2)


def mpF (q r : Nat) : Nat := minL ((List.range (poE q)).map fun j => (dgF q 13 (prE q ^ j * r)).sum) / (q - 1)
def wlF (b r : Nat) : List Nat := wiP b (dgF b 6 r) (dgF b 6 r).length
def cnd (q o : Nat) : Bool := decide (0 < o) && decide (o % (q - 1) = 0)
theorem chk_way : chkAll (fun q => all1 61 fun r => ((wlF (prE q) r).all fun o => !cnd q o || (decide (o ≤ r) && decide (mpF q (r - o) + 1 ≤ mpF q r))) && (decide (mpF q r = 0) || (wlF (prE q) r).any fun o => cnd q o && decide (mpF q (r - o) + 1 = mpF q r))) = true := by decide +kernel
theorem mpF_eq {q r : Nat} (hq : Fq q) (hr : r ≤ 60) : mpF q r = mpN q r := by
  unfold mpF mpN ssL
  congr 2
  refine List.map_congr_left fun j hj => ?_
  have hj2 : j ≤ 2 := by have := (t0_of hq).f3; have := List.mem_range.mp hj; omega
  have h1 := Nat.mul_le_mul (p49 hq hj2) hr
  unfold ds
  rw [dgF_eq (by have := hq.b; omega) 13 _ (by omega)]
theorem pb_q {q : Nat} (hq : Fq q) : Pb (prE q) := by
  have h : chkAll (fun q => decide (prE q ∈ [2, 3, 5, 7])) = true := by decide +kernel
  unfold Pb
  exact of_decide_eq_true (chk_get h hq)
theorem wlF_eq {q r : Nat} (hq : Fq q) (hr : r ≤ 60) : wlF (prE q) r = wl (prE q) r := by
  unfold wlF wl
  rw [dgF_eq (by have := (pb_b (pb_q hq)).1; omega) 6 r (by omega)]
theorem way_step {q r o : Nat} (hq : Fq q) (hr : r ≤ 60) (ho : o ∈ wl (prE q) r) (hc : cnd q o = true) : o ≤ r ∧ mpN q (r - o) + 1 ≤ mpN q r := by
  have h := all1_get (chk_get chk_way hq) (show r < 61 by omega)
  rw [Bool.and_eq_true, wlF_eq hq hr] at h
  have h1 := List.all_eq_true.mp h.1 o ho
  rw [hc] at h1
  simp only [Bool.not_true, Bool.false_or, Bool.and_eq_true, decide_eq_true_eq] at h1
  rw [mpF_eq hq hr, mpF_eq hq (by omega)] at h1
  exact h1
theorem way_some {q r : Nat} (hq : Fq q) (hr : r ≤ 60) : mpN q r = 0 ∨ ∃ o ∈ wl (prE q) r, cnd q o = true ∧ mpN q (r - o) + 1 = mpN q r := by
  have h := all1_get (chk_get chk_way hq) (show r < 61 by omega)
  rw [Bool.and_eq_true, wlF_eq hq hr, Bool.or_eq_true, decide_eq_true_eq, mpF_eq hq hr] at h
  rcases h.2 with h | h
  · exact .inl h
  · obtain ⟨o, ho, h2⟩ := List.any_eq_true.mp h
    rw [Bool.and_eq_true, decide_eq_true_eq, mpF_eq hq (by omega)] at h2
    exact .inr ⟨o, ho, h2.1, h2.2⟩
theorem s_forNLn {K : PySem.W.Frag} {σ : L2.St} {H : Hp} {D : Ends} {tu : TS} {xs : List V} {tl : TE} {j : Nat} (h : EvL tl σ H xs) (Pv : Addr → Nat → L2.St → Hp → Prop) (h0 : ∀ p H1, H p = none → Ex H H1 → H1 p = some (.lst xs) → Pv p 0 σ H1) (hl : ∀ p i σ' H', i ≤ xs.length → Pv p i σ' H' → SqL K H' p xs)
    (hs : ∀ p i x σ' H', xs[i]? = some x → Pv p i σ' H' → tu { D with nx := Pv p (i + 1), ct := Pv p (i + 1), bk := D.nx } (σ'.set j (some x)) H') (hd : ∀ p σ' H', Pv p xs.length σ' H' → D.nx σ' H') : tFor (iList K tl) (gName j) tu D σ H := q_forNLn (tz := fun D => D.nx) (D := D) h Pv h0 hl hs hd
theorem q_parR {σ : L2.St} {H : Hp} {D : Ends} {ta tb : TE} {tz : TS} {i j : Nat} {x : V} {xs : List V} (h : Ev ta σ H x) (h2 : EvL tb σ H xs) (k : ∀ p H1, H p = none → Ex H H1 → H1 p = some (.lst xs) → tz D ((σ.set i (some x)).set j (some (.ref p))) H1) : tSeq (tPar i j (tCons ta (tCons tb tNil))) tz D σ H :=
  h H (Ex.refl H) _ fun H1 e1 => h2 H1 e1 _ fun p H2 hp e2 hx => ⟨x, .ref p, rfl, k p H2 (fresh_back e1 hp) (e1.trans e2) hx⟩
/-- what one round finds, in a set of numbers -/
def Snd (q : Nat) (ns js : List Nat) : Prop := ∀ j ∈ js, ∃ r ∈ ns, ∃ o ∈ wl (prE q) r, cnd q o = true ∧ j = r - o
/-- the road that is left: found so far, and the numbers here -/
structure Way (q k f : Nat) (ns : List Nat) : Prop where
  le : ∀ r ∈ ns, r ≤ 60 ∧ f + mpN q r ≤ mpN q k
  top : (ns = [] ∧ f = mpN q k) ∨ ∃ r ∈ ns, f + mpN q r = mpN q k
theorem way_next {q k f : Nat} {ns js : List Nat} (hq : Fq q) (w : Way q k f ns) (hn : ns ≠ []) (hs : Snd q ns js) (hc : ∀ r ∈ ns, ∀ o ∈ wl (prE q) r, cnd q o = true → r - o ∈ js) : Way q k (f + if js = [] then 0 else 1) js ∧ (js ≠ [] → f < mpN q k) := by
  have step : ∀ j ∈ js, j ≤ 60 ∧ f + 1 + mpN q j ≤ mpN q k := fun j hj => by
    obtain ⟨r, hr, o, ho, hco, rfl⟩ := hs j hj
    have h1 := w.le r hr
    have h2 := way_step hq h1.1 ho hco
    omega
  rcases w.top with ⟨h, _⟩ | ⟨r, hr, ht⟩
  · exact absurd h hn
  · have h60 := (w.le r hr).1
    by_cases hj : js = []
    · subst hj
      refine ⟨⟨fun j hj => by simp at hj, .inl ⟨rfl, ?_⟩⟩, fun z => absurd rfl z⟩
      rcases way_some hq h60 with h0 | ⟨o, ho, hco, _⟩
      · rw [if_pos rfl]
        omega
      · have := hc r hr o ho hco
        simp at this
    · rw [if_neg hj]
      obtain ⟨j0, hj0⟩ := List.exists_mem_of_ne_nil js hj
      refine ⟨⟨fun j hj => ⟨(step j hj).1, (step j hj).2⟩, .inr ?_⟩, fun _ => by have := (step j0 hj0).2; omega⟩
      rcases way_some hq h60 with h0 | ⟨o, ho, hco, he⟩
      · have := (step j0 hj0).2
        omega
      · exact ⟨r - o, hc r hr o ho hco, by omega⟩
def sp__law_most_by_ways (K : PySem.W.Frag) : Sp := fun vs H Q _ => ∃ (d : Addr) (q k : Nat), vs = [.ref d, N_ k] ∧ Fq q ∧ k ≤ 60 ∧ FldAt (fun _ => True) H d q ∧ RetV (N_ (mpN q k)) H Q

theorem ok__law_most_by_ways {P : Program} {w : World} {K : PySem.W.Frag} {mg : Str → Option Value} {base : Heap} (T : Txt K mg) : FnOk P w K mg base CX0 3 T.a__law_most_by_ways T.d__law_most_by_ways ["_law_field_here", "_law_k"] (sp__law_most_by_ways K) := by
  refine T.F__law_most_by_ways.ok sc__law_most_by_ways (fun vs H Q E h => ?_) (fun cdv A outer s H vs Q E hr h => ?_)
  · obtain ⟨d, q, k, rfl, _⟩ := h
    rfl
  · obtain ⟨d, q, k, rfl, hq, hk, hf, kk⟩ := h
    refine ⟨_, (pss_cons (ps_par (i := 2) (j := 3) (by rfl) sc__law_most_by_ways.nd rfl rfl (by decide) rfl rfl (pa_cons pe_int (pa_cons (pe_lst (pa_cons (pv 1) pa_nil)) pa_nil)) (by rfl))
      (pss_cons (ps_while PassesOwn.never (pt_cmpR (op_neD hr.units) (pv 3) (pe_lst pa_nil) (nomark _)) (pss_cons (ps_set (i := 4) sc__law_most_by_ways.nd rfl (Or.inl rfl) pe_dnewK)
      (pss_cons (ps_for PassesOwn.never rfl (pi_list (pv 3)) (pg_name (i := 5) sc__law_most_by_ways.nd rfl (Or.inl rfl)) (pss_one (ps_for PassesOwn.never rfl (pi_list (pe_call (ok__law_within T) (hr.mono (by decide)) (by rfl) T.g__law_within T.F__law_within.kp T.b__law_within .nil pass0 (pa_cons (pe_dget (hu_of hr) (pv 0) pe_str (fun _ _ => rfl)) (pa_cons (pv 5) pa_nil)))) (pg_name (i := 6) sc__law_most_by_ways.nd rfl (Or.inl rfl)) (pss_one (ps_if (PW.pt (pw_and (pt_cmpR op_gt (pv 6) pe_int (nomark _)) (pw_and1 (pt_cmpR op_eq (pe_op op_mod (pv 6) (pe_op op_sub (pe_dget (hu_of hr) (pv 0) pe_str (fun _ _ => rfl)) pe_int)) pe_int (nomark _))))) (pss_one (ps_dput (hu_of hr) (pv 4) (pe_op op_sub (pv 5) (pv 6)) pe_bl rfl)) pss_nil)))))
      (pss_cons (ps_set (i := 3) sc__law_most_by_ways.nd rfl (Or.inl rfl) (pe_callB (call_sortedDI rfl) (by rfl) T.z_sorted (by decide +kernel) (pa_cons (pv 4) pa_nil)))
      (pss_one (ps_set (i := 2) sc__law_most_by_ways.nd rfl (Or.inl rfl) (pe_op op_add (pv 2) (pe_callTy call_int1 (by rfl) T.z_int (by decide +kernel) (pa_cons (pe_cmpR (op_neD hr.units) (pv 3) (pe_lst pa_nil) (nomark _)) pa_nil)))))))))
      (pss_one (ps_ret (pv 2))))), ?_⟩
    obtain ⟨_, kvs0, a1, a2, a3, hdk, gq, gp, gf, g1, g2, g3, _, _, _, hm⟩ := hf
    have hqb := hq.b
    have hPb := pb_q hq
    refine q_parR (x := N_ 0) (xs := ([k] : List Nat).map N_) ev_c (el_lst (ea_cons (ev_var rfl) ea_nil) (by show 1 ≤ 100000; decide)) fun l H1 nl e1 h1 => ?_
    refine q_while (fun m σ H' => ∃ (f : Nat) (lh : Addr) (ns : List Nat) (y4 y5 y6 : Option V), σ = [some (.ref d), some (N_ k), some (N_ f), some (.ref lh), y4, y5, y6] ∧ Way q k f ns ∧ m = (if ns = [] then 0 else mpN q k + 1 - f) ∧ Ex H H' ∧ H' lh = some (.lst (ns.map N_))) (mpN q k + 1)
      ⟨0, l, [k], none, none, none, rfl, ⟨fun r hr => by rw [List.mem_singleton.mp hr]; exact ⟨hk, by omega⟩, .inr ⟨k, List.mem_singleton.mpr rfl, by omega⟩⟩, by simp, e1, h1⟩ fun m σ H2 hw => ?_
    obtain ⟨f, lh, ns, y4, y5, y6, rfl, W, hmm, e2, h2⟩ := hw
    refine ⟨!decide (ns.map Int.ofNat = []), et_test (ev_opL (ev_var rfl) (el_lst ea_nil (by decide)) fun u H3 hu e3 => rv_neL (ns := ns.map Int.ofNat) (ms := []) (by rw [← mapN]; exact sq_of (e3 _ _ h2)) (sq_of hu)), fun ht H3 e3 => ?_, fun hf H3 e3 => ?_⟩
    · have hne : ns ≠ [] := fun z => by subst z; cases ht
      refine ⟨fun σ' H' => ∃ (js : List Nat) (lh : Addr) (y4 y5 y6 : Option V), σ' = [some (.ref d), some (N_ k), some (N_ (f + if js = [] then 0 else 1)), some (.ref lh), y4, y5, y6] ∧ Way q k (f + if js = [] then 0 else 1) js ∧ (js ≠ [] → f < mpN q k) ∧ Ex H H' ∧ H' lh = some (.lst (js.map N_)), fun σ2 H4 hN => ?_, ?_⟩
      · obtain ⟨js, lh, y4, y5, y6, rfl, W2, hlt, e4, h4⟩ := hN
        refine ⟨_, ?_, f + (if js = [] then 0 else 1), lh, js, y4, y5, y6, rfl, W2, rfl, e4, h4⟩
        rw [hmm, if_neg hne]
        have hfk : f ≤ mpN q k := by
          rcases W.top with ⟨h, _⟩ | ⟨r, _, ht⟩
          · exact absurd h hne
          · omega
        by_cases hj : js = []
        · rw [if_pos hj]
          omega
        · rw [if_neg hj, if_neg hj]
          have := hlt hj
          omega
      · have E3 := e2.trans e3
        have h3 := e3 _ _ h2
        intro c nc
        have hlc : lh ≠ c := fun z => by rw [← z, h3] at nc; cases nc
        have xc : Ex H3 (upd H3 c (.dK [])) := Ex.new nc
        refine q_forLn (a := lh) (xs := ns.map N_) (ev_var rfl) (sq_of (xc _ _ h3)) (fun i σ H' => ∃ (y5 y6 : Option V) (kvs : List (Key × V)) (js : List Nat), σ = [some (.ref d), some (N_ k), some (N_ f), some (.ref lh), some (.ref c), y5, y6] ∧ Exd c H3 H' ∧ H' c = some (.dK kvs) ∧ KI kvs js ∧ Snd q ns js ∧ ∀ r ∈ ns.take i, ∀ o ∈ wl (prE q) r, cnd q o = true → r - o ∈ js)
          (fun H4 e4 => ⟨y5, y6, [], [], rfl, Exd.of (xc.trans e4), e4 _ _ upd_same, ⟨rfl, List.nodup_nil⟩, fun j hj => by simp at hj, fun r hr => by simp at hr⟩) (fun i σ H4 hi hw4 => ?_) (fun i x σ H4 hx hw4 => ?_) (fun σ H4 hw4 => ?_)
        · obtain ⟨y5, y6, kvs, js, rfl, x4, h4, _⟩ := hw4
          exact sq_of (x4 _ _ hlc h3)
        · obtain ⟨y5, y6, kvs, js, rfl, x4, h4, hki, hsn, hco⟩ := hw4
          rw [List.getElem?_map] at hx
          obtain ⟨r, hr, rfl⟩ := Option.map_eq_some_iff.mp hx
          have hrn : r ∈ ns := List.mem_of_getElem? hr
          have hr60 := (W.le r hrn).1
          have E4 : Ex H H4 := E3.trans (exl nc x4)
          refine s_forNLn (xs := (wl (prE q) r).map N_) (el_call (ea_cons (ev_dg (ev_var rfl) (E4 _ _ hdk) gp) (ea_cons (ev_var rfl) ea_nil)) (sv__law_within hPb hr60)) (fun qa t σ H' => ∃ (y6 : Option V) (kvs : List (Key × V)) (js : List Nat), σ = [some (.ref d), some (N_ k), some (N_ f), some (.ref lh), some (.ref c), some (N_ r), y6] ∧ Exd c H3 H' ∧ H' c = some (.dK kvs) ∧ KI kvs js ∧ Snd q ns js ∧ (∀ r ∈ ns.take i, ∀ o ∈ wl (prE q) r, cnd q o = true → r - o ∈ js) ∧ (∀ o ∈ (wl (prE q) r).take t, cnd q o = true → r - o ∈ js) ∧ SqL K H' qa ((wl (prE q) r).map N_) ∧ qa ≠ c)
            (fun qa H5 nq e5 h5 => ⟨y6, kvs, js, rfl, x4.trans (Exd.of e5), e5 _ _ h4, hki, hsn, hco, fun o ho => by simp at ho, sq_of h5, fun z => by rw [z, h4] at nq; cases nq⟩) (fun qa t σ H5 hi hw5 => ?_) (fun qa t x σ H5 hx hw5 => ?_) (fun qa σ H5 hw5 => ?_)
          · obtain ⟨y6, kvs, js, rfl, x5, h5, hki, hsn, hco, hcr, s5, n5⟩ := hw5
            exact s5
          · obtain ⟨y6, kvs, js, rfl, x5, h5, hki, hsn, hco, hcr, s5, n5⟩ := hw5
            rw [List.getElem?_map] at hx
            obtain ⟨o, ho, rfl⟩ := Option.map_eq_some_iff.mp hx
            have how : o ∈ wl (prE q) r := List.mem_of_getElem? ho
            have E5 : Ex H H5 := E3.trans (exl nc x5)
            have hq1 : ((q : Int) - 1) = ((q - 1 : Nat) : Int) := by omega
            refine s_if (b := cnd q o) (et_is (et_and (et_test (ev_op (ev_var rfl) ev_c rv_I0)) fun _ => et_test (ev_op (ev_op (ev_var rfl) (ev_op (ev_dg (ev_var rfl) (E5 _ _ hdk) gq) ev_c rv_I0) (rv_I (by omega))) ev_c (rv_eq rfl))) ?_) (fun hc H6 e6 => ?_) (fun hc H6 e6 => ?_)
            · rw [hq1]
              unfold cnd
              rw [show decide ((0 : Int) < (o : Int)) = decide (0 < o) by by_cases h : 0 < o <;> simp [h]]
              exact congrArg (decide (0 < o) && ·) (dec_int (x := o % (q - 1)) (y := 0))
            · have hle := (way_step hq hr60 how hc).1
              have h6 := e6 _ _ h5
              have hlen : kvs.length < sizeLine := by
                have h7 := nodup_len 61 js hki.2 fun j hj => by
                  obtain ⟨r2, hr2, o2, _, _, rfl⟩ := hsn j hj
                  have := (W.le r2 hr2).1
                  omega
                have h8 := congrArg List.length hki.1
                rw [List.length_map, List.length_map] at h8
                exact sz_lt (by omega)
              obtain ⟨js2, hk2, hmem⟩ := ki_put hki (r - o) (.bl true)
              refine ⟨.ref c, rfl, N_ r, rfl, N_ o, rfl, (r : Int), (o : Int), rfl, rfl, c, _, rfl, DPut.k (k := Sum.inl ((r : Int) - (o : Int))) h6 hlen, some (N_ o), _, js2, rfl, (x5.trans (Exd.of e6)).trans Exd.put, upd_same, ?_, fun j hj => ?_, fun r2 hr2 o2 ho2 hc2 => (hmem _).mpr (.inl (hco r2 hr2 o2 ho2 hc2)), fun o2 ho2 hc2 => ?_, exd_l n5 ((Exd.of e6).trans Exd.put) s5, n5⟩
              · rw [show ((r : Int) - (o : Int)) = ((r - o : Nat) : Int) by omega]
                exact hk2
              · rcases (hmem j).mp hj with h | h
                · exact hsn j h
                · exact ⟨r, hrn, o, how, hc, h⟩
              · rw [take_snoc ho] at ho2
                rcases List.mem_append.mp ho2 with h | h
                · exact (hmem _).mpr (.inl (hcr o2 h hc2))
                · rw [List.mem_singleton.mp h]
                  exact (hmem _).mpr (.inr rfl)
            · refine ⟨some (N_ o), kvs, js, rfl, x5.trans (Exd.of e6), e6 _ _ h5, hki, hsn, hco, fun o2 ho2 hc2 => ?_, ex_l e6 s5, n5⟩
              rw [take_snoc ho] at ho2
              rcases List.mem_append.mp ho2 with h | h
              · exact hcr o2 h hc2
              · rw [List.mem_singleton.mp h, hc] at hc2
                cases hc2
          · obtain ⟨y6, kvs, js, rfl, x5, h5, hki, hsn, hco, hcr, s5, n5⟩ := hw5
            rw [List.length_map, List.take_length] at hcr
            refine ⟨some (N_ r), y6, kvs, js, rfl, x5, h5, hki, hsn, fun r2 hr2 o2 ho2 hc2 => ?_⟩
            rw [take_snoc hr] at hr2
            rcases List.mem_append.mp hr2 with h | h
            · exact hco r2 h o2 ho2 hc2
            · rw [List.mem_singleton.mp h] at ho2 ⊢
              exact hcr o2 ho2 hc2
        · obtain ⟨y5, y6, kvs, js, rfl, x4, h4, hki, hsn, hco⟩ := hw4
          rw [List.length_map, List.take_length] at hco
          have E4 : Ex H H4 := E3.trans (exl nc x4)
          have hjs : ∀ j ∈ js, j < 61 := fun j hj => by
            obtain ⟨r2, hr2, o2, _, _, rfl⟩ := hsn j hj
            have := (W.le r2 hr2).1
            omega
          have hlen := nodup_len 61 js hki.2 hjs
          refine ⟨.ref c, rfl, c, kvs, js.map Int.ofNat, rfl, .inl h4, by rw [hki.1, List.map_map]; rfl, by rw [List.length_map]; omega, fun ys p hperm hsort np => ?_⟩
          have hys : ys = (ys.map Int.toNat).map Int.ofNat := by
            rw [List.map_map]
            refine (List.map_id ys).symm.trans (List.map_congr_left fun y hy => ?_)
            obtain ⟨j, _, rfl⟩ := List.mem_map.mp (hperm.mem_iff.mp hy)
            rfl
          have hpn : (ys.map Int.toNat).Perm js := by
            have h := hperm.map Int.toNat
            rw [List.map_map] at h
            have e : js.map (Int.toNat ∘ Int.ofNat) = js := (List.map_congr_left fun j _ => rfl).trans (List.map_id js)
            rwa [e] at h
          have hst : (upd H4 p (.lst (ys.map V.int))) p = some (.lst ((ys.map Int.toNat).map N_)) := by
            rw [upd_same, mapN, ← hys]
          generalize ys.map Int.toNat = zs at hpn hst
          have xp : Ex H4 (upd H4 p (.lst (ys.map V.int))) := Ex.new np
          generalize upd H4 p (.lst (ys.map V.int)) = H5 at hst xp
          obtain ⟨W2, hlt⟩ := way_next hq W hne (js := zs) (fun j hj => hsn j (hpn.mem_iff.mp hj)) (fun r hr o ho hc => hpn.mem_iff.mpr (hco r hr o ho hc))
          refine s_asg (v := N_ (f + if zs = [] then 0 else 1)) (ev_is (ev_op (ev_var rfl) (ev_cb (ea_cons (ev_opL (ev_var rfl) (el_lst ea_nil (by decide)) fun u H6 hu e6 => rv_neL (ns := zs.map Int.ofNat) (ms := []) (by rw [← mapN]; exact sq_of (e6 _ _ hst)) (sq_of hu)) ea_nil) rc_intB) rv_I0) ?_) fun H6 e6 => ⟨zs, p, some (.ref c), y5, y6, rfl, W2, hlt, (E4.trans xp).trans e6, e6 _ _ hst⟩
          cases zs with
          | nil => rfl
          | cons a r => rfl
    · have hne : ns = [] := by
        cases ns with
        | nil => rfl
        | cons a r => cases hf
      rcases W.top with ⟨_, hfk⟩ | ⟨r, hr, _⟩
      · subst hfk
        exact s_ret (ev_var rfl) fun H4 e4 => kk H4 ((e2.trans e3).trans e4)
      · rw [hne] at hr
        simp at hr


end Own
namespace Own
open PySem PySem.Spec PyProof.Rows L2 Evl

section
variable {K : PySem.W.Frag}
theorem lc_enum {a : Addr} {xs : List V} {g : TG} {tt : TT} {te : TE} {vs : List Nat} {σ : L2.St} {H1 : Hp} {D : Addr} {Qd : Hp → Prop} (Pv : Nat → Hp → Prop) (h0 : Pv 0 (upd H1 D (.lst []))) (hl : ∀ i H, i ≤ xs.length → Pv i H → SqL K H a xs)
    (hs : ∀ i x T H, xs[i]? = some x → Pv i H → H T = none → g (.ref T) (wipe σ vs) (upd H T (.tup [.int (i : Nat), x])) fun σ2 H2 => wipe σ2 vs = wipe σ vs ∧ tt σ2 H2 fun b H3 =>
      if b = true then te σ2 H3 fun y H4 => ∃ acc, H4 D = some (.lst acc) ∧ acc.length < sizeLine ∧ Pv (i + 1) (upd H4 D (.lst (acc ++ [y]))) else Pv (i + 1) H3) (hd : ∀ H, Pv xs.length H → Qd H) :
    ∃ W : Nat → Nat → Hp → Prop, (∃ m, W 0 m (upd H1 D (.lst []))) ∧ ∀ i m H, W i m H →
      ((Ite K a).stop i H ∧ Qd H) ∨ ((Ite K a).go i H ∧ ∃ Nx : Hp → Prop, (∀ H', Nx H' → ∃ m', m' < m ∧ W (i + 1) m' H') ∧ ∀ x H', (Ite K a).yld i H x H' → g x (wipe σ vs) H' fun σ2 H2 => wipe σ2 vs = wipe σ vs ∧ tt σ2 H2 fun b H3 =>
        if b = true then te σ2 H3 fun y H4 => ∃ acc, H4 D = some (.lst acc) ∧ acc.length < sizeLine ∧ Nx (upd H4 D (.lst (acc ++ [y]))) else Nx H3) := by
  refine ⟨fun i m H => m = xs.length - i ∧ i ≤ xs.length ∧ Pv i H, ⟨xs.length, by simp, Nat.zero_le _, h0⟩, ?_⟩
  rintro i m H ⟨rfl, hi, p⟩
  have q := hl i H hi p
  by_cases hlt : i < xs.length
  · refine .inr ⟨⟨xs, xs[i], q, by simp [hlt]⟩, Pv (i + 1), fun H' p' => ⟨xs.length - (i + 1), by omega, rfl, hlt, p'⟩, fun x H' y => ?_⟩
    obtain ⟨T, z, rfl, nT, rfl, f⟩ := y
    have hz := f xs q
    exact hs i z T H hz p nT
  · have e : i = xs.length := by omega
    subst e
    exact .inl ⟨⟨xs, q, Nat.le_refl _⟩, hd H p⟩
theorem el_lcEN {σ : L2.St} {H : Hp} {t : TT} {te : TE} {a : Addr} {xs : List V} {ta : TA} {i1 i2 : Nat} {vs : List Nat} (f : Nat → Bool) (v : Nat → V) (h : EvA ta σ H [.ref a]) (hx : SqL K H a xs) (hz : xs.length ≤ 40000) (hw : ∀ x y, wipe (((wipe σ vs).set i1 (some x)).set i2 (some y)) vs = wipe σ vs)
    (ht : ∀ (i : Nat) (x : V) H1, Ex H H1 → xs[i]? = some x → EvT t (((wipe σ vs).set i1 (some (.int (i : Nat)))).set i2 (some x)) H1 (f i)) (he : ∀ (i : Nat) (x : V) H1, Ex H H1 → xs[i]? = some x → f i = true → Ev te (((wipe σ vs).set i1 (some (.int (i : Nat)))).set i2 (some x)) H1 (v i)) :
    EvL (tLc (iEnum K ta) (gTup K 2 (gCons (gName i1) (gCons (gName i2) gNil))) t te vs) σ H (given xs.length f v) := fun H0 e Q q => h H0 e _ fun H1 e1 => ⟨a, xs, rfl, ex_l (e.trans e1) hx, fun Dl hD =>
  lc_enum (xs := xs) (Cw H1 f v Dl) ⟨hD, Ex.new hD, upd_same⟩ (fun i H' _ p => ex_l ((e.trans e1).trans p.2.1) hx) (fun i x T H' hi p nT => by
    obtain ⟨p1, p2, p3⟩ := p
    have hTD : Dl ≠ T := fun z => by rw [← z, p3] at nT; cases nT
    have p' : Cw H1 f v Dl i (upd H' T (.tup [.int (i : Nat), x])) := ⟨p1, p2.trans (Ex.new nT), (Ex.new nT) _ _ p3⟩
    exact ⟨T, [.int (i : Nat), x], rfl, st_of upd_same, rfl, .int (i : Nat), [x], rfl, x, [], rfl, rfl, hw _ _, cw_turn p' (by have := (List.getElem?_eq_some_iff.mp hi).1; omega) (ht i x H1 (e.trans e1) hi) (fun hf => he i x H1 (e.trans e1) hi hf)⟩)
    (fun H' p => q Dl H' (fresh_back e1 p.1) (e1.trans p.2.1) p.2.2)⟩
end
section
variable {K : PySem.W.Frag} {σ : L2.St} {H : Hp} {D : Ends} {tl ta : TE} {tu tz : TS}
theorem q_forRaw {j : Nat} (M : Addr → List V → Hp → Prop) (h : ∀ Q : VK, (∀ t xs H1, M t xs H1 → SqT K H1 t xs → Q (.ref t) H1) → tl σ H Q) (k : ∀ t xs H1, M t xs H1 → SqT K H1 t xs → tSeq (tFor (iTup K (tC (.ref t))) (gName j) tu) tz D σ H1) : tSeq (tFor (iTup K tl) (gName j) tu) tz D σ H :=
  h _ fun t xs H1 m h1 => k t xs H1 m h1
theorem ev_minV {a : Addr} {xs : List Nat} (h : Ev ta σ H (.ref a)) (hx : SqL K H a (xs.map N_)) (hn : xs ≠ []) : Ev (tCB (rMin K) (tCons ta tNil)) σ H (N_ (minL xs)) := fun H1 e Q q =>
  h H1 e _ fun H2 e2 => ⟨a, xs.map Int.ofNat, rfl, by rw [← mapN]; exact ex_l (e.trans e2) hx, by rw [List.length_map]; exact List.length_pos_iff.mpr hn, fun m' hm' hl' => by
    obtain ⟨z, hz, rfl⟩ := List.mem_map.mp hm'
    have h1 := minL_le xs z hz
    have h2 := hl' _ (List.mem_map.mpr ⟨minL xs, minL_mem xs hn, rfl⟩)
    have : z = minL xs := by
      have := Int.ofNat_le.mp h2
      omega
    subst this
    exact q H2 e2⟩
end
theorem ss_at {q k j : Nat} (h : j < poE q) : (ssL q k)[j]? = some (ds q (prE q ^ j * k)) := by
  unfold ssL
  rw [List.getElem?_map, List.getElem?_range h]
  rfl
theorem sum_le {α : Type} (f g : α → Nat) : ∀ xs : List α, (∀ x ∈ xs, f x ≤ g x) → (xs.map f).sum ≤ (xs.map g).sum
  | [], _ => Nat.le_refl _
  | x :: r, h => by
    rw [List.map_cons, List.map_cons, List.sum_cons, List.sum_cons]
    have h1 := h x (List.mem_cons_self ..)
    have h2 := sum_le f g r fun y hy => h y (List.mem_cons_of_mem _ hy)
    omega
theorem sum_shift {q j : Nat} (hq : Fq q) {xs : List Nat} (h : CF (prE q) xs) : (xs.map fun x => ds q (prE q ^ j * x)).sum = ds q (prE q ^ j * xs.sum) := by
  have ht := t0_of hq
  have h1 := ss_add (p := prE q) (f := poE q) (by have := ht.p2; omega) ht.f1 j h
  rw [ht.pw] at h1
  exact h1
theorem mp_sum {q : Nat} (hq : Fq q) {xs : List Nat} (h : CF (prE q) xs) : (xs.map (mpN q)).sum ≤ mpN q xs.sum := by
  have hb := hq.b
  have hm := minL_mem (ssL q xs.sum) (ssL_ne hq)
  show _ ≤ minL (ssL q xs.sum) / (q - 1)
  rw [Nat.le_div_iff_mul_le (by omega)]
  unfold ssL at hm
  obtain ⟨j, hj, hj2⟩ := List.mem_map.mp hm
  have hjf := List.mem_range.mp hj
  have e : minL (ssL q xs.sum) = ds q (prE q ^ j * xs.sum) := hj2.symm
  rw [e, ← sum_shift hq h, Nat.mul_comm, ← sum_mul, List.map_map]
  refine sum_le _ _ xs fun x _ => ?_
  have h1 := minL_le (ssL q x) _ (List.mem_of_getElem? (ss_at (k := x) hjf))
  exact Nat.le_trans (Nat.mul_div_le (minL (ssL q x)) (q - 1)) h1
theorem mp_ge {q k : Nat} (hq : Fq q) (hk : 0 < k) (h : k % (q - 1) = 0) : q - 1 ≤ minL (ssL q k) := by
  have hb := hq.b
  have ht := t0_of hq
  have hm := minL_mem (ssL q k) (ssL_ne hq)
  unfold ssL at hm
  obtain ⟨j, hj, hj2⟩ := List.mem_map.mp hm
  have e : minL (ssL q k) = ds q (prE q ^ j * k) := hj2.symm
  rw [e]
  refine ds_ge (by omega) (Nat.mul_pos (Nat.pow_pos (by have := ht.p2; omega)) hk) ?_
  rw [Nat.mul_mod, h, Nat.mul_zero, Nat.zero_mod]
theorem sv__law_most_by_ways {K : PySem.W.Frag} {H : Hp} {d : Addr} {q k : Nat} (hq : Fq q) (hk : k ≤ 60) (hf : FldAt (fun _ => True) H d q) : SpV (sp__law_most_by_ways K) [.ref d, N_ k] H (N_ (mpN q k)) := fun H1 e Q kk E => ⟨d, q, k, rfl, hq, hk, hf.ex e, kk⟩
def sp__law_right (K : PySem.W.Frag) : Sp := fun vs H Q _ => ∃ (p : Addr), vs = [.ref p] ∧ IsDice H p ∧ ∀ H', Exd p H H' → IsDice H' p → Q (.bl true) H'

theorem ok__law_right {P : Program} {w : World} {K : PySem.W.Frag} {mg : Str → Option Value} {base : Heap} (T : Txt K mg) : FnOk P w K mg base CX0 6 T.a__law_right T.d__law_right ["_law_dice_here"] (sp__law_right K) := by
  refine T.F__law_right.ok sc__law_right (fun vs H Q E h => ?_) (fun cdv A outer s H vs Q E hr h => ?_)
  · obtain ⟨p, rfl, _⟩ := h
    rfl
  · obtain ⟨p, rfl, hd, k⟩ := h
    refine ⟨_, (pss_cons (ps_set (i := 1) sc__law_right.nd rfl (Or.inl rfl) (pe_call (ok__law_field T) (hr.mono (by decide)) (by rfl) T.g__law_field T.F__law_field.kp T.b__law_field .nil pass0 (pa_cons (pe_call (ok__law_q T) (hr.mono (by decide)) (by rfl) T.g__law_q T.F__law_q.kp T.b__law_q .nil pass0 (pa_cons (pv 0) pa_nil)) pa_nil)))
      (pss_cons (ps_asg (pe_tup (pa_cons (pe_dget (hu_of hr) (pv 1) pe_str (fun _ _ => rfl)) (pa_cons (pe_dget (hu_of hr) (pv 1) pe_str (fun _ _ => rfl)) pa_nil))) (pg_tup (by rfl) (pgs_cons (pg_name (i := 2) sc__law_right.nd rfl (Or.inr rfl)) (pgs_cons (pg_name (i := 3) sc__law_right.nd rfl (Or.inr rfl)) pgs_nil))))
      (pss_cons (ps_for PassesOwn.never rfl (pi_tup (pe_tup (pa_cons (pe_call (ok__law_great_k T) (hr.mono (by decide)) (by rfl) T.g__law_great_k T.F__law_great_k.kp T.b__law_great_k .nil pass0 (pa_cons (pv 0) (pa_cons (pv 1) pa_nil))) (pa_cons (pe_call (ok__law_small_k T) (hr.mono (by decide)) (by rfl) T.g__law_small_k T.F__law_small_k.kp T.b__law_small_k .nil pass0 (pa_cons (pv 0) (pa_cons (pv 2) (pa_cons pe_int pa_nil)))) pa_nil)))) (pg_name (i := 4) sc__law_right.nd rfl (Or.inr rfl)) (pss_cons (ps_set (i := 5) sc__law_right.nd rfl (Or.inl rfl) (pe_call (ok__law_own_shifts T) (hr.mono (by decide)) (by rfl) T.g__law_own_shifts T.F__law_own_shifts.kp T.b__law_own_shifts .nil pass0 (pa_cons (pv 1) (pa_cons (pv 4) pa_nil))))
      (pss_cons (ps_if (PW.pt (pw_or (pt_cmpR (op_neD hr.units) (pe_call (ok_shift_sums T) (hr.mono (by decide)) (by rfl) T.g_shift_sums T.F_shift_sums.kp T.b_shift_sums .nil pass0 (pa_cons (pv 2) (pa_cons (pv 4) pa_nil))) (pe_callTy call_tuple_of (by rfl) T.z_tuple (by decide +kernel) (pa_cons (pv 5) pa_nil)) (nomark _)) (pw_or (pt_cmpR op_ne (pe_call (ok_most_parts T) (hr.mono (by decide)) (by rfl) T.g_most_parts T.F_most_parts.kp T.b_most_parts .nil pass0 (pa_cons (pv 2) (pa_cons (pv 4) pa_nil))) (pe_op op_fdivW (pe_callB (cr_min rfl) (by rfl) T.z_min (by decide +kernel) (pa_cons (pv 5) pa_nil)) (pe_op op_sub (pv 2) pe_int)) (nomark _)) (pw_or1 (pt_cmpR op_ne (pe_ix (r := rIxL K) ix_list (pv 5) pe_int (fun _ _ => rfl)) (pe_call (ok_digit_sum T) (hr.mono (by decide)) (by rfl) T.g_digit_sum T.F_digit_sum.kp T.b_digit_sum .nil pass0 (pa_cons (pv 2) (pa_cons (pv 4) pa_nil))) (nomark _)))))) (pss_one (ps_ret pe_bl)) pss_nil)
      (pss_cons (ps_if (pt_cmpR (op_neD hr.units) (pe_lc (own := [("_law_j", 6), ("_law_one", 7)]) (g := gTup K 2 (gCons (gName 6) (gCons (gName 7) gNil))) rfl sc__law_right.nd (pi_enum (by rfl) T.z_enumerate (pa_cons (pv 5) pa_nil)) (blkOk_by (N := ["_law_dice_here", "_law_field_here", "_law_q_here", "_law_p", "_law_k", "_law_due", "_law_j", "_law_one", "_law_row", "_law_sums_of_parts", "_law_small"]) (sc := defScope s__law_right) (by decide +kernel)) (fun _ _ _ _ _ => pg_tup (by rfl) (pgs_cons (pg_name (i := 6) sc__law_right.nd rfl (Or.inl rfl)) (pgs_cons (pg_name (i := 7) sc__law_right.nd rfl (Or.inl rfl)) pgs_nil))) (fun _ _ _ _ _ => (pts_one (pt_cmpR op_ne (pe_op op_mod (pe_op op_sub (pv 7) (pe_op op_mulW (pe_call (ok__law_raised T) (hr.mono (by decide)) (by rfl) T.g__law_raised T.F__law_raised.kp T.b__law_raised .nil pass0 (pa_cons (pv 3) (pa_cons (pv 6) pa_nil))) (pv 4))) (pe_op op_sub (pv 2) pe_int)) pe_int (nomark _)))) (fun _ _ _ _ _ => pe_int)) (pe_lst pa_nil) (nomark _)) (pss_one (ps_ret pe_bl)) pss_nil)
      (pss_cons (ps_set (i := 8) sc__law_right.nd rfl (Or.inr rfl) (pe_call (ok__law_parts_of T) (hr.mono (by decide)) (by rfl) T.g__law_parts_of T.F__law_parts_of.kp T.b__law_parts_of .nil pass0 (pa_cons (pv 0) (pa_cons (pv 3) (pa_cons (pv 4) pa_nil)))))
      (pss_cons (ps_if (PW.pt (pw_or (pt_not (pt_val (pe_call (ok_has_no_carries T) (hr.mono (by decide)) (by rfl) T.g_has_no_carries T.F_has_no_carries.kp T.b_has_no_carries .nil pass0 (pa_cons (pv 3) (pa_cons (pv 8) pa_nil))))) (pw_or1 (pt_cmpR op_ne (pe_callB (cr_sumT rfl) (by rfl) T.z_sum (by decide +kernel) (pa_cons (pv 8) pa_nil)) (pv 4) (nomark _))))) (pss_one (ps_ret pe_bl)) pss_nil)
      (pss_cons (ps_setLc (i := 9) (own := [("_law_j", 6)]) (g := gName 6) (by rfl) sc__law_right.nd rfl rfl (sw_true rfl rfl rfl (by decide +kernel)) (pi_range1 rfl T.z_range (pa_cons (pe_dget (hu_of hr) (pv 1) pe_str (fun _ _ => rfl)) pa_nil)) (blkOk_by (N := ["_law_dice_here", "_law_field_here", "_law_q_here", "_law_p", "_law_k", "_law_due", "_law_j", "_law_one", "_law_row", "_law_sums_of_parts", "_law_small"]) (sc := defScope s__law_right) (by decide +kernel)) (fun _ _ _ _ _ => pg_name (i := 6) sc__law_right.nd rfl (Or.inr rfl)) (fun _ _ _ _ _ => pts_nil) (fun _ _ _ _ _ => (pe_callB (r := rSum K) (cr_sum rfl) (by rfl) T.z_sum (by decide +kernel) (pa_cons (pe_lc (own := [("_law_one", 7)]) (g := gName 7) rfl sc__law_right.nd (show PI _ _ _ (iTup K (tVar 8)) from (pi_tup (pv 8))) (blkOk_by (by kernel_rfl)) (fun _ _ _ _ _ => pg_name (i := 7) sc__law_right.nd rfl (Or.inl rfl)) (fun _ _ _ _ _ => pts_nil) (fun _ _ _ _ _ => (pe_ix (r := rIxT K) ix_tup (pe_call (ok_shift_sums T) (hr.mono (by decide)) (by rfl) T.g_shift_sums T.F_shift_sums.kp T.b_shift_sums .nil pass0 (pa_cons (pv 2) (pa_cons (pv 7) pa_nil))) (pv 6) (fun _ _ => rfl)))) pa_nil))))
      (pss_cons (ps_if (PW.pt (pw_or (pt_cmpR (op_neD hr.units) (pv 9) (pv 5) (nomark _)) (pw_or1 (pt_cmpR op_gt (pe_callB (cr_sum rfl) (by rfl) T.z_sum (by decide +kernel) (pa_cons (pe_lc (own := [("_law_one", 7)]) (g := gName 7) rfl sc__law_right.nd (pi_tup (pv 8)) (blkOk_by (N := ["_law_dice_here", "_law_field_here", "_law_q_here", "_law_p", "_law_k", "_law_due", "_law_j", "_law_one", "_law_row", "_law_sums_of_parts", "_law_small"]) (sc := defScope s__law_right) (by decide +kernel)) (fun _ _ _ _ _ => pg_name (i := 7) sc__law_right.nd rfl (Or.inl rfl)) (fun _ _ _ _ _ => pts_nil) (fun _ _ _ _ _ => (pe_call (ok_most_parts T) (hr.mono (by decide)) (by rfl) T.g_most_parts T.F_most_parts.kp T.b_most_parts .nil pass0 (pa_cons (pv 2) (pa_cons (pv 7) pa_nil))))) pa_nil)) (pe_call (ok_most_parts T) (hr.mono (by decide)) (by rfl) T.g_most_parts T.F_most_parts.kp T.b_most_parts .nil pass0 (pa_cons (pv 2) (pa_cons (pv 4) pa_nil))) (nomark _))))) (pss_one (ps_ret pe_bl)) pss_nil)
      (pss_one (ps_if (PW.pt (pw_and (pt_cmpR op_gt (pv 4) pe_int (nomark _)) (pw_and (pt_cmpR op_eq (pe_op op_mod (pv 4) (pe_op op_sub (pv 2) pe_int)) pe_int (nomark _)) (pw_and1 (pt_cmpR op_lt (pe_callB (cr_min rfl) (by rfl) T.z_min (by decide +kernel) (pa_cons (pv 5) pa_nil)) (pe_op op_sub (pv 2) pe_int) (nomark _)))))) (pss_one (ps_ret pe_bl)) pss_nil))))))))))
      (pss_cons (ps_set (i := 10) sc__law_right.nd rfl (Or.inl rfl) (pe_call (ok__law_small_k T) (hr.mono (by decide)) (by rfl) T.g__law_small_k T.F__law_small_k.kp T.b__law_small_k .nil pass0 (pa_cons (pv 0) (pa_cons (pv 2) (pa_cons (pe_ifExp (pt_cmpR op_eq (pv 3) pe_int (nomark _)) pe_int pe_int) pa_nil)))))
      (pss_one (ps_ret (pe_cmpR op_eq (pe_call (ok__law_most_by_ways T) (hr.mono (by decide)) (by rfl) T.g__law_most_by_ways T.F__law_most_by_ways.kp T.b__law_most_by_ways .nil pass0 (pa_cons (pv 1) (pa_cons (pv 10) pa_nil))) (pe_call (ok_most_parts T) (hr.mono (by decide)) (by rfl) T.g_most_parts T.F_most_parts.kp T.b_most_parts .nil pass0 (pa_cons (pv 2) (pa_cons (pv 10) pa_nil))) (nomark _)))))))), ?_⟩
    refine ⟨.ref p, rfl, p, rfl, hd, fun q H1 hq x1 d1 => ⟨q, rfl, hq, fun d H2 e2 hf => ?_⟩⟩
    have d2 := d1.ex e2
    have hfp : FldAt (fun b => b ≠ p) H2 d q := hf.keep fun b o n h => ⟨new_ne n d1, h⟩
    have hqb := hq.b
    have ht := t0_of hq
    have hq1 : ((q : Int) - 1) = ((q - 1 : Nat) : Int) := by omega
    have hf' := hfp
    obtain ⟨ndp, kvs, a1, a2, a3, hdk, gq, gp, gf, g1, g2, g3, _, _, _, hm⟩ := hf'
    have hPs : Bs (prE q) := ⟨ht.p2, by have := ht.p7; omega⟩
    have fT : ∀ {H'}, Exd p H2 H' → FldAt (fun _ => True) H' d q := fun x => hfp.keep fun b o n h => ⟨trivial, x b o n h⟩
    have fP : ∀ {H'}, Exd p H2 H' → FldAt (fun b => b ≠ p) H' d q := fun x => hfp.keep fun b o n h => ⟨n, x b o n h⟩
    refine q_tupNN (x := N_ q) (y := N_ (prE q)) (ev_dg (ev_var rfl) hdk gq) (ev_dg (ev_var rfl) hdk gp) fun H3 e3 => ?_
    refine q_forRaw (fun _ xs H' => Exd p H2 H' ∧ IsDice H' p ∧ ∀ x ∈ xs, ∃ kk : Nat, kk < 10 ^ 60 ∧ x = N_ kk) (fun Q' q' => ?_) (fun tt xs H6 m6 s6 => ?_)
    · refine ⟨.ref p, rfl, .ref d, rfl, p, d, q, rfl, hq, d2.ex e3, fP (Exd.of e3), fun g H4 hg x4 d4 => ⟨.ref p, rfl, N_ q, rfl, p, q, 90, rfl, hq, by decide, by decide, d4, fun s H5 hs x5 d5 => ⟨by show 2 ≤ sizeLine; decide, fun t nt => q' t _ _ ⟨((Exd.of e3).trans x4).trans (x5.trans (Exd.of (Ex.new nt))), d5.ex (Ex.new nt), fun x hx => ?_⟩ (st_of upd_same)⟩⟩⟩
      simp only [List.mem_cons, List.not_mem_nil, or_false] at hx
      rcases hx with h | h
      · exact ⟨g, hg, h⟩
      · exact ⟨s, Nat.lt_of_le_of_lt hs (by decide), h⟩
    obtain ⟨x6, d6, hall⟩ := m6
    refine q_forT ev_c s6 (fun i σ H' => ∃ y4 y5 y6 y7 y8 y9 y10, σ = [some (.ref p), some (.ref d), some (N_ q), some (N_ (prE q)), y4, y5, y6, y7, y8, y9, y10] ∧ Exd p H6 H' ∧ IsDice H' p) (fun H7 e7 => ⟨none, none, none, none, none, none, none, rfl, Exd.of e7, d6.ex e7⟩) (fun i σ H7 hi hw => ?_) (fun i x σ H7 hx hw => ?_) (fun σ H7 hw => ?_)
    · obtain ⟨y4, y5, y6, y7, y8, y9, y10, rfl, x7, d7⟩ := hw
      exact exd_t d6 x7 s6
    · obtain ⟨y4, y5, y6, y7, y8, y9, y10, rfl, x7, d7⟩ := hw
      obtain ⟨kk, hkk, rfl⟩ := hall x (List.mem_of_getElem? hx)
      have x27 := x6.trans x7
      have hss := ssL_len q kk
      have hne := ssL_ne (k := kk) hq
      have f3 := ht.f3
      have hmod : ∀ j, j < poE q → (((ds q (prE q ^ j * kk) : Nat) : Int) - ((prE q ^ j : Nat) : Int) * (kk : Int)) % ((q : Int) - 1) = 0 := fun j hj => by
        rw [hq1, ← Int.natCast_mul, ← Int.emod_eq_emod_iff_emod_sub_eq_zero, ← Int.natCast_emod, ← Int.natCast_emod, ds_mod (by omega)]
      -- due
      refine q_asgL (el_call (ea_cons (ev_var rfl) (ea_cons (ev_var rfl) ea_nil)) (sv__law_own_shifts hq (fT x27) hkk)) fun due H8 nd e8 h8 => ?_
      have ndue : due ≠ p := new_ne nd d7
      have sDue : SqL K H8 due ((ssL q kk).map N_) := sq_of h8
      refine q_when (b := false) (et_is (et_or (et_test (ev_opUU (eu_call (ea_cons (ev_var rfl) (ea_cons (ev_var rfl) ea_nil)) (sv_shift_sums hq hkk)) (eu_tupleL (ev_var rfl) sDue) fun u v H9 hu hv _ => rv_neT (ns := (ssL q kk).map Int.ofNat) (ms := (ssL q kk).map Int.ofNat) (by rw [← mapN]; exact st_of hu) (by rw [← mapN]; exact st_of hv))) fun _ =>
        et_or (et_test (ev_op (ev_call (ea_cons (ev_var rfl) (ea_cons (ev_var rfl) ea_nil)) (sv_most_parts hq hkk)) (ev_is (w := N_ (mpN q kk)) (ev_op (ev_minV (ev_var rfl) sDue hne) (ev_op (ev_var rfl) ev_c rv_I0) (rv_I (wide_div (b := 10) (by omega) (by show Int.natAbs ((q : Int) - 1) < 1024; omega) (by decide) (by decide)))) (congrArg V.int (by rw [hq1]; rfl))) (rv_ne rfl))) fun _ =>
        et_test (ev_op (ev_op (r := rIxL K) (ev_var rfl) ev_c (rv_ixL (v := N_ (ds q kk)) sDue (atI_nat (j := 0) (by rw [List.getElem?_map, ss_at ht.f1, Nat.pow_zero, Nat.one_mul]; rfl)))) (ev_call (ea_cons (ev_var rfl) (ea_cons (ev_var rfl) ea_nil)) (sv_digit_sum hq.bs hkk)) (rv_ne rfl))) (by
          rw [decide_eq_true rfl, decide_eq_true rfl, decide_eq_true rfl]
          rfl)) (fun h => nomatch h) (fun _ H9 e9 => ?_)
      have sDue9 := ex_l e9 sDue
      refine q_when (b := false) (et_is (et_test (ev_opLL (xs := []) (el_is (el_lcEN (fun _ => false) (fun _ => .int 1) (ea_cons (ev_var rfl) ea_nil) sDue9 (by rw [List.length_map]; omega) (fun _ _ => rfl) (fun j x H10 e10 hj => ?_) (fun _ _ _ _ _ h => nomatch h)) (by unfold given; rw [List.filter_eq_nil_iff.mpr (fun _ _ z => by cases z)]; rfl)) (el_lst ea_nil (by decide)) fun u v H10 hu hv _ => rv_neL (ns := []) (ms := []) (sq_of hu) (sq_of hv))) rfl) (fun h => nomatch h) (fun _ H10 e10 => ?_)
      · rw [List.getElem?_map] at hj
        obtain ⟨z, hz, rfl⟩ := Option.map_eq_some_iff.mp hj
        have hjf : j < poE q := by
          have := (List.getElem?_eq_some_iff.mp hz).1
          omega
        rw [ss_at hjf] at hz
        cases hz
        have hj2 : j ≤ 2 := by omega
        have hp := p49 hq hj2
        refine et_is (et_test (ev_op (ev_op (ev_op (ev_var rfl) (ev_op (ev_call (ea_cons (ev_var rfl) (ea_cons (ev_var rfl) ea_nil)) (sv_raised (c := j) (by have := ht.p7; omega) (by omega))) (ev_var rfl) (rv_I (wide_mul (a := 10) (b := 200) (by show prE q ^ j < 1024; omega) (Nat.lt_trans hkk (by decide)) (by decide) (by decide) (by decide)))) rv_I0) (ev_op (ev_var rfl) ev_c rv_I0) (rv_I (by omega))) ev_c (rv_ne rfl))) ?_
        rw [hmod j hjf, decide_eq_true rfl]
        rfl
      -- parts
      have x210 : Exd p H2 H10 := x27.trans (Exd.of ((e8.trans e9).trans e10))
      have d10 := ((d7.ex e8).ex e9).ex e10
      refine ⟨.ref p, rfl, N_ (prE q), rfl, N_ kk, rfl, p, prE q, kk, rfl, hPs, hkk, d10, fun t xs H11 x11 d11 st hcf hsum hl1 hl5 => ?_⟩
      have sDue11 := exd_l ndue x11 (ex_l e10 sDue9)
      have hx60 : ∀ x ∈ xs, x < 10 ^ 60 := fun x hx => Nat.lt_of_le_of_lt (le_sum xs x hx) (hsum ▸ hkk)
      have x211 := x210.trans x11
      refine q_when (b := false) (et_is (et_or (et_not (et_B (b := true) (ev_is (ev_call (ea_cons (ev_var rfl) (ea_cons (ev_var rfl) ea_nil)) (sv_has_no_carries hPs st hl1 (by omega) hx60)) (congrArg V.bl (decide_eq_true hcf))))) fun _ => et_test (ev_op (ev_is (w := N_ kk) (ev_cb (ea_cons (ev_var rfl) ea_nil) (rc_sumT (ns := xs.map Int.ofNat) (by rw [← mapN]; exact st))) (by rw [sumN, hsum])) (ev_var rfl) (rv_ne rfl))) (by
          rw [decide_eq_true rfl]
          rfl)) (fun h => nomatch h) (fun _ H12 e12 => ?_)
      have st12 := ex_t e12 st
      have x212 := x211.trans (Exd.of e12)
      refine q_asgL (xs := (ssL q kk).map N_) (el_is (el_lcR1 (n := (poE q : Int)) (fun _ => true) (fun j => N_ (ds q (prE q ^ j * kk))) (ea_cons (ev_dg (ev_var rfl) (x212 _ _ ndp hdk) gf) ea_nil) ⟨by omega, by omega⟩ (fun _ => rfl) (fun _ _ _ _ => et_nil) (fun j H13 e13 hj _ => ?_)) (by
        rw [Int.toNat_natCast, given_range]
        unfold ssL
        rw [List.map_map]
        rfl)) fun sums H13 ns13 e13 h13 => ?_
      · have hjf : j < poE q := by omega
        refine ev_is (ev_sumN (ns := (xs.map fun x => ds q (prE q ^ j * x)).map Int.ofNat) (el_is (el_lcT (xs := xs.map N_) (fun _ => true) (fun i => N_ (ds q (prE q ^ j * xs.getD i 0))) (ev_var rfl) (ex_t e13 st12) (by rw [List.length_map]; omega) (fun _ => rfl) (fun _ _ _ _ _ => et_nil) (fun i x H14 e14 hi _ => ?_)) ?_)) ?_
        · rw [List.getElem?_map] at hi
          obtain ⟨o, ho, rfl⟩ := Option.map_eq_some_iff.mp hi
          have hoD : xs.getD i 0 = o := by rw [List.getD_eq_getElem?_getD, ho]; rfl
          rw [hoD]
          exact ev_opU1 (eu_call (ea_cons (ev_var rfl) (ea_cons (ev_var rfl) ea_nil)) (sv_shift_sums hq (hx60 o (List.mem_of_getElem? ho)))) (fun H e => ev_var rfl) (fun u H hu e => rv_ixT (st_of hu) (atI_nat (by rw [List.getElem?_map, ss_at hjf]; rfl)))
        · rw [List.length_map, given_all xs (fun o => N_ (ds q (prE q ^ j * o))) _ (fun i y h => by rw [List.getD_eq_getElem?_getD, h]; rfl), ← mapN, List.map_map]
          rfl
        · rw [sumN, sum_shift hq hcf, hsum]
      have sDue13 := ex_l (e12.trans e13) sDue11
      have st13 := ex_t e13 st12
      refine q_when (b := false) (et_is (et_or (et_test (ev_op (ev_var rfl) (ev_var rfl) (rv_neL (ns := (ssL q kk).map Int.ofNat) (ms := (ssL q kk).map Int.ofNat) (by rw [← mapN]; exact sq_of h13) (by rw [← mapN]; exact sDue13)))) fun _ => et_test (ev_op (ev_is (w := N_ ((xs.map (mpN q)).sum)) (ev_sumN (ns := (xs.map (mpN q)).map Int.ofNat) (el_is (el_lcT (xs := xs.map N_) (fun _ => true) (fun i => N_ (mpN q (xs.getD i 0))) (ev_var rfl) st13 (by rw [List.length_map]; omega) (fun _ => rfl) (fun _ _ _ _ _ => et_nil) (fun i x H14 e14 hi _ => ?_)) ?_)) (congrArg V.int (sumN _))) (ev_call (ea_cons (ev_var rfl) (ea_cons (ev_var rfl) ea_nil)) (sv_most_parts hq hkk)) rv_I0)) ?_) (fun h => nomatch h) (fun _ H14 e14 => ?_)
      · rw [List.getElem?_map] at hi
        obtain ⟨o, ho, rfl⟩ := Option.map_eq_some_iff.mp hi
        have hoD : xs.getD i 0 = o := by rw [List.getD_eq_getElem?_getD, ho]; rfl
        rw [hoD]
        exact ev_call (ea_cons (ev_var rfl) (ea_cons (ev_var rfl) ea_nil)) (sv_most_parts hq (hx60 o (List.mem_of_getElem? ho)))
      · rw [List.length_map, given_all xs (fun o => N_ (mpN q o)) _ (fun i y h => by rw [List.getD_eq_getElem?_getD, h]; rfl), ← mapN, List.map_map]
        rfl
      · have h1 := mp_sum hq hcf
        rw [hsum] at h1
        rw [decide_eq_true rfl]
        exact decide_eq_false (by omega)
      have sDue14 := ex_l e14 sDue13
      refine s_when (b := false) (et_is (et_and (et_test (ev_op (ev_var rfl) ev_c rv_I0)) fun _ => et_and (et_test (ev_op (ev_op (ev_var rfl) (ev_op (ev_var rfl) ev_c rv_I0) (rv_I (by omega))) ev_c (rv_eq rfl))) fun _ => et_test (ev_op (ev_minV (ev_var rfl) sDue14 hne) (ev_op (ev_var rfl) ev_c rv_I0) rv_I0)) ?_) (fun h => nomatch h) (fun _ H15 e15 => ⟨_, _, _, _, _, _, _, rfl, ((x7.trans (Exd.of ((e8.trans e9).trans e10))).trans x11).trans (Exd.of (((e12.trans e13).trans e14).trans e15)), (((d11.ex e12).ex e13).ex e14).ex e15⟩)
      by_cases h0 : 0 < kk
      · by_cases h1 : kk % (q - 1) = 0
        · have h2 := mp_ge hq h0 h1
          rw [show decide (((minL (ssL q kk) : Nat) : Int) < (q : Int) - 1) = false from decide_eq_false (by omega), Bool.and_false, Bool.and_false]
        · rw [show decide (V.int ((kk : Int) % ((q : Int) - 1)) = V.int 0) = false from by
            rw [hq1]
            exact (dec_int (x := kk % (q - 1)) (y := 0)).trans (decide_eq_false h1), Bool.false_and, Bool.and_false]
      · rw [show decide ((0 : Int) < (kk : Int)) = false from decide_eq_false (by omega), Bool.false_and]
    · obtain ⟨y4, y5, y6, y7, y8, y9, y10, rfl, x7, d7⟩ := hw
      have x27 := x6.trans x7
      have fin : ∀ (s : Nat) (H' : Hp), s ≤ 60 → Exd p H7 H' → IsDice H' p → tRet (tOp rEq (tCall (sp__law_most_by_ways K) [] E0 (tCons (tVar 1) (tCons (tVar 10) tNil))) (tCall (sp_most_parts K) [] E0 (tCons (tVar 2) (tCons (tVar 10) tNil)))) { nx := fun x H' => Q V.non H', rt := Q } [some (.ref p), some (.ref d), some (N_ q), some (N_ (prE q)), y4, y5, y6, y7, y8, y9, some (N_ s)] H' := fun s H' hs x' d' => by
        refine s_ret (ev_is (w := .bl true) (ev_op (ev_call (ea_cons (ev_var rfl) (ea_cons (ev_var rfl) ea_nil)) (sv__law_most_by_ways hq hs (fT (x27.trans x')))) (ev_call (ea_cons (ev_var rfl) (ea_cons (ev_var rfl) ea_nil)) (sv_most_parts hq (Nat.lt_of_le_of_lt hs (by decide)))) (rv_eq rfl)) (by rw [decide_eq_true rfl])) fun H8 e8 => k H8 ((((x1.trans (Exd.of e2)).trans x27).trans x').trans (Exd.of e8)) (d'.ex e8)
      refine ⟨.ref p, rfl, N_ q, rfl, N_ (prE q), rfl, rfl, _, rfl, ?_⟩
      show (if decide (N_ (prE q) = V.int 2) = true then _ else _)
      split
      · exact ⟨p, q, 40, rfl, hq, by decide, by decide, d7, fun s H8 hs x8 d8 => fin s H8 (by omega) x8 d8⟩
      · exact ⟨p, q, 60, rfl, hq, by decide, by decide, d7, fun s H8 hs x8 d8 => fin s H8 hs x8 d8⟩


def sp_law (K : PySem.W.Frag) : Sp := fun vs H Q _ => ∃ (a : Addr) (ns : List Int), vs = [.ref a] ∧ SqL K H a (ns.map V.int) ∧ ns.length ≤ 63 ∧ ∀ H', Q (.bl true) H'

theorem ok_law {P : Program} {w : World} {K : PySem.W.Frag} {mg : Str → Option Value} {base : Heap} (T : Txt K mg) : FnOk P w K mg base CX0 7 T.a_law T.d_law ["_law_script"] (sp_law K) := by
  refine T.F_law.ok sc_law (fun vs H Q E h => ?_) (fun cdv A outer s H vs Q E hr h => ?_)
  · obtain ⟨a, ns, rfl, _⟩ := h
    rfl
  · obtain ⟨a, ns, rfl, hx, hlen, k⟩ := h
    refine ⟨_, (pss_cons (ps_for PassesOwn.never rfl (pi_range1 rfl T.z_range (pa_cons (pe_callB (call_max2 rfl) (by rfl) T.z_max (by decide +kernel) (pa_cons pe_int (pa_cons (pe_callB (call_min2 rfl) (by rfl) T.z_min (by decide +kernel) (pa_cons pe_int (pa_cons (pe_callB call_len_seq (by rfl) T.z_len (by decide +kernel) (pa_cons (pv 0) pa_nil)) pa_nil))) pa_nil))) pa_nil)) (pg_name (i := 1) sc_law.nd rfl (Or.inl rfl)) (pss_cons (ps_set (i := 2) sc_law.nd rfl (Or.inl rfl) (pe_call (ok__law_dice T) (hr.mono (by decide)) (by rfl) T.g__law_dice T.F__law_dice.kp T.b__law_dice .nil pass0 (pa_cons (pv 0) (pa_cons (pv 1) pa_nil))))
      (pss_one (ps_for PassesOwn.never rfl (pi_range1 rfl T.z_range (pa_cons pe_int pa_nil)) (pg_name (i := 3) sc_law.nd rfl (Or.inl rfl)) (pss_one (ps_if (pt_not (pt_val (pe_call (ok__law_right T) (hr.mono (by decide)) (by rfl) T.g__law_right T.F__law_right.kp T.b__law_right .nil pass0 (pa_cons (pv 2) pa_nil)))) (pss_one (ps_ret pe_bl)) pss_nil))))))
      (pss_one (ps_ret pe_bl))), ?_⟩
    have hm := minmax 5 ⟨by decide, by decide⟩ ((ns.map V.int).length)
    obtain ⟨n, hn, en⟩ := hm
    refine q_forR1 (n := (n : Int)) (ea_cons (ev_is (ev_cb (ea_cons ev_c (ea_cons (ev_cb (ea_cons ev_c (ea_cons (ev_cb (ea_cons (ev_var rfl) ea_nil) (rc_lenL hx)) ea_nil)) rc_min2) ea_nil)) rc_max2) (congrArg V.int en)) ea_nil) ⟨by omega, by omega⟩
      (fun i σ H' => ∃ y1 y2 y3 : Option V, σ = [some (.ref a), y1, y2, y3] ∧ SqL K H' a (ns.map V.int)) (fun H1 e1 => ⟨none, none, none, rfl, ex_l e1 hx⟩) (fun i σ H2 hi hw => ?_) (fun σ H2 hw => ?_)
    · obtain ⟨y1, y2, y3, rfl, h2⟩ := hw
      refine ⟨.ref a, rfl, N_ i, rfl, a, ns, i, rfl, h2, hlen, by omega, fun p H3 np e3 d3 => ?_⟩
      have h3 := ex_l e3 h2
      refine s_forR1 (n := 2) (ea_cons ev_c ea_nil) ⟨by decide, by decide⟩ (fun j σ H' => ∃ y3 : Option V, σ = [some (.ref a), some (N_ i), some (.ref p), y3] ∧ IsDice H' p ∧ Exd p H2 H') (fun H4 e4 => ⟨y3, rfl, d3.ex e4, (Exd.of e3).trans (Exd.of e4)⟩) (fun j σ H4 hj hw4 => ?_) (fun σ H4 hw4 => ?_)
      · obtain ⟨y3, rfl, d4, h4⟩ := hw4
        refine ⟨.ref p, rfl, p, rfl, d4, fun H5 x5 d5 => ⟨true, rfl, iteF ?_⟩⟩
        exact ⟨_, rfl, d5, h4.trans x5⟩
      · obtain ⟨y3, rfl, d4, h4⟩ := hw4
        exact ⟨some (N_ i), some (.ref p), y3, rfl, exd_lf np h4 h2⟩
    · obtain ⟨y1, y2, y3, rfl, h2⟩ := hw
      exact s_ret ev_c fun H3 e3 => k H3


end Own
namespace Own
open PySem PySem.Spec PyProof.Rows L2 Evl

theorem all_mk {l : PySem.W.OpenLaw} {w : World} {K : PySem.W.Frag} {h : Heap} {mg : Str → Option Value} {fa : Addr} (X : K.In h) (G : h.Ns mainGlobals mg) (hfa : mg "law" = some (.ref fa))
    {f_digit_row f_digit_total f_are_carry_free f_shift_sum_list f_parts_bound f_is_integer f_is_from f_is_between f_check_from f_check_between f_is_field f_check_field f_check_base f_check_numbers f_digit_sum f_has_no_carries f_shift_sums f_most_parts f__law_dice f__law_roll f__law_one_of f__law_raised f__law_digits f__law_element_product f__law_element_sum f__law_field f__law_q f__law_size f__law_digit_sum f__law_within f__law_small_k f__law_great_k f__law_own_shifts f__law_most_by_ways f__law_parts_of f__law_right f_law : Addr} {od_digit_row an_digit_row od_digit_total an_digit_total od_are_carry_free an_are_carry_free od_shift_sum_list an_shift_sum_list od_parts_bound an_parts_bound od_is_integer an_is_integer od_is_from an_is_from od_is_between an_is_between od_check_from an_check_from od_check_between an_check_between od_is_field an_is_field od_check_field an_check_field od_check_base an_check_base od_check_numbers an_check_numbers od_digit_sum an_digit_sum od_has_no_carries an_has_no_carries od_shift_sums an_shift_sums od_most_parts an_most_parts od__law_dice an__law_dice od__law_roll an__law_roll od__law_one_of an__law_one_of od__law_raised an__law_raised od__law_digits an__law_digits od__law_element_product an__law_element_product od__law_element_sum an__law_element_sum od__law_field an__law_field od__law_q an__law_q od__law_size an__law_size od__law_digit_sum an__law_digit_sum od__law_within an__law_within od__law_small_k an__law_small_k od__law_great_k an__law_great_k od__law_own_shifts an__law_own_shifts od__law_most_by_ways an__law_most_by_ways od__law_parts_of an__law_parts_of od__law_right an__law_right od_law an_law : Option Addr} {sl_digit_row sl_digit_total sl_are_carry_free sl_shift_sum_list sl_parts_bound sl_is_integer sl_is_from sl_is_between sl_check_from sl_check_between sl_is_field sl_check_field sl_check_base sl_check_numbers sl_digit_sum sl_has_no_carries sl_shift_sums sl_most_parts sl__law_dice sl__law_roll sl__law_one_of sl__law_raised sl__law_digits sl__law_element_product sl__law_element_sum sl__law_field sl__law_q sl__law_size sl__law_digit_sum sl__law_within sl__law_small_k sl__law_great_k sl__law_own_shifts sl__law_most_by_ways sl__law_parts_of sl__law_right sl_law : Array (Option Value)} {oc_digit_row kV_digit_row dc_digit_row pm_digit_row cd_digit_row ct_digit_row oc_digit_total kV_digit_total dc_digit_total pm_digit_total cd_digit_total ct_digit_total oc_are_carry_free kV_are_carry_free dc_are_carry_free pm_are_carry_free cd_are_carry_free ct_are_carry_free oc_shift_sum_list kV_shift_sum_list dc_shift_sum_list pm_shift_sum_list cd_shift_sum_list ct_shift_sum_list oc_parts_bound kV_parts_bound dc_parts_bound pm_parts_bound cd_parts_bound ct_parts_bound oc_is_integer kV_is_integer dc_is_integer pm_is_integer cd_is_integer ct_is_integer oc_is_from kV_is_from dc_is_from pm_is_from cd_is_from ct_is_from oc_is_between kV_is_between dc_is_between pm_is_between cd_is_between ct_is_between oc_check_from kV_check_from dc_check_from pm_check_from cd_check_from ct_check_from oc_check_between kV_check_between dc_check_between pm_check_between cd_check_between ct_check_between oc_is_field kV_is_field dc_is_field pm_is_field cd_is_field ct_is_field oc_check_field kV_check_field dc_check_field pm_check_field cd_check_field ct_check_field oc_check_base kV_check_base dc_check_base pm_check_base cd_check_base ct_check_base oc_check_numbers kV_check_numbers dc_check_numbers pm_check_numbers cd_check_numbers ct_check_numbers oc_digit_sum kV_digit_sum dc_digit_sum pm_digit_sum cd_digit_sum ct_digit_sum oc_has_no_carries kV_has_no_carries dc_has_no_carries pm_has_no_carries cd_has_no_carries ct_has_no_carries oc_shift_sums kV_shift_sums dc_shift_sums pm_shift_sums cd_shift_sums ct_shift_sums oc_most_parts kV_most_parts dc_most_parts pm_most_parts cd_most_parts ct_most_parts oc__law_dice kV__law_dice dc__law_dice pm__law_dice cd__law_dice ct__law_dice oc__law_roll kV__law_roll dc__law_roll pm__law_roll cd__law_roll ct__law_roll oc__law_one_of kV__law_one_of dc__law_one_of pm__law_one_of cd__law_one_of ct__law_one_of oc__law_raised kV__law_raised dc__law_raised pm__law_raised cd__law_raised ct__law_raised oc__law_digits kV__law_digits dc__law_digits pm__law_digits cd__law_digits ct__law_digits oc__law_element_product kV__law_element_product dc__law_element_product pm__law_element_product cd__law_element_product ct__law_element_product oc__law_element_sum kV__law_element_sum dc__law_element_sum pm__law_element_sum cd__law_element_sum ct__law_element_sum oc__law_field kV__law_field dc__law_field pm__law_field cd__law_field ct__law_field oc__law_q kV__law_q dc__law_q pm__law_q cd__law_q ct__law_q oc__law_size kV__law_size dc__law_size pm__law_size cd__law_size ct__law_size oc__law_digit_sum kV__law_digit_sum dc__law_digit_sum pm__law_digit_sum cd__law_digit_sum ct__law_digit_sum oc__law_within kV__law_within dc__law_within pm__law_within cd__law_within ct__law_within oc__law_small_k kV__law_small_k dc__law_small_k pm__law_small_k cd__law_small_k ct__law_small_k oc__law_great_k kV__law_great_k dc__law_great_k pm__law_great_k cd__law_great_k ct__law_great_k oc__law_own_shifts kV__law_own_shifts dc__law_own_shifts pm__law_own_shifts cd__law_own_shifts ct__law_own_shifts oc__law_most_by_ways kV__law_most_by_ways dc__law_most_by_ways pm__law_most_by_ways cd__law_most_by_ways ct__law_most_by_ways oc__law_parts_of kV__law_parts_of dc__law_parts_of pm__law_parts_of cd__law_parts_of ct__law_parts_of oc__law_right kV__law_right dc__law_right pm__law_right cd__law_right ct__law_right oc_law kV_law dc_law pm_law cd_law ct_law : Value}
    {t_TOO_LONG t_MOST_NUMBERS : Tok}
    {f_PRIMES f_POWERS f_FIELDS : Addr}
    (a_digit_row : PySem.W.nsIn K mainGlobals "digit_row" = some (some (.ref f_digit_row))) (l_digit_row : K.lookup f_digit_row = some ⟨oc_digit_row, od_digit_row, .func (PySem.W.fnOf "digit_row" "digit_row" (defArgs s_digit_row) (defBody s_digit_row) (defScope s_digit_row) .none kV_digit_row dc_digit_row pm_digit_row an_digit_row cd_digit_row ct_digit_row), sl_digit_row⟩) (c_digit_row : PySem.W.codeIn K cd_digit_row "digit_row" = true) (k_digit_row : PySem.W.keepIn K (.ref f_digit_row) = true)
    (a_digit_total : PySem.W.nsIn K mainGlobals "digit_total" = some (some (.ref f_digit_total))) (l_digit_total : K.lookup f_digit_total = some ⟨oc_digit_total, od_digit_total, .func (PySem.W.fnOf "digit_total" "digit_total" (defArgs s_digit_total) (defBody s_digit_total) (defScope s_digit_total) .none kV_digit_total dc_digit_total pm_digit_total an_digit_total cd_digit_total ct_digit_total), sl_digit_total⟩) (c_digit_total : PySem.W.codeIn K cd_digit_total "digit_total" = true) (k_digit_total : PySem.W.keepIn K (.ref f_digit_total) = true)
    (a_are_carry_free : PySem.W.nsIn K mainGlobals "are_carry_free" = some (some (.ref f_are_carry_free))) (l_are_carry_free : K.lookup f_are_carry_free = some ⟨oc_are_carry_free, od_are_carry_free, .func (PySem.W.fnOf "are_carry_free" "are_carry_free" (defArgs s_are_carry_free) (defBody s_are_carry_free) (defScope s_are_carry_free) .none kV_are_carry_free dc_are_carry_free pm_are_carry_free an_are_carry_free cd_are_carry_free ct_are_carry_free), sl_are_carry_free⟩) (c_are_carry_free : PySem.W.codeIn K cd_are_carry_free "are_carry_free" = true) (k_are_carry_free : PySem.W.keepIn K (.ref f_are_carry_free) = true)
    (a_shift_sum_list : PySem.W.nsIn K mainGlobals "shift_sum_list" = some (some (.ref f_shift_sum_list))) (l_shift_sum_list : K.lookup f_shift_sum_list = some ⟨oc_shift_sum_list, od_shift_sum_list, .func (PySem.W.fnOf "shift_sum_list" "shift_sum_list" (defArgs s_shift_sum_list) (defBody s_shift_sum_list) (defScope s_shift_sum_list) .none kV_shift_sum_list dc_shift_sum_list pm_shift_sum_list an_shift_sum_list cd_shift_sum_list ct_shift_sum_list), sl_shift_sum_list⟩) (c_shift_sum_list : PySem.W.codeIn K cd_shift_sum_list "shift_sum_list" = true) (k_shift_sum_list : PySem.W.keepIn K (.ref f_shift_sum_list) = true)
    (a_parts_bound : PySem.W.nsIn K mainGlobals "parts_bound" = some (some (.ref f_parts_bound))) (l_parts_bound : K.lookup f_parts_bound = some ⟨oc_parts_bound, od_parts_bound, .func (PySem.W.fnOf "parts_bound" "parts_bound" (defArgs s_parts_bound) (defBody s_parts_bound) (defScope s_parts_bound) .none kV_parts_bound dc_parts_bound pm_parts_bound an_parts_bound cd_parts_bound ct_parts_bound), sl_parts_bound⟩) (c_parts_bound : PySem.W.codeIn K cd_parts_bound "parts_bound" = true) (k_parts_bound : PySem.W.keepIn K (.ref f_parts_bound) = true)
    (a_is_integer : PySem.W.nsIn K mainGlobals "is_integer" = some (some (.ref f_is_integer))) (l_is_integer : K.lookup f_is_integer = some ⟨oc_is_integer, od_is_integer, .func (PySem.W.fnOf "is_integer" "is_integer" (defArgs s_is_integer) (defBody s_is_integer) (defScope s_is_integer) .none kV_is_integer dc_is_integer pm_is_integer an_is_integer cd_is_integer ct_is_integer), sl_is_integer⟩) (c_is_integer : PySem.W.codeIn K cd_is_integer "is_integer" = true) (k_is_integer : PySem.W.keepIn K (.ref f_is_integer) = true)
    (a_is_from : PySem.W.nsIn K mainGlobals "is_from" = some (some (.ref f_is_from))) (l_is_from : K.lookup f_is_from = some ⟨oc_is_from, od_is_from, .func (PySem.W.fnOf "is_from" "is_from" (defArgs s_is_from) (defBody s_is_from) (defScope s_is_from) .none kV_is_from dc_is_from pm_is_from an_is_from cd_is_from ct_is_from), sl_is_from⟩) (c_is_from : PySem.W.codeIn K cd_is_from "is_from" = true) (k_is_from : PySem.W.keepIn K (.ref f_is_from) = true)
    (a_is_between : PySem.W.nsIn K mainGlobals "is_between" = some (some (.ref f_is_between))) (l_is_between : K.lookup f_is_between = some ⟨oc_is_between, od_is_between, .func (PySem.W.fnOf "is_between" "is_between" (defArgs s_is_between) (defBody s_is_between) (defScope s_is_between) .none kV_is_between dc_is_between pm_is_between an_is_between cd_is_between ct_is_between), sl_is_between⟩) (c_is_between : PySem.W.codeIn K cd_is_between "is_between" = true) (k_is_between : PySem.W.keepIn K (.ref f_is_between) = true)
    (a_check_from : PySem.W.nsIn K mainGlobals "check_from" = some (some (.ref f_check_from))) (l_check_from : K.lookup f_check_from = some ⟨oc_check_from, od_check_from, .func (PySem.W.fnOf "check_from" "check_from" (defArgs s_check_from) (defBody s_check_from) (defScope s_check_from) .none kV_check_from dc_check_from pm_check_from an_check_from cd_check_from ct_check_from), sl_check_from⟩) (c_check_from : PySem.W.codeIn K cd_check_from "check_from" = true) (k_check_from : PySem.W.keepIn K (.ref f_check_from) = true)
    (a_check_between : PySem.W.nsIn K mainGlobals "check_between" = some (some (.ref f_check_between))) (l_check_between : K.lookup f_check_between = some ⟨oc_check_between, od_check_between, .func (PySem.W.fnOf "check_between" "check_between" (defArgs s_check_between) (defBody s_check_between) (defScope s_check_between) .none kV_check_between dc_check_between pm_check_between an_check_between cd_check_between ct_check_between), sl_check_between⟩) (c_check_between : PySem.W.codeIn K cd_check_between "check_between" = true) (k_check_between : PySem.W.keepIn K (.ref f_check_between) = true)
    (a_is_field : PySem.W.nsIn K mainGlobals "is_field" = some (some (.ref f_is_field))) (l_is_field : K.lookup f_is_field = some ⟨oc_is_field, od_is_field, .func (PySem.W.fnOf "is_field" "is_field" (defArgs s_is_field) (defBody s_is_field) (defScope s_is_field) .none kV_is_field dc_is_field pm_is_field an_is_field cd_is_field ct_is_field), sl_is_field⟩) (c_is_field : PySem.W.codeIn K cd_is_field "is_field" = true) (k_is_field : PySem.W.keepIn K (.ref f_is_field) = true)
    (a_check_field : PySem.W.nsIn K mainGlobals "check_field" = some (some (.ref f_check_field))) (l_check_field : K.lookup f_check_field = some ⟨oc_check_field, od_check_field, .func (PySem.W.fnOf "check_field" "check_field" (defArgs s_check_field) (defBody s_check_field) (defScope s_check_field) .none kV_check_field dc_check_field pm_check_field an_check_field cd_check_field ct_check_field), sl_check_field⟩) (c_check_field : PySem.W.codeIn K cd_check_field "check_field" = true) (k_check_field : PySem.W.keepIn K (.ref f_check_field) = true)
    (a_check_base : PySem.W.nsIn K mainGlobals "check_base" = some (some (.ref f_check_base))) (l_check_base : K.lookup f_check_base = some ⟨oc_check_base, od_check_base, .func (PySem.W.fnOf "check_base" "check_base" (defArgs s_check_base) (defBody s_check_base) (defScope s_check_base) .none kV_check_base dc_check_base pm_check_base an_check_base cd_check_base ct_check_base), sl_check_base⟩) (c_check_base : PySem.W.codeIn K cd_check_base "check_base" = true) (k_check_base : PySem.W.keepIn K (.ref f_check_base) = true)
    (a_check_numbers : PySem.W.nsIn K mainGlobals "check_numbers" = some (some (.ref f_check_numbers))) (l_check_numbers : K.lookup f_check_numbers = some ⟨oc_check_numbers, od_check_numbers, .func (PySem.W.fnOf "check_numbers" "check_numbers" (defArgs s_check_numbers) (defBody s_check_numbers) (defScope s_check_numbers) .none kV_check_numbers dc_check_numbers pm_check_numbers an_check_numbers cd_check_numbers ct_check_numbers), sl_check_numbers⟩) (c_check_numbers : PySem.W.codeIn K cd_check_numbers "check_numbers" = true) (k_check_numbers : PySem.W.keepIn K (.ref f_check_numbers) = true)
    (a_digit_sum : PySem.W.nsIn K mainGlobals "digit_sum" = some (some (.ref f_digit_sum))) (l_digit_sum : K.lookup f_digit_sum = some ⟨oc_digit_sum, od_digit_sum, .func (PySem.W.fnOf "digit_sum" "digit_sum" (defArgs s_digit_sum) (defBody s_digit_sum) (defScope s_digit_sum) .none kV_digit_sum dc_digit_sum pm_digit_sum an_digit_sum cd_digit_sum ct_digit_sum), sl_digit_sum⟩) (c_digit_sum : PySem.W.codeIn K cd_digit_sum "digit_sum" = true) (k_digit_sum : PySem.W.keepIn K (.ref f_digit_sum) = true)
    (a_has_no_carries : PySem.W.nsIn K mainGlobals "has_no_carries" = some (some (.ref f_has_no_carries))) (l_has_no_carries : K.lookup f_has_no_carries = some ⟨oc_has_no_carries, od_has_no_carries, .func (PySem.W.fnOf "has_no_carries" "has_no_carries" (defArgs s_has_no_carries) (defBody s_has_no_carries) (defScope s_has_no_carries) .none kV_has_no_carries dc_has_no_carries pm_has_no_carries an_has_no_carries cd_has_no_carries ct_has_no_carries), sl_has_no_carries⟩) (c_has_no_carries : PySem.W.codeIn K cd_has_no_carries "has_no_carries" = true) (k_has_no_carries : PySem.W.keepIn K (.ref f_has_no_carries) = true)
    (a_shift_sums : PySem.W.nsIn K mainGlobals "shift_sums" = some (some (.ref f_shift_sums))) (l_shift_sums : K.lookup f_shift_sums = some ⟨oc_shift_sums, od_shift_sums, .func (PySem.W.fnOf "shift_sums" "shift_sums" (defArgs s_shift_sums) (defBody s_shift_sums) (defScope s_shift_sums) .none kV_shift_sums dc_shift_sums pm_shift_sums an_shift_sums cd_shift_sums ct_shift_sums), sl_shift_sums⟩) (c_shift_sums : PySem.W.codeIn K cd_shift_sums "shift_sums" = true) (k_shift_sums : PySem.W.keepIn K (.ref f_shift_sums) = true)
    (a_most_parts : PySem.W.nsIn K mainGlobals "most_parts" = some (some (.ref f_most_parts))) (l_most_parts : K.lookup f_most_parts = some ⟨oc_most_parts, od_most_parts, .func (PySem.W.fnOf "most_parts" "most_parts" (defArgs s_most_parts) (defBody s_most_parts) (defScope s_most_parts) .none kV_most_parts dc_most_parts pm_most_parts an_most_parts cd_most_parts ct_most_parts), sl_most_parts⟩) (c_most_parts : PySem.W.codeIn K cd_most_parts "most_parts" = true) (k_most_parts : PySem.W.keepIn K (.ref f_most_parts) = true)
    (a__law_dice : PySem.W.nsIn K mainGlobals "_law_dice" = some (some (.ref f__law_dice))) (l__law_dice : K.lookup f__law_dice = some ⟨oc__law_dice, od__law_dice, .func (PySem.W.fnOf "_law_dice" "_law_dice" (defArgs s__law_dice) (defBody s__law_dice) (defScope s__law_dice) .none kV__law_dice dc__law_dice pm__law_dice an__law_dice cd__law_dice ct__law_dice), sl__law_dice⟩) (c__law_dice : PySem.W.codeIn K cd__law_dice "_law_dice" = true) (k__law_dice : PySem.W.keepIn K (.ref f__law_dice) = true)
    (a__law_roll : PySem.W.nsIn K mainGlobals "_law_roll" = some (some (.ref f__law_roll))) (l__law_roll : K.lookup f__law_roll = some ⟨oc__law_roll, od__law_roll, .func (PySem.W.fnOf "_law_roll" "_law_roll" (defArgs s__law_roll) (defBody s__law_roll) (defScope s__law_roll) .none kV__law_roll dc__law_roll pm__law_roll an__law_roll cd__law_roll ct__law_roll), sl__law_roll⟩) (c__law_roll : PySem.W.codeIn K cd__law_roll "_law_roll" = true) (k__law_roll : PySem.W.keepIn K (.ref f__law_roll) = true)
    (a__law_one_of : PySem.W.nsIn K mainGlobals "_law_one_of" = some (some (.ref f__law_one_of))) (l__law_one_of : K.lookup f__law_one_of = some ⟨oc__law_one_of, od__law_one_of, .func (PySem.W.fnOf "_law_one_of" "_law_one_of" (defArgs s__law_one_of) (defBody s__law_one_of) (defScope s__law_one_of) .none kV__law_one_of dc__law_one_of pm__law_one_of an__law_one_of cd__law_one_of ct__law_one_of), sl__law_one_of⟩) (c__law_one_of : PySem.W.codeIn K cd__law_one_of "_law_one_of" = true) (k__law_one_of : PySem.W.keepIn K (.ref f__law_one_of) = true)
    (a__law_raised : PySem.W.nsIn K mainGlobals "_law_raised" = some (some (.ref f__law_raised))) (l__law_raised : K.lookup f__law_raised = some ⟨oc__law_raised, od__law_raised, .func (PySem.W.fnOf "_law_raised" "_law_raised" (defArgs s__law_raised) (defBody s__law_raised) (defScope s__law_raised) .none kV__law_raised dc__law_raised pm__law_raised an__law_raised cd__law_raised ct__law_raised), sl__law_raised⟩) (c__law_raised : PySem.W.codeIn K cd__law_raised "_law_raised" = true) (k__law_raised : PySem.W.keepIn K (.ref f__law_raised) = true)
    (a__law_digits : PySem.W.nsIn K mainGlobals "_law_digits" = some (some (.ref f__law_digits))) (l__law_digits : K.lookup f__law_digits = some ⟨oc__law_digits, od__law_digits, .func (PySem.W.fnOf "_law_digits" "_law_digits" (defArgs s__law_digits) (defBody s__law_digits) (defScope s__law_digits) .none kV__law_digits dc__law_digits pm__law_digits an__law_digits cd__law_digits ct__law_digits), sl__law_digits⟩) (c__law_digits : PySem.W.codeIn K cd__law_digits "_law_digits" = true) (k__law_digits : PySem.W.keepIn K (.ref f__law_digits) = true)
    (a__law_element_product : PySem.W.nsIn K mainGlobals "_law_element_product" = some (some (.ref f__law_element_product))) (l__law_element_product : K.lookup f__law_element_product = some ⟨oc__law_element_product, od__law_element_product, .func (PySem.W.fnOf "_law_element_product" "_law_element_product" (defArgs s__law_element_product) (defBody s__law_element_product) (defScope s__law_element_product) .none kV__law_element_product dc__law_element_product pm__law_element_product an__law_element_product cd__law_element_product ct__law_element_product), sl__law_element_product⟩) (c__law_element_product : PySem.W.codeIn K cd__law_element_product "_law_element_product" = true) (k__law_element_product : PySem.W.keepIn K (.ref f__law_element_product) = true)
    (a__law_element_sum : PySem.W.nsIn K mainGlobals "_law_element_sum" = some (some (.ref f__law_element_sum))) (l__law_element_sum : K.lookup f__law_element_sum = some ⟨oc__law_element_sum, od__law_element_sum, .func (PySem.W.fnOf "_law_element_sum" "_law_element_sum" (defArgs s__law_element_sum) (defBody s__law_element_sum) (defScope s__law_element_sum) .none kV__law_element_sum dc__law_element_sum pm__law_element_sum an__law_element_sum cd__law_element_sum ct__law_element_sum), sl__law_element_sum⟩) (c__law_element_sum : PySem.W.codeIn K cd__law_element_sum "_law_element_sum" = true) (k__law_element_sum : PySem.W.keepIn K (.ref f__law_element_sum) = true)
    (a__law_field : PySem.W.nsIn K mainGlobals "_law_field" = some (some (.ref f__law_field))) (l__law_field : K.lookup f__law_field = some ⟨oc__law_field, od__law_field, .func (PySem.W.fnOf "_law_field" "_law_field" (defArgs s__law_field) (defBody s__law_field) (defScope s__law_field) .none kV__law_field dc__law_field pm__law_field an__law_field cd__law_field ct__law_field), sl__law_field⟩) (c__law_field : PySem.W.codeIn K cd__law_field "_law_field" = true) (k__law_field : PySem.W.keepIn K (.ref f__law_field) = true)
    (a__law_q : PySem.W.nsIn K mainGlobals "_law_q" = some (some (.ref f__law_q))) (l__law_q : K.lookup f__law_q = some ⟨oc__law_q, od__law_q, .func (PySem.W.fnOf "_law_q" "_law_q" (defArgs s__law_q) (defBody s__law_q) (defScope s__law_q) .none kV__law_q dc__law_q pm__law_q an__law_q cd__law_q ct__law_q), sl__law_q⟩) (c__law_q : PySem.W.codeIn K cd__law_q "_law_q" = true) (k__law_q : PySem.W.keepIn K (.ref f__law_q) = true)
    (a__law_size : PySem.W.nsIn K mainGlobals "_law_size" = some (some (.ref f__law_size))) (l__law_size : K.lookup f__law_size = some ⟨oc__law_size, od__law_size, .func (PySem.W.fnOf "_law_size" "_law_size" (defArgs s__law_size) (defBody s__law_size) (defScope s__law_size) .none kV__law_size dc__law_size pm__law_size an__law_size cd__law_size ct__law_size), sl__law_size⟩) (c__law_size : PySem.W.codeIn K cd__law_size "_law_size" = true) (k__law_size : PySem.W.keepIn K (.ref f__law_size) = true)
    (a__law_digit_sum : PySem.W.nsIn K mainGlobals "_law_digit_sum" = some (some (.ref f__law_digit_sum))) (l__law_digit_sum : K.lookup f__law_digit_sum = some ⟨oc__law_digit_sum, od__law_digit_sum, .func (PySem.W.fnOf "_law_digit_sum" "_law_digit_sum" (defArgs s__law_digit_sum) (defBody s__law_digit_sum) (defScope s__law_digit_sum) .none kV__law_digit_sum dc__law_digit_sum pm__law_digit_sum an__law_digit_sum cd__law_digit_sum ct__law_digit_sum), sl__law_digit_sum⟩) (c__law_digit_sum : PySem.W.codeIn K cd__law_digit_sum "_law_digit_sum" = true) (k__law_digit_sum : PySem.W.keepIn K (.ref f__law_digit_sum) = true)
    (a__law_within : PySem.W.nsIn K mainGlobals "_law_within" = some (some (.ref f__law_within))) (l__law_within : K.lookup f__law_within = some ⟨oc__law_within, od__law_within, .func (PySem.W.fnOf "_law_within" "_law_within" (defArgs s__law_within) (defBody s__law_within) (defScope s__law_within) .none kV__law_within dc__law_within pm__law_within an__law_within cd__law_within ct__law_within), sl__law_within⟩) (c__law_within : PySem.W.codeIn K cd__law_within "_law_within" = true) (k__law_within : PySem.W.keepIn K (.ref f__law_within) = true)
    (a__law_small_k : PySem.W.nsIn K mainGlobals "_law_small_k" = some (some (.ref f__law_small_k))) (l__law_small_k : K.lookup f__law_small_k = some ⟨oc__law_small_k, od__law_small_k, .func (PySem.W.fnOf "_law_small_k" "_law_small_k" (defArgs s__law_small_k) (defBody s__law_small_k) (defScope s__law_small_k) .none kV__law_small_k dc__law_small_k pm__law_small_k an__law_small_k cd__law_small_k ct__law_small_k), sl__law_small_k⟩) (c__law_small_k : PySem.W.codeIn K cd__law_small_k "_law_small_k" = true) (k__law_small_k : PySem.W.keepIn K (.ref f__law_small_k) = true)
    (a__law_great_k : PySem.W.nsIn K mainGlobals "_law_great_k" = some (some (.ref f__law_great_k))) (l__law_great_k : K.lookup f__law_great_k = some ⟨oc__law_great_k, od__law_great_k, .func (PySem.W.fnOf "_law_great_k" "_law_great_k" (defArgs s__law_great_k) (defBody s__law_great_k) (defScope s__law_great_k) .none kV__law_great_k dc__law_great_k pm__law_great_k an__law_great_k cd__law_great_k ct__law_great_k), sl__law_great_k⟩) (c__law_great_k : PySem.W.codeIn K cd__law_great_k "_law_great_k" = true) (k__law_great_k : PySem.W.keepIn K (.ref f__law_great_k) = true)
    (a__law_own_shifts : PySem.W.nsIn K mainGlobals "_law_own_shifts" = some (some (.ref f__law_own_shifts))) (l__law_own_shifts : K.lookup f__law_own_shifts = some ⟨oc__law_own_shifts, od__law_own_shifts, .func (PySem.W.fnOf "_law_own_shifts" "_law_own_shifts" (defArgs s__law_own_shifts) (defBody s__law_own_shifts) (defScope s__law_own_shifts) .none kV__law_own_shifts dc__law_own_shifts pm__law_own_shifts an__law_own_shifts cd__law_own_shifts ct__law_own_shifts), sl__law_own_shifts⟩) (c__law_own_shifts : PySem.W.codeIn K cd__law_own_shifts "_law_own_shifts" = true) (k__law_own_shifts : PySem.W.keepIn K (.ref f__law_own_shifts) = true)
    (a__law_most_by_ways : PySem.W.nsIn K mainGlobals "_law_most_by_ways" = some (some (.ref f__law_most_by_ways))) (l__law_most_by_ways : K.lookup f__law_most_by_ways = some ⟨oc__law_most_by_ways, od__law_most_by_ways, .func (PySem.W.fnOf "_law_most_by_ways" "_law_most_by_ways" (defArgs s__law_most_by_ways) (defBody s__law_most_by_ways) (defScope s__law_most_by_ways) .none kV__law_most_by_ways dc__law_most_by_ways pm__law_most_by_ways an__law_most_by_ways cd__law_most_by_ways ct__law_most_by_ways), sl__law_most_by_ways⟩) (c__law_most_by_ways : PySem.W.codeIn K cd__law_most_by_ways "_law_most_by_ways" = true) (k__law_most_by_ways : PySem.W.keepIn K (.ref f__law_most_by_ways) = true)
    (a__law_parts_of : PySem.W.nsIn K mainGlobals "_law_parts_of" = some (some (.ref f__law_parts_of))) (l__law_parts_of : K.lookup f__law_parts_of = some ⟨oc__law_parts_of, od__law_parts_of, .func (PySem.W.fnOf "_law_parts_of" "_law_parts_of" (defArgs s__law_parts_of) (defBody s__law_parts_of) (defScope s__law_parts_of) .none kV__law_parts_of dc__law_parts_of pm__law_parts_of an__law_parts_of cd__law_parts_of ct__law_parts_of), sl__law_parts_of⟩) (c__law_parts_of : PySem.W.codeIn K cd__law_parts_of "_law_parts_of" = true) (k__law_parts_of : PySem.W.keepIn K (.ref f__law_parts_of) = true)
    (a__law_right : PySem.W.nsIn K mainGlobals "_law_right" = some (some (.ref f__law_right))) (l__law_right : K.lookup f__law_right = some ⟨oc__law_right, od__law_right, .func (PySem.W.fnOf "_law_right" "_law_right" (defArgs s__law_right) (defBody s__law_right) (defScope s__law_right) .none kV__law_right dc__law_right pm__law_right an__law_right cd__law_right ct__law_right), sl__law_right⟩) (c__law_right : PySem.W.codeIn K cd__law_right "_law_right" = true) (k__law_right : PySem.W.keepIn K (.ref f__law_right) = true)
    (a_law : PySem.W.nsIn K mainGlobals "law" = some (some (.ref f_law))) (l_law : K.lookup f_law = some ⟨oc_law, od_law, .func (PySem.W.fnOf "law" "law" (defArgs s_law) (defBody s_law) (defScope s_law) .none kV_law dc_law pm_law an_law cd_law ct_law), sl_law⟩) (c_law : PySem.W.codeIn K cd_law "law" = true) (k_law : PySem.W.keepIn K (.ref f_law) = true)
    (z_sum : PySem.W.nsIn K mainGlobals "sum" = some none)
    (z_range : PySem.W.nsIn K mainGlobals "range" = some none)
    (z_min : PySem.W.nsIn K mainGlobals "min" = some none)
    (z_isinstance : PySem.W.nsIn K mainGlobals "isinstance" = some none)
    (z_int : PySem.W.nsIn K mainGlobals "int" = some none)
    (z_bool : PySem.W.nsIn K mainGlobals "bool" = some none)
    (z_all : PySem.W.nsIn K mainGlobals "all" = some none)
    (z_tuple : PySem.W.nsIn K mainGlobals "tuple" = some none)
    (z_len : PySem.W.nsIn K mainGlobals "len" = some none)
    (z_abs : PySem.W.nsIn K mainGlobals "abs" = some none)
    (z_enumerate : PySem.W.nsIn K mainGlobals "enumerate" = some none)
    (z_list : PySem.W.nsIn K mainGlobals "list" = some none)
    (z_sorted : PySem.W.nsIn K mainGlobals "sorted" = some none)
    (z_max : PySem.W.nsIn K mainGlobals "max" = some none)
    (a_PRIMES : PySem.W.nsIn K mainGlobals "PRIMES" = some (some (.ref f_PRIMES))) (w_PRIMES : tab0 K f_PRIMES = some W_PRIMES)
    (a_POWERS : PySem.W.nsIn K mainGlobals "POWERS" = some (some (.ref f_POWERS))) (w_POWERS : tab0 K f_POWERS = some W_POWERS)
    (a_FIELDS : PySem.W.nsIn K mainGlobals "FIELDS" = some (some (.ref f_FIELDS))) (w_FIELDS : asRow K (.ref f_FIELDS) = some W_FIELDS)
    (q_TOO_LONG : PySem.W.nsIn K mainGlobals "TOO_LONG" = some (some (.int 1000000000000000000000000000000000000000000000000000000000000 t_TOO_LONG)))
    (q_MOST_NUMBERS : PySem.W.nsIn K mainGlobals "MOST_NUMBERS" = some (some (.int 400 t_MOST_NUMBERS)))
    : ∃ fd : FuncData, (∀ (s : Shared) (v : Value), BindsTo s fd ⟨[v], []⟩ [("_law_script", v)]) ∧ ∀ base : Heap, K.In base → base.Ns mainGlobals mg → FnOk l.prog w K mg base CX0 7 fa fd ["_law_script"] (sp_law K) := by
  have e := hfa.symm.trans (PySem.W.mg_of X G a_law)
  cases e
  have F_digit_row := fun_mk (st := s_digit_row) l_digit_row c_digit_row k_digit_row
  have b_digit_row := F_digit_row.binds (ps := ["b", "k"]) fun _ _ _ _ _ _ us hl => match us, hl with | [_, _], _ => rfl
  have F_digit_total := fun_mk (st := s_digit_total) l_digit_total c_digit_total k_digit_total
  have b_digit_total := F_digit_total.binds (ps := ["b", "k"]) fun _ _ _ _ _ _ us hl => match us, hl with | [_, _], _ => rfl
  have F_are_carry_free := fun_mk (st := s_are_carry_free) l_are_carry_free c_are_carry_free k_are_carry_free
  have b_are_carry_free := F_are_carry_free.binds (ps := ["b", "numbers"]) fun _ _ _ _ _ _ us hl => match us, hl with | [_, _], _ => rfl
  have F_shift_sum_list := fun_mk (st := s_shift_sum_list) l_shift_sum_list c_shift_sum_list k_shift_sum_list
  have b_shift_sum_list := F_shift_sum_list.binds (ps := ["q", "k"]) fun _ _ _ _ _ _ us hl => match us, hl with | [_, _], _ => rfl
  have F_parts_bound := fun_mk (st := s_parts_bound) l_parts_bound c_parts_bound k_parts_bound
  have b_parts_bound := F_parts_bound.binds (ps := ["q", "k"]) fun _ _ _ _ _ _ us hl => match us, hl with | [_, _], _ => rfl
  have F_is_integer := fun_mk (st := s_is_integer) l_is_integer c_is_integer k_is_integer
  have b_is_integer := F_is_integer.binds (ps := ["value"]) fun _ _ _ _ _ _ us hl => match us, hl with | [_], _ => rfl
  have F_is_from := fun_mk (st := s_is_from) l_is_from c_is_from k_is_from
  have b_is_from := F_is_from.binds (ps := ["value", "low"]) fun _ _ _ _ _ _ us hl => match us, hl with | [_, _], _ => rfl
  have F_is_between := fun_mk (st := s_is_between) l_is_between c_is_between k_is_between
  have b_is_between := F_is_between.binds (ps := ["value", "low", "high"]) fun _ _ _ _ _ _ us hl => match us, hl with | [_, _, _], _ => rfl
  have F_check_from := fun_mk (st := s_check_from) l_check_from c_check_from k_check_from
  have b_check_from := F_check_from.binds (ps := ["value", "low"]) fun _ _ _ _ _ _ us hl => match us, hl with | [_, _], _ => rfl
  have F_check_between := fun_mk (st := s_check_between) l_check_between c_check_between k_check_between
  have b_check_between := F_check_between.binds (ps := ["value", "low", "high"]) fun _ _ _ _ _ _ us hl => match us, hl with | [_, _, _], _ => rfl
  have F_is_field := fun_mk (st := s_is_field) l_is_field c_is_field k_is_field
  have b_is_field := F_is_field.binds (ps := ["value"]) fun _ _ _ _ _ _ us hl => match us, hl with | [_], _ => rfl
  have F_check_field := fun_mk (st := s_check_field) l_check_field c_check_field k_check_field
  have b_check_field := F_check_field.binds (ps := ["q"]) fun _ _ _ _ _ _ us hl => match us, hl with | [_], _ => rfl
  have F_check_base := fun_mk (st := s_check_base) l_check_base c_check_base k_check_base
  have b_check_base := F_check_base.binds (ps := ["b"]) fun _ _ _ _ _ _ us hl => match us, hl with | [_], _ => rfl
  have F_check_numbers := fun_mk (st := s_check_numbers) l_check_numbers c_check_numbers k_check_numbers
  have b_check_numbers := F_check_numbers.binds (ps := ["numbers"]) fun _ _ _ _ _ _ us hl => match us, hl with | [_], _ => rfl
  have F_digit_sum := fun_mk (st := s_digit_sum) l_digit_sum c_digit_sum k_digit_sum
  have b_digit_sum := F_digit_sum.binds (ps := ["b", "k"]) fun _ _ _ _ _ _ us hl => match us, hl with | [_, _], _ => rfl
  have F_has_no_carries := fun_mk (st := s_has_no_carries) l_has_no_carries c_has_no_carries k_has_no_carries
  have b_has_no_carries := F_has_no_carries.binds (ps := ["b", "numbers"]) fun _ _ _ _ _ _ us hl => match us, hl with | [_, _], _ => rfl
  have F_shift_sums := fun_mk (st := s_shift_sums) l_shift_sums c_shift_sums k_shift_sums
  have b_shift_sums := F_shift_sums.binds (ps := ["q", "k"]) fun _ _ _ _ _ _ us hl => match us, hl with | [_, _], _ => rfl
  have F_most_parts := fun_mk (st := s_most_parts) l_most_parts c_most_parts k_most_parts
  have b_most_parts := F_most_parts.binds (ps := ["q", "k"]) fun _ _ _ _ _ _ us hl => match us, hl with | [_, _], _ => rfl
  have F__law_dice := fun_mk (st := s__law_dice) l__law_dice c__law_dice k__law_dice
  have b__law_dice := F__law_dice.binds (ps := ["_law_script", "_law_at"]) fun _ _ _ _ _ _ us hl => match us, hl with | [_, _], _ => rfl
  have F__law_roll := fun_mk (st := s__law_roll) l__law_roll c__law_roll k__law_roll
  have b__law_roll := F__law_roll.binds (ps := ["_law_dice_here", "_law_total"]) fun _ _ _ _ _ _ us hl => match us, hl with | [_, _], _ => rfl
  have F__law_one_of := fun_mk (st := s__law_one_of) l__law_one_of c__law_one_of k__law_one_of
  have b__law_one_of := F__law_one_of.binds (ps := ["_law_dice_here", "_law_items"]) fun _ _ _ _ _ _ us hl => match us, hl with | [_, _], _ => rfl
  have F__law_raised := fun_mk (st := s__law_raised) l__law_raised c__law_raised k__law_raised
  have b__law_raised := F__law_raised.binds (ps := ["_law_base", "_law_count"]) fun _ _ _ _ _ _ us hl => match us, hl with | [_, _], _ => rfl
  have F__law_digits := fun_mk (st := s__law_digits) l__law_digits c__law_digits k__law_digits
  have b__law_digits := F__law_digits.binds (ps := ["_law_base", "_law_number"]) fun _ _ _ _ _ _ us hl => match us, hl with | [_, _], _ => rfl
  have F__law_element_product := fun_mk (st := s__law_element_product) l__law_element_product c__law_element_product k__law_element_product
  have b__law_element_product := F__law_element_product.binds (ps := ["_law_p", "_law_f", "_law_one", "_law_other"]) fun _ _ _ _ _ _ us hl => match us, hl with | [_, _, _, _], _ => rfl
  have F__law_element_sum := fun_mk (st := s__law_element_sum) l__law_element_sum c__law_element_sum k__law_element_sum
  have b__law_element_sum := F__law_element_sum.binds (ps := ["_law_p", "_law_f", "_law_one", "_law_other"]) fun _ _ _ _ _ _ us hl => match us, hl with | [_, _, _, _], _ => rfl
  have F__law_field := fun_mk (st := s__law_field) l__law_field c__law_field k__law_field
  have b__law_field := F__law_field.binds (ps := ["_law_q_here"]) fun _ _ _ _ _ _ us hl => match us, hl with | [_], _ => rfl
  have F__law_q := fun_mk (st := s__law_q) l__law_q c__law_q k__law_q
  have b__law_q := F__law_q.binds (ps := ["_law_dice_here"]) fun _ _ _ _ _ _ us hl => match us, hl with | [_], _ => rfl
  have F__law_size := fun_mk (st := s__law_size) l__law_size c__law_size k__law_size
  have b__law_size := F__law_size.binds (ps := ["_law_q_here", "_law_most"]) fun _ _ _ _ _ _ us hl => match us, hl with | [_, _], _ => rfl
  have F__law_digit_sum := fun_mk (st := s__law_digit_sum) l__law_digit_sum c__law_digit_sum k__law_digit_sum
  have b__law_digit_sum := F__law_digit_sum.binds (ps := ["_law_base", "_law_number"]) fun _ _ _ _ _ _ us hl => match us, hl with | [_, _], _ => rfl
  have F__law_within := fun_mk (st := s__law_within) l__law_within c__law_within k__law_within
  have b__law_within := F__law_within.binds (ps := ["_law_p", "_law_k"]) fun _ _ _ _ _ _ us hl => match us, hl with | [_, _], _ => rfl
  have F__law_small_k := fun_mk (st := s__law_small_k) l__law_small_k c__law_small_k k__law_small_k
  have b__law_small_k := F__law_small_k.binds (ps := ["_law_dice_here", "_law_q_here", "_law_most"]) fun _ _ _ _ _ _ us hl => match us, hl with | [_, _, _], _ => rfl
  have F__law_great_k := fun_mk (st := s__law_great_k) l__law_great_k c__law_great_k k__law_great_k
  have b__law_great_k := F__law_great_k.binds (ps := ["_law_dice_here", "_law_field_here"]) fun _ _ _ _ _ _ us hl => match us, hl with | [_, _], _ => rfl
  have F__law_own_shifts := fun_mk (st := s__law_own_shifts) l__law_own_shifts c__law_own_shifts k__law_own_shifts
  have b__law_own_shifts := F__law_own_shifts.binds (ps := ["_law_field_here", "_law_k"]) fun _ _ _ _ _ _ us hl => match us, hl with | [_, _], _ => rfl
  have F__law_most_by_ways := fun_mk (st := s__law_most_by_ways) l__law_most_by_ways c__law_most_by_ways k__law_most_by_ways
  have b__law_most_by_ways := F__law_most_by_ways.binds (ps := ["_law_field_here", "_law_k"]) fun _ _ _ _ _ _ us hl => match us, hl with | [_, _], _ => rfl
  have F__law_parts_of := fun_mk (st := s__law_parts_of) l__law_parts_of c__law_parts_of k__law_parts_of
  have b__law_parts_of := F__law_parts_of.binds (ps := ["_law_dice_here", "_law_p", "_law_k"]) fun _ _ _ _ _ _ us hl => match us, hl with | [_, _, _], _ => rfl
  have F__law_right := fun_mk (st := s__law_right) l__law_right c__law_right k__law_right
  have b__law_right := F__law_right.binds (ps := ["_law_dice_here"]) fun _ _ _ _ _ _ us hl => match us, hl with | [_], _ => rfl
  have F_law := fun_mk (st := s_law) l_law c_law k_law
  have b_law := F_law.binds (ps := ["_law_script"]) fun _ _ _ _ _ _ us hl => match us, hl with | [_], _ => rfl
  have T : Txt K mg := { F_digit_row := F_digit_row, g_digit_row := PySem.W.mg_of X G a_digit_row, b_digit_row := b_digit_row, F_digit_total := F_digit_total, g_digit_total := PySem.W.mg_of X G a_digit_total, b_digit_total := b_digit_total, F_are_carry_free := F_are_carry_free, g_are_carry_free := PySem.W.mg_of X G a_are_carry_free, b_are_carry_free := b_are_carry_free, F_shift_sum_list := F_shift_sum_list, g_shift_sum_list := PySem.W.mg_of X G a_shift_sum_list, b_shift_sum_list := b_shift_sum_list, F_parts_bound := F_parts_bound, g_parts_bound := PySem.W.mg_of X G a_parts_bound, b_parts_bound := b_parts_bound, F_is_integer := F_is_integer, g_is_integer := PySem.W.mg_of X G a_is_integer, b_is_integer := b_is_integer, F_is_from := F_is_from, g_is_from := PySem.W.mg_of X G a_is_from, b_is_from := b_is_from, F_is_between := F_is_between, g_is_between := PySem.W.mg_of X G a_is_between, b_is_between := b_is_between, F_check_from := F_check_from, g_check_from := PySem.W.mg_of X G a_check_from, b_check_from := b_check_from, F_check_between := F_check_between, g_check_between := PySem.W.mg_of X G a_check_between, b_check_between := b_check_between, F_is_field := F_is_field, g_is_field := PySem.W.mg_of X G a_is_field, b_is_field := b_is_field, F_check_field := F_check_field, g_check_field := PySem.W.mg_of X G a_check_field, b_check_field := b_check_field, F_check_base := F_check_base, g_check_base := PySem.W.mg_of X G a_check_base, b_check_base := b_check_base, F_check_numbers := F_check_numbers, g_check_numbers := PySem.W.mg_of X G a_check_numbers, b_check_numbers := b_check_numbers, F_digit_sum := F_digit_sum, g_digit_sum := PySem.W.mg_of X G a_digit_sum, b_digit_sum := b_digit_sum, F_has_no_carries := F_has_no_carries, g_has_no_carries := PySem.W.mg_of X G a_has_no_carries, b_has_no_carries := b_has_no_carries, F_shift_sums := F_shift_sums, g_shift_sums := PySem.W.mg_of X G a_shift_sums, b_shift_sums := b_shift_sums, F_most_parts := F_most_parts, g_most_parts := PySem.W.mg_of X G a_most_parts, b_most_parts := b_most_parts, F__law_dice := F__law_dice, g__law_dice := PySem.W.mg_of X G a__law_dice, b__law_dice := b__law_dice, F__law_roll := F__law_roll, g__law_roll := PySem.W.mg_of X G a__law_roll, b__law_roll := b__law_roll, F__law_one_of := F__law_one_of, g__law_one_of := PySem.W.mg_of X G a__law_one_of, b__law_one_of := b__law_one_of, F__law_raised := F__law_raised, g__law_raised := PySem.W.mg_of X G a__law_raised, b__law_raised := b__law_raised, F__law_digits := F__law_digits, g__law_digits := PySem.W.mg_of X G a__law_digits, b__law_digits := b__law_digits, F__law_element_product := F__law_element_product, g__law_element_product := PySem.W.mg_of X G a__law_element_product, b__law_element_product := b__law_element_product, F__law_element_sum := F__law_element_sum, g__law_element_sum := PySem.W.mg_of X G a__law_element_sum, b__law_element_sum := b__law_element_sum, F__law_field := F__law_field, g__law_field := PySem.W.mg_of X G a__law_field, b__law_field := b__law_field, F__law_q := F__law_q, g__law_q := PySem.W.mg_of X G a__law_q, b__law_q := b__law_q, F__law_size := F__law_size, g__law_size := PySem.W.mg_of X G a__law_size, b__law_size := b__law_size, F__law_digit_sum := F__law_digit_sum, g__law_digit_sum := PySem.W.mg_of X G a__law_digit_sum, b__law_digit_sum := b__law_digit_sum, F__law_within := F__law_within, g__law_within := PySem.W.mg_of X G a__law_within, b__law_within := b__law_within, F__law_small_k := F__law_small_k, g__law_small_k := PySem.W.mg_of X G a__law_small_k, b__law_small_k := b__law_small_k, F__law_great_k := F__law_great_k, g__law_great_k := PySem.W.mg_of X G a__law_great_k, b__law_great_k := b__law_great_k, F__law_own_shifts := F__law_own_shifts, g__law_own_shifts := PySem.W.mg_of X G a__law_own_shifts, b__law_own_shifts := b__law_own_shifts, F__law_most_by_ways := F__law_most_by_ways, g__law_most_by_ways := PySem.W.mg_of X G a__law_most_by_ways, b__law_most_by_ways := b__law_most_by_ways, F__law_parts_of := F__law_parts_of, g__law_parts_of := PySem.W.mg_of X G a__law_parts_of, b__law_parts_of := b__law_parts_of, F__law_right := F__law_right, g__law_right := PySem.W.mg_of X G a__law_right, b__law_right := b__law_right, F_law := F_law, g_law := PySem.W.mg_of X G a_law, b_law := b_law, z_sum := PySem.W.mg_none_of X G z_sum, z_range := PySem.W.mg_none_of X G z_range, z_min := PySem.W.mg_none_of X G z_min, z_isinstance := PySem.W.mg_none_of X G z_isinstance, z_int := PySem.W.mg_none_of X G z_int, z_bool := PySem.W.mg_none_of X G z_bool, z_all := PySem.W.mg_none_of X G z_all, z_tuple := PySem.W.mg_none_of X G z_tuple, z_len := PySem.W.mg_none_of X G z_len, z_abs := PySem.W.mg_none_of X G z_abs, z_enumerate := PySem.W.mg_none_of X G z_enumerate, z_list := PySem.W.mg_none_of X G z_list, z_sorted := PySem.W.mg_none_of X G z_sorted, z_max := PySem.W.mg_none_of X G z_max, g_PRIMES := PySem.W.mg_of X G a_PRIMES, w_PRIMES := w_PRIMES, g_POWERS := PySem.W.mg_of X G a_POWERS, w_POWERS := w_POWERS, g_FIELDS := PySem.W.mg_of X G a_FIELDS, w_FIELDS := w_FIELDS, c_TOO_LONG := PySem.W.mg_of X G q_TOO_LONG, c_MOST_NUMBERS := PySem.W.mg_of X G q_MOST_NUMBERS }
  exact ⟨_, fun s v => .of_eq rfl, fun base _ _ => ok_law { F_digit_row := F_digit_row, g_digit_row := PySem.W.mg_of X G a_digit_row, b_digit_row := b_digit_row, F_digit_total := F_digit_total, g_digit_total := PySem.W.mg_of X G a_digit_total, b_digit_total := b_digit_total, F_are_carry_free := F_are_carry_free, g_are_carry_free := PySem.W.mg_of X G a_are_carry_free, b_are_carry_free := b_are_carry_free, F_shift_sum_list := F_shift_sum_list, g_shift_sum_list := PySem.W.mg_of X G a_shift_sum_list, b_shift_sum_list := b_shift_sum_list, F_parts_bound := F_parts_bound, g_parts_bound := PySem.W.mg_of X G a_parts_bound, b_parts_bound := b_parts_bound, F_is_integer := F_is_integer, g_is_integer := PySem.W.mg_of X G a_is_integer, b_is_integer := b_is_integer, F_is_from := F_is_from, g_is_from := PySem.W.mg_of X G a_is_from, b_is_from := b_is_from, F_is_between := F_is_between, g_is_between := PySem.W.mg_of X G a_is_between, b_is_between := b_is_between, F_check_from := F_check_from, g_check_from := PySem.W.mg_of X G a_check_from, b_check_from := b_check_from, F_check_between := F_check_between, g_check_between := PySem.W.mg_of X G a_check_between, b_check_between := b_check_between, F_is_field := F_is_field, g_is_field := PySem.W.mg_of X G a_is_field, b_is_field := b_is_field, F_check_field := F_check_field, g_check_field := PySem.W.mg_of X G a_check_field, b_check_field := b_check_field, F_check_base := F_check_base, g_check_base := PySem.W.mg_of X G a_check_base, b_check_base := b_check_base, F_check_numbers := F_check_numbers, g_check_numbers := PySem.W.mg_of X G a_check_numbers, b_check_numbers := b_check_numbers, F_digit_sum := F_digit_sum, g_digit_sum := PySem.W.mg_of X G a_digit_sum, b_digit_sum := b_digit_sum, F_has_no_carries := F_has_no_carries, g_has_no_carries := PySem.W.mg_of X G a_has_no_carries, b_has_no_carries := b_has_no_carries, F_shift_sums := F_shift_sums, g_shift_sums := PySem.W.mg_of X G a_shift_sums, b_shift_sums := b_shift_sums, F_most_parts := F_most_parts, g_most_parts := PySem.W.mg_of X G a_most_parts, b_most_parts := b_most_parts, F__law_dice := F__law_dice, g__law_dice := PySem.W.mg_of X G a__law_dice, b__law_dice := b__law_dice, F__law_roll := F__law_roll, g__law_roll := PySem.W.mg_of X G a__law_roll, b__law_roll := b__law_roll, F__law_one_of := F__law_one_of, g__law_one_of := PySem.W.mg_of X G a__law_one_of, b__law_one_of := b__law_one_of, F__law_raised := F__law_raised, g__law_raised := PySem.W.mg_of X G a__law_raised, b__law_raised := b__law_raised, F__law_digits := F__law_digits, g__law_digits := PySem.W.mg_of X G a__law_digits, b__law_digits := b__law_digits, F__law_element_product := F__law_element_product, g__law_element_product := PySem.W.mg_of X G a__law_element_product, b__law_element_product := b__law_element_product, F__law_element_sum := F__law_element_sum, g__law_element_sum := PySem.W.mg_of X G a__law_element_sum, b__law_element_sum := b__law_element_sum, F__law_field := F__law_field, g__law_field := PySem.W.mg_of X G a__law_field, b__law_field := b__law_field, F__law_q := F__law_q, g__law_q := PySem.W.mg_of X G a__law_q, b__law_q := b__law_q, F__law_size := F__law_size, g__law_size := PySem.W.mg_of X G a__law_size, b__law_size := b__law_size, F__law_digit_sum := F__law_digit_sum, g__law_digit_sum := PySem.W.mg_of X G a__law_digit_sum, b__law_digit_sum := b__law_digit_sum, F__law_within := F__law_within, g__law_within := PySem.W.mg_of X G a__law_within, b__law_within := b__law_within, F__law_small_k := F__law_small_k, g__law_small_k := PySem.W.mg_of X G a__law_small_k, b__law_small_k := b__law_small_k, F__law_great_k := F__law_great_k, g__law_great_k := PySem.W.mg_of X G a__law_great_k, b__law_great_k := b__law_great_k, F__law_own_shifts := F__law_own_shifts, g__law_own_shifts := PySem.W.mg_of X G a__law_own_shifts, b__law_own_shifts := b__law_own_shifts, F__law_most_by_ways := F__law_most_by_ways, g__law_most_by_ways := PySem.W.mg_of X G a__law_most_by_ways, b__law_most_by_ways := b__law_most_by_ways, F__law_parts_of := F__law_parts_of, g__law_parts_of := PySem.W.mg_of X G a__law_parts_of, b__law_parts_of := b__law_parts_of, F__law_right := F__law_right, g__law_right := PySem.W.mg_of X G a__law_right, b__law_right := b__law_right, F_law := F_law, g_law := PySem.W.mg_of X G a_law, b_law := b_law, z_sum := PySem.W.mg_none_of X G z_sum, z_range := PySem.W.mg_none_of X G z_range, z_min := PySem.W.mg_none_of X G z_min, z_isinstance := PySem.W.mg_none_of X G z_isinstance, z_int := PySem.W.mg_none_of X G z_int, z_bool := PySem.W.mg_none_of X G z_bool, z_all := PySem.W.mg_none_of X G z_all, z_tuple := PySem.W.mg_none_of X G z_tuple, z_len := PySem.W.mg_none_of X G z_len, z_abs := PySem.W.mg_none_of X G z_abs, z_enumerate := PySem.W.mg_none_of X G z_enumerate, z_list := PySem.W.mg_none_of X G z_list, z_sorted := PySem.W.mg_none_of X G z_sorted, z_max := PySem.W.mg_none_of X G z_max, g_PRIMES := PySem.W.mg_of X G a_PRIMES, w_PRIMES := w_PRIMES, g_POWERS := PySem.W.mg_of X G a_POWERS, w_POWERS := w_POWERS, g_FIELDS := PySem.W.mg_of X G a_FIELDS, w_FIELDS := w_FIELDS, c_TOO_LONG := PySem.W.mg_of X G q_TOO_LONG, c_MOST_NUMBERS := PySem.W.mg_of X G q_MOST_NUMBERS }⟩
end Own
open PySem PySem.W PyProof.Rows
set_option maxHeartbeats 0 in
theorem PySem.Challenge.cw_monicsums_k10_whole_shifts_and_most_part_holds : PySem.Challenge.rw_monicsums_k10_whole_shifts_and_most_part.Holds := by
  w_on; o_law; k_head; (case hw => w_witness2)
  k_fill
  refine L2.walk_of (l := PySem.Challenge.rw_monicsums_k10_whole_shifts_and_most_part) (n := 63) (k := 7) (x := "_law_script") (CX := fun _ => L2.CX0) (sp := fun w => Own.sp_law _) rfl (by decide) rfl ⟨rfl, by decide, by decide⟩ (fun w h Y => PySem.W.kIn_of Y) ?F (fun _ _ a ns hl _ hS => ⟨a, ns, rfl, hS, hl, fun _ => rfl⟩) (fun _ _ _ _ _ h => h)
  case F =>
    intro w mg fa h KX G hmg
    refine' Own.all_mk KX G hmg ?a_digit_row ?l_digit_row ?c_digit_row ?k_digit_row ?a_digit_total ?l_digit_total ?c_digit_total ?k_digit_total ?a_are_carry_free ?l_are_carry_free ?c_are_carry_free ?k_are_carry_free ?a_shift_sum_list ?l_shift_sum_list ?c_shift_sum_list ?k_shift_sum_list ?a_parts_bound ?l_parts_bound ?c_parts_bound ?k_parts_bound ?a_is_integer ?l_is_integer ?c_is_integer ?k_is_integer ?a_is_from ?l_is_from ?c_is_from ?k_is_from ?a_is_between ?l_is_between ?c_is_between ?k_is_between ?a_check_from ?l_check_from ?c_check_from ?k_check_from ?a_check_between ?l_check_between ?c_check_between ?k_check_between ?a_is_field ?l_is_field ?c_is_field ?k_is_field ?a_check_field ?l_check_field ?c_check_field ?k_check_field ?a_check_base ?l_check_base ?c_check_base ?k_check_base ?a_check_numbers ?l_check_numbers ?c_check_numbers ?k_check_numbers ?a_digit_sum ?l_digit_sum ?c_digit_sum ?k_digit_sum ?a_has_no_carries ?l_has_no_carries ?c_has_no_carries ?k_has_no_carries ?a_shift_sums ?l_shift_sums ?c_shift_sums ?k_shift_sums ?a_most_parts ?l_most_parts ?c_most_parts ?k_most_parts ?a__law_dice ?l__law_dice ?c__law_dice ?k__law_dice ?a__law_roll ?l__law_roll ?c__law_roll ?k__law_roll ?a__law_one_of ?l__law_one_of ?c__law_one_of ?k__law_one_of ?a__law_raised ?l__law_raised ?c__law_raised ?k__law_raised ?a__law_digits ?l__law_digits ?c__law_digits ?k__law_digits ?a__law_element_product ?l__law_element_product ?c__law_element_product ?k__law_element_product ?a__law_element_sum ?l__law_element_sum ?c__law_element_sum ?k__law_element_sum ?a__law_field ?l__law_field ?c__law_field ?k__law_field ?a__law_q ?l__law_q ?c__law_q ?k__law_q ?a__law_size ?l__law_size ?c__law_size ?k__law_size ?a__law_digit_sum ?l__law_digit_sum ?c__law_digit_sum ?k__law_digit_sum ?a__law_within ?l__law_within ?c__law_within ?k__law_within ?a__law_small_k ?l__law_small_k ?c__law_small_k ?k__law_small_k ?a__law_great_k ?l__law_great_k ?c__law_great_k ?k__law_great_k ?a__law_own_shifts ?l__law_own_shifts ?c__law_own_shifts ?k__law_own_shifts ?a__law_most_by_ways ?l__law_most_by_ways ?c__law_most_by_ways ?k__law_most_by_ways ?a__law_parts_of ?l__law_parts_of ?c__law_parts_of ?k__law_parts_of ?a__law_right ?l__law_right ?c__law_right ?k__law_right ?a_law ?l_law ?c_law ?k_law ?z_sum ?z_range ?z_min ?z_isinstance ?z_int ?z_bool ?z_all ?z_tuple ?z_len ?z_abs ?z_enumerate ?z_list ?z_sorted ?z_max ?a_PRIMES ?w_PRIMES ?a_POWERS ?w_POWERS ?a_FIELDS ?w_FIELDS ?q_TOO_LONG ?q_MOST_NUMBERS
    (case a_digit_row => k_is); (case l_digit_row => k_is); (case c_digit_row => k_is); (case k_digit_row => k_is); (case a_digit_total => k_is); (case l_digit_total => k_is); (case c_digit_total => k_is); (case k_digit_total => k_is); (case a_are_carry_free => k_is); (case l_are_carry_free => k_is); (case c_are_carry_free => k_is); (case k_are_carry_free => k_is); (case a_shift_sum_list => k_is); (case l_shift_sum_list => k_is); (case c_shift_sum_list => k_is); (case k_shift_sum_list => k_is); (case a_parts_bound => k_is); (case l_parts_bound => k_is); (case c_parts_bound => k_is); (case k_parts_bound => k_is); (case a_is_integer => k_is); (case l_is_integer => k_is); (case c_is_integer => k_is); (case k_is_integer => k_is); (case a_is_from => k_is); (case l_is_from => k_is); (case c_is_from => k_is); (case k_is_from => k_is); (case a_is_between => k_is); (case l_is_between => k_is); (case c_is_between => k_is); (case k_is_between => k_is); (case a_check_from => k_is); (case l_check_from => k_is); (case c_check_from => k_is); (case k_check_from => k_is); (case a_check_between => k_is); (case l_check_between => k_is); (case c_check_between => k_is); (case k_check_between => k_is); (case a_is_field => k_is); (case l_is_field => k_is); (case c_is_field => k_is); (case k_is_field => k_is); (case a_check_field => k_is); (case l_check_field => k_is); (case c_check_field => k_is); (case k_check_field => k_is); (case a_check_base => k_is); (case l_check_base => k_is); (case c_check_base => k_is); (case k_check_base => k_is); (case a_check_numbers => k_is); (case l_check_numbers => k_is); (case c_check_numbers => k_is); (case k_check_numbers => k_is); (case a_digit_sum => k_is); (case l_digit_sum => k_is); (case c_digit_sum => k_is); (case k_digit_sum => k_is); (case a_has_no_carries => k_is); (case l_has_no_carries => k_is); (case c_has_no_carries => k_is); (case k_has_no_carries => k_is); (case a_shift_sums => k_is); (case l_shift_sums => k_is); (case c_shift_sums => k_is); (case k_shift_sums => k_is); (case a_most_parts => k_is); (case l_most_parts => k_is); (case c_most_parts => k_is); (case k_most_parts => k_is); (case a__law_dice => k_is); (case l__law_dice => k_is); (case c__law_dice => k_is); (case k__law_dice => k_is); (case a__law_roll => k_is); (case l__law_roll => k_is); (case c__law_roll => k_is); (case k__law_roll => k_is); (case a__law_one_of => k_is); (case l__law_one_of => k_is); (case c__law_one_of => k_is); (case k__law_one_of => k_is); (case a__law_raised => k_is); (case l__law_raised => k_is); (case c__law_raised => k_is); (case k__law_raised => k_is); (case a__law_digits => k_is); (case l__law_digits => k_is); (case c__law_digits => k_is); (case k__law_digits => k_is); (case a__law_element_product => k_is); (case l__law_element_product => k_is); (case c__law_element_product => k_is); (case k__law_element_product => k_is); (case a__law_element_sum => k_is); (case l__law_element_sum => k_is); (case c__law_element_sum => k_is); (case k__law_element_sum => k_is); (case a__law_field => k_is); (case l__law_field => k_is); (case c__law_field => k_is); (case k__law_field => k_is); (case a__law_q => k_is); (case l__law_q => k_is); (case c__law_q => k_is); (case k__law_q => k_is); (case a__law_size => k_is); (case l__law_size => k_is); (case c__law_size => k_is); (case k__law_size => k_is); (case a__law_digit_sum => k_is); (case l__law_digit_sum => k_is); (case c__law_digit_sum => k_is); (case k__law_digit_sum => k_is); (case a__law_within => k_is); (case l__law_within => k_is); (case c__law_within => k_is); (case k__law_within => k_is); (case a__law_small_k => k_is); (case l__law_small_k => k_is); (case c__law_small_k => k_is); (case k__law_small_k => k_is); (case a__law_great_k => k_is); (case l__law_great_k => k_is); (case c__law_great_k => k_is); (case k__law_great_k => k_is); (case a__law_own_shifts => k_is); (case l__law_own_shifts => k_is); (case c__law_own_shifts => k_is); (case k__law_own_shifts => k_is); (case a__law_most_by_ways => k_is); (case l__law_most_by_ways => k_is); (case c__law_most_by_ways => k_is); (case k__law_most_by_ways => k_is); (case a__law_parts_of => k_is); (case l__law_parts_of => k_is); (case c__law_parts_of => k_is); (case k__law_parts_of => k_is); (case a__law_right => k_is); (case l__law_right => k_is); (case c__law_right => k_is); (case k__law_right => k_is); (case a_law => k_is); (case l_law => k_is); (case c_law => k_is); (case k_law => k_is); (case z_sum => k_is); (case z_range => k_is); (case z_min => k_is); (case z_isinstance => k_is); (case z_int => k_is); (case z_bool => k_is); (case z_all => k_is); (case z_tuple => k_is); (case z_len => k_is); (case z_abs => k_is); (case z_enumerate => k_is); (case z_list => k_is); (case z_sorted => k_is); (case z_max => k_is); (case a_PRIMES => k_is); (case w_PRIMES => kernel_rfl); (case a_POWERS => k_is); (case w_POWERS => kernel_rfl); (case a_FIELDS => k_is); (case w_FIELDS => kernel_rfl); (case q_TOO_LONG => k_is); (case q_MOST_NUMBERS => k_is)
#print axioms PySem.Challenge.cw_monicsums_k10_whole_shifts_and_most_part_holds
