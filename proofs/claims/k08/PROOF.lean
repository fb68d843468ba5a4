import PyProof.Rows.All
import Wide.All
import OpenK.AllK
import Wide.FinOn
import HandS.ForMost
import HandS.Wide
import HandS.TupMul
import HandS.TupAny
import HandS.Style
import HandS.Evl
import HandS.IsInst
import PySem.Challenge.RW_monicsums_k08_whole_digits_and_carries_b
set_option Elab.async false
set_option linter.all false
set_option maxRecDepth 100000
set_option maxHeartbeats 4000000
set_option autoImplicit true
/-! own rules: powers of wide bases, sum of a tuple, tuple * 0 and * 1, tuple[::-1] -/
namespace Own
open PySem PySem.Spec PyProof.Rows L2

def CPowW (i j : Int) : Prop := 0 ≤ j ∧ j ≤ 1000 ∧ i.natAbs < 2 ^ 1000
section
variable {X : Cx}
theorem op_powW : OpR X (binaryOp .Pow) (rI CPowW fun i j => .int (i ^ j.toNat)) := opI fun i j _ _ _ _ _ hc q => by
  refine pow_int hc.1 ?_ q
  have h1 := PySem.Flt.log2_lt_of (by decide : 0 < 1000) hc.2.2
  have b : Builtin.Int.intBits i ≤ i.natAbs.log2 + 1 := by
    unfold Builtin.Int.intBits
    split <;> omega
  have h2 := hc.2.1
  have h0 := hc.1
  have h3 : ((Builtin.Int.intBits i : Nat) : Int) ≤ 1001 := by omega
  have h4 : ((Builtin.Int.intBits i : Nat) : Int) * j ≤ 1001 * j := Int.mul_le_mul_of_nonneg_right h3 h0
  omega

/-! sum of a tuple of ints -/
def rSumT (K : PySem.W.Frag) : List V → Hp → VK → Prop := fun vs H Q => ∃ (a : Addr) (ns : List Int), vs = [V.ref a] ∧ SqT K H a (ns.map V.int) ∧ Q (.int ns.sum) H
end
section
variable {prog : Program} {w : World} {A : Around} {E : Value → Shared → Prop} {s : Shared} {l : Addr} {its : List Value} {ns : List Int} {Q : Value → Shared → Prop}
theorem iter_intTup {xs : Array (Int × Tok)} {Q : Value → Shared → Prop} (hl : s.heap.IsTuple l (intItems xs))
    (h : ∀ s₂ : Shared, s₂ = { s with heap := s.heap.push { cls := .type "tuple_iterator", data := .fields #[.ref l, .int 0 0] } } →
      (s₂.heap.IsTupleIter s.heap.objs.size l 0 ∧ s₂.heap.IsTuple l (intItems xs)) → (∀ b ∈ [s.heap.objs.size, l], b < s₂.heap.objs.size) → l ≠ s.heap.objs.size → Q (.ref s.heap.objs.size) s₂) :
    wpAny (model prog w) A (pyIter (.ref l)) Q E s := by
  have hlt : l < s.heap.objs.size := by obtain ⟨_, e, _⟩ := hl; exact Heap.lt_size e
  refine wpAny_pyIter_tuple hl (h _ rfl ⟨⟨_, Heap.get?_push_size _ rfl, rfl, rfl⟩, hl.push _⟩ (fun b hb => ?_) (Nat.ne_of_lt hlt))
  show b < (s.heap.push _).objs.size
  rw [Heap.size_push]
  rcases List.mem_cons.mp hb with rfl | hb
  · exact Nat.lt_succ_self _
  · rcases List.mem_cons.mp hb with rfl | hb
    · exact Nat.lt_succ_of_lt hlt
    · cases hb
theorem old_keptT {h' : Heap} (hk : ∀ b o, b ∉ [s.heap.objs.size] → (s.heap.push { cls := .type "tuple_iterator", data := .fields #[.ref l, .int 0 0] }).get? b = some o → h'.get? b = some o) :
    ∀ b o, s.heap.get? b = some o → h'.get? b = some o := fun b o e => by
  refine hk b o (fun hm => ?_) (Heap.get?_push_of_some _ e)
  rcases List.mem_cons.mp hm with e1 | hm
  · exact absurd (e1 ▸ Heap.lt_size e) (Nat.lt_irrefl _)
  · cases hm
theorem sum_intTup {xs : Array (Int × Tok)} {Q : Value → Shared → Prop} (hh : A.handled = none) (hl : s.heap.IsTuple l (intItems xs))
    (h : ∀ h' tk t', (∀ b o, s.heap.get? b = some o → h'.get? b = some o) → Q (.int (preSum (numAt xs) xs.size) t') { s with heap := h', toks := tk }) :
    wpAny (model prog w) A (call (.builtin "sum") [.ref l]) Q E s := by
  refine call_sum_walkG (iter_intTup hl fun s₂ e st hfp hlI => ?_)
  subst e
  refine ⟨_, _, _, _, _, _, numAt xs, rfl, Walks.tuple (A := A.in1) hh _ l hlI (intItems xs), st, hfp, (fun _ _ => intItems_at), fun h' tk t' hk => ?_⟩
  have := h h' tk t' (old_keptT hk)
  simpa [intItems] using this
theorem sum_rawT (hh : A.handled = none) (hl : s.heap.IsTuple l its.toArray) (hi : IntsAre its ns)
    (h : ∀ h' tk t', (∀ b o, s.heap.get? b = some o → h'.get? b = some o) → Q (.int ns.sum t') { s with heap := h', toks := tk }) : wpAny (model prog w) A (call (.builtin "sum") [.ref l]) Q E s := by
  obtain ⟨xs, e⟩ := hi.allInts.items
  have hn : numsOf (intItems xs).toList = ns := by rw [← e]; exact hi.numsOf
  rw [nums_intItems] at hn
  rw [e] at hl
  refine sum_intTup hh hl fun h' tk t' hk => ?_
  have := h h' tk t' hk
  rw [preSum_eq, List.take_of_length_le (by simp), hn]; exact this
end
section
variable {X : Cx}
theorem cr_sumT (hc : X.calm = true) : CallR X (.builtin "sum") (rSumT X.K) := by
  intro pins s σ H vs us Q I r h
  obtain ⟨a, ns, rfl, hs, q⟩ := h
  obtain ⟨its, rv, hl, _⟩ := I.tuple hs
  rw [Vals.ref1 r]
  exact sum_rawT (I.ok.hd hc) hl rv.ints fun h' tk t' hk => ⟨.int _, H, I.kept hk, ⟨_, rfl⟩, q⟩
end

/-! tuple * k for k = 0 and k = 1 -/
theorem tuple_mul1 (l : Addr) (items : Array Value) (n : Nat) (dd : Option Addr) (sl : Array (Option Value)) (u : Tok) :
    Meets (Builtin.«tuple.__mul__» ⟨[.ref l, .int 1 u], []⟩) (fun _ R s => s.heap.get? l = some { cls := .type "tuple", dict := dd, data := .seq items n, slots := sl } ∧
      R (.ok (.ret (Value.ref l))) s) :=
  .of_wp fun prog w A R s h => by
    obtain ⟨hp, g, d, tk, os⟩ := s
    obtain ⟨hl, h⟩ := h
    have f1 := AutoSeq1.idx_int
    wp_walk using wpAny_loadPart' hl
    repeat (first
      | (refine wpAny_ite_false (by decide) ?_; wp_walk using wpAny_loadPart' hl)
      | (refine wpAny_ite_true (by rw [Bool.or_eq_true]; exact Or.inr rfl) ?_; wp_walk using wpAny_loadPart' hl)
      | (refine wpAny_ite_true (by simp) ?_; wp_walk using wpAny_loadPart' hl))
    exact ⟨_, rfl, h⟩
theorem tuple_mul0 (l : Addr) (items : Array Value) (n : Nat) (dd : Option Addr) (sl : Array (Option Value)) (u : Tok) (hn : items.isEmpty = false) :
    Meets (Builtin.«tuple.__mul__» ⟨[.ref l, .int 0 u], []⟩) (fun _ R s => s.heap.get? l = some { cls := .type "tuple", dict := dd, data := .seq items n, slots := sl } ∧
      R (.ok (.ret (Value.ref s.heap.objs.size))) { s with heap := s.heap.push { cls := Value.type "tuple", data := Data.seq #[] }, toks := s.toks }) :=
  .of_wp fun prog w A R s h => by
    obtain ⟨hp, g, d, tk, os⟩ := s
    obtain ⟨hl, h⟩ := h
    have f1 := AutoSeq1.idx_int
    wp_walk using wpAny_loadPart' hl
    repeat (first
      | (refine wpAny_ite_false (by decide) ?_; wp_walk using wpAny_loadPart' hl)
      | (refine wpAny_ite_false (by rw [hn]; decide) ?_; wp_walk using wpAny_loadPart' hl)
      | (refine wpAny_ite_true (by decide) ?_; wp_walk using wpAny_loadPart' hl)
      | (refine wpAny_ite_true (by rw [Bool.or_eq_true]; exact Or.inl rfl) ?_; wp_walk using wpAny_loadPart' hl)
      | (refine wpAny_ite_false (decide_eq_false (Nat.not_lt.mpr (Nat.zero_le _))) ?_; wp_walk using wpAny_loadPart' hl))
    exact ⟨_, rfl, h⟩
def rRepU (K : PySem.W.Frag) : R2 := fun x y H Q => ∃ l k xs, x = .ref l ∧ y = .int k ∧ SqT K H l xs ∧ xs ≠ [] ∧ 0 ≤ k ∧ k ≤ 1000 ∧ xs.length ≤ 1000 ∧ ∀ p H', Evl.Ex H H' → SqT K H' p (List.replicate k.toNat xs).flatten → Q (.ref p) H'
section
variable {X : Cx}
theorem op_repU : OpR X (binaryOp .Mult) (rRepU X.K) := by
  intro pins s σ H x y v u Q I rx ry h
  obtain ⟨l, k, xs, ex, ey, hT, hne, h1, h2, hz, q⟩ := h
  by_cases h22 : 2 ≤ k
  · exact op_repT pins s σ H x y v u Q I rx ry ⟨l, k, xs, ex, ey, hT, hne, h22, h2, hz, fun p hp => q p _ (Evl.Ex.new hp) (SqT.of upd_same)⟩
  · subst ex ey
    cases rx
    obtain ⟨t, rfl⟩ := ry
    obtain ⟨its, r, ⟨⟨cls, dd, data, sl⟩, ho, hc, n, hd⟩, hs⟩ := I.tuple hT
    simp only at hc hd
    subst hc hd
    have hle : its.length = xs.length := r.length.symm
    have hi : its.toArray.isEmpty = false := by
      cases its with
      | nil => exact absurd (List.eq_nil_of_length_eq_zero hle.symm) hne
      | cons a b => rfl
    by_cases h1k : k = 1
    · subst h1k
      refine wpAny_binaryOp_repeat_ref (T := "tuple") (U := "int") (by decide) ⟨_, ho, rfl⟩ (fun s' => typeIs_int s' 1 t) noFill_tuple_mul F.fills_int_mul F.slot_int_rmul repeat_tuple F.slot_int_index.lookup
        (call_meets F.slot_int_rmul (typeIs_int s 1 t) F.entry_int_rmul (F.args_int_rmul_2 _ _) (int_rmul_tuple 1 t l its.toArray n dd sl)
          ⟨ho, rfl, ⟨_, ho, rfl⟩, call_meets F.slot_tuple_mul ⟨_, ho, rfl⟩ F.entry_tuple_mul (F.args_tuple_mul_2 _ _) (tuple_mul1 l its.toArray n dd sl t) ⟨ho, ?_⟩⟩)
      refine ⟨.ref l, H, I.tok _, rfl, q l H (Evl.Ex.refl H) ?_⟩
      show SqT X.K H l (List.replicate 1 xs).flatten
      rw [List.replicate_one, List.flatten_singleton]
      exact hT
    · have h0k : k = 0 := by omega
      subst h0k
      refine wpAny_binaryOp_repeat_ref (T := "tuple") (U := "int") (by decide) ⟨_, ho, rfl⟩ (fun s' => typeIs_int s' 0 t) noFill_tuple_mul F.fills_int_mul F.slot_int_rmul repeat_tuple F.slot_int_index.lookup
        (call_meets F.slot_int_rmul (typeIs_int s 0 t) F.entry_int_rmul (F.args_int_rmul_2 _ _) (int_rmul_tuple 0 t l its.toArray n dd sl)
          ⟨ho, rfl, ⟨_, ho, rfl⟩, call_meets F.slot_tuple_mul ⟨_, ho, rfl⟩ F.entry_tuple_mul (F.args_tuple_mul_2 _ _) (tuple_mul0 l its.toArray n dd sl t hi) ⟨ho, ?_⟩⟩)
      have hf := I.hok.fresh (Nat.le_refl s.heap.objs.size)
      refine ⟨.ref s.heap.objs.size, _, I.laid (t' := s.toks) (o := .tup []) (fun b ob q => Heap.get?_push_of_some _ q) (Nat.le_refl _) ?_, rfl, q _ _ (Evl.Ex.new hf) (SqT.of upd_same)⟩
      exact ⟨Nat.zero_le _, [], .nil, IsTup.new _ _⟩

/-! tuple[::-1] -/
def tRevT (K : PySem.W.Frag) (te : TE) : TE := fun σ H Q => te σ H fun x H1 => ∃ a xs, x = .ref a ∧ SqT K H1 a xs ∧ ∀ p, H1 p = none → Q (.ref p) (upd H1 p (.tup xs.reverse))
end
theorem rev_adjust (n : Nat) : Builtin.Slice.sliceAdjust none none (-1) (n : Int) = ((n : Int) - 1, -1) := by
  first
  | rfl
  | simp [Builtin.Slice.sliceAdjust]
theorem rev_places (n : Nat) : Builtin.Slice.slicePlaces ((n : Int) - 1) (-1) (-1) = n := by
  unfold Builtin.Slice.slicePlaces
  have h1 : ¬ ((-1 : Int) > 0) := by decide
  have h2 : (- -1 : Int) = 1 := by decide
  simp only [h1, if_false, h2, Int.ediv_one]
  split <;> omega
theorem rev_pick (xs : Array Value) : ((List.range xs.size).filterMap fun (m : Nat) => xs[(((xs.size : Int) - 1) + (m : Int) * (-1)).toNat]?).toArray = xs.toList.reverse.toArray := by
  have e : (fun (m : Nat) => xs[(((xs.size : Int) - 1) + (m : Int) * (-1)).toNat]?) = fun m => xs[xs.size - 1 - m]? := by
    funext m
    have : (((xs.size : Int) - 1) + (m : Int) * (-1)).toNat = xs.size - 1 - m := by omega
    rw [this]
  rw [e]
  have h := PySem.W.krv_all xs
  have h2 : (List.range xs.size).filterMap (fun m => xs[xs.size - 1 - m]?) = ((List.range xs.size).map fun k => xs.size - 1 - k).filterMap (xs[·]?) := by
    rw [List.filterMap_map]
    rfl
  rw [h2, PySem.W.krv_range, List.filterMap_reverse, h]
section
variable {prog : Program} {w : World} {A : Around} {E : Value → Shared → Prop} {s : Shared}
theorem sliceApplied_rev {sl : Addr} {vl vu vs : Value} {n : Nat} {Q : Int × Int × Nat → Shared → Prop} (hs : s.heap.IsSliceOf sl vl vu vs) (pl : IsPart vl none) (pu : IsPart vu none) (ps : IsPart vs (some (-1)))
    (h : Q ((n : Int) - 1, -1, n) s) : wpAny (model prog w) A (Builtin.Slice.sliceApplied (.ref sl) (pure (n : Int))) Q E s := by
  obtain ⟨os, hos, hcs, hds⟩ := id hs
  unfold Builtin.Slice.sliceApplied Builtin.Slice.sliceFields
  refine wpAny_bind (wpAny_bind (wpAny_field hos hds (x := vl) rfl (wpAny_bind (wpAny_field hos hds (x := vu) rfl (wpAny_bind (wpAny_field hos hds (x := vs) rfl (wpAny_pure ?_)))))))
  refine wpAny_bind (HT.slicePart_ ps ?_)
  show wpAny _ _ (if ((-1 : Int) == 0) = true then _ else _) _ _ s
  rw [if_neg (by decide)]
  refine wpAny_bind (HT.slicePart_ pl (wpAny_bind (HT.slicePart_ pu (wpAny_bind (wpAny_pure ?_)))))
  show wpAny _ _ (match Builtin.Slice.sliceAdjust none none (-1) (n : Int) with | (lo, hi) => pure (lo, (-1 : Int), Builtin.Slice.slicePlaces lo hi (-1))) _ _ s
  rw [rev_adjust n]
  show wpAny _ _ (pure ((n : Int) - 1, (-1 : Int), Builtin.Slice.slicePlaces ((n : Int) - 1) (-1) (-1))) _ _ s
  rw [rev_places]
  exact wpAny_pure h
theorem getItem_tuple_rev {t sl : Addr} {items : Array Value} {vl vu vs : Value} {Q : Value → Shared → Prop} (ht : IsTup s.heap t items) (hs : s.heap.IsSliceOf sl vl vu vs) (pl : IsPart vl none) (pu : IsPart vu none) (ps : IsPart vs (some (-1)))
    (h : Q (.ref s.heap.objs.size) { s with heap := s.heap.push { cls := .type "tuple", data := .seq items.toList.reverse.toArray } })
    (hsz : items.size ≤ sizeLine) : wpAny (model prog w) A (getItem (.ref t) (.ref sl)) Q E s := by
  have htake : sizeOk (.seq items.toList.reverse.toArray) := by
    show items.toList.reverse.toArray.size ≤ sizeLine
    rw [List.size_toArray, List.length_reverse, Array.length_toList]
    exact hsz
  obtain ⟨os, hos, hcs, hds⟩ := id hs
  have hTs : s.TypeIs (.ref sl) "slice" := ⟨os, hos, hcs⟩
  unfold getItem
  try with_reducible refine wpAny_holding ?_
  first | refine wpAny_bind (wpAny_pure ?_) | skip
  refine wpAny_bind (wpAny_sequenceKey ht.typeIs (by decide) ?_)
  refine wpAny_bind (wpAny_callSpecial?_slot (name := Str.ofString "__getitem__") ht.typeIs PyProof.Rows.slot_tuple_getitem
    (wpAny_call_entry PyProof.Rows.slot_tuple_getitem ht.typeIs entry_tuple_getitem ?_ (args_tuple_getitem _ _)))
  show wpAny _ _ (Builtin.Tuple.tupleItemsOf (.ref t) >>= _) _ _ s
  refine wpAny_bind (tupleItemsOf_ ht ?_)
  refine wpAny_bind (wpAny_typeOf hTs ?_)
  rw [if_pos (by decide)]
  refine wpAny_bind (sliceApplied_rev hs pl pu ps ?_)
  have hno : ¬ ((((items.size : Int) - 1) == 0 && (-1 : Int) == 1 && items.size == items.size) = true) := by
    rw [show ((-1 : Int) == 1) = false from rfl, Bool.and_false, Bool.false_and]
    decide
  show wpAny _ _ (if ((((items.size : Int) - 1) == 0 && (-1 : Int) == 1 && items.size == items.size) = true) then _ else _) _ _ s
  rw [if_neg hno, rev_pick]
  first
    | exact wpAny_bind (m := Builtin.Tuple.tupleExact _) (wpAny_newObj_type (wpAny_pure ⟨_, rfl, wpAny_pure h⟩) htake)
    | exact wpAny_bind (m := Builtin.Tuple.tupleExact _) (wpAny_newObj_type (wpAny_bind (wpAny_pure (wpAny_pure ⟨_, rfl, wpAny_pure h⟩))) htake)
    | exact wpAny_bind (wpAny_bind (m := Builtin.Tuple.tupleExact _) (wpAny_newObj_type (wpAny_pure (wpAny_pure ⟨_, rfl, wpAny_pure h⟩)) htake))
    | exact wpAny_bind (wpAny_bind (m := Builtin.Tuple.tupleExact _) (wpAny_newObj_type (wpAny_pure ⟨_, rfl, wpAny_pure h⟩) htake))
end
section
variable {X : Cx}
theorem pe_revT {e : Expr} {te : TE} {k : Nat} {p1 p2 p3 pos : Pos} (he : PE X e te) : PE X (.Subscript e (.Slice none none (some (.UnaryOp .USub (.Constant (.int 1) k p1) p2)) p3) pos) (tRevT X.K te) := by
  refine ⟨fun pins s σ H Q I h => ?_⟩
  refine Subscript_ (thn (he.run pins s σ H _ I h) fun v s1 ⟨x, H1, I1, r1, q1⟩ => ?_)
  obtain ⟨a, xs, ex, hx, q⟩ := q1
  subst ex
  cases r1
  have hst : PO X (some (.UnaryOp .USub (.Constant (.int 1) k p1) p2)) (tPart (tUn (rU fun i => .int (-i)) (tC (.int 1)))) := po_some (pe_un un_neg pe_int)
  refine wpAny_Slice (thn (po_none.run pins s1 σ H1 (fun o H2 => o = none ∧ H2 = H1) I1 ⟨rfl, rfl⟩) fun vl s2 ⟨l, H2, I2, pl, el, e2⟩ => ?_)
  subst el e2
  refine thn (po_none.run pins s2 σ H2 (fun o H3 => o = none ∧ H3 = H2) I2 ⟨rfl, rfl⟩) fun vu s3 ⟨u, H3, I3, pu, eu, e3⟩ => ?_
  subst eu e3
  refine thn (hst.run pins s3 σ H3 (fun o H4 => o = some (-1) ∧ H4 = H3) I3 ⟨1, rfl, -1, rfl, rfl, rfl⟩) fun vs s4 ⟨o, H4, I4, ps, eo, e4⟩ => ?_
  subst eo e4
  have I5 : Inv X pins σ H4 { s4 with heap := s4.heap.push { cls := .type "slice", data := .fields #[vl, vu, vs] } } := I4.kept (t' := s4.toks) fun b ob q => Heap.get?_push_of_some _ q
  obtain ⟨its, r, ht, hz⟩ := I5.tuple hx
  have hlen := r.length
  show wpAny (model X.prog X.w) X.A (subscriptTail e (.Slice none none (some (.UnaryOp .USub (.Constant (.int 1) k p1) p2)) p3) (.ref a) (.ref s4.heap.objs.size)) (EP X pins σ Q) X.xe { s4 with heap := s4.heap.push { cls := .type "slice", data := .fields #[vl, vu, vs] } }
  refine tail_any (ops := [.ref a, .ref s4.heap.objs.size]) ht.typeIs PyProof.Rows.slot_tuple_getitem.lookup ?_ (by with_unfolding_all rfl)
  refine getItem_tuple_rev ht (Heap.IsSliceOf.new _ vl vu vs) pl pu ps ?_ (by rw [List.size_toArray]; omega)
  refine ⟨.ref _, _, I5.laid (t' := s4.toks) (o := .tup xs.reverse) (fun b ob q => Heap.get?_push_of_some _ q) (Nat.le_refl _) ?_, rfl, q _ (I5.hok.fresh (Nat.le_refl _))⟩
  exact ⟨by rw [List.length_reverse]; exact hz, _, r.reverse, IsTup.new _ _⟩
end
end Own
/-! own words over HandS.Evl: built-in calls, tuples walked, chains, promises of new tuples -/
namespace Own
open PySem PySem.Spec PyProof.Rows L2 Evl
section
variable {K : PySem.W.Frag} {σ : L2.St} {H H' : Hp} {ta tb te tx : TE} {t u : TT} {x y z v : V}
theorem rc_abs {i : Int} : RC (fun xs H Q => ∃ i, xs = [V.int i] ∧ Q (.int (if i < 0 then -i else i)) H) [.int i] H (.int (if i < 0 then -i else i)) := fun H1 _ _ q => ⟨i, rfl, q H1 (Ex.refl H1)⟩
theorem rc_int {i : Int} : RC (fun xs H Q => (∃ i, xs = [V.int i] ∧ Q (.int i) H) ∨ ∃ k, xs = [V.bl k] ∧ Q (.int (if k then 1 else 0)) H) [.int i] H (.int i) := fun H1 _ _ q => .inl ⟨i, rfl, q H1 (Ex.refl H1)⟩
theorem rc_intB {k : Bool} : RC (fun xs H Q => (∃ i, xs = [V.int i] ∧ Q (.int i) H) ∨ ∃ k, xs = [V.bl k] ∧ Q (.int (if k then 1 else 0)) H) [.bl k] H (.int (if k then 1 else 0)) := fun H1 _ _ q => .inr ⟨k, rfl, q H1 (Ex.refl H1)⟩
theorem rc_max2 {i j : Int} : RC (fun xs H Q => ∃ i j, xs = [V.int i, V.int j] ∧ Q (.int (if j > i then j else i)) H) [.int i, .int j] H (.int (if j > i then j else i)) := fun H1 _ _ q => ⟨i, j, rfl, q H1 (Ex.refl H1)⟩
theorem rc_min2 {i j : Int} : RC (fun xs H Q => ∃ i j, xs = [V.int i, V.int j] ∧ Q (.int (if j < i then j else i)) H) [.int i, .int j] H (.int (if j < i then j else i)) := fun H1 _ _ q => ⟨i, j, rfl, q H1 (Ex.refl H1)⟩
abbrev rLenQ (K : PySem.W.Frag) : List V → Hp → VK → Prop := fun xs H Q => ∃ p ys, xs = [.ref p] ∧ (SqL K H p ys ∨ SqT K H p ys) ∧ Q (.int ys.length) H
theorem rc_lenL {a : Addr} {xs : List V} (h : SqL K H a xs) : RC (rLenQ K) [.ref a] H (.int xs.length) := fun H1 e _ q => ⟨a, xs, rfl, .inl (ex_l e h), q H1 (Ex.refl H1)⟩
theorem rc_lenT {a : Addr} {xs : List V} (h : SqT K H a xs) : RC (rLenQ K) [.ref a] H (.int xs.length) := fun H1 e _ q => ⟨a, xs, rfl, .inr (ex_t e h), q H1 (Ex.refl H1)⟩
theorem rc_sumL {a : Addr} {ns : List Int} (h : SqL K H a (ns.map V.int)) : RC (rSum K) [.ref a] H (.int ns.sum) := fun H1 e _ q => ⟨a, ns, rfl, ex_l e h, q H1 (Ex.refl H1)⟩
theorem rc_sumT {a : Addr} {ns : List Int} (h : SqT K H a (ns.map V.int)) : RC (rSumT K) [.ref a] H (.int ns.sum) := fun H1 e _ q => ⟨a, ns, rfl, ex_t e h, q H1 (Ex.refl H1)⟩
theorem ev_sumN {ns : List Int} (h : EvL ta σ H (ns.map V.int)) : Ev (tCB (rSum K) (tCons ta tNil)) σ H (.int ns.sum) := fun H1 e _ q =>
  h H1 e _ fun p H2 _ e2 h2 => ⟨p, ns, rfl, sq_of h2, q H2 e2⟩
theorem ev_allN {bs : List Bool} (h : EvL ta σ H (bs.map V.bl)) : Ev (tCB (rAll K) (tCons ta tNil)) σ H (.bl (bs.all id)) := fun H1 e _ q =>
  h H1 e _ fun p H2 _ e2 h2 => ⟨p, bs, rfl, sq_of h2, q H2 e2⟩
theorem tyx_tup {a : Addr} {xs : List V} (h : SqT K H a xs) : TyX K H (.ref a) (.type "tuple") := by
  rcases h with (h | ⟨o, h⟩) | ⟨o, its, n, e, c, _⟩
  · exact .base (.tup h)
  · exact .fTuple h
  · exact .kTuple e c
theorem tyx_ex {x : V} {t : Value} (e : Ex H H') (h : TyX K H x t) : TyX K H' x t := by
  cases h with
  | base h =>
    refine .base ?_
    cases h with
    | non => exact .non
    | bl x => exact .bl x
    | int i => exact .int i
    | str x => exact .str x
    | flt x => exact .flt x
    | lst q => exact .lst (e _ _ q)
    | frz q => exact .frz (e _ _ q)
    | tup q => exact .tup (e _ _ q)
    | dK q => exact .dK (e _ _ q)
    | dT q => exact .dT (e _ _ q)
    | ins q a b c d f => exact .ins (e _ _ q) a b c d f
  | byt b => exact .byt b
  | set q => exact .set (e _ _ q)
  | kList a b => exact .kList a b
  | kTuple a b => exact .kTuple a b
  | kDict a b => exact .kDict a b
  | fTuple q => exact .fTuple (e _ _ q)
  | fDict q => exact .fDict (e _ _ q)
theorem rc_isi {x : V} {t : Value} {n : String} {b : Bool} (h : TyX K H x t) (hk : PySem.W.kitOne K t (.type n) = some b) : RC (rIsi K) [x, .ty n] H (.bl b) := fun H1 e _ q =>
  ⟨x, .ty n, t, .type n, b, rfl, .ty n, tyx_ex e h, hk, q H1 (Ex.refl H1)⟩
theorem ev_chain {r r' : R2} {a b : Bool} {tc : TE} (ha : Ev ta σ H x) (hb : Ev tb σ H y) (hr : RV r x y H (.bl a)) (hc : a = true → Ev tc σ H z) (hr' : a = true → RV r' y z H (.bl b)) : Ev (tChain r r' ta tb tc) σ H (.bl (a && b)) := fun H1 e Q q =>
  ha H1 e _ fun H2 e2 => hb H2 (e.trans e2) _ fun H3 e3 => hr H3 ((e.trans e2).trans e3) _ fun H4 e4 => ⟨a, rfl, by
    cases a with
    | true => exact iteT (hc rfl H4 (((e.trans e2).trans e3).trans e4) _ fun H5 e5 => hr' rfl H5 ((((e.trans e2).trans e3).trans e4).trans e5) Q fun H6 e6 => q H6 ((((e2.trans e3).trans e4).trans e5).trans e6))
    | false => exact iteF (q H4 ((e2.trans e3).trans e4))⟩
/-- tuple(..) of a new list -/
abbrev rTupQ (K : PySem.W.Frag) : List V → Hp → VK → Prop := fun xs H Q => ∃ p ys, xs = [.ref p] ∧ ((SqL K H p ys ∧ ∀ l, H l = none → Q (.ref l) (upd H l (.tup ys))) ∨ (SqT K H p ys ∧ Q (.ref p) H))
theorem eu_tupleN {xs : List V} (h : EvL ta σ H xs) : EvU (tCB (rTupQ K) (tCons ta tNil)) σ H xs := fun H1 e Q q =>
  h H1 e _ fun p H2 _ e2 h2 => ⟨p, xs, rfl, .inl ⟨sq_of h2, fun l hl => q l _ (fresh_back e2 hl) (e2.trans (Ex.new hl)) upd_same⟩⟩
theorem eu_tupleL {a : Addr} {xs : List V} (h : Ev ta σ H (.ref a)) (hx : SqL K H a xs) : EvU (tCB (rTupQ K) (tCons ta tNil)) σ H xs := fun H1 e Q q =>
  h H1 e _ fun H2 e2 => ⟨a, xs, rfl, .inl ⟨ex_l (e.trans e2) hx, fun l hl => q l _ (fresh_back e2 hl) (e2.trans (Ex.new hl)) upd_same⟩⟩
abbrev rLstQ (K : PySem.W.Frag) : List V → Hp → VK → Prop := fun xs H Q => ∃ p ys, xs = [.ref p] ∧ (SqL K H p ys ∨ SqT K H p ys) ∧ ∀ l, H l = none → Q (.ref l) (upd H l (.lst ys))
theorem el_listT {a : Addr} {xs : List V} (h : Ev ta σ H (.ref a)) (hx : SqT K H a xs) : EvL (tCB (rLstQ K) (tCons ta tNil)) σ H xs := fun H1 e Q q =>
  h H1 e _ fun H2 e2 => ⟨a, xs, rfl, .inr (ex_t (e.trans e2) hx), fun l hl => q l _ (fresh_back e2 hl) (e2.trans (Ex.new hl)) upd_same⟩
theorem eu_revT {a : Addr} {xs : List V} (h : Ev ta σ H (.ref a)) (hx : SqT K H a xs) : EvU (tRevT K ta) σ H xs.reverse := fun H1 e Q q =>
  h H1 e _ fun H2 e2 => ⟨a, xs, rfl, ex_t (e.trans e2) hx, fun l hl => q l _ (fresh_back e2 hl) (e2.trans (Ex.new hl)) upd_same⟩
/-- a comprehension over a tuple -/
theorem el_lcT {a : Addr} {xs : List V} {tl : TE} {j : Nat} {vs : List Nat} (f : Nat → Bool) (v : Nat → V) (h : Ev tl σ H (.ref a)) (hx : SqT K H a xs) (hz : xs.length ≤ 40000) (hw : ∀ x, wipe ((wipe σ vs).set j (some x)) vs = wipe σ vs)
    (ht : ∀ (i : Nat) (x : V) H1, Ex H H1 → xs[i]? = some x → EvT t ((wipe σ vs).set j (some x)) H1 (f i)) (he : ∀ (i : Nat) (x : V) H1, Ex H H1 → xs[i]? = some x → f i = true → Ev te ((wipe σ vs).set j (some x)) H1 (v i)) :
    EvL (tLc (iTup K tl) (gName j) t te vs) σ H (given xs.length f v) := fun H0 e Q q => h H0 e _ fun H1 e1 => ⟨a, rfl, ⟨xs, ex_t (e.trans e1) hx⟩, fun Dl hD =>
  lc_tup (xs := xs) (Cw H1 f v Dl) ⟨hD, Ex.new hD, upd_same⟩ (fun i H' _ p => ex_t ((e.trans e1).trans p.2.1) hx) (fun i x H' hi p => ⟨hw x, cw_turn p (by have := (List.getElem?_eq_some_iff.mp hi).1; omega) (ht i x H1 (e.trans e1) hi) (fun hf => he i x H1 (e.trans e1) hi hf)⟩)
    (fun H' p => q Dl H' (fresh_back e1 p.1) (e1.trans p.2.1) p.2.2)⟩
theorem et_nil : EvT tYes σ H true := fun H1 _ _ q => q H1 (Ex.refl H1)
theorem el_is {xs ys : List V} (h : EvL te σ H xs) (e : xs = ys) : EvL te σ H ys := e ▸ h
theorem eu_is {xs ys : List V} (h : EvU te σ H xs) (e : xs = ys) : EvU te σ H ys := e ▸ h
/-- all are kept: the list is a map -/
theorem given_all {α : Type} (ys : List α) (g : α → V) (v : Nat → V) (hv : ∀ (i : Nat) (y : α), ys[i]? = some y → v i = g y) : given ys.length (fun _ => true) v = ys.map g := by
  unfold given
  rw [List.filter_eq_self.mpr (fun _ _ => rfl)]
  refine List.ext_getElem? fun i => ?_
  rw [List.getElem?_map, List.getElem?_map]
  by_cases hi : i < ys.length
  · rw [List.getElem?_range hi, List.getElem?_eq_getElem hi]
    exact congrArg some (hv i _ (List.getElem?_eq_getElem hi))
  · rw [List.getElem?_eq_none (by rw [List.length_range]; omega), List.getElem?_eq_none (by omega)]
    rfl
variable {D : Ends} {tu tw tz : TS}
/-- for x in a new tuple; the target is a name -/
theorem s_forNT {xs : List V} {tl : TE} {j : Nat} (h : EvU tl σ H xs) (Pv : Addr → Nat → L2.St → Hp → Prop) (h0 : ∀ p H1, H p = none → Ex H H1 → H1 p = some (.tup xs) → Pv p 0 σ H1) (hl : ∀ p i σ' H', i ≤ xs.length → Pv p i σ' H' → SqT K H' p xs)
    (hs : ∀ p i x σ' H', xs[i]? = some x → Pv p i σ' H' → tu { D with nx := Pv p (i + 1), ct := Pv p (i + 1), bk := D.nx } (σ'.set j (some x)) H') (hd : ∀ p σ' H', Pv p xs.length σ' H' → D.nx σ' H') : tFor (iTup K tl) (gName j) tu D σ H :=
  h H (Ex.refl H) _ fun p H1 hp e h1 => ⟨p, rfl, ⟨xs, st_of h1⟩, for_tup (Pv p) (h0 p H1 hp e h1) (hl p) (hs p) (hd p)⟩
theorem q_forNT {xs : List V} {tl : TE} {j : Nat} (h : EvU tl σ H xs) (Pv : Addr → Nat → L2.St → Hp → Prop) (h0 : ∀ p H1, H p = none → Ex H H1 → H1 p = some (.tup xs) → Pv p 0 σ H1) (hl : ∀ p i σ' H', i ≤ xs.length → Pv p i σ' H' → SqT K H' p xs)
    (hs : ∀ p i x σ' H', xs[i]? = some x → Pv p i σ' H' → tu { D with nx := Pv p (i + 1), ct := Pv p (i + 1), bk := tz D } (σ'.set j (some x)) H') (hd : ∀ p σ' H', Pv p xs.length σ' H' → tz D σ' H') : tSeq (tFor (iTup K tl) (gName j) tu) tz D σ H :=
  s_forNT (D := { D with nx := tz D }) h Pv h0 hl hs hd
theorem q_par {i j : Nat} (h : Ev ta σ H x) (h2 : Ev tb σ H y) (k : ∀ H1, Ex H H1 → tz D ((σ.set i (some x)).set j (some y)) H1) : tSeq (tPar i j (tCons ta (tCons tb tNil))) tz D σ H :=
  h H (Ex.refl H) _ fun H1 e1 => h2 H1 e1 _ fun H2 e2 => ⟨x, y, rfl, k H2 (e1.trans e2)⟩
theorem q_parL {i j : Nat} {xs : List V} (h : EvL ta σ H xs) (h2 : ∀ p H1, H p = none → Ex H H1 → H1 p = some (.lst xs) → Ev tb σ H1 y) (k : ∀ p H1, H p = none → Ex H H1 → H1 p = some (.lst xs) → tz D ((σ.set i (some (.ref p))).set j (some y)) H1) : tSeq (tPar i j (tCons ta (tCons tb tNil))) tz D σ H :=
  h H (Ex.refl H) _ fun p H1 hp e1 hx => h2 p H1 hp e1 hx H1 (Ex.refl H1) _ fun H2 e2 => ⟨.ref p, y, rfl, k p H2 hp (e1.trans e2) (e2 _ _ hx)⟩
theorem q_par3 {i j l : Nat} {tc : TE} (h : Ev ta σ H x) (h2 : Ev tb σ H y) (h3 : Ev tc σ H z) (k : ∀ H1, Ex H H1 → tz D (((σ.set i (some x)).set j (some y)).set l (some z)) H1) : tSeq (tPar3 i j l (tCons ta (tCons tb (tCons tc tNil)))) tz D σ H :=
  h H (Ex.refl H) _ fun H1 e1 => h2 H1 e1 _ fun H2 e2 => h3 H2 (e1.trans e2) _ fun H3 e3 => ⟨x, y, z, rfl, k H3 ((e1.trans e2).trans e3)⟩
theorem s_par3 {i j l : Nat} {tc : TE} (h : Ev ta σ H x) (h2 : Ev tb σ H y) (h3 : Ev tc σ H z) (k : ∀ H1, Ex H H1 → D.nx (((σ.set i (some x)).set j (some y)).set l (some z)) H1) : tPar3 i j l (tCons ta (tCons tb (tCons tc tNil))) D σ H :=
  h H (Ex.refl H) _ fun H1 e1 => h2 H1 e1 _ fun H2 e2 => h3 H2 (e1.trans e2) _ fun H3 e3 => ⟨x, y, z, rfl, k H3 ((e1.trans e2).trans e3)⟩
/-- a, b = (e1, e2) where the tuple is made: two names; a name and an item of a list -/
theorem q_tupNN {i j : Nat} (h : Ev ta σ H x) (h2 : Ev tb σ H y) (k : ∀ H1, Ex H H1 → tz D ((σ.set i (some x)).set j (some y)) H1) : tSeq (tAsg (tTup (tCons ta (tCons tb tNil))) (gTup K 2 (gCons (gName i) (gCons (gName j) gNil)))) tz D σ H :=
  h H (Ex.refl H) _ fun H1 e1 => h2 H1 e1 _ fun H2 e2 => ⟨by show 2 ≤ sizeLine; decide, fun p hp => ⟨p, [x, y], rfl, st_of upd_same, rfl, x, [y], rfl, y, [], rfl, rfl, k _ ((e1.trans e2).trans (Ex.new hp))⟩⟩
theorem s_tupNS {i j : Nat} {to ti : TE} {l : Addr} {xs : List V} (h : Ev ta σ H x) (h2 : Ev tb σ H y) (hl : H l = some (.lst xs)) (ho : Ev to (σ.set i (some x)) H (.ref l)) (hi : Ev ti (σ.set i (some x)) H (.int (j : Int))) (hj : j < xs.length)
    (k : ∀ H1, Ex H H1 → D.nx (σ.set i (some x)) (upd H1 l (.lst (xs.set j y)))) : tAsg (tTup (tCons ta (tCons tb tNil))) (gTup K 2 (gCons (gName i) (gCons (gSub to ti rSetL) gNil))) D σ H :=
  h H (Ex.refl H) _ fun H1 e1 => h2 H1 e1 _ fun H2 e2 => ⟨by show 2 ≤ sizeLine; decide, fun p hp => ⟨p, [x, y], rfl, st_of upd_same, rfl, x, [y], rfl, y, [], rfl,
    ho _ ((e1.trans e2).trans (Ex.new hp)) _ fun H3 e3 => hi H3 (((e1.trans e2).trans (Ex.new hp)).trans e3) _ fun H4 e4 => ⟨l, xs, (j : Int), j, rfl, rfl, ((((e1.trans e2).trans (Ex.new hp)).trans e3).trans e4) l _ hl, ixN_nat hj, rfl, k H4 ((((e1.trans e2).trans (Ex.new hp)).trans e3).trans e4)⟩⟩⟩
def SpU (sp : Sp) (vs : List V) (H : Hp) (xs : List V) : Prop := ∀ H1, Ex H H1 → ∀ Q : VK, (∀ p H2, H1 p = none → Ex H1 H2 → H2 p = some (.tup xs) → Q (.ref p) H2) → ∀ E : XK, sp vs H1 Q E
theorem eu_call {sp : Sp} {dvs vs xs : List V} {E : XK} {ta : TA} (h : EvA ta σ H vs) (hs : SpU sp (vs ++ dvs) H xs) : EvU (tCall sp dvs E ta) σ H xs := fun H1 e Q q =>
  h H1 e _ fun H2 e2 => hs H2 (e.trans e2) Q (fun p H3 hp e3 h3 => q p H3 (fresh_back e2 hp) (e2.trans e3) h3) E
def RetU (xs : List V) (H : Hp) (Q : VK) : Prop := ∀ p H2, H p = none → Ex H H2 → H2 p = some (.tup xs) → Q (.ref p) H2
theorem RetU.go {xs : List V} {Q : VK} (k : RetU xs H Q) (e : Ex H H') {p : Addr} {H2 : Hp} (hp : H' p = none) (e2 : Ex H' H2) (h : H2 p = some (.tup xs)) : Q (.ref p) H2 := k p H2 (fresh_back e hp) (e.trans e2) h
end
end Own
/-! mathematics of digits; core Lean alone -/
namespace Own
def dg (b : Nat) (k : Nat) : List Nat := if h : 1 < b ∧ 0 < k then (k % b) :: dg b (k / b) else []
termination_by k
decreasing_by exact Nat.div_lt_self h.2 h.1
theorem dg_zero (b : Nat) : dg b 0 = [] := by
  rw [dg]
  simp
theorem dg_pos {b k : Nat} (hb : 1 < b) (hk : 0 < k) : dg b k = (k % b) :: dg b (k / b) := by
  rw [dg, dif_pos ⟨hb, hk⟩]
theorem dg_lt {b : Nat} (hb : 1 < b) (k : Nat) : ∀ d ∈ dg b k, d < b := by
  induction k using Nat.strongRecOn with
  | ind k ih =>
    by_cases hk : 0 < k
    · rw [dg_pos hb hk]
      intro d hd
      rcases List.mem_cons.mp hd with rfl | hd
      · exact Nat.mod_lt _ (by omega)
      · exact ih _ (Nat.div_lt_self hk hb) d hd
    · have : k = 0 := by omega
      subst this
      rw [dg_zero]
      intro d hd
      cases hd
theorem dg_len {b : Nat} (hb : 1 < b) : ∀ (n k : Nat), k < 2 ^ n → (dg b k).length ≤ n := by
  intro n
  induction n with
  | zero =>
    intro k h
    have : k = 0 := by
      have : (2 : Nat) ^ 0 = 1 := rfl
      omega
    subst this
    rw [dg_zero]
    exact Nat.le_refl _
  | succ n ih =>
    intro k h
    by_cases hk : 0 < k
    · rw [dg_pos hb hk, List.length_cons]
      have : k / b < 2 ^ n := by
        have h1 : k / b ≤ k / 2 := Nat.div_le_div_left hb (by decide)
        rw [Nat.pow_succ] at h
        omega
      have := ih _ this
      omega
    · have : k = 0 := by omega
      subst this
      rw [dg_zero]
      exact Nat.zero_le _
/-- the integer of a row of digits -/
def od (b : Nat) : List Nat → Nat
  | [] => 0
  | d :: r => d + b * od b r
theorem od_dg {b : Nat} (hb : 1 < b) (k : Nat) : od b (dg b k) = k := by
  induction k using Nat.strongRecOn with
  | ind k ih =>
    by_cases hk : 0 < k
    · rw [dg_pos hb hk, od, ih _ (Nat.div_lt_self hk hb)]
      exact Nat.mod_add_div k b
    · have : k = 0 := by omega
      subst this
      rw [dg_zero]
      rfl
theorem od_zeros (b : Nat) : ∀ n, od b (List.replicate n 0) = 0
  | 0 => rfl
  | n + 1 => by
    rw [List.replicate_succ, od, od_zeros b n]
    omega
theorem od_app (b : Nat) : ∀ (xs : List Nat) (n : Nat), od b (xs ++ List.replicate n 0) = od b xs
  | [], n => by
    rw [List.nil_append, od_zeros]
    rfl
  | d :: r, n => by
    rw [List.cons_append, od, od, od_app b r n]
theorem od_lt {b : Nat} (hb : b ≤ 1000) : ∀ (xs : List Nat), (∀ d ∈ xs, d < b) → od b xs < 2 ^ (10 * xs.length)
  | [], _ => by
    show 0 < 2 ^ 0
    decide
  | d :: r, h => by
    have ih := od_lt hb r fun x hx => h x (List.mem_cons_of_mem _ hx)
    have hd := h d (List.mem_cons_self ..)
    rw [od, List.length_cons, Nat.mul_add, Nat.pow_add]
    have h1 : b * od b r ≤ 1000 * od b r := Nat.mul_le_mul_right _ hb
    have h2 : (2 : Nat) ^ (10 * 1) = 1024 := rfl
    rw [h2]
    omega
/-- the sum of the digits -/
def ds (b k : Nat) : Nat := (dg b k).sum
theorem ds_zero (b : Nat) : ds b 0 = 0 := by
  unfold ds
  rw [dg_zero]
  rfl
theorem ds_pos {b k : Nat} (hb : 1 < b) (hk : 0 < k) : ds b k = k % b + ds b (k / b) := by
  unfold ds
  rw [dg_pos hb hk, List.sum_cons]
theorem ds_eq {b : Nat} (hb : 1 < b) (k : Nat) : ds b k = k % b + ds b (k / b) := by
  by_cases hk : 0 < k
  · exact ds_pos hb hk
  · have : k = 0 := by omega
    subst this
    rw [Nat.zero_mod, Nat.zero_div, ds_zero]
theorem ds_le {b : Nat} (hb : 1 < b) (k : Nat) : ds b k ≤ k := by
  induction k using Nat.strongRecOn with
  | ind k ih =>
    by_cases hk : 0 < k
    · rw [ds_pos hb hk]
      have h1 := ih _ (Nat.div_lt_self hk hb)
      have h2 := Nat.mod_add_div k b
      have h3 : 1 * (k / b) ≤ b * (k / b) := Nat.mul_le_mul_right _ (by omega)
      omega
    · have : k = 0 := by omega
      subst this
      rw [ds_zero]
      exact Nat.le_refl _
/-- carries where a carry comes in; with fuel by the size -/
def cc (b : Nat) (c x y : Nat) : Nat := if h : 1 < b ∧ (0 < x ∨ 0 < y) then
    (if b ≤ x % b + y % b + c then 1 else 0) + cc b (if b ≤ x % b + y % b + c then 1 else 0) (x / b) (y / b) else 0
termination_by x + y
decreasing_by
  rcases h.2 with hx | hy
  · have h1 := Nat.div_lt_self hx h.1
    have h2 := Nat.div_le_self y b
    omega
  · have h1 := Nat.div_lt_self hy h.1
    have h2 := Nat.div_le_self x b
    omega
/-- the rule by sums of digits, with a carry c coming in -/
theorem ds_add {b : Nat} (hb : 1 < b) : ∀ (n x y c : Nat), x + y ≤ n → c ≤ 1 → ds b x + ds b y + c = ds b (x + y + c) + (b - 1) * cc b c x y := by
  intro n
  induction n using Nat.strongRecOn with
  | ind n ih =>
    intro x y c hn hc
    by_cases hxy : 0 < x ∨ 0 < y
    · rw [cc, dif_pos ⟨hb, hxy⟩]
      have hlt : x / b + y / b < n := by
        rcases hxy with hx | hy
        · have h1 := Nat.div_lt_self hx hb
          have h2 := Nat.div_le_self y b
          omega
        · have h1 := Nat.div_lt_self hy hb
          have h2 := Nat.div_le_self x b
          omega
      have hx := Nat.mod_add_div x b
      have hy := Nat.mod_add_div y b
      have mx := Nat.mod_lt x (show 0 < b by omega)
      have my := Nat.mod_lt y (show 0 < b by omega)
      rw [ds_eq hb x, ds_eq hb y, ds_eq hb (x + y + c)]
      have hs : x + y + c = (x % b + y % b + c) + b * (x / b + y / b) := by
        rw [Nat.mul_add]
        omega
      by_cases hcar : b ≤ x % b + y % b + c
      · rw [if_pos hcar]
        have e : x + y + c = (x % b + y % b + c - b) + b * (x / b + y / b + 1) := by
          rw [Nat.mul_add b _ 1]
          omega
        have e1 : (x + y + c) % b = x % b + y % b + c - b := by
          rw [e, Nat.add_mul_mod_self_left, Nat.mod_eq_of_lt (by omega)]
        have e2 : (x + y + c) / b = x / b + y / b + 1 := by
          rw [e, Nat.add_mul_div_left _ _ (by omega), Nat.div_eq_of_lt (by omega)]
          omega
        rw [e1, e2]
        have := ih _ hlt (x / b) (y / b) 1 (Nat.le_refl _) (Nat.le_refl _)
        rw [Nat.mul_add]
        omega
      · rw [if_neg hcar]
        have e1 : (x + y + c) % b = x % b + y % b + c := by
          rw [hs, Nat.add_mul_mod_self_left, Nat.mod_eq_of_lt (by omega)]
        have e2 : (x + y + c) / b = x / b + y / b := by
          rw [hs, Nat.add_mul_div_left _ _ (by omega), Nat.div_eq_of_lt (by omega)]
          omega
        rw [e1, e2]
        have := ih _ hlt (x / b) (y / b) 0 (Nat.le_refl _) (Nat.zero_le _)
        simp only [Nat.add_zero] at this
        rw [Nat.mul_add]
        omega
    · have hx : x = 0 := by omega
      have hy : y = 0 := by omega
      subst hx hy
      rw [cc, dif_neg (by simp), ds_zero]
      have : ds b (0 + 0 + c) = c := by
        rw [Nat.zero_add]
        rcases Nat.le_one_iff_eq_zero_or_eq_one.mp hc with rfl | rfl
        · exact ds_zero b
        · rw [ds_pos hb (by decide), Nat.mod_eq_of_lt hb, Nat.div_eq_of_lt hb, ds_zero]
      omega
theorem ds_plus {b : Nat} (hb : 1 < b) (x y : Nat) : ds b x + ds b y = ds b (x + y) + (b - 1) * cc b 0 x y := by
  have := ds_add hb (x + y) x y 0 (Nat.le_refl _) (Nat.zero_le _)
  simpa using this
/-- place by place: no sum of digits reaches the base -/
def nc (b : Nat) : Nat → List Nat → Bool
  | 0, _ => true
  | n + 1, xs => decide ((xs.map (· % b)).sum < b) && nc b n (xs.map (· / b))
theorem le_sum : ∀ (xs : List Nat) (x : Nat), x ∈ xs → x ≤ xs.sum
  | [], _, h => by cases h
  | a :: r, x, h => by
    rw [List.sum_cons]
    rcases List.mem_cons.mp h with rfl | h
    · omega
    · have := le_sum r x h
      omega
/-- the same by sums of digits -/
theorem sum_split {b : Nat} (hb : 1 < b) : ∀ xs : List Nat, xs.sum = (xs.map (· % b)).sum + b * (xs.map (· / b)).sum
  | [] => rfl
  | x :: r => by
    rw [List.sum_cons, List.map_cons, List.map_cons, List.sum_cons, List.sum_cons, Nat.mul_add, sum_split hb r]
    have := Nat.mod_add_div x b
    omega
theorem sumds_split {b : Nat} (hb : 1 < b) : ∀ xs : List Nat, (xs.map (ds b)).sum = (xs.map (· % b)).sum + ((xs.map (· / b)).map (ds b)).sum
  | [] => rfl
  | x :: r => by
    simp only [List.map_cons, List.sum_cons]
    rw [sumds_split hb r, ds_eq hb x]
    omega
theorem ds_sum_le {b : Nat} (hb : 1 < b) : ∀ xs : List Nat, ds b xs.sum ≤ (xs.map (ds b)).sum
  | [] => by
    rw [List.sum_nil, ds_zero]
    exact Nat.zero_le _
  | x :: r => by
    rw [List.map_cons, List.sum_cons, List.sum_cons]
    have h1 := ds_plus hb x r.sum
    have h2 := ds_sum_le hb r
    omega
theorem ds_add_le {b : Nat} (hb : 1 < b) (x y : Nat) : ds b (x + y) ≤ ds b x + ds b y := by
  have := ds_plus hb x y
  omega
theorem nc_iff {b : Nat} (hb : 1 < b) : ∀ (n : Nat) (xs : List Nat), xs.sum ≤ n → (nc b n xs = true ↔ (xs.map (ds b)).sum = ds b xs.sum) := by
  intro n
  induction n with
  | zero =>
    intro xs h
    have hz : ∀ x ∈ xs, x = 0 := fun x hx => by
      have := le_sum xs x hx
      omega
    have e1 : (xs.map (ds b)).sum = 0 := by
      have : xs.map (ds b) = xs.map (fun _ => 0) := List.map_congr_left fun x hx => by rw [hz x hx, ds_zero]
      rw [this]
      clear this hz h
      induction xs with
      | nil => rfl
      | cons a r ih => simpa using ih
    have e2 : xs.sum = 0 := by omega
    rw [e1, e2, ds_zero]
    exact ⟨fun _ => rfl, fun _ => rfl⟩
  | succ n ih =>
    intro xs h
    unfold nc
    rw [Bool.and_eq_true, decide_eq_true_eq]
    have hs := sum_split hb xs
    have hd := sumds_split hb xs
    generalize hm : (xs.map (· % b)).sum = m at hs hd ⊢
    generalize hq : xs.map (· / b) = q at hs hd ⊢
    have hqn : q.sum ≤ n := by
      by_cases h0 : q.sum = 0
      · omega
      · have : 2 * q.sum ≤ b * q.sum := Nat.mul_le_mul_right _ hb
        omega
    have ihq := ih q hqn
    by_cases hlt : m < b
    · have e1 : xs.sum % b = m := by
        rw [hs, Nat.add_mul_mod_self_left, Nat.mod_eq_of_lt hlt]
      have e2 : xs.sum / b = q.sum := by
        rw [hs, Nat.add_mul_div_left _ _ (by omega), Nat.div_eq_of_lt hlt]
        omega
      rw [hd, ds_eq hb xs.sum, e1, e2, ihq]
      constructor
      · intro ⟨_, h2⟩
        omega
      · intro h2
        exact ⟨hlt, by omega⟩
    · constructor
      · intro ⟨h1, _⟩
        exact absurd h1 hlt
      · intro h2
        exfalso
        -- the sum of digits falls by a carry
        have e1 : ds b xs.sum = ds b (m + b * q.sum) := by rw [← hs]
        have e3 : ds b (m + b * q.sum) = m % b + ds b (m / b + q.sum) := by
          rw [ds_eq hb, Nat.add_mul_mod_self_left, Nat.add_mul_div_left _ _ (by omega)]
        have e4 := ds_add_le hb (m / b) q.sum
        have e5 := ds_sum_le hb q
        have e6 := ds_le hb (m / b)
        have e7 := Nat.mod_add_div m b
        have e8 : 2 * (m / b) ≤ b * (m / b) := Nat.mul_le_mul_right _ hb
        have e9 : 1 ≤ m / b := Nat.div_pos (by omega) (by omega)
        omega
end Own
/-! own words for the laws' dice: a list of three ints that draws change -/
namespace Own
open PySem PySem.Spec PyProof.Rows L2 Evl
abbrev N_ (n : Nat) : V := .int (n : Int)
def Exd (p : Addr) (H H' : Hp) : Prop := ∀ a o, a ≠ p → H a = some o → H' a = some o
def IsDice (H : Hp) (p : Addr) : Prop := ∃ a b c : Int, H p = some (.lst [.int a, .int b, .int c])
section
variable {K : PySem.W.Frag} {H H1 H2 H' : Hp} {p a : Addr} {xs : List V}
theorem Exd.refl : Exd p H H := fun _ _ _ h => h
theorem Exd.of (e : Ex H H') : Exd p H H' := fun a o _ h => e a o h
theorem Exd.trans (x : Exd p H H1) (y : Exd p H1 H2) : Exd p H H2 := fun a o n h => y a o n (x a o n h)
theorem Exd.put {o : HO} : Exd p H (upd H p o) := fun a u n h => by rw [upd_ne n]; exact h
theorem IsDice.ex (d : IsDice H p) (e : Ex H H') : IsDice H' p := by
  obtain ⟨a, b, c, h⟩ := d
  exact ⟨a, b, c, e _ _ h⟩
theorem IsDice.seq (d : IsDice H p) : ∃ a b c : Int, SqL K H p [.int a, .int b, .int c] := by
  obtain ⟨a, b, c, h⟩ := d
  exact ⟨a, b, c, sq_of h⟩
theorem exd_t (d : IsDice H p) (e : Exd p H H') (h : SqT K H a xs) : SqT K H' a xs := by
  obtain ⟨x, y, z, hd⟩ := d
  rcases h with (h | ⟨o, h⟩) | h
  · exact .inl (.inl (e a _ (fun z => by rw [z, hd] at h; cases h) h))
  · exact .inl (.inr ⟨o, e a _ (fun z => by rw [z, hd] at h; cases h) h⟩)
  · exact .inr h
theorem exd_l (n : a ≠ p) (e : Exd p H H') (h : SqL K H a xs) : SqL K H' a xs := by
  rcases h with (h | ⟨o, h⟩) | h
  · exact .inl (.inl (e a _ n h))
  · exact .inl (.inr ⟨o, e a _ n h⟩)
  · exact .inr h
theorem new_ne (n : H a = none) (d : IsDice H p) : a ≠ p := fun z => by
  obtain ⟨x, y, w, h⟩ := d
  rw [z, h] at n
  cases n
theorem Exd.free (e : Exd p H H') (n : H' a = none) (hn : a ≠ p) : H a = none := by
  cases q : H a with
  | none => rfl
  | some o =>
    rw [e a o hn q] at n
    cases n
theorem Exd.newI {H0 : Hp} {l : Addr} {o : HO} (e : Exd p H0 H) (n : H0 l = none) : Exd p H0 (upd H l o) := fun b u hb h => by
  rw [upd_ne (ne_of_none h n)]
  exact e b u hb h
end
theorem mod_lt64 {x m : Int} (h0 : 0 < m) (h : m < 2 ^ 64) : -(2 ^ 64) < x % m ∧ x % m < 2 ^ 64 := by
  have h1 := Int.emod_nonneg x (by omega : m ≠ 0)
  have h2 := Int.emod_lt_of_pos x h0
  omega
theorem mod_abs {x m : Int} {n : Nat} (h0 : 0 < m) (h : m.toNat ≤ 2 ^ n) : (x % m).natAbs < 2 ^ n := by
  have h1 := Int.emod_nonneg x (by omega : m ≠ 0)
  have h2 := Int.emod_lt_of_pos x h0
  omega
end Own
/-! own words: == of tuples and lists of ints -/
namespace Own
open PySem PySem.Spec PyProof.Rows L2 Evl
def pdI (ns : List Int) : List PyData := ns.map PyData.int
theorem dp_ints {K : PySem.W.Frag} {H : Hp} : ∀ ns : List Int, DpAll K H (ns.map V.int) (pdI ns)
  | [] => .nil
  | n :: r => .cons (.int n) (dp_ints r)
theorem canI : ∀ ns : List Int, PyData.canLayAll0 (pdI ns) = true
  | [] => rfl
  | n :: r => by
    show (PyData.canLay0 (.int n) && PyData.canLayAll0 (pdI r)) = true
    rw [canI r]
    rfl
theorem depthI : ∀ ns : List Int, PyData.depthAll (pdI ns) = 0
  | [] => rfl
  | n :: r => by
    show max (PyData.depth (.int n)) (PyData.depthAll (pdI r)) = 0
    rw [depthI r]
    rfl
theorem shapedT (ns : List Int) : SeqAt.shaped (.tuple (pdI ns)) = true := by
  show (PyData.canLayAll0 (pdI ns) && decide (PyData.depthAll (pdI ns) + 1 ≤ 64)) = true
  rw [canI, depthI]
  rfl
theorem shapedL (ns : List Int) : SeqAt.shaped (.list (pdI ns)) = true := by
  show (PyData.canLayAll0 (pdI ns) && decide (PyData.depthAll (pdI ns) + 1 ≤ 64)) = true
  rw [canI, depthI]
  rfl
theorem eqvI : ∀ ns ms : List Int, PyData.eqvAll (pdI ns) (pdI ms) = decide (ns = ms)
  | [], [] => rfl
  | [], m :: s => by
    rw [decide_eq_false (by simp)]
    rfl
  | n :: r, [] => by
    rw [decide_eq_false (by simp)]
    rfl
  | n :: r, m :: s => by
    show (PyData.eqv (.int n) (.int m) && PyData.eqvAll (pdI r) (pdI s)) = _
    rw [eqvI r s]
    show ((n == m) && decide (r = s)) = decide (n :: r = m :: s)
    by_cases h : n = m
    · subst h
      by_cases h2 : r = s
      · subst h2
        rw [decide_eq_true rfl, decide_eq_true rfl]
        simp
      · rw [decide_eq_false h2, decide_eq_false (fun z => h2 (List.cons.inj z).2), Bool.and_false]
    · rw [decide_eq_false (fun z => h (List.cons.inj z).1), show (n == m) = false from beq_eq_false_iff_ne.mpr h, Bool.false_and]
theorem eqvT (ns ms : List Int) : PyData.eqv (.tuple (pdI ns)) (.tuple (pdI ms)) = decide (ns = ms) := eqvI ns ms
theorem eqvL (ns ms : List Int) : PyData.eqv (.list (pdI ns)) (.list (pdI ms)) = decide (ns = ms) := eqvI ns ms
section
variable {K : PySem.W.Frag} {σ : L2.St} {H H' : Hp} {ta tb : TE}
theorem rv_neT {a b : Addr} {ns ms : List Int} (h1 : SqT K H a (ns.map V.int)) (h2 : SqT K H b (ms.map V.int)) : RV (rNeD K) (.ref a) (.ref b) H (.bl (!decide (ns = ms))) := fun H1 e _ q =>
  ⟨_, _, .tup (ex_t e h1) (dp_ints ns), .tup (ex_t e h2) (dp_ints ms), shapedT _, shapedT _, by rw [eqvT]; exact q H1 (Ex.refl H1)⟩
theorem rv_eqT {a b : Addr} {ns ms : List Int} (h1 : SqT K H a (ns.map V.int)) (h2 : SqT K H b (ms.map V.int)) : RV (rEqD K) (.ref a) (.ref b) H (.bl (decide (ns = ms))) := fun H1 e _ q =>
  ⟨_, _, .tup (ex_t e h1) (dp_ints ns), .tup (ex_t e h2) (dp_ints ms), shapedT _, shapedT _, by rw [eqvT]; exact q H1 (Ex.refl H1)⟩
theorem rv_neL {a b : Addr} {ns ms : List Int} (h1 : SqL K H a (ns.map V.int)) (h2 : SqL K H b (ms.map V.int)) : RV (rNeD K) (.ref a) (.ref b) H (.bl (!decide (ns = ms))) := fun H1 e _ q =>
  ⟨_, _, .lst (ex_l e h1) (dp_ints ns), .lst (ex_l e h2) (dp_ints ms), shapedL _, shapedL _, by rw [eqvL]; exact q H1 (Ex.refl H1)⟩
theorem rv_eqL {a b : Addr} {ns ms : List Int} (h1 : SqL K H a (ns.map V.int)) (h2 : SqL K H b (ms.map V.int)) : RV (rEqD K) (.ref a) (.ref b) H (.bl (decide (ns = ms))) := fun H1 e _ q =>
  ⟨_, _, .lst (ex_l e h1) (dp_ints ns), .lst (ex_l e h2) (dp_ints ms), shapedL _, shapedL _, by rw [eqvL]; exact q H1 (Ex.refl H1)⟩
/-- the first operand a new tuple -/
theorem ev_opU1 {r : R2} {xs : List V} {y z : V} (ha : EvU ta σ H xs) (hb : ∀ H1, Ex H H1 → Ev tb σ H1 y) (hr : ∀ p H1, H1 p = some (.tup xs) → Ex H H1 → RV r (.ref p) y H1 z) : Ev (tOp r ta tb) σ H z := fun H1 e Q q =>
  ha H1 e _ fun p H2 _ e2 hp => hb H2 (e.trans e2) H2 (Ex.refl H2) _ fun H3 e3 => hr p H3 (e3 p _ hp) ((e.trans e2).trans e3) H3 (Ex.refl H3) Q fun H4 e4 => q H4 ((e2.trans e3).trans e4)
/-- t + u of tuples, whatever object comes out -/
theorem catA_go {row q : Addr} {xs ys : List V} {Q : VK} (h1 : SqT K H row xs) (h2 : SqT K H q ys) (hl : xs.length + ys.length ≤ 100000) (k : ∀ a H', Ex H H' → SqT K H' a (xs ++ ys) → Q (.ref a) H') : rCatA K (.ref row) (.ref q) H Q :=
  ⟨row, q, xs, ys, rfl, rfl, h1, h2, sz_of hl, fun e => k q H (Ex.refl H) (by rw [e]; exact h2), fun _ e => k row H (Ex.refl H) (by rw [e, List.append_nil]; exact h1), fun _ _ p hp => k p _ (Ex.new hp) (st_of upd_same)⟩
/-- t[1:] of a tuple with an item -/
theorem eu_sl1 {a : Addr} {xs : List V} (h : Ev ta σ H (.ref a)) (hx : SqT K H a xs) (hl : 0 < xs.length) (hcut : cutV xs (some 1) none = xs.drop 1) : EvU (tSl (rSlT K) ta (tPart (tC (.int 1))) tNoPart) σ H (xs.drop 1) := fun H1 e Q q =>
  h H1 e _ fun H2 e2 => ⟨1, rfl, a, xs, rfl, ex_t (e.trans e2) hx, fun z => by
    have h1 := z.1
    rw [show HT.sIx xs.length 0 (some 1) = min 1 xs.length from HT.sIx_nat xs.length 0 1] at h1
    omega, fun p hp => q p _ (fresh_back e2 hp) (e2.trans (Ex.new hp)) (by rw [hcut]; exact upd_same)⟩
theorem ev_sumU {ns : List Int} (h : EvU ta σ H (ns.map V.int)) : Ev (tCB (rSumT K) (tCons ta tNil)) σ H (.int ns.sum) := fun H1 e _ q =>
  h H1 e _ fun p H2 _ e2 h2 => ⟨p, ns, rfl, st_of h2, q H2 e2⟩
/-- [..] * k -/
theorem el_rep {xs : List V} {k : Int} (h : EvL ta σ H xs) (h2 : Ev tb σ H (.int k)) (h0 : 0 ≤ k) (hk : xs.length * k.toNat ≤ 100000) (hk2 : k ≤ 100000) : EvL (tOp rRep ta tb) σ H (List.replicate k.toNat xs).flatten := fun H1 e Q q =>
  h H1 e _ fun p H2 hp e2 hx => h2 H2 (e.trans e2) _ fun H3 e3 => ⟨p, k, xs, rfl, rfl, e3 _ _ hx, by omega, by omega, sz_of hk, fun l hl => q l _ (fresh_back (e2.trans e3) hl) ((e2.trans e3).trans (Ex.new hl)) upd_same⟩
end
end Own
namespace Own
open PySem PySem.Spec PyProof.Rows L2 Evl

def topS (i : Nat) : Stmt := PySem.Challenge.pw_monicsums_k08_whole_digits_and_carries_b.main.body.getD i (.Pass ⟨0, 0, 0, 0⟩)
abbrev s_digit_row : Stmt := topS 1
abbrev s_row_integer : Stmt := topS 2
abbrev s_digit_total : Stmt := topS 3
abbrev s_are_carry_free : Stmt := topS 4
abbrev s_is_integer : Stmt := topS 11
abbrev s_is_from : Stmt := topS 12
abbrev s_is_between : Stmt := topS 13
abbrev s_check_from : Stmt := topS 14
abbrev s_check_between : Stmt := topS 15
abbrev s_check_base : Stmt := topS 18
abbrev s_check_numbers : Stmt := topS 19
abbrev s_digits : Stmt := topS 20
abbrev s_of_digits : Stmt := topS 21
abbrev s_digit_sum : Stmt := topS 22
abbrev s_carries : Stmt := topS 23
abbrev s_has_no_carries : Stmt := topS 24
abbrev s__law_dice : Stmt := topS 26
abbrev s__law_roll : Stmt := topS 27
abbrev s__law_one_of : Stmt := topS 28
abbrev s__law_raised : Stmt := topS 29
abbrev s__law_digits : Stmt := topS 30
abbrev s__law_size : Stmt := topS 31
abbrev s__law_carry_count : Stmt := topS 32
abbrev s__law_has_none : Stmt := topS 33
abbrev s__law_number : Stmt := topS 34
abbrev s__law_parted_digits : Stmt := topS 35
abbrev s__law_right : Stmt := topS 36
abbrev s_law : Stmt := topS 37
theorem sc_digit_row : FnScope ["b", "k", "row", "left"] ["b", "k"] (defScope s_digit_row) := ⟨rfl, rfl, rfl, by decide +kernel, rfl, by decide +kernel, by decide +kernel⟩
theorem sc_row_integer : FnScope ["b", "row", "made", "digit"] ["b", "row"] (defScope s_row_integer) := ⟨rfl, rfl, rfl, by decide +kernel, rfl, by decide +kernel, by decide +kernel⟩
theorem sc_digit_total : FnScope ["b", "k"] ["b", "k"] (defScope s_digit_total) := ⟨rfl, rfl, rfl, by decide +kernel, rfl, by decide +kernel, by decide +kernel⟩
theorem sc_are_carry_free : FnScope ["b", "numbers", "number"] ["b", "numbers"] (defScope s_are_carry_free) := ⟨rfl, rfl, rfl, by decide +kernel, rfl, by decide +kernel, by decide +kernel⟩
theorem sc_is_integer : FnScope ["value"] ["value"] (defScope s_is_integer) := ⟨rfl, rfl, rfl, by decide +kernel, rfl, by decide +kernel, by decide +kernel⟩
theorem sc_is_from : FnScope ["value", "low"] ["value", "low"] (defScope s_is_from) := ⟨rfl, rfl, rfl, by decide +kernel, rfl, by decide +kernel, by decide +kernel⟩
theorem sc_is_between : FnScope ["value", "low", "high"] ["value", "low", "high"] (defScope s_is_between) := ⟨rfl, rfl, rfl, by decide +kernel, rfl, by decide +kernel, by decide +kernel⟩
theorem sc_check_from : FnScope ["value", "low"] ["value", "low"] (defScope s_check_from) := ⟨rfl, rfl, rfl, by decide +kernel, rfl, by decide +kernel, by decide +kernel⟩
theorem sc_check_between : FnScope ["value", "low", "high"] ["value", "low", "high"] (defScope s_check_between) := ⟨rfl, rfl, rfl, by decide +kernel, rfl, by decide +kernel, by decide +kernel⟩
theorem sc_check_base : FnScope ["b"] ["b"] (defScope s_check_base) := ⟨rfl, rfl, rfl, by decide +kernel, rfl, by decide +kernel, by decide +kernel⟩
theorem sc_check_numbers : FnScope ["numbers", "number"] ["numbers"] (defScope s_check_numbers) := ⟨rfl, rfl, rfl, by decide +kernel, rfl, by decide +kernel, by decide +kernel⟩
theorem sc_digits : FnScope ["b", "k"] ["b", "k"] (defScope s_digits) := ⟨rfl, rfl, rfl, by decide +kernel, rfl, by decide +kernel, by decide +kernel⟩
theorem sc_of_digits : FnScope ["b", "row", "digit"] ["b", "row"] (defScope s_of_digits) := ⟨rfl, rfl, rfl, by decide +kernel, rfl, by decide +kernel, by decide +kernel⟩
theorem sc_digit_sum : FnScope ["b", "k"] ["b", "k"] (defScope s_digit_sum) := ⟨rfl, rfl, rfl, by decide +kernel, rfl, by decide +kernel, by decide +kernel⟩
theorem sc_carries : FnScope ["b", "i", "j"] ["b", "i", "j"] (defScope s_carries) := ⟨rfl, rfl, rfl, by decide +kernel, rfl, by decide +kernel, by decide +kernel⟩
theorem sc_has_no_carries : FnScope ["b", "numbers"] ["b", "numbers"] (defScope s_has_no_carries) := ⟨rfl, rfl, rfl, by decide +kernel, rfl, by decide +kernel, by decide +kernel⟩
theorem sc__law_dice : FnScope ["_law_script", "_law_at", "_law_cell", "_law_great", "_law_left", "_law_mixed"] ["_law_script", "_law_at"] (defScope s__law_dice) := ⟨rfl, rfl, rfl, by decide +kernel, rfl, by decide +kernel, by decide +kernel⟩
theorem sc__law_roll : FnScope ["_law_dice_here", "_law_total", "_law_size_here", "_law_drawn", "_law_one", "_law_two"] ["_law_dice_here", "_law_total"] (defScope s__law_roll) := ⟨rfl, rfl, rfl, by decide +kernel, rfl, by decide +kernel, by decide +kernel⟩
theorem sc__law_one_of : FnScope ["_law_dice_here", "_law_items"] ["_law_dice_here", "_law_items"] (defScope s__law_one_of) := ⟨rfl, rfl, rfl, by decide +kernel, rfl, by decide +kernel, by decide +kernel⟩
theorem sc__law_raised : FnScope ["_law_base", "_law_count", "_law_found", "_law_turn"] ["_law_base", "_law_count"] (defScope s__law_raised) := ⟨rfl, rfl, rfl, by decide +kernel, rfl, by decide +kernel, by decide +kernel⟩
theorem sc__law_digits : FnScope ["_law_base", "_law_number_here", "_law_found", "_law_left"] ["_law_base", "_law_number_here"] (defScope s__law_digits) := ⟨rfl, rfl, rfl, by decide +kernel, rfl, by decide +kernel, by decide +kernel⟩
theorem sc__law_size : FnScope ["_law_q", "_law_most", "_law_d"] ["_law_q", "_law_most"] (defScope s__law_size) := ⟨rfl, rfl, rfl, by decide +kernel, rfl, by decide +kernel, by decide +kernel⟩
theorem sc__law_carry_count : FnScope ["_law_b", "_law_one", "_law_other", "_law_found", "_law_carry"] ["_law_b", "_law_one", "_law_other"] (defScope s__law_carry_count) := ⟨rfl, rfl, rfl, by decide +kernel, rfl, by decide +kernel, by decide +kernel⟩
theorem sc__law_has_none : FnScope ["_law_b", "_law_numbers", "_law_left", "_law_one"] ["_law_b", "_law_numbers"] (defScope s__law_has_none) := ⟨rfl, rfl, rfl, by decide +kernel, rfl, by decide +kernel, by decide +kernel⟩
theorem sc__law_number : FnScope ["_law_dice_here", "_law_b", "_law_way", "_law_top", "_law_found", "_law_turn"] ["_law_dice_here", "_law_b"] (defScope s__law_number) := ⟨rfl, rfl, rfl, by decide +kernel, rfl, by decide +kernel, by decide +kernel⟩
theorem sc__law_parted_digits : FnScope ["_law_dice_here", "_law_b", "_law_count", "_law_found", "_law_weight", "_law_place", "_law_left", "_law_at", "_law_digit"] ["_law_dice_here", "_law_b", "_law_count"] (defScope s__law_parted_digits) := ⟨rfl, rfl, rfl, by decide +kernel, rfl, by decide +kernel, by decide +kernel⟩
theorem sc__law_right : FnScope ["_law_dice_here", "_law_b", "_law_one", "_law_other", "_law_row", "_law_due", "_law_numbers", "_law_bent", "_law_none", "_law_number_here"] ["_law_dice_here"] (defScope s__law_right) := ⟨rfl, rfl, rfl, by decide +kernel, rfl, by decide +kernel, by decide +kernel⟩
theorem sc_law : FnScope ["_law_script", "_law_at", "_law_dice_here", "_law_turn"] ["_law_script"] (defScope s_law) := ⟨rfl, rfl, rfl, by decide +kernel, rfl, by decide +kernel, by decide +kernel⟩

structure Txt (K : PySem.W.Frag) (mg : Str → Option Value) where
  {a_digit_row : Addr}
  {d_digit_row : FuncData}
  F_digit_row : Fun K "digit_row" "digit_row" s_digit_row a_digit_row d_digit_row
  g_digit_row : mg "digit_row" = some (.ref a_digit_row)
  b_digit_row : Binds K d_digit_row ["b", "k"] []
  {a_row_integer : Addr}
  {d_row_integer : FuncData}
  F_row_integer : Fun K "row_integer" "row_integer" s_row_integer a_row_integer d_row_integer
  g_row_integer : mg "row_integer" = some (.ref a_row_integer)
  b_row_integer : Binds K d_row_integer ["b", "row"] []
  {a_digit_total : Addr}
  {d_digit_total : FuncData}
  F_digit_total : Fun K "digit_total" "digit_total" s_digit_total a_digit_total d_digit_total
  g_digit_total : mg "digit_total" = some (.ref a_digit_total)
  b_digit_total : Binds K d_digit_total ["b", "k"] []
  {a_are_carry_free : Addr}
  {d_are_carry_free : FuncData}
  F_are_carry_free : Fun K "are_carry_free" "are_carry_free" s_are_carry_free a_are_carry_free d_are_carry_free
  g_are_carry_free : mg "are_carry_free" = some (.ref a_are_carry_free)
  b_are_carry_free : Binds K d_are_carry_free ["b", "numbers"] []
  {a_is_integer : Addr}
  {d_is_integer : FuncData}
  F_is_integer : Fun K "is_integer" "is_integer" s_is_integer a_is_integer d_is_integer
  g_is_integer : mg "is_integer" = some (.ref a_is_integer)
  b_is_integer : Binds K d_is_integer ["value"] []
  {a_is_from : Addr}
  {d_is_from : FuncData}
  F_is_from : Fun K "is_from" "is_from" s_is_from a_is_from d_is_from
  g_is_from : mg "is_from" = some (.ref a_is_from)
  b_is_from : Binds K d_is_from ["value", "low"] []
  {a_is_between : Addr}
  {d_is_between : FuncData}
  F_is_between : Fun K "is_between" "is_between" s_is_between a_is_between d_is_between
  g_is_between : mg "is_between" = some (.ref a_is_between)
  b_is_between : Binds K d_is_between ["value", "low", "high"] []
  {a_check_from : Addr}
  {d_check_from : FuncData}
  F_check_from : Fun K "check_from" "check_from" s_check_from a_check_from d_check_from
  g_check_from : mg "check_from" = some (.ref a_check_from)
  b_check_from : Binds K d_check_from ["value", "low"] []
  {a_check_between : Addr}
  {d_check_between : FuncData}
  F_check_between : Fun K "check_between" "check_between" s_check_between a_check_between d_check_between
  g_check_between : mg "check_between" = some (.ref a_check_between)
  b_check_between : Binds K d_check_between ["value", "low", "high"] []
  {a_check_base : Addr}
  {d_check_base : FuncData}
  F_check_base : Fun K "check_base" "check_base" s_check_base a_check_base d_check_base
  g_check_base : mg "check_base" = some (.ref a_check_base)
  b_check_base : Binds K d_check_base ["b"] []
  {a_check_numbers : Addr}
  {d_check_numbers : FuncData}
  F_check_numbers : Fun K "check_numbers" "check_numbers" s_check_numbers a_check_numbers d_check_numbers
  g_check_numbers : mg "check_numbers" = some (.ref a_check_numbers)
  b_check_numbers : Binds K d_check_numbers ["numbers"] []
  {a_digits : Addr}
  {d_digits : FuncData}
  F_digits : Fun K "digits" "digits" s_digits a_digits d_digits
  g_digits : mg "digits" = some (.ref a_digits)
  b_digits : Binds K d_digits ["b", "k"] []
  {a_of_digits : Addr}
  {d_of_digits : FuncData}
  F_of_digits : Fun K "of_digits" "of_digits" s_of_digits a_of_digits d_of_digits
  g_of_digits : mg "of_digits" = some (.ref a_of_digits)
  b_of_digits : Binds K d_of_digits ["b", "row"] []
  {a_digit_sum : Addr}
  {d_digit_sum : FuncData}
  F_digit_sum : Fun K "digit_sum" "digit_sum" s_digit_sum a_digit_sum d_digit_sum
  g_digit_sum : mg "digit_sum" = some (.ref a_digit_sum)
  b_digit_sum : Binds K d_digit_sum ["b", "k"] []
  {a_carries : Addr}
  {d_carries : FuncData}
  F_carries : Fun K "carries" "carries" s_carries a_carries d_carries
  g_carries : mg "carries" = some (.ref a_carries)
  b_carries : Binds K d_carries ["b", "i", "j"] []
  {a_has_no_carries : Addr}
  {d_has_no_carries : FuncData}
  F_has_no_carries : Fun K "has_no_carries" "has_no_carries" s_has_no_carries a_has_no_carries d_has_no_carries
  g_has_no_carries : mg "has_no_carries" = some (.ref a_has_no_carries)
  b_has_no_carries : Binds K d_has_no_carries ["b", "numbers"] []
  {a__law_dice : Addr}
  {d__law_dice : FuncData}
  F__law_dice : Fun K "_law_dice" "_law_dice" s__law_dice a__law_dice d__law_dice
  g__law_dice : mg "_law_dice" = some (.ref a__law_dice)
  b__law_dice : Binds K d__law_dice ["_law_script", "_law_at"] []
  {a__law_roll : Addr}
  {d__law_roll : FuncData}
  F__law_roll : Fun K "_law_roll" "_law_roll" s__law_roll a__law_roll d__law_roll
  g__law_roll : mg "_law_roll" = some (.ref a__law_roll)
  b__law_roll : Binds K d__law_roll ["_law_dice_here", "_law_total"] []
  {a__law_one_of : Addr}
  {d__law_one_of : FuncData}
  F__law_one_of : Fun K "_law_one_of" "_law_one_of" s__law_one_of a__law_one_of d__law_one_of
  g__law_one_of : mg "_law_one_of" = some (.ref a__law_one_of)
  b__law_one_of : Binds K d__law_one_of ["_law_dice_here", "_law_items"] []
  {a__law_raised : Addr}
  {d__law_raised : FuncData}
  F__law_raised : Fun K "_law_raised" "_law_raised" s__law_raised a__law_raised d__law_raised
  g__law_raised : mg "_law_raised" = some (.ref a__law_raised)
  b__law_raised : Binds K d__law_raised ["_law_base", "_law_count"] []
  {a__law_digits : Addr}
  {d__law_digits : FuncData}
  F__law_digits : Fun K "_law_digits" "_law_digits" s__law_digits a__law_digits d__law_digits
  g__law_digits : mg "_law_digits" = some (.ref a__law_digits)
  b__law_digits : Binds K d__law_digits ["_law_base", "_law_number_here"] []
  {a__law_size : Addr}
  {d__law_size : FuncData}
  F__law_size : Fun K "_law_size" "_law_size" s__law_size a__law_size d__law_size
  g__law_size : mg "_law_size" = some (.ref a__law_size)
  b__law_size : Binds K d__law_size ["_law_q", "_law_most"] []
  {a__law_carry_count : Addr}
  {d__law_carry_count : FuncData}
  F__law_carry_count : Fun K "_law_carry_count" "_law_carry_count" s__law_carry_count a__law_carry_count d__law_carry_count
  g__law_carry_count : mg "_law_carry_count" = some (.ref a__law_carry_count)
  b__law_carry_count : Binds K d__law_carry_count ["_law_b", "_law_one", "_law_other"] []
  {a__law_has_none : Addr}
  {d__law_has_none : FuncData}
  F__law_has_none : Fun K "_law_has_none" "_law_has_none" s__law_has_none a__law_has_none d__law_has_none
  g__law_has_none : mg "_law_has_none" = some (.ref a__law_has_none)
  b__law_has_none : Binds K d__law_has_none ["_law_b", "_law_numbers"] []
  {a__law_number : Addr}
  {d__law_number : FuncData}
  F__law_number : Fun K "_law_number" "_law_number" s__law_number a__law_number d__law_number
  g__law_number : mg "_law_number" = some (.ref a__law_number)
  b__law_number : Binds K d__law_number ["_law_dice_here", "_law_b"] []
  {a__law_parted_digits : Addr}
  {d__law_parted_digits : FuncData}
  F__law_parted_digits : Fun K "_law_parted_digits" "_law_parted_digits" s__law_parted_digits a__law_parted_digits d__law_parted_digits
  g__law_parted_digits : mg "_law_parted_digits" = some (.ref a__law_parted_digits)
  b__law_parted_digits : Binds K d__law_parted_digits ["_law_dice_here", "_law_b", "_law_count"] []
  {a__law_right : Addr}
  {d__law_right : FuncData}
  F__law_right : Fun K "_law_right" "_law_right" s__law_right a__law_right d__law_right
  g__law_right : mg "_law_right" = some (.ref a__law_right)
  b__law_right : Binds K d__law_right ["_law_dice_here"] []
  {a_law : Addr}
  {d_law : FuncData}
  F_law : Fun K "law" "law" s_law a_law d_law
  g_law : mg "law" = some (.ref a_law)
  b_law : Binds K d_law ["_law_script"] []
  z_sum : mg "sum" = none
  z_isinstance : mg "isinstance" = none
  z_int : mg "int" = none
  z_bool : mg "bool" = none
  z_all : mg "all" = none
  z_tuple : mg "tuple" = none
  z_len : mg "len" = none
  z_abs : mg "abs" = none
  z_range : mg "range" = none
  z_list : mg "list" = none
  z_max : mg "max" = none
  z_min : mg "min" = none
  {t_TOO_LONG : Tok}
  c_TOO_LONG : mg "TOO_LONG" = some (.int 1000000000000000000000000000000000000000000000000000000000000 t_TOO_LONG)
  {t_MOST_NUMBERS : Tok}
  c_MOST_NUMBERS : mg "MOST_NUMBERS" = some (.int 400 t_MOST_NUMBERS)
end Own
namespace Own
open PySem PySem.Spec PyProof.Rows L2 Evl

theorem mapN (xs : List Nat) : xs.map N_ = (xs.map Int.ofNat).map V.int := by
  rw [List.map_map]
  rfl
theorem sumN : ∀ (xs : List Nat), (xs.map Int.ofNat).sum = ((xs.sum : Nat) : Int)
  | [] => rfl
  | x :: r => by
    rw [List.map_cons, List.sum_cons, List.sum_cons, sumN r]
    show (x : Int) + _ = _
    omega
theorem divW {b : Nat} (h0 : 0 < b) (hb : b ≤ 1000) : CDivW (x : Int) (b : Int) := wide_div (b := 10) (by omega) (by show (Int.natAbs (b : Int)) < 1024; omega) (by decide) (by decide)
theorem int_div (x b : Nat) : (x : Int) / (b : Int) = ((x / b : Nat) : Int) := rfl
theorem int_mod (x b : Nat) : (x : Int) % (b : Int) = ((x % b : Nat) : Int) := rfl
def Bs (b : Nat) : Prop := 2 ≤ b ∧ b ≤ 1000
abbrev Gt (n : Nat) : Prop := n < 2 ^ 400

def sp_digit_row (K : PySem.W.Frag) : Sp := fun vs H Q _ => ∃ (b n : Nat), vs = [N_ b, N_ n] ∧ Bs b ∧ Gt n ∧ RetL ((dg b n).map N_) H Q

theorem ok_digit_row {P : Program} {w : World} {K : PySem.W.Frag} {mg : Str → Option Value} {base : Heap} (T : Txt K mg) : FnOk P w K mg base CX0 1 T.a_digit_row T.d_digit_row ["b", "k"] (sp_digit_row K) := by
  refine T.F_digit_row.ok sc_digit_row (fun vs H Q E h => ?_) (fun cdv A outer s H vs Q E hr h => ?_)
  · obtain ⟨b, n, rfl, _⟩ := h
    rfl
  · obtain ⟨b, n, rfl, hb, hn, k⟩ := h
    refine ⟨_, (pss_cons (ps_set (i := 2) sc_digit_row.nd rfl (Or.inl rfl) (pe_lst pa_nil))
      (pss_cons (ps_set (i := 3) sc_digit_row.nd rfl (Or.inl rfl) (pv 1))
      (pss_cons (ps_while PassesOwn.never (pt_cmpR op_gt (pv 3) pe_int (nomark _)) (pss_cons (ps_expr (pe_bm PySem.F.plainAttrs_list PySem.F.slot_list_append PySem.F.type_list_append mt_append (pv 2) (pa_cons (pe_op op_mod (pv 3) (pv 0)) pa_nil)))
      (pss_one (ps_set (i := 3) sc_digit_row.nd rfl (Or.inl rfl) (pe_op op_fdivW (pv 3) (pv 0))))))
      (pss_one (ps_ret (pv 2)))))), ?_⟩
    refine q_asgL (el_lst ea_nil (by decide)) fun p H1 np e1 h1 => ?_
    refine q_asg (ev_var rfl) fun H2 e2 => ?_
    refine q_while (fun l σ H' => ∃ acc : List Nat, σ = [some (N_ b), some (N_ n), some (.ref p), some (N_ l)] ∧ acc ++ dg b l = dg b n ∧ Ex H H' ∧ H' p = some (.lst (acc.map N_))) n
      ⟨[], rfl, rfl, e1.trans e2, e2 p _ h1⟩ fun l σ H3 hw => ?_
    obtain ⟨acc, rfl, ha, e3, h3⟩ := hw
    refine ⟨decide (0 < (l : Int)), et_test (ev_op (ev_var rfl) ev_c rv_I0), fun ht H4 e4 => ?_, fun hf H4 e4 => ?_⟩
    · have hl : 0 < l := by have := of_decide_eq_true ht; omega
      refine ⟨fun σ' H' => σ' = [some (N_ b), some (N_ n), some (.ref p), some (N_ (l / b))] ∧ Ex H H' ∧ H' p = some (.lst ((acc ++ [l % b]).map N_)), fun σ2 H2' hN => ?_, ?_⟩
      · obtain ⟨rfl, e5, h5⟩ := hN
        refine ⟨l / b, Nat.div_lt_self hl hb.1, acc ++ [l % b], rfl, ?_, e5, h5⟩
        rw [← ha, dg_pos hb.1 hl, List.append_assoc]
        rfl
      · have hlen : acc.length < 100000 := by
          have h6 := dg_len hb.1 400 n hn
          rw [← ha, List.length_append] at h6
          omega
        refine q_app (e4 p _ h3) (ev_var rfl) (ev_op (ev_var rfl) (ev_var rfl) (rv_I (by have := hb.1; omega))) (by rw [List.length_map]; exact hlen) fun H5 e5 => ?_
        refine s_asg (ev_op (ev_var rfl) (ev_var rfl) (rv_I (divW (by have := hb.1; omega) hb.2))) fun H6 e6 => ?_
        refine ⟨rfl, ((e3.trans (e4.trans e5)).mut np).trans e6, ?_⟩
        rw [e6 p _ upd_same, List.map_append]
        rfl
    · have hl : l = 0 := by have := of_decide_eq_false hf; omega
      subst hl
      rw [dg_zero, List.append_nil] at ha
      subst ha
      exact s_ret (ev_var rfl) fun H5 e5 => k p H5 np ((e3.trans e4).trans e5) (e5 p _ (e4 p _ h3))


def sp_row_integer (K : PySem.W.Frag) : Sp := fun vs H Q _ => ∃ (b : Nat) (a : Addr) (xs : List Nat), vs = [N_ b, .ref a] ∧ Bs b ∧ SqT K H a (xs.map N_) ∧ xs.length ≤ 410 ∧ (∀ d ∈ xs, d < b) ∧ RetV (N_ (od b xs)) H Q
theorem od_drop {b : Nat} {xs : List Nat} {i d : Nat} (hi : i < xs.length) (hd : xs.reverse[i]? = some d) : od b (xs.drop (xs.length - (i + 1))) = d + b * od b (xs.drop (xs.length - i)) := by
  have h1 : xs.reverse[i]? = xs[xs.length - 1 - i]? := List.getElem?_reverse hi
  rw [h1] at hd
  have h2 : xs.length - (i + 1) = xs.length - 1 - i := by omega
  have h3 : xs.length - 1 - i < xs.length := by omega
  rw [h2, List.drop_eq_getElem_cons h3, od]
  rw [List.getElem?_eq_getElem h3] at hd
  rw [Option.some.inj hd, show xs.length - 1 - i + 1 = xs.length - i by omega]

theorem ok_row_integer {P : Program} {w : World} {K : PySem.W.Frag} {mg : Str → Option Value} {base : Heap} (T : Txt K mg) : FnOk P w K mg base CX0 1 T.a_row_integer T.d_row_integer ["b", "row"] (sp_row_integer K) := by
  refine T.F_row_integer.ok sc_row_integer (fun vs H Q E h => ?_) (fun cdv A outer s H vs Q E hr h => ?_)
  · obtain ⟨b, a, xs, rfl, _⟩ := h
    rfl
  · obtain ⟨b, a, xs, rfl, hb, hx, hlen, hxs, k⟩ := h
    refine ⟨_, (pss_cons (ps_set (i := 2) sc_row_integer.nd rfl (Or.inl rfl) pe_int)
      (pss_cons (ps_for PassesOwn.never rfl (pi_tup (pe_revT (pv 1))) (pg_name (i := 3) sc_row_integer.nd rfl (Or.inl rfl)) (pss_one (ps_set (i := 2) sc_row_integer.nd rfl (Or.inl rfl) (pe_op op_add (pe_op op_mulW (pv 2) (pv 0)) (pv 3)))))
      (pss_one (ps_ret (pv 2))))), ?_⟩
    refine q_asg ev_c fun H1 e1 => ?_
    refine q_forNT (eu_revT (ev_var rfl) (ex_t e1 hx)) (fun p i σ H' => ∃ y, σ = [some (N_ b), some (.ref a), some (N_ (od b (xs.drop (xs.length - i)))), y] ∧ Ex H H' ∧ H' p = some (.tup (xs.map N_).reverse))
        (fun p H2 np e2 h2 => ⟨none, by rw [Nat.sub_zero, List.drop_length]; rfl, e1.trans e2, h2⟩) (fun p i σ H' hi hw => ?_) (fun p i x σ H' hi hw => ?_) (fun p σ H' hw => ?_)
    · obtain ⟨y, rfl, e2, h2⟩ := hw
      exact st_of h2
    · obtain ⟨y, rfl, e2, h2⟩ := hw
      rw [← List.map_reverse, List.getElem?_map] at hi
      obtain ⟨d, hd, rfl⟩ := Option.map_eq_some_iff.mp hi
      have hil : i < xs.length := by
        have := (List.getElem?_eq_some_iff.mp hd).1
        rwa [List.length_reverse] at this
      have hlt := od_lt hb.2 (xs.drop (xs.length - i)) fun z hz => hxs z (List.mem_of_mem_drop hz)
      have hlt2 : od b (xs.drop (xs.length - i)) < 2 ^ 5000 := Nat.lt_of_lt_of_le hlt (Nat.pow_le_pow_right (by decide) (by rw [List.length_drop]; omega))
      refine s_asg (ev_op (ev_op (ev_var rfl) (ev_var rfl) (rv_I (wide_mul (a := 5000) (b := 10) (by exact hlt2) (by show b < 1024; have := hb.2; omega) (by decide) (by decide) (by decide)))) (ev_var rfl) rv_I0) fun H3 e3 => ⟨some (N_ d), ?_, e2.trans e3, e3 _ _ h2⟩
      rw [od_drop hil hd, show N_ (d + b * od b (xs.drop (xs.length - i))) = V.int (((od b (xs.drop (xs.length - i)) : Nat) : Int) * (b : Int) + (d : Int)) from congrArg V.int (by rw [Int.natCast_add, Int.natCast_mul, Int.mul_comm, Int.add_comm])]
      rfl
    · obtain ⟨y, rfl, e2, h2⟩ := hw
      rw [List.length_reverse, List.length_map, Nat.sub_self, List.drop_zero]
      exact s_ret (ev_var rfl) fun H3 e3 => k H3 (e2.trans e3)


def sp_digit_total (K : PySem.W.Frag) : Sp := fun vs H Q _ => ∃ (b n : Nat), vs = [N_ b, N_ n] ∧ Bs b ∧ Gt n ∧ RetV (N_ (ds b n)) H Q
theorem sv_digit_row {K : PySem.W.Frag} {H : Hp} {b n : Nat} (hb : Bs b) (hn : Gt n) : SpL (sp_digit_row K) [N_ b, N_ n] H ((dg b n).map N_) := fun H1 _ Q q E => ⟨b, n, rfl, hb, hn, q⟩
theorem sv_digit_total {K : PySem.W.Frag} {H : Hp} {b n : Nat} (hb : Bs b) (hn : Gt n) : SpV (sp_digit_total K) [N_ b, N_ n] H (N_ (ds b n)) := fun H1 _ Q q E => ⟨b, n, rfl, hb, hn, q⟩

theorem ok_digit_total {P : Program} {w : World} {K : PySem.W.Frag} {mg : Str → Option Value} {base : Heap} (T : Txt K mg) : FnOk P w K mg base CX0 2 T.a_digit_total T.d_digit_total ["b", "k"] (sp_digit_total K) := by
  refine T.F_digit_total.ok sc_digit_total (fun vs H Q E h => ?_) (fun cdv A outer s H vs Q E hr h => ?_)
  · obtain ⟨b, n, rfl, _⟩ := h
    rfl
  · obtain ⟨b, n, rfl, hb, hn, k⟩ := h
    refine ⟨_, (pss_one (ps_ret (pe_callB (cr_sum rfl) (by rfl) T.z_sum (by decide +kernel) (pa_cons (pe_call (ok_digit_row T) (hr.mono (by decide)) (by rfl) T.g_digit_row T.F_digit_row.kp T.b_digit_row .nil pass0 (pa_cons (pv 0) (pa_cons (pv 1) pa_nil))) pa_nil)))), ?_⟩
    refine s_ret (ev_is (ev_sumN (ns := (dg b n).map Int.ofNat) (el_is (el_call (ea_cons (ev_var rfl) (ea_cons (ev_var rfl) ea_nil)) (sv_digit_row hb hn)) (mapN _))) (congrArg V.int (sumN _))) fun H1 e1 => k H1 e1


def sp_are_carry_free (K : PySem.W.Frag) : Sp := fun vs H Q _ => ∃ (b : Nat) (a : Addr) (xs : List Nat), vs = [N_ b, .ref a] ∧ Bs b ∧ SqT K H a (xs.map N_) ∧ xs.length ≤ 410 ∧ Gt xs.sum ∧ RetV (.bl (decide ((xs.map (ds b)).sum = ds b xs.sum))) H Q
theorem dec_int {x y : Nat} : decide (V.int (x : Int) = V.int (y : Int)) = decide (x = y) := by
  by_cases h : x = y
  · subst h
    rw [decide_eq_true rfl, decide_eq_true rfl]
  · rw [decide_eq_false h, decide_eq_false (fun z => h (by have := V.int.inj z; omega))]

theorem ok_are_carry_free {P : Program} {w : World} {K : PySem.W.Frag} {mg : Str → Option Value} {base : Heap} (T : Txt K mg) : FnOk P w K mg base CX0 3 T.a_are_carry_free T.d_are_carry_free ["b", "numbers"] (sp_are_carry_free K) := by
  refine T.F_are_carry_free.ok sc_are_carry_free (fun vs H Q E h => ?_) (fun cdv A outer s H vs Q E hr h => ?_)
  · obtain ⟨b, a, xs, rfl, _⟩ := h
    rfl
  · obtain ⟨b, a, xs, rfl, hb, hx, hlen, hs, k⟩ := h
    refine ⟨_, (pss_one (ps_ret (pe_cmpR op_eq (pe_callB (cr_sum rfl) (by rfl) T.z_sum (by decide +kernel) (pa_cons (pe_lc (own := [("number", 2)]) (g := gName 2) rfl sc_are_carry_free.nd (pi_tup (pv 1)) (blkOk_by (N := ["b", "numbers", "number"]) (sc := defScope s_are_carry_free) (by decide +kernel)) (fun _ _ _ _ _ => pg_name (i := 2) sc_are_carry_free.nd rfl (Or.inl rfl)) (fun _ _ _ _ _ => pts_nil) (fun _ _ _ _ _ => (pe_call (ok_digit_total T) (hr.mono (by decide)) (by rfl) T.g_digit_total T.F_digit_total.kp T.b_digit_total .nil pass0 (pa_cons (pv 0) (pa_cons (pv 2) pa_nil))))) pa_nil)) (pe_call (ok_digit_total T) (hr.mono (by decide)) (by rfl) T.g_digit_total T.F_digit_total.kp T.b_digit_total .nil pass0 (pa_cons (pv 0) (pa_cons (pe_callB (cr_sumT rfl) (by rfl) T.z_sum (by decide +kernel) (pa_cons (pv 1) pa_nil)) pa_nil))) (nomark _)))), ?_⟩
    have hsm : ∀ d ∈ xs, Gt d := fun d hd => Nat.lt_of_le_of_lt (le_sum xs d hd) hs
    have hL : (cxOf CX0 P w K mg base ["b", "numbers", "number"] "are_carry_free" (defScope s_are_carry_free) T.a_are_carry_free cdv A outer s H E).K = K := rfl
    refine s_ret (ev_is (ev_op (ev_is (ev_sumN (ns := (xs.map (ds b)).map Int.ofNat) (el_is (el_lcT (fun _ => true) (fun i => N_ (ds b (xs[i]?.getD 0))) (ev_var rfl) hx (by rw [List.length_map]; omega) (fun _ => rfl) (fun _ _ _ _ _ => et_nil)
      (fun i x H1 e1 hi _ => ?_)) ?_)) (congrArg V.int (sumN _))) (ev_call (ea_cons (ev_var rfl) (ea_cons (ev_cb (ea_cons (ev_var rfl) ea_nil) (rc_sumT (ns := xs.map Int.ofNat) (by rw [← mapN]; exact hx))) ea_nil)) ?_) (rv_eq rfl)) (congrArg V.bl dec_int)) fun H1 e1 => k H1 e1
    · rw [List.getElem?_map] at hi
      obtain ⟨d, hd, rfl⟩ := Option.map_eq_some_iff.mp hi
      rw [hd]
      exact ev_call (ea_cons (ev_var rfl) (ea_cons (ev_var rfl) ea_nil)) (sv_digit_total hb (hsm d (List.mem_of_getElem? hd)))
    · rw [List.length_map, given_all xs (fun d => N_ (ds b d)) _ (fun i y h => by rw [h]; rfl), ← mapN, List.map_map]
      rfl
    · rw [sumN]
      exact sv_digit_total hb hs


abbrev Sm (x : Int) : Prop := x.natAbs < 10 ^ 60
def sp_is_integer (K : PySem.W.Frag) : Sp := fun vs H Q _ => ∃ (x : Int), vs = [.int x] ∧ Sm x ∧ RetV (.bl true) H Q
theorem sv_is_integer {K : PySem.W.Frag} {H : Hp} {x : Int} (h : Sm x) : SpV (sp_is_integer K) [.int x] H (.bl true) := fun H1 _ Q q E => ⟨x, rfl, h, q⟩
theorem sm_abs {x : Int} (h : Sm x) : (decide (-1000000000000000000000000000000000000000000000000000000000000 < x) && decide (x < 1000000000000000000000000000000000000000000000000000000000000)) = true := by
  have h' : x.natAbs < 10 ^ 60 := h
  rw [decide_eq_true (by omega), decide_eq_true (by omega)]
  rfl

theorem ok_is_integer {P : Program} {w : World} {K : PySem.W.Frag} {mg : Str → Option Value} {base : Heap} (T : Txt K mg) : FnOk P w K mg base CX0 1 T.a_is_integer T.d_is_integer ["value"] (sp_is_integer K) := by
  refine T.F_is_integer.ok sc_is_integer (fun vs H Q E h => ?_) (fun cdv A outer s H vs Q E hr h => ?_)
  · obtain ⟨x, rfl, _⟩ := h
    rfl
  · obtain ⟨x, rfl, hx, k⟩ := h
    refine ⟨_, (pss_one (ps_ret (pe_and (pe_callB call_isi (by rfl) T.z_isinstance (by decide +kernel) (pa_cons (pv 0) (pa_cons (pe_bltn (v := .ty "int") (u := .type "int") (by rfl) T.z_int (by decide +kernel) rfl) pa_nil))) (pe_and (pe_not (pe_callB call_isi (by rfl) T.z_isinstance (by decide +kernel) (pa_cons (pv 0) (pa_cons (pe_bltn (v := .ty "bool") (u := .type "bool") (by rfl) T.z_bool (by decide +kernel) rfl) pa_nil)))) (pe_one (pe_chain op_lt op_lt (pe_un un_neg (pe_glob (v := .int 1000000000000000000000000000000000000000000000000000000000000) (by rfl) T.c_TOO_LONG ⟨_, rfl⟩)) (pv 0) (pe_glob (v := .int 1000000000000000000000000000000000000000000000000000000000000) (by rfl) T.c_TOO_LONG ⟨_, rfl⟩))))))), ?_⟩
    refine s_ret (ev_is (ev_andV (ev_cb (ea_cons (ev_var rfl) (ea_cons ev_c ea_nil)) (rc_isi (b := true) (.base (.int x)) (kit_ty (by decide +kernel)))) fun _ =>
      (ev_andV (ev_notV (ev_cb (ea_cons (ev_var rfl) (ea_cons ev_c ea_nil)) (rc_isi (b := false) (.base (.int x)) (kit_ty (by decide +kernel))))) fun _ =>
        (ev_chain (ev_un ev_c ru_neg) (ev_var rfl) rv_I0 (fun _ => ev_c) (fun _ => rv_I0)))) ?_) fun H1 e1 => k H1 e1
    rw [sm_abs hx]
    rfl


def sp_is_from (K : PySem.W.Frag) : Sp := fun vs H Q _ => ∃ (x l : Int), vs = [.int x, .int l] ∧ Sm x ∧ RetV (.bl (decide (l ≤ x))) H Q
theorem sv_is_from {K : PySem.W.Frag} {H : Hp} {x l : Int} (h : Sm x) : SpV (sp_is_from K) [.int x, .int l] H (.bl (decide (l ≤ x))) := fun H1 _ Q q E => ⟨x, l, rfl, h, q⟩

theorem ok_is_from {P : Program} {w : World} {K : PySem.W.Frag} {mg : Str → Option Value} {base : Heap} (T : Txt K mg) : FnOk P w K mg base CX0 2 T.a_is_from T.d_is_from ["value", "low"] (sp_is_from K) := by
  refine T.F_is_from.ok sc_is_from (fun vs H Q E h => ?_) (fun cdv A outer s H vs Q E hr h => ?_)
  · obtain ⟨x, l, rfl, _⟩ := h
    rfl
  · obtain ⟨x, l, rfl, hx, k⟩ := h
    refine ⟨_, (pss_one (ps_ret (pe_and (pe_call (ok_is_integer T) (hr.mono (by decide)) (by rfl) T.g_is_integer T.F_is_integer.kp T.b_is_integer .nil pass0 (pa_cons (pv 0) pa_nil)) (pe_one (pe_cmpR op_ge (pv 0) (pv 1) (nomark _)))))), ?_⟩
    refine s_ret (ev_andV (ev_call (ea_cons (ev_var rfl) ea_nil) (sv_is_integer hx)) fun _ => (ev_op (ev_var rfl) (ev_var rfl) rv_I0)) fun H1 e1 => k H1 e1


def sp_is_between (K : PySem.W.Frag) : Sp := fun vs H Q _ => ∃ (x l u : Int), vs = [.int x, .int l, .int u] ∧ Sm x ∧ RetV (.bl (decide (l ≤ x) && decide (x ≤ u))) H Q
theorem sv_is_between {K : PySem.W.Frag} {H : Hp} {x l u : Int} (h : Sm x) : SpV (sp_is_between K) [.int x, .int l, .int u] H (.bl (decide (l ≤ x) && decide (x ≤ u))) := fun H1 _ Q q E => ⟨x, l, u, rfl, h, q⟩

theorem ok_is_between {P : Program} {w : World} {K : PySem.W.Frag} {mg : Str → Option Value} {base : Heap} (T : Txt K mg) : FnOk P w K mg base CX0 2 T.a_is_between T.d_is_between ["value", "low", "high"] (sp_is_between K) := by
  refine T.F_is_between.ok sc_is_between (fun vs H Q E h => ?_) (fun cdv A outer s H vs Q E hr h => ?_)
  · obtain ⟨x, l, u, rfl, _⟩ := h
    rfl
  · obtain ⟨x, l, u, rfl, hx, k⟩ := h
    refine ⟨_, (pss_one (ps_ret (pe_and (pe_call (ok_is_integer T) (hr.mono (by decide)) (by rfl) T.g_is_integer T.F_is_integer.kp T.b_is_integer .nil pass0 (pa_cons (pv 0) pa_nil)) (pe_one (pe_chain op_le op_le (pv 1) (pv 0) (pv 2)))))), ?_⟩
    refine s_ret (ev_andV (ev_call (ea_cons (ev_var rfl) ea_nil) (sv_is_integer hx)) fun _ => (ev_chain (ev_var rfl) (ev_var rfl) rv_I0 (fun _ => ev_var rfl) (fun _ => rv_I0))) fun H1 e1 => k H1 e1


def sp_check_from (K : PySem.W.Frag) : Sp := fun vs H Q _ => ∃ (x l : Int), vs = [.int x, .int l] ∧ Sm x ∧ l ≤ x ∧ RetV .non H Q
theorem sv_check_from {K : PySem.W.Frag} {H : Hp} {x l : Int} (h : Sm x) (h2 : l ≤ x) : SpV (sp_check_from K) [.int x, .int l] H .non := fun H1 _ Q q E => ⟨x, l, rfl, h, h2, q⟩

theorem ok_check_from {P : Program} {w : World} {K : PySem.W.Frag} {mg : Str → Option Value} {base : Heap} (T : Txt K mg) : FnOk P w K mg base CX0 3 T.a_check_from T.d_check_from ["value", "low"] (sp_check_from K) := by
  refine T.F_check_from.ok sc_check_from (fun vs H Q E h => ?_) (fun cdv A outer s H vs Q E hr h => ?_)
  · obtain ⟨x, l, rfl, _⟩ := h
    rfl
  · obtain ⟨x, l, rfl, hx, hl, k⟩ := h
    refine ⟨_, (pss_one (ps_if (pt_not (pt_val (pe_call (ok_is_from T) (hr.mono (by decide)) (by rfl) T.g_is_from T.F_is_from.kp T.b_is_from .nil pass0 (pa_cons (pv 0) (pa_cons (pv 1) pa_nil))))) (pss_one ps_never) pss_nil)), ?_⟩
    refine s_when (et_not (et_B (ev_call (ea_cons (ev_var rfl) (ea_cons (ev_var rfl) ea_nil)) (sv_is_from hx)))) (fun hb => ?_) (fun _ H1 e1 => k H1 e1)
    rw [decide_eq_true hl] at hb
    cases hb


def sp_check_between (K : PySem.W.Frag) : Sp := fun vs H Q _ => ∃ (x l u : Int), vs = [.int x, .int l, .int u] ∧ Sm x ∧ l ≤ x ∧ x ≤ u ∧ RetV .non H Q
theorem sv_check_between {K : PySem.W.Frag} {H : Hp} {x l u : Int} (h : Sm x) (h2 : l ≤ x) (h3 : x ≤ u) : SpV (sp_check_between K) [.int x, .int l, .int u] H .non := fun H1 _ Q q E => ⟨x, l, u, rfl, h, h2, h3, q⟩

theorem ok_check_between {P : Program} {w : World} {K : PySem.W.Frag} {mg : Str → Option Value} {base : Heap} (T : Txt K mg) : FnOk P w K mg base CX0 3 T.a_check_between T.d_check_between ["value", "low", "high"] (sp_check_between K) := by
  refine T.F_check_between.ok sc_check_between (fun vs H Q E h => ?_) (fun cdv A outer s H vs Q E hr h => ?_)
  · obtain ⟨x, l, u, rfl, _⟩ := h
    rfl
  · obtain ⟨x, l, u, rfl, hx, hl, hu, k⟩ := h
    refine ⟨_, (pss_one (ps_if (pt_not (pt_val (pe_call (ok_is_between T) (hr.mono (by decide)) (by rfl) T.g_is_between T.F_is_between.kp T.b_is_between .nil pass0 (pa_cons (pv 0) (pa_cons (pv 1) (pa_cons (pv 2) pa_nil)))))) (pss_one ps_never) pss_nil)), ?_⟩
    refine s_when (et_not (et_B (ev_call (ea_cons (ev_var rfl) (ea_cons (ev_var rfl) (ea_cons (ev_var rfl) ea_nil))) (sv_is_between hx)))) (fun hb => ?_) (fun _ H1 e1 => k H1 e1)
    rw [decide_eq_true hl, decide_eq_true hu] at hb
    cases hb


def sp_check_base (K : PySem.W.Frag) : Sp := fun vs H Q _ => ∃ (b : Nat), vs = [N_ b] ∧ Bs b ∧ RetV .non H Q
theorem sv_check_base {K : PySem.W.Frag} {H : Hp} {b : Nat} (h : Bs b) : SpV (sp_check_base K) [N_ b] H .non := fun H1 _ Q q E => ⟨b, rfl, h, q⟩
theorem sm_b {b : Nat} (h : Bs b) : Sm (b : Int) := by
  have := h.2
  show (Int.natAbs (b : Int)) < 10 ^ 60
  have e : (1001 : Nat) ≤ 10 ^ 60 := by decide
  omega

theorem ok_check_base {P : Program} {w : World} {K : PySem.W.Frag} {mg : Str → Option Value} {base : Heap} (T : Txt K mg) : FnOk P w K mg base CX0 4 T.a_check_base T.d_check_base ["b"] (sp_check_base K) := by
  refine T.F_check_base.ok sc_check_base (fun vs H Q E h => ?_) (fun cdv A outer s H vs Q E hr h => ?_)
  · obtain ⟨b, rfl, _⟩ := h
    rfl
  · obtain ⟨b, rfl, hb, k⟩ := h
    refine ⟨_, (pss_one (ps_expr (pe_call (ok_check_between T) (hr.mono (by decide)) (by rfl) T.g_check_between T.F_check_between.kp T.b_check_between .nil pass0 (pa_cons (pv 0) (pa_cons pe_int (pa_cons pe_int pa_nil)))))), ?_⟩
    refine s_drop (ev_call (ea_cons (ev_var rfl) (ea_cons ev_c (ea_cons ev_c ea_nil))) (sv_check_between (sm_b hb) (by have := hb.1; omega) (by have := hb.2; omega))) fun H1 e1 => k H1 e1


def sp_check_numbers (K : PySem.W.Frag) : Sp := fun vs H Q _ => ∃ (a : Addr) (xs : List Nat), vs = [.ref a] ∧ SqT K H a (xs.map N_) ∧ 1 ≤ xs.length ∧ xs.length ≤ 400 ∧ (∀ d ∈ xs, d < 10 ^ 60) ∧ RetV .non H Q
theorem sv_check_numbers {K : PySem.W.Frag} {H : Hp} {a : Addr} {xs : List Nat} (h : SqT K H a (xs.map N_)) (h1 : 1 ≤ xs.length) (h2 : xs.length ≤ 400) (h3 : ∀ d ∈ xs, d < 10 ^ 60) : SpV (sp_check_numbers K) [.ref a] H .non := fun H1 e Q q E => ⟨a, xs, rfl, ex_t e h, h1, h2, h3, q⟩
theorem sm_n {n : Nat} (h : n < 10 ^ 60) : Sm (n : Int) := h

theorem ok_check_numbers {P : Program} {w : World} {K : PySem.W.Frag} {mg : Str → Option Value} {base : Heap} (T : Txt K mg) : FnOk P w K mg base CX0 3 T.a_check_numbers T.d_check_numbers ["numbers"] (sp_check_numbers K) := by
  refine T.F_check_numbers.ok sc_check_numbers (fun vs H Q E h => ?_) (fun cdv A outer s H vs Q E hr h => ?_)
  · obtain ⟨a, xs, rfl, _⟩ := h
    rfl
  · obtain ⟨a, xs, rfl, hx, h1, h2, h3, k⟩ := h
    refine ⟨_, (pss_cons (ps_if (PW.pt (pw_or (pt_not (pt_val (pe_callB call_isi (by rfl) T.z_isinstance (by decide +kernel) (pa_cons (pv 0) (pa_cons (pe_bltn (v := .ty "tuple") (u := .type "tuple") (by rfl) T.z_tuple (by decide +kernel) rfl) pa_nil))))) (pw_or1 (pt_not (pt_chain op_le op_le pe_int (pe_callB call_len_seq (by rfl) T.z_len (by decide +kernel) (pa_cons (pv 0) pa_nil)) (pe_glob (v := .int 400) (by rfl) T.c_MOST_NUMBERS ⟨_, rfl⟩)))))) (pss_one ps_never) pss_nil)
      (pss_one (ps_if (pt_not (pt_val (pe_callB (cr_all rfl) (by rfl) T.z_all (by decide +kernel) (pa_cons (pe_lc (own := [("number", 1)]) (g := gName 1) rfl sc_check_numbers.nd (pi_tup (pv 0)) (blkOk_by (N := ["numbers", "number"]) (sc := defScope s_check_numbers) (by decide +kernel)) (fun _ _ _ _ _ => pg_name (i := 1) sc_check_numbers.nd rfl (Or.inl rfl)) (fun _ _ _ _ _ => pts_nil) (fun _ _ _ _ _ => (pe_call (ok_is_from T) (hr.mono (by decide)) (by rfl) T.g_is_from T.F_is_from.kp T.b_is_from .nil pass0 (pa_cons (pv 1) (pa_cons pe_int pa_nil))))) pa_nil)))) (pss_one ps_never) pss_nil))), ?_⟩
    refine q_when (et_or (et_not (et_B (ev_cb (ea_cons (ev_var rfl) (ea_cons ev_c ea_nil)) (rc_isi (b := true) (tyx_tup hx) (kit_ty (by decide +kernel)))))) fun _ =>
      et_not (et_test (ev_chain ev_c (ev_cb (ea_cons (ev_var rfl) ea_nil) (rc_lenT hx)) rv_I0 (fun _ => ev_c) (fun _ => rv_I0)))) (fun hb => ?_) (fun _ H1 e1 => ?_)
    · rw [List.length_map, decide_eq_true (by omega), decide_eq_true (by omega)] at hb
      cases hb
    · refine s_when (et_not (et_B (ev_allN (bs := xs.map fun _ => true) (el_is (el_lcT (fun _ => true) (fun i => .bl true) (ev_var rfl) (ex_t e1 hx) (by rw [List.length_map]; omega) (fun _ => rfl) (fun _ _ _ _ _ => et_nil)
        (fun i x H2 e2 hi _ => ?_)) ?_)))) (fun hb => ?_) (fun _ H2 e2 => k H2 (e1.trans e2))
      · rw [List.getElem?_map] at hi
        obtain ⟨d, hd, rfl⟩ := Option.map_eq_some_iff.mp hi
        exact ev_is (ev_call (ea_cons (ev_var rfl) (ea_cons ev_c ea_nil)) (sv_is_from (sm_n (h3 d (List.mem_of_getElem? hd))))) (congrArg V.bl (decide_eq_true (by omega)))
      · rw [List.length_map, given_all xs (fun d => .bl true) _ (fun i y h => rfl), List.map_map]
        rfl
      · have : (xs.map fun _ => true).all id = true := by
          rw [List.all_eq_true]
          intro z hz
          obtain ⟨_, _, rfl⟩ := List.mem_map.mp hz
          rfl
        rw [this] at hb
        cases hb


def sp_digits (K : PySem.W.Frag) : Sp := fun vs H Q _ => ∃ (b n : Nat), vs = [N_ b, N_ n] ∧ Bs b ∧ n < 10 ^ 60 ∧ RetU ((dg b n).map N_) H Q
theorem gt_n {n : Nat} (h : n < 10 ^ 60) : Gt n := Nat.lt_trans h (by decide)
theorem sv_digits {K : PySem.W.Frag} {H : Hp} {b n : Nat} (hb : Bs b) (hn : n < 10 ^ 60) : SpU (sp_digits K) [N_ b, N_ n] H ((dg b n).map N_) := fun H1 _ Q q E => ⟨b, n, rfl, hb, hn, q⟩

theorem ok_digits {P : Program} {w : World} {K : PySem.W.Frag} {mg : Str → Option Value} {base : Heap} (T : Txt K mg) : FnOk P w K mg base CX0 5 T.a_digits T.d_digits ["b", "k"] (sp_digits K) := by
  refine T.F_digits.ok sc_digits (fun vs H Q E h => ?_) (fun cdv A outer s H vs Q E hr h => ?_)
  · obtain ⟨b, n, rfl, _⟩ := h
    rfl
  · obtain ⟨b, n, rfl, hb, hn, k⟩ := h
    refine ⟨_, (pss_cons (ps_expr (pe_call (ok_check_base T) (hr.mono (by decide)) (by rfl) T.g_check_base T.F_check_base.kp T.b_check_base .nil pass0 (pa_cons (pv 0) pa_nil)))
      (pss_cons (ps_expr (pe_call (ok_check_from T) (hr.mono (by decide)) (by rfl) T.g_check_from T.F_check_from.kp T.b_check_from .nil pass0 (pa_cons (pv 1) (pa_cons pe_int pa_nil))))
      (pss_one (ps_ret (pe_callTy call_tuple_of (by rfl) T.z_tuple (by decide +kernel) (pa_cons (pe_call (ok_digit_row T) (hr.mono (by decide)) (by rfl) T.g_digit_row T.F_digit_row.kp T.b_digit_row .nil pass0 (pa_cons (pv 0) (pa_cons (pv 1) pa_nil))) pa_nil)))))), ?_⟩
    refine q_drop (ev_call (ea_cons (ev_var rfl) ea_nil) (sv_check_base hb)) fun H1 e1 => ?_
    refine q_drop (ev_call (ea_cons (ev_var rfl) (ea_cons ev_c ea_nil)) (sv_check_from (sm_n hn) (by omega))) fun H2 e2 => ?_
    exact s_retU (eu_tupleN (el_call (ea_cons (ev_var rfl) (ea_cons (ev_var rfl) ea_nil)) (sv_digit_row hb (gt_n hn)))) fun p H3 hp e3 h3 => k.go (e1.trans e2) hp e3 h3


def sp_of_digits (K : PySem.W.Frag) : Sp := fun vs H Q _ => ∃ (b : Nat) (a : Addr) (xs : List Nat), vs = [N_ b, .ref a] ∧ Bs b ∧ SqT K H a (xs.map N_) ∧ xs.length ≤ 400 ∧ (∀ d ∈ xs, d < b) ∧ RetV (N_ (od b xs)) H Q
theorem sv_of_digits {K : PySem.W.Frag} {H : Hp} {b : Nat} {a : Addr} {xs : List Nat} (hb : Bs b) (h : SqT K H a (xs.map N_)) (hl : xs.length ≤ 400) (hx : ∀ d ∈ xs, d < b) : SpV (sp_of_digits K) [N_ b, .ref a] H (N_ (od b xs)) := fun H1 e Q q E => ⟨b, a, xs, rfl, hb, ex_t e h, hl, hx, q⟩
theorem sv_row_integer {K : PySem.W.Frag} {H : Hp} {b : Nat} {a : Addr} {xs : List Nat} (hb : Bs b) (h : SqT K H a (xs.map N_)) (hl : xs.length ≤ 410) (hx : ∀ d ∈ xs, d < b) : SpV (sp_row_integer K) [N_ b, .ref a] H (N_ (od b xs)) := fun H1 e Q q E => ⟨b, a, xs, rfl, hb, ex_t e h, hl, hx, q⟩
theorem all_true {α : Type} (xs : List α) : (xs.map fun _ => true).all id = true := by
  rw [List.all_eq_true]
  intro z hz
  obtain ⟨_, _, rfl⟩ := List.mem_map.mp hz
  rfl

theorem ok_of_digits {P : Program} {w : World} {K : PySem.W.Frag} {mg : Str → Option Value} {base : Heap} (T : Txt K mg) : FnOk P w K mg base CX0 5 T.a_of_digits T.d_of_digits ["b", "row"] (sp_of_digits K) := by
  refine T.F_of_digits.ok sc_of_digits (fun vs H Q E h => ?_) (fun cdv A outer s H vs Q E hr h => ?_)
  · obtain ⟨b, a, xs, rfl, _⟩ := h
    rfl
  · obtain ⟨b, a, xs, rfl, hb, hx, hlen, hxs, k⟩ := h
    refine ⟨_, (pss_cons (ps_expr (pe_call (ok_check_base T) (hr.mono (by decide)) (by rfl) T.g_check_base T.F_check_base.kp T.b_check_base .nil pass0 (pa_cons (pv 0) pa_nil)))
      (pss_cons (ps_if (PW.pt (pw_or (pt_not (pt_val (pe_callB call_isi (by rfl) T.z_isinstance (by decide +kernel) (pa_cons (pv 1) (pa_cons (pe_bltn (v := .ty "tuple") (u := .type "tuple") (by rfl) T.z_tuple (by decide +kernel) rfl) pa_nil))))) (pw_or1 (pt_cmpR op_gt (pe_callB call_len_seq (by rfl) T.z_len (by decide +kernel) (pa_cons (pv 1) pa_nil)) (pe_glob (v := .int 400) (by rfl) T.c_MOST_NUMBERS ⟨_, rfl⟩) (nomark _))))) (pss_one ps_never) pss_nil)
      (pss_cons (ps_if (pt_not (pt_val (pe_callB (cr_all rfl) (by rfl) T.z_all (by decide +kernel) (pa_cons (pe_lc (own := [("digit", 2)]) (g := gName 2) rfl sc_of_digits.nd (pi_tup (pv 1)) (blkOk_by (N := ["b", "row", "digit"]) (sc := defScope s_of_digits) (by decide +kernel)) (fun _ _ _ _ _ => pg_name (i := 2) sc_of_digits.nd rfl (Or.inl rfl)) (fun _ _ _ _ _ => pts_nil) (fun _ _ _ _ _ => (pe_call (ok_is_between T) (hr.mono (by decide)) (by rfl) T.g_is_between T.F_is_between.kp T.b_is_between .nil pass0 (pa_cons (pv 2) (pa_cons pe_int (pa_cons (pe_op op_sub (pv 0) pe_int) pa_nil)))))) pa_nil)))) (pss_one ps_never) pss_nil)
      (pss_one (ps_ret (pe_call (ok_row_integer T) (hr.mono (by decide)) (by rfl) T.g_row_integer T.F_row_integer.kp T.b_row_integer .nil pass0 (pa_cons (pv 0) (pa_cons (pv 1) pa_nil)))))))), ?_⟩
    refine q_drop (ev_call (ea_cons (ev_var rfl) ea_nil) (sv_check_base hb)) fun H1 e1 => ?_
    refine q_when (et_or (et_not (et_B (ev_cb (ea_cons (ev_var rfl) (ea_cons ev_c ea_nil)) (rc_isi (b := true) (tyx_tup (ex_t e1 hx)) (kit_ty (by decide +kernel)))))) fun _ =>
      et_test (ev_op (ev_cb (ea_cons (ev_var rfl) ea_nil) (rc_lenT (ex_t e1 hx))) ev_c rv_I0)) (fun hb' => ?_) (fun _ H2 e2 => ?_)
    · rw [List.length_map, decide_eq_false (by omega)] at hb'
      cases hb'
    · refine q_when (et_not (et_B (ev_allN (bs := xs.map fun _ => true) (el_is (el_lcT (fun _ => true) (fun i => .bl true) (ev_var rfl) (ex_t (e1.trans e2) hx) (by rw [List.length_map]; omega) (fun _ => rfl) (fun _ _ _ _ _ => et_nil)
        (fun i x H3 e3 hi _ => ?_)) ?_)))) (fun hb' => ?_) (fun _ H3 e3 => ?_)
      · rw [List.getElem?_map] at hi
        obtain ⟨d, hd, rfl⟩ := Option.map_eq_some_iff.mp hi
        have hdb := hxs d (List.mem_of_getElem? hd)
        have hsm : Sm (d : Int) := by
          have e : (1001 : Nat) ≤ 10 ^ 60 := by decide
          have := hb.2
          show Int.natAbs (d : Int) < 10 ^ 60
          omega
        exact ev_is (ev_call (ea_cons (ev_var rfl) (ea_cons ev_c (ea_cons (ev_op (ev_var rfl) ev_c rv_I0) ea_nil))) (sv_is_between hsm)) (congrArg V.bl (by rw [decide_eq_true (by omega), decide_eq_true (by omega)] <;> rfl))
      · rw [List.length_map, given_all xs (fun d => .bl true) _ (fun i y h => rfl), List.map_map]
        rfl
      · rw [all_true] at hb'
        cases hb'
      · exact s_ret (ev_call (ea_cons (ev_var rfl) (ea_cons (ev_var rfl) ea_nil)) (sv_row_integer hb (ex_t ((e1.trans e2).trans e3) hx) (by omega) hxs)) fun H4 e4 => k H4 (((e1.trans e2).trans e3).trans e4)


def sp_digit_sum (K : PySem.W.Frag) : Sp := fun vs H Q _ => ∃ (b n : Nat), vs = [N_ b, N_ n] ∧ Bs b ∧ n < 10 ^ 60 ∧ RetV (N_ (ds b n)) H Q
theorem sv_digit_sum {K : PySem.W.Frag} {H : Hp} {b n : Nat} (hb : Bs b) (hn : n < 10 ^ 60) : SpV (sp_digit_sum K) [N_ b, N_ n] H (N_ (ds b n)) := fun H1 _ Q q E => ⟨b, n, rfl, hb, hn, q⟩

theorem ok_digit_sum {P : Program} {w : World} {K : PySem.W.Frag} {mg : Str → Option Value} {base : Heap} (T : Txt K mg) : FnOk P w K mg base CX0 5 T.a_digit_sum T.d_digit_sum ["b", "k"] (sp_digit_sum K) := by
  refine T.F_digit_sum.ok sc_digit_sum (fun vs H Q E h => ?_) (fun cdv A outer s H vs Q E hr h => ?_)
  · obtain ⟨b, n, rfl, _⟩ := h
    rfl
  · obtain ⟨b, n, rfl, hb, hn, k⟩ := h
    refine ⟨_, (pss_cons (ps_expr (pe_call (ok_check_base T) (hr.mono (by decide)) (by rfl) T.g_check_base T.F_check_base.kp T.b_check_base .nil pass0 (pa_cons (pv 0) pa_nil)))
      (pss_cons (ps_expr (pe_call (ok_check_from T) (hr.mono (by decide)) (by rfl) T.g_check_from T.F_check_from.kp T.b_check_from .nil pass0 (pa_cons (pv 1) (pa_cons pe_int pa_nil))))
      (pss_one (ps_ret (pe_call (ok_digit_total T) (hr.mono (by decide)) (by rfl) T.g_digit_total T.F_digit_total.kp T.b_digit_total .nil pass0 (pa_cons (pv 0) (pa_cons (pv 1) pa_nil))))))), ?_⟩
    refine q_drop (ev_call (ea_cons (ev_var rfl) ea_nil) (sv_check_base hb)) fun H1 e1 => ?_
    refine q_drop (ev_call (ea_cons (ev_var rfl) (ea_cons ev_c ea_nil)) (sv_check_from (sm_n hn) (by omega))) fun H2 e2 => ?_
    exact s_ret (ev_call (ea_cons (ev_var rfl) (ea_cons (ev_var rfl) ea_nil)) (sv_digit_total hb (gt_n hn))) fun H3 e3 => k H3 ((e1.trans e2).trans e3)


def sp_carries (K : PySem.W.Frag) : Sp := fun vs H Q _ => ∃ (b x y : Nat), vs = [N_ b, N_ x, N_ y] ∧ Bs b ∧ x < 10 ^ 60 ∧ y < 10 ^ 60 ∧ RetV (N_ (cc b 0 x y)) H Q
theorem sv_carries {K : PySem.W.Frag} {H : Hp} {b x y : Nat} (hb : Bs b) (hx : x < 10 ^ 60) (hy : y < 10 ^ 60) : SpV (sp_carries K) [N_ b, N_ x, N_ y] H (N_ (cc b 0 x y)) := fun H1 _ Q q E => ⟨b, x, y, rfl, hb, hx, hy, q⟩
theorem car_eq {b x y : Nat} (hb : Bs b) : ((ds b x : Nat) + (ds b y : Nat) - (ds b (x + y) : Nat) : Int) / ((b : Int) - 1) = ((cc b 0 x y : Nat) : Int) := by
  have h := ds_plus (b := b) hb.1 x y
  have e : ((ds b x : Nat) + (ds b y : Nat) - (ds b (x + y) : Nat) : Int) = ((b : Int) - 1) * ((cc b 0 x y : Nat) : Int) := by
    have h2 : ((b : Int) - 1) = ((b - 1 : Nat) : Int) := by have := hb.1; omega
    rw [h2, ← Int.natCast_mul]
    omega
  rw [e]
  exact Int.mul_ediv_cancel_left _ (by have := hb.1; omega)

theorem ok_carries {P : Program} {w : World} {K : PySem.W.Frag} {mg : Str → Option Value} {base : Heap} (T : Txt K mg) : FnOk P w K mg base CX0 5 T.a_carries T.d_carries ["b", "i", "j"] (sp_carries K) := by
  refine T.F_carries.ok sc_carries (fun vs H Q E h => ?_) (fun cdv A outer s H vs Q E hr h => ?_)
  · obtain ⟨b, x, y, rfl, _⟩ := h
    rfl
  · obtain ⟨b, x, y, rfl, hb, hx, hy, k⟩ := h
    refine ⟨_, (pss_cons (ps_expr (pe_call (ok_check_base T) (hr.mono (by decide)) (by rfl) T.g_check_base T.F_check_base.kp T.b_check_base .nil pass0 (pa_cons (pv 0) pa_nil)))
      (pss_cons (ps_expr (pe_call (ok_check_from T) (hr.mono (by decide)) (by rfl) T.g_check_from T.F_check_from.kp T.b_check_from .nil pass0 (pa_cons (pv 1) (pa_cons pe_int pa_nil))))
      (pss_cons (ps_expr (pe_call (ok_check_from T) (hr.mono (by decide)) (by rfl) T.g_check_from T.F_check_from.kp T.b_check_from .nil pass0 (pa_cons (pv 2) (pa_cons pe_int pa_nil))))
      (pss_one (ps_ret (pe_op op_fdivW (pe_op op_sub (pe_op op_add (pe_call (ok_digit_total T) (hr.mono (by decide)) (by rfl) T.g_digit_total T.F_digit_total.kp T.b_digit_total .nil pass0 (pa_cons (pv 0) (pa_cons (pv 1) pa_nil))) (pe_call (ok_digit_total T) (hr.mono (by decide)) (by rfl) T.g_digit_total T.F_digit_total.kp T.b_digit_total .nil pass0 (pa_cons (pv 0) (pa_cons (pv 2) pa_nil)))) (pe_call (ok_digit_total T) (hr.mono (by decide)) (by rfl) T.g_digit_total T.F_digit_total.kp T.b_digit_total .nil pass0 (pa_cons (pv 0) (pa_cons (pe_op op_add (pv 1) (pv 2)) pa_nil)))) (pe_op op_sub (pv 0) pe_int))))))), ?_⟩
    refine q_drop (ev_call (ea_cons (ev_var rfl) ea_nil) (sv_check_base hb)) fun H1 e1 => ?_
    refine q_drop (ev_call (ea_cons (ev_var rfl) (ea_cons ev_c ea_nil)) (sv_check_from (sm_n hx) (by omega))) fun H2 e2 => ?_
    refine q_drop (ev_call (ea_cons (ev_var rfl) (ea_cons ev_c ea_nil)) (sv_check_from (sm_n hy) (by omega))) fun H3 e3 => ?_
    have hxy : Gt (x + y) := Nat.lt_of_lt_of_le (show x + y < 10 ^ 60 + 10 ^ 60 by omega) (by decide)
    exact s_ret (ev_is (ev_op (ev_op (ev_op (ev_call (ea_cons (ev_var rfl) (ea_cons (ev_var rfl) ea_nil)) (sv_digit_total hb (gt_n hx))) (ev_call (ea_cons (ev_var rfl) (ea_cons (ev_var rfl) ea_nil)) (sv_digit_total hb (gt_n hy))) rv_I0)
      (ev_call (ea_cons (ev_var rfl) (ea_cons (ev_op (ev_var rfl) (ev_var rfl) rv_I0) ea_nil)) (sv_digit_total (n := x + y) hb hxy)) rv_I0) (ev_op (ev_var rfl) ev_c rv_I0) (rv_I (wide_div (b := 10) (by have := hb.1; omega) (by have := hb.2; have := hb.1; show Int.natAbs ((b : Int) - 1) < 1024; omega) (by decide) (by decide)))) (congrArg V.int (car_eq hb))) fun H4 e4 => k H4 (((e1.trans e2).trans e3).trans e4)


def sp_has_no_carries (K : PySem.W.Frag) : Sp := fun vs H Q _ => ∃ (b : Nat) (a : Addr) (xs : List Nat), vs = [N_ b, .ref a] ∧ Bs b ∧ SqT K H a (xs.map N_) ∧ 1 ≤ xs.length ∧ xs.length ≤ 400 ∧ (∀ d ∈ xs, d < 10 ^ 60) ∧ RetV (.bl (decide ((xs.map (ds b)).sum = ds b xs.sum))) H Q
theorem sv_has_no_carries {K : PySem.W.Frag} {H : Hp} {b : Nat} {a : Addr} {xs : List Nat} (hb : Bs b) (h : SqT K H a (xs.map N_)) (h1 : 1 ≤ xs.length) (h2 : xs.length ≤ 400) (h3 : ∀ d ∈ xs, d < 10 ^ 60) : SpV (sp_has_no_carries K) [N_ b, .ref a] H (.bl (decide ((xs.map (ds b)).sum = ds b xs.sum))) := fun H1 e Q q E => ⟨b, a, xs, rfl, hb, ex_t e h, h1, h2, h3, q⟩
theorem sv_are_carry_free {K : PySem.W.Frag} {H : Hp} {b : Nat} {a : Addr} {xs : List Nat} (hb : Bs b) (h : SqT K H a (xs.map N_)) (h2 : xs.length ≤ 410) (h3 : Gt xs.sum) : SpV (sp_are_carry_free K) [N_ b, .ref a] H (.bl (decide ((xs.map (ds b)).sum = ds b xs.sum))) := fun H1 e Q q E => ⟨b, a, xs, rfl, hb, ex_t e h, h2, h3, q⟩
theorem sum_bound {m : Nat} : ∀ xs : List Nat, (∀ d ∈ xs, d < m) → xs.sum ≤ xs.length * m
  | [], _ => Nat.zero_le _
  | x :: r, h => by
    rw [List.sum_cons, List.length_cons, Nat.succ_mul]
    have h1 := h x (List.mem_cons_self ..)
    have h2 := sum_bound r fun d hd => h d (List.mem_cons_of_mem _ hd)
    omega

theorem ok_has_no_carries {P : Program} {w : World} {K : PySem.W.Frag} {mg : Str → Option Value} {base : Heap} (T : Txt K mg) : FnOk P w K mg base CX0 5 T.a_has_no_carries T.d_has_no_carries ["b", "numbers"] (sp_has_no_carries K) := by
  refine T.F_has_no_carries.ok sc_has_no_carries (fun vs H Q E h => ?_) (fun cdv A outer s H vs Q E hr h => ?_)
  · obtain ⟨b, a, xs, rfl, _⟩ := h
    rfl
  · obtain ⟨b, a, xs, rfl, hb, hx, h1, h2, h3, k⟩ := h
    refine ⟨_, (pss_cons (ps_expr (pe_call (ok_check_base T) (hr.mono (by decide)) (by rfl) T.g_check_base T.F_check_base.kp T.b_check_base .nil pass0 (pa_cons (pv 0) pa_nil)))
      (pss_cons (ps_expr (pe_call (ok_check_numbers T) (hr.mono (by decide)) (by rfl) T.g_check_numbers T.F_check_numbers.kp T.b_check_numbers .nil pass0 (pa_cons (pv 1) pa_nil)))
      (pss_one (ps_ret (pe_call (ok_are_carry_free T) (hr.mono (by decide)) (by rfl) T.g_are_carry_free T.F_are_carry_free.kp T.b_are_carry_free .nil pass0 (pa_cons (pv 0) (pa_cons (pv 1) pa_nil))))))), ?_⟩
    refine q_drop (ev_call (ea_cons (ev_var rfl) ea_nil) (sv_check_base hb)) fun H1 e1 => ?_
    refine q_drop (ev_call (ea_cons (ev_var rfl) ea_nil) (sv_check_numbers (ex_t e1 hx) h1 h2 h3)) fun H2 e2 => ?_
    have hs : Gt xs.sum := Nat.lt_of_le_of_lt (Nat.le_trans (sum_bound xs h3) (Nat.mul_le_mul_right _ h2)) (by decide)
    exact s_ret (ev_call (ea_cons (ev_var rfl) (ea_cons (ev_var rfl) ea_nil)) (sv_are_carry_free hb (ex_t (e1.trans e2) hx) (by omega) hs)) fun H3 e3 => k H3 ((e1.trans e2).trans e3)


end Own
namespace Own
open PySem PySem.Spec PyProof.Rows L2 Evl

def sp__law_dice (K : PySem.W.Frag) : Sp := fun vs H Q _ => ∃ (a : Addr) (ns : List Int) (at_ : Nat), vs = [.ref a, N_ at_] ∧ SqL K H a (ns.map V.int) ∧ ns.length ≤ 63 ∧ at_ ≤ 100 ∧ ∀ p H', H p = none → Ex H H' → IsDice H' p → Q (.ref p) H'

theorem ok__law_dice {P : Program} {w : World} {K : PySem.W.Frag} {mg : Str → Option Value} {base : Heap} (T : Txt K mg) : FnOk P w K mg base CX0 1 T.a__law_dice T.d__law_dice ["_law_script", "_law_at"] (sp__law_dice K) := by
  refine T.F__law_dice.ok sc__law_dice (fun vs H Q E h => ?_) (fun cdv A outer s H vs Q E hr h => ?_)
  · obtain ⟨a, ns, at_, rfl, _⟩ := h
    rfl
  · obtain ⟨a, ns, at_, rfl, hx, hlen, hat, k⟩ := h
    refine ⟨_, (pss_cons (ps_set (i := 2) sc__law_dice.nd rfl (Or.inl rfl) (pe_op op_add (pe_op op_mul pe_int (pv 1)) pe_int))
      (pss_cons (ps_if (pt_cmpR op_lt (pv 1) (pe_callB call_len_seq (by rfl) T.z_len (by decide +kernel) (pa_cons (pv 0) pa_nil)) (nomark _)) (pss_one (ps_set (i := 2) sc__law_dice.nd rfl (Or.inl rfl) (pe_ix (r := rIxL K) ix_list (pv 0) (pv 1) (fun _ _ => rfl)))) pss_nil)
      (pss_cons (ps_set (i := 3) sc__law_dice.nd rfl (Or.inl rfl) (pe_op op_mod (pe_callTy call_int1 (by rfl) T.z_int (by decide +kernel) (pa_cons (pe_callB call_abs (by rfl) T.z_abs (by decide +kernel) (pa_cons (pv 2) pa_nil)) pa_nil)) (pe_op op_powW (pe_op op_powW pe_int pe_int) pe_int)))
      (pss_cons (ps_set (i := 4) sc__law_dice.nd rfl (Or.inl rfl) (pe_op op_fdivW (pv 3) (pe_op op_powW pe_int pe_int)))
      (pss_cons (ps_set (i := 5) sc__law_dice.nd rfl (Or.inl rfl) (pe_op op_add (pe_op op_add (pe_op op_add (pe_op op_mul (pe_op op_mod (pv 3) pe_int) pe_int) (pe_op op_mul pe_int (pv 1))) (pe_op op_mul pe_int (pe_callTy call_int1 (by rfl) T.z_int (by decide +kernel) (pa_cons (pe_cmpR op_lt (pv 2) pe_int (nomark _)) pa_nil)))) pe_int))
      (pss_one (ps_ret (pe_lst (pa_cons (pv 4) (pa_cons (pe_op op_mod (pv 5) pe_int) (pa_cons pe_int pa_nil))))))))))), ?_⟩
    refine q_asg (ev_op (ev_op ev_c (ev_var rfl) (rv_I (.inl ⟨by decide, by decide⟩))) ev_c rv_I0) fun H1 e1 => ?_
    have hz : ∃ z : Int, (decide ((at_ : Int) < ((ns.map V.int).length : Nat)) = true → (ns.map V.int)[at_]? = some (.int z)) ∧ (decide ((at_ : Int) < ((ns.map V.int).length : Nat)) = false → z = 103 * (at_ : Int) + 43) := by
      by_cases hlt : at_ < ns.length
      · refine ⟨ns[at_], fun _ => ?_, fun h => ?_⟩
        · rw [List.getElem?_map, List.getElem?_eq_getElem hlt]
          rfl
        · have := of_decide_eq_false h
          rw [List.length_map] at this
          omega
      · refine ⟨103 * (at_ : Int) + 43, fun h => ?_, fun _ => rfl⟩
        have := of_decide_eq_true h
        rw [List.length_map] at this
        omega
    obtain ⟨z, hz1, hz2⟩ := hz
    refine q_ifAsg (v := .int z) (et_test (ev_op (ev_var rfl) (ev_cb (ea_cons (ev_var rfl) ea_nil) (rc_lenL (ex_l e1 hx))) rv_I0)) (fun hb => ev_op (ev_var rfl) (ev_var rfl) (rv_ixL (ex_l e1 hx) (atI_nat (hz1 hb)))) (fun hb => ?_) (fun H2 e2' => ?_)
    · rw [hz2 hb]
      rfl
    have e2 := e1.trans e2'
    refine q_asg (ev_op (ev_cb (ea_cons (ev_cb (ea_cons (ev_var rfl) ea_nil) rc_abs) ea_nil) rc_int) (ev_op (ev_op ev_c ev_c (rv_I ⟨by decide, by decide, by decide⟩)) ev_c (rv_I ⟨by decide, by decide, by decide +kernel⟩)) (rv_I (by decide +kernel))) fun H3 e3 => ?_
    refine q_asg (ev_op (ev_var rfl) (ev_op ev_c ev_c (rv_I ⟨by decide, by decide, by decide⟩)) (rv_I (wide_div (b := 100) (by decide +kernel) (by decide +kernel) (by decide) (by decide)))) fun H4 e4 => ?_
    refine q_asg (ev_op (ev_op (ev_op (ev_op (ev_op (ev_var rfl) ev_c (rv_I (by decide))) ev_c (rv_I (.inr ⟨by decide, by decide⟩))) (ev_op ev_c (ev_var rfl) (rv_I (.inl ⟨by decide, by decide⟩))) rv_I0) (ev_op ev_c (ev_cb (ea_cons (ev_op (ev_var rfl) ev_c rv_I0) ea_nil) rc_intB) (rv_I (.inl ⟨by decide, by decide⟩))) rv_I0) ev_c rv_I0) fun H5 e5 => ?_
    exact s_retL (el_lst (ea_cons (ev_var rfl) (ea_cons (ev_op (ev_var rfl) ev_c (rv_I (by decide))) (ea_cons ev_c ea_nil))) (by show 3 ≤ 100000; decide)) fun p H6 hp e6 h6 => k p H6 (fresh_back ((((e2.trans e3).trans e4).trans e5)) hp) ((((e2.trans e3).trans e4).trans e5).trans e6) ⟨_, _, _, h6⟩


def sp__law_roll (K : PySem.W.Frag) : Sp := fun vs H Q _ => ∃ (p : Addr) (m : Nat), vs = [.ref p, N_ m] ∧ IsDice H p ∧ 0 < m ∧ m < 2 ^ 1000 ∧ ∀ (r : Nat) H', r < m → Exd p H H' → IsDice H' p → Q (N_ r) H'
theorem nat_mod (x : Int) {m : Nat} (h : 0 < m) : ∃ r : Nat, r < m ∧ x % (m : Int) = (r : Int) := by
  have h1 := Int.emod_nonneg x (by omega : (m : Int) ≠ 0)
  have h2 := Int.emod_lt_of_pos x (by omega : (0 : Int) < m)
  exact ⟨(x % (m : Int)).toNat, by omega, by omega⟩

theorem ok__law_roll {P : Program} {w : World} {K : PySem.W.Frag} {mg : Str → Option Value} {base : Heap} (T : Txt K mg) : FnOk P w K mg base CX0 1 T.a__law_roll T.d__law_roll ["_law_dice_here", "_law_total"] (sp__law_roll K) := by
  refine T.F__law_roll.ok sc__law_roll (fun vs H Q E h => ?_) (fun cdv A outer s H vs Q E hr h => ?_)
  · obtain ⟨p, m, rfl, _⟩ := h
    rfl
  · obtain ⟨p, m, rfl, hd, hm, hM, k⟩ := h
    refine ⟨_, (pss_cons (ps_set (i := 2) sc__law_roll.nd rfl (Or.inl rfl) (pe_callTy call_int1 (by rfl) T.z_int (by decide +kernel) (pa_cons (pv 1) pa_nil)))
      (pss_cons (ps_if (pt_cmpR op_gt (pe_ix (r := rIxL K) ix_list (pv 0) pe_int (fun _ _ => rfl)) pe_int (nomark _)) (pss_cons (ps_set (i := 3) sc__law_roll.nd rfl (Or.inl rfl) (pe_op op_mod (pe_ix (r := rIxL K) ix_list (pv 0) pe_int (fun _ _ => rfl)) (pv 2)))
      (pss_cons (ps_asg (pe_op op_fdivW (pe_ix (r := rIxL K) ix_list (pv 0) pe_int (fun _ _ => rfl)) (pv 2)) (pg_sub (pv 0) pe_int set_list))
      (pss_one (ps_ret (pe_callTy call_int1 (by rfl) T.z_int (by decide +kernel) (pa_cons (pv 3) pa_nil)))))) pss_nil)
      (pss_cons (ps_asg (pe_op op_add (pe_ix (r := rIxL K) ix_list (pv 0) pe_int (fun _ _ => rfl)) pe_int) (pg_sub (pv 0) pe_int set_list))
      (pss_cons (ps_set (i := 4) sc__law_roll.nd rfl (Or.inl rfl) (pe_op op_mod (pe_op op_add (pe_ix (r := rIxL K) ix_list (pv 0) pe_int (fun _ _ => rfl)) (pe_op op_mul pe_int (pe_ix (r := rIxL K) ix_list (pv 0) pe_int (fun _ _ => rfl)))) pe_int))
      (pss_cons (ps_set (i := 5) sc__law_roll.nd rfl (Or.inl rfl) (pe_op op_add (pe_op op_mulW (pe_op op_mod (pe_op op_mulW (pv 4) (pv 4)) pe_int) (pv 4)) (pe_op op_mul pe_int (pe_ix (r := rIxL K) ix_list (pv 0) pe_int (fun _ _ => rfl)))))
      (pss_cons (ps_set (i := 5) sc__law_roll.nd rfl (Or.inl rfl) (pe_op op_mod (pv 5) pe_int))
      (pss_one (ps_ret (pe_callTy call_int1 (by rfl) T.z_int (by decide +kernel) (pa_cons (pe_op op_mod (pe_op op_fdivW (pv 5) pe_int) (pv 2)) pa_nil)))))))))), ?_⟩
    obtain ⟨d0, d1, d2, hd⟩ := hd
    refine q_asg (ev_cb (ea_cons (ev_var rfl) ea_nil) rc_int) fun H1 e1 => ?_
    have h1 := e1 _ _ hd
    refine q_if (et_test (ev_op (ev_op (ev_var rfl) ev_c (rv_ixL (sq_of h1) (atI_nat (j := 0) rfl))) ev_c rv_I0)) (fun hb H2 e2 => ?_) (fun _ H2 e2 => ?_)
    · have h2 := e2 _ _ h1
      obtain ⟨r, hr1, hr2⟩ := nat_mod d0 hm
      refine q_asg (ev_op (ev_op (ev_var rfl) ev_c (rv_ixL (sq_of h2) (atI_nat (j := 0) rfl))) (ev_var rfl) (rv_I (by omega))) fun H3 e3 => ?_
      have h3 := e3 _ _ h2
      refine q_setL (j := 0) h3 (ev_op (ev_op (ev_var rfl) ev_c (rv_ixL (sq_of h3) (atI_nat (j := 0) rfl))) (ev_var rfl) (rv_I (wide_div (b := 1000) (by omega) (by exact hM) (by decide) (by decide)))) (ev_var rfl) ev_c (by show 0 < 3; decide) fun H4 e4 => ?_
      refine s_ret (ev_cb (ea_cons (ev_var rfl) ea_nil) rc_int) fun H5 e5 => ?_
      rw [hr2]
      exact k r H5 hr1 (((Exd.of (((e1.trans e2).trans e3).trans e4)).trans Exd.put).trans (Exd.of e5)) (IsDice.ex ⟨_, _, _, upd_same⟩ e5)
    · have h2 := e2 _ _ h1
      refine q_setL (j := 2) h2 (ev_op (ev_op (ev_var rfl) ev_c (rv_ixL (sq_of h2) (atI_nat (j := 2) rfl))) ev_c rv_I0) (ev_var rfl) ev_c (by show 2 < 3; decide) fun H3 e3 => ?_
      have h3 : (upd H3 p (.lst ([V.int d0, .int d1, .int d2].set 2 (.int (d2 + 1))))) p = some (.lst [.int d0, .int d1, .int (d2 + 1)]) := upd_same
      generalize hg : upd H3 p (.lst ([V.int d0, .int d1, .int d2].set 2 (.int (d2 + 1)))) = G at h3
      have eG : Exd p H G := by
        rw [← hg]
        exact (Exd.of ((e1.trans e2).trans e3)).trans Exd.put
      refine q_asg (ev_op (ev_op (ev_op (ev_var rfl) ev_c (rv_ixL (sq_of h3) (atI_nat (j := 1) rfl))) (ev_op ev_c (ev_op (ev_var rfl) ev_c (rv_ixL (sq_of h3) (atI_nat (j := 2) rfl))) (rv_I (.inl ⟨by decide, by decide⟩))) rv_I0) ev_c (rv_I (by decide))) fun H4 e4 => ?_
      have h4 := e4 _ _ h3
      have b1 : ∀ x : Int, (x % 2305843009213693951).natAbs < 2 ^ 61 := fun x => mod_abs (by decide) (by decide)
      have b2 : ∀ x : Int, (x % 2305843009213693921).natAbs < 2 ^ 61 := fun x => mod_abs (by decide) (by decide)
      refine q_asg (ev_op (ev_op (ev_op (ev_op (ev_var rfl) (ev_var rfl) (rv_I (wide_mul (b1 _) (b1 _) (by decide) (by decide) (by decide)))) ev_c (rv_I (by decide))) (ev_var rfl) (rv_I (wide_mul (b2 _) (b1 _) (by decide) (by decide) (by decide)))) (ev_op ev_c (ev_op (ev_var rfl) ev_c (rv_ixL (sq_of h4) (atI_nat (j := 2) rfl))) (rv_I (.inl ⟨by decide, by decide⟩))) rv_I0) fun H5 e5 => ?_
      refine q_asg (ev_op (ev_var rfl) ev_c (rv_I (by decide))) fun H6 e6 => ?_
      refine s_ret (ev_cb (ea_cons (ev_op (ev_op (ev_var rfl) ev_c (rv_I (wide_div (b := 20) (by decide) (by decide) (by decide) (by decide)))) (ev_var rfl) (rv_I (by omega))) ea_nil) rc_int) fun H7 e7 => ?_
      obtain ⟨r, hr1, hr2⟩ := nat_mod _ hm
      rw [hr2]
      exact k r H7 hr1 (eG.trans (Exd.of (((e4.trans e5).trans e6).trans e7))) (IsDice.ex ⟨_, _, _, h4⟩ ((e5.trans e6).trans e7))


def sp__law_one_of (K : PySem.W.Frag) : Sp := fun vs H Q _ => ∃ (p a : Addr) (xs : List V), vs = [.ref p, .ref a] ∧ IsDice H p ∧ SqL K H a xs ∧ a ≠ p ∧ 0 < xs.length ∧ xs.length ≤ 1000 ∧ ∀ (x : V) H', x ∈ xs → Exd p H H' → IsDice H' p → Q x H'

theorem ok__law_one_of {P : Program} {w : World} {K : PySem.W.Frag} {mg : Str → Option Value} {base : Heap} (T : Txt K mg) : FnOk P w K mg base CX0 2 T.a__law_one_of T.d__law_one_of ["_law_dice_here", "_law_items"] (sp__law_one_of K) := by
  refine T.F__law_one_of.ok sc__law_one_of (fun vs H Q E h => ?_) (fun cdv A outer s H vs Q E hr h => ?_)
  · obtain ⟨p, a, xs, rfl, _⟩ := h
    rfl
  · obtain ⟨p, a, xs, rfl, hd, hx, hne, hpos, hlen, k⟩ := h
    refine ⟨_, (pss_one (ps_ret (pe_ix (r := rIxL K) ix_list (pv 1) (pe_call (ok__law_roll T) (hr.mono (by decide)) (by rfl) T.g__law_roll T.F__law_roll.kp T.b__law_roll .nil pass0 (pa_cons (pv 0) (pa_cons (pe_callB call_len_seq (by rfl) T.z_len (by decide +kernel) (pa_cons (pv 1) pa_nil)) pa_nil))) (fun _ _ => rfl)))), ?_⟩
    refine ⟨.ref a, rfl, .ref p, rfl, .ref a, rfl, a, xs, rfl, .inl hx, p, xs.length, rfl, hd, hpos, Nat.lt_of_le_of_lt hlen (by decide), fun r H' hr ex hd' => ?_⟩
    exact ⟨a, xs, (r : Int), xs[r], rfl, rfl, exd_l hne ex hx, atI_nat (List.getElem?_eq_getElem hr), k _ _ (List.getElem_mem hr) ex hd'⟩


def sp__law_raised (K : PySem.W.Frag) : Sp := fun vs H Q _ => ∃ (b c : Nat), vs = [N_ b, N_ c] ∧ b ≤ 1000 ∧ c ≤ 1000 ∧ RetV (N_ (b ^ c)) H Q
theorem sv_raised {K : PySem.W.Frag} {H : Hp} {b c : Nat} (hb : b ≤ 1000) (hc : c ≤ 1000) : SpV (sp__law_raised K) [N_ b, N_ c] H (N_ (b ^ c)) := fun H1 _ Q q E => ⟨b, c, rfl, hb, hc, q⟩
theorem pow_bd {b : Nat} (hb : b ≤ 1000) : ∀ i : Nat, b ^ i ≤ 2 ^ (10 * i)
  | 0 => Nat.le_refl _
  | i + 1 => by
    have ih := pow_bd hb i
    rw [Nat.pow_succ, Nat.mul_add, Nat.pow_add]
    exact Nat.mul_le_mul ih (by show b ≤ 1024; omega)

theorem ok__law_raised {P : Program} {w : World} {K : PySem.W.Frag} {mg : Str → Option Value} {base : Heap} (T : Txt K mg) : FnOk P w K mg base CX0 1 T.a__law_raised T.d__law_raised ["_law_base", "_law_count"] (sp__law_raised K) := by
  refine T.F__law_raised.ok sc__law_raised (fun vs H Q E h => ?_) (fun cdv A outer s H vs Q E hr h => ?_)
  · obtain ⟨b, c, rfl, _⟩ := h
    rfl
  · obtain ⟨b, c, rfl, hb, hc, k⟩ := h
    refine ⟨_, (pss_cons (ps_set (i := 2) sc__law_raised.nd rfl (Or.inl rfl) pe_int)
      (pss_cons (ps_for PassesOwn.never rfl (pi_range1 rfl T.z_range (pa_cons (pv 1) pa_nil)) (pg_name (i := 3) sc__law_raised.nd rfl (Or.inl rfl)) (pss_one (ps_set (i := 2) sc__law_raised.nd rfl (Or.inl rfl) (pe_op op_mulW (pv 2) (pv 0)))))
      (pss_one (ps_ret (pv 2))))), ?_⟩
    refine q_asg ev_c fun H1 e1 => ?_
    refine q_forR1 (n := (c : Int)) (ea_cons (ev_var rfl) ea_nil) ⟨by omega, by omega⟩ (fun i σ H' => ∃ y, σ = [some (N_ b), some (N_ c), some (N_ (b ^ i)), y] ∧ Ex H H') (fun H2 e2 => ⟨none, rfl, e1.trans e2⟩) (fun i σ H' hi hw => ?_) (fun σ H' hw => ?_)
    · obtain ⟨y, rfl, e2⟩ := hw
      have hb2 : b ^ i < 2 ^ 10001 := Nat.lt_of_le_of_lt (Nat.le_trans (pow_bd hb i) (Nat.pow_le_pow_right (by decide) (by omega : 10 * i ≤ 10000))) (Nat.pow_lt_pow_right (by decide) (by decide))
      refine s_asg (ev_op (ev_var rfl) (ev_var rfl) (rv_I (wide_mul (a := 10001) (b := 10) (by exact hb2) (by show b < 1024; omega) (by decide) (by decide) (by decide)))) fun H3 e3 => ⟨some (N_ i), ?_, e2.trans e3⟩
      rw [show N_ (b ^ (i + 1)) = V.int (((b ^ i : Nat) : Int) * (b : Int)) from congrArg V.int (by rw [Nat.pow_succ, Int.natCast_mul])]
      rfl
    · obtain ⟨y, rfl, e2⟩ := hw
      rw [Int.toNat_natCast]
      exact s_ret (ev_var rfl) fun H3 e3 => k H3 (e2.trans e3)


def sp__law_digits (K : PySem.W.Frag) : Sp := fun vs H Q _ => ∃ (b n : Nat), vs = [N_ b, N_ n] ∧ Bs b ∧ Gt n ∧ RetL ((dg b n).map N_) H Q
theorem sv__law_digits {K : PySem.W.Frag} {H : Hp} {b n : Nat} (hb : Bs b) (hn : Gt n) : SpL (sp__law_digits K) [N_ b, N_ n] H ((dg b n).map N_) := fun H1 _ Q q E => ⟨b, n, rfl, hb, hn, q⟩

theorem ok__law_digits {P : Program} {w : World} {K : PySem.W.Frag} {mg : Str → Option Value} {base : Heap} (T : Txt K mg) : FnOk P w K mg base CX0 1 T.a__law_digits T.d__law_digits ["_law_base", "_law_number_here"] (sp__law_digits K) := by
  refine T.F__law_digits.ok sc__law_digits (fun vs H Q E h => ?_) (fun cdv A outer s H vs Q E hr h => ?_)
  · obtain ⟨b, n, rfl, _⟩ := h
    rfl
  · obtain ⟨b, n, rfl, hb, hn, k⟩ := h
    refine ⟨_, (pss_cons (ps_par (i := 2) (j := 3) (by rfl) sc__law_digits.nd rfl rfl (by decide) rfl rfl (pa_cons (pe_lst pa_nil) (pa_cons (pv 1) pa_nil)) (by rfl))
      (pss_cons (ps_while PassesOwn.never (pt_cmpR op_gt (pv 3) pe_int (nomark _)) (pss_cons (ps_expr (pe_bm PySem.F.plainAttrs_list PySem.F.slot_list_append PySem.F.type_list_append mt_append (pv 2) (pa_cons (pe_op op_mod (pv 3) (pv 0)) pa_nil)))
      (pss_one (ps_set (i := 3) sc__law_digits.nd rfl (Or.inl rfl) (pe_op op_fdivW (pv 3) (pv 0))))))
      (pss_one (ps_ret (pv 2))))), ?_⟩
    refine q_parL (el_lst ea_nil (by decide)) (fun p H1 np e1 h1 => ev_var rfl) fun p H1 np e1 h1 => ?_
    refine q_while (fun l σ H' => ∃ acc : List Nat, σ = [some (N_ b), some (N_ n), some (.ref p), some (N_ l)] ∧ acc ++ dg b l = dg b n ∧ Ex H H' ∧ H' p = some (.lst (acc.map N_))) n
      ⟨[], rfl, rfl, e1, h1⟩ fun l σ H3 hw => ?_
    obtain ⟨acc, rfl, ha, e3, h3⟩ := hw
    refine ⟨decide (0 < (l : Int)), et_test (ev_op (ev_var rfl) ev_c rv_I0), fun ht H4 e4 => ?_, fun hf H4 e4 => ?_⟩
    · have hl : 0 < l := by have := of_decide_eq_true ht; omega
      refine ⟨fun σ' H' => σ' = [some (N_ b), some (N_ n), some (.ref p), some (N_ (l / b))] ∧ Ex H H' ∧ H' p = some (.lst ((acc ++ [l % b]).map N_)), fun σ2 H2' hN => ?_, ?_⟩
      · obtain ⟨rfl, e5, h5⟩ := hN
        refine ⟨l / b, Nat.div_lt_self hl hb.1, acc ++ [l % b], rfl, ?_, e5, h5⟩
        rw [← ha, dg_pos hb.1 hl, List.append_assoc]
        rfl
      · have hlen : acc.length < 100000 := by
          have h6 := dg_len hb.1 400 n hn
          rw [← ha, List.length_append] at h6
          omega
        refine q_app (e4 p _ h3) (ev_var rfl) (ev_op (ev_var rfl) (ev_var rfl) (rv_I (by have := hb.1; omega))) (by rw [List.length_map]; exact hlen) fun H5 e5 => ?_
        refine s_asg (ev_op (ev_var rfl) (ev_var rfl) (rv_I (divW (by have := hb.1; omega) hb.2))) fun H6 e6 => ?_
        refine ⟨rfl, ((e3.trans (e4.trans e5)).mut np).trans e6, ?_⟩
        rw [e6 p _ upd_same, List.map_append]
        rfl
    · have hl : l = 0 := by have := of_decide_eq_false hf; omega
      subst hl
      rw [dg_zero, List.append_nil] at ha
      subst ha
      exact s_ret (ev_var rfl) fun H5 e5 => k p H5 np ((e3.trans e4).trans e5) (e5 p _ (e4 p _ h3))


def sp__law_size (K : PySem.W.Frag) : Sp := fun vs H Q _ => ∃ (b m : Nat), vs = [N_ b, N_ m] ∧ Bs b ∧ 0 < m ∧ m < 2 ^ 300 ∧ ∀ (d : Nat) H', b ^ d ≤ m → m < b ^ (d + 1) → d ≤ 300 → Ex H H' → Q (N_ d) H'

theorem ok__law_size {P : Program} {w : World} {K : PySem.W.Frag} {mg : Str → Option Value} {base : Heap} (T : Txt K mg) : FnOk P w K mg base CX0 2 T.a__law_size T.d__law_size ["_law_q", "_law_most"] (sp__law_size K) := by
  refine T.F__law_size.ok sc__law_size (fun vs H Q E h => ?_) (fun cdv A outer s H vs Q E hr h => ?_)
  · obtain ⟨b, m, rfl, _⟩ := h
    rfl
  · obtain ⟨b, m, rfl, hb, hm0, hm, k⟩ := h
    refine ⟨_, (pss_cons (ps_set (i := 2) sc__law_size.nd rfl (Or.inl rfl) pe_int)
      (pss_cons (ps_while PassesOwn.never (pt_cmpR op_le (pe_call (ok__law_raised T) (hr.mono (by decide)) (by rfl) T.g__law_raised T.F__law_raised.kp T.b__law_raised .nil pass0 (pa_cons (pv 0) (pa_cons (pe_op op_add (pv 2) pe_int) pa_nil))) (pv 1) (nomark _)) (pss_one (ps_set (i := 2) sc__law_size.nd rfl (Or.inl rfl) (pe_op op_add (pv 2) pe_int))))
      (pss_one (ps_ret (pv 2))))), ?_⟩
    have bd : ∀ d : Nat, b ^ d ≤ m → d ≤ 300 := fun d h => by
      by_cases h2 : d ≤ 300
      · exact h2
      · have h3 : 2 ^ d ≤ b ^ d := Nat.pow_le_pow_left hb.1 d
        have h4 : 2 ^ 300 ≤ 2 ^ d := Nat.pow_le_pow_right (by decide) (by omega)
        exact absurd (Nat.le_trans h4 (Nat.le_trans h3 h)) (Nat.not_le_of_lt hm)
    refine q_asg ev_c fun H1 e1 => ?_
    refine q_while (fun l σ H' => ∃ d : Nat, σ = [some (N_ b), some (N_ m), some (N_ d)] ∧ l + d = 301 ∧ b ^ d ≤ m ∧ Ex H H') 301 ⟨0, rfl, rfl, by rw [Nat.pow_zero]; omega, e1⟩ fun l σ H3 hw => ?_
    obtain ⟨d, rfl, hl, hd, e3⟩ := hw
    have hd300 := bd d hd
    refine ⟨decide (((b ^ (d + 1) : Nat) : Int) ≤ (m : Int)), et_test (ev_op (ev_call (ea_cons (ev_var rfl) (ea_cons (ev_op (ev_var rfl) ev_c rv_I0) ea_nil)) (sv_raised (c := d + 1) hb.2 (by omega))) (ev_var rfl) rv_I0), fun ht H4 e4 => ?_, fun hf H4 e4 => ?_⟩
    · have hle : b ^ (d + 1) ≤ m := by have := of_decide_eq_true ht; exact Int.ofNat_le.mp this
      have := bd _ hle
      refine ⟨fun σ' H' => σ' = [some (N_ b), some (N_ m), some (N_ (d + 1))] ∧ Ex H H', fun σ2 H2' hN => ?_, ?_⟩
      · obtain ⟨rfl, e5⟩ := hN
        exact ⟨l - 1, by omega, d + 1, rfl, by omega, hle, e5⟩
      · exact s_asg (ev_op (ev_var rfl) ev_c rv_I0) fun H5 e5 => ⟨rfl, (e3.trans e4).trans e5⟩
    · have hlt : m < b ^ (d + 1) := by have := of_decide_eq_false hf; exact Nat.lt_of_not_le fun z => this (Int.ofNat_le.mpr z)
      exact s_ret (ev_var rfl) fun H5 e5 => k d H5 hd hlt hd300 ((e3.trans e4).trans e5)


end Own
namespace Own
open PySem PySem.Spec PyProof.Rows L2 Evl
/-! ### carries one by one -/
theorem cc_step {b : Nat} (hb : 1 < b) (c x y : Nat) (hc : c ≤ 1) (h : 0 < x ∨ 0 < y ∨ 0 < c) :
    cc b c x y = (if b ≤ x % b + y % b + c then 1 else 0) + cc b (if b ≤ x % b + y % b + c then 1 else 0) (x / b) (y / b) := by
  by_cases hxy : 0 < x ∨ 0 < y
  · rw [cc, dif_pos ⟨hb, hxy⟩]
  · have hx : x = 0 := by omega
    have hy : y = 0 := by omega
    subst hx hy
    have e : ¬ b ≤ 0 % b + 0 % b + c := by rw [Nat.zero_mod]; omega
    rw [if_neg e, Nat.zero_div, cc, dif_neg (by simp), cc, dif_neg (by simp)]
theorem cc_meas {b : Nat} (hb : 1 < b) (c x y : Nat) (hc : c ≤ 1) (h : 0 < x ∨ 0 < y ∨ 0 < c) : x / b + y / b + (if b ≤ x % b + y % b + c then 1 else 0) < x + y + c := by
  have hx := Nat.mod_add_div x b
  have hy := Nat.mod_add_div y b
  have h1 : 2 * (x / b) ≤ b * (x / b) := Nat.mul_le_mul_right _ hb
  have h2 : 2 * (y / b) ≤ b * (y / b) := Nat.mul_le_mul_right _ hb
  split <;> omega

def sp__law_carry_count (K : PySem.W.Frag) : Sp := fun vs H Q _ => ∃ (b x y : Nat), vs = [N_ b, N_ x, N_ y] ∧ Bs b ∧ RetV (N_ (cc b 0 x y)) H Q
theorem sv__law_carry_count {K : PySem.W.Frag} {H : Hp} {b x y : Nat} (hb : Bs b) : SpV (sp__law_carry_count K) [N_ b, N_ x, N_ y] H (N_ (cc b 0 x y)) := fun H1 _ Q q E => ⟨b, x, y, rfl, hb, q⟩

theorem ok__law_carry_count {P : Program} {w : World} {K : PySem.W.Frag} {mg : Str → Option Value} {base : Heap} (T : Txt K mg) : FnOk P w K mg base CX0 1 T.a__law_carry_count T.d__law_carry_count ["_law_b", "_law_one", "_law_other"] (sp__law_carry_count K) := by
  refine T.F__law_carry_count.ok sc__law_carry_count (fun vs H Q E h => ?_) (fun cdv A outer s H vs Q E hr h => ?_)
  · obtain ⟨b, x, y, rfl, _⟩ := h
    rfl
  · obtain ⟨b, x, y, rfl, hb, k⟩ := h
    refine ⟨_, (pss_cons (ps_asg (pe_tup (pa_cons pe_int (pa_cons pe_int pa_nil))) (pg_tup (by rfl) (pgs_cons (pg_name (i := 3) sc__law_carry_count.nd rfl (Or.inl rfl)) (pgs_cons (pg_name (i := 4) sc__law_carry_count.nd rfl (Or.inl rfl)) pgs_nil))))
      (pss_cons (ps_while PassesOwn.never (PW.pt (pw_or (pt_cmpR op_gt (pv 1) pe_int (nomark _)) (pw_or (pt_cmpR op_gt (pv 2) pe_int (nomark _)) (pw_or1 (pt_cmpR op_gt (pv 4) pe_int (nomark _)))))) (pss_cons (ps_set (i := 4) sc__law_carry_count.nd rfl (Or.inl rfl) (pe_callTy call_int1 (by rfl) T.z_int (by decide +kernel) (pa_cons (pe_cmpR op_ge (pe_op op_add (pe_op op_add (pe_op op_mod (pv 1) (pv 0)) (pe_op op_mod (pv 2) (pv 0))) (pv 4)) (pv 0) (nomark _)) pa_nil)))
      (pss_one (ps_par3 (i := 3) (j := 1) (l := 2) (by rfl) sc__law_carry_count.nd rfl rfl rfl (by decide) (by decide) (by decide) rfl rfl rfl (pa_cons (pe_op op_add (pv 3) (pv 4)) (pa_cons (pe_op op_fdivW (pv 1) (pv 0)) (pa_cons (pe_op op_fdivW (pv 2) (pv 0)) pa_nil))) (by rfl)))))
      (pss_one (ps_ret (pv 3))))), ?_⟩
    refine q_tupNN ev_c ev_c fun H1 e1 => ?_
    refine q_while (fun l σ H' => ∃ x' y' f c : Nat, σ = [some (N_ b), some (N_ x'), some (N_ y'), some (N_ f), some (N_ c)] ∧ l = x' + y' + c ∧ c ≤ 1 ∧ f + cc b c x' y' = cc b 0 x y ∧ Ex H H') (x + y)
      ⟨x, y, 0, 0, rfl, rfl, by omega, by omega, e1⟩ fun l σ H3 hw => ?_
    obtain ⟨x', y', f, c, rfl, rfl, hc, hf, e3⟩ := hw
    refine ⟨_, et_or (et_test (ev_op (ev_var rfl) ev_c rv_I0)) fun _ => et_or (et_test (ev_op (ev_var rfl) ev_c rv_I0)) fun _ => et_test (ev_op (ev_var rfl) ev_c rv_I0), fun ht H4 e4 => ?_, fun hff H4 e4 => ?_⟩
    · have hpos : 0 < x' ∨ 0 < y' ∨ 0 < c := by
        rw [Bool.or_eq_true, Bool.or_eq_true, decide_eq_true_eq, decide_eq_true_eq, decide_eq_true_eq] at ht
        omega
      generalize hcc : (if b ≤ x' % b + y' % b + c then 1 else 0 : Nat) = c2
      have hc2 : c2 ≤ 1 := by rw [← hcc]; split <;> omega
      have hm := cc_meas hb.1 c x' y' hc hpos
      have hst := cc_step hb.1 c x' y' hc hpos
      rw [hcc] at hm hst
      refine ⟨fun σ' H' => σ' = [some (N_ b), some (N_ (x' / b)), some (N_ (y' / b)), some (N_ (f + c2)), some (N_ c2)] ∧ Ex H H', fun σ2 H2' hN => ?_, ?_⟩
      · obtain ⟨rfl, e5⟩ := hN
        exact ⟨_, hm, x' / b, y' / b, f + c2, c2, rfl, rfl, hc2, by omega, e5⟩
      · refine q_asg (v := N_ c2) (ev_is (ev_cb (ea_cons (ev_op (ev_op (ev_op (ev_op (ev_var rfl) (ev_var rfl) (rv_I (by have := hb.1; omega))) (ev_op (ev_var rfl) (ev_var rfl) (rv_I (by have := hb.1; omega))) rv_I0) (ev_var rfl) rv_I0) (ev_var rfl) rv_I0) ea_nil) rc_intB) ?_) fun H5 e5 => ?_
        · rw [← hcc]
          have : ((b : Int) ≤ (x' : Int) % (b : Int) + (y' : Int) % (b : Int) + (c : Int)) ↔ b ≤ x' % b + y' % b + c := by
            rw [int_mod, int_mod]
            omega
          by_cases hq : b ≤ x' % b + y' % b + c
          · rw [if_pos hq, decide_eq_true (this.mpr hq)]
            rfl
          · rw [if_neg hq, decide_eq_false (fun z => hq (this.mp z))]
            rfl
        · refine s_par3 (ev_op (ev_var rfl) (ev_var rfl) rv_I0) (ev_op (ev_var rfl) (ev_var rfl) (rv_I (divW (by have := hb.1; omega) hb.2))) (ev_op (ev_var rfl) (ev_var rfl) (rv_I (divW (by have := hb.1; omega) hb.2))) fun H6 e6 => ⟨rfl, ((e3.trans e4).trans e5).trans e6⟩
    · have hz : x' = 0 ∧ y' = 0 ∧ c = 0 := by
        rw [Bool.or_eq_false_iff, Bool.or_eq_false_iff, decide_eq_false_iff_not, decide_eq_false_iff_not, decide_eq_false_iff_not] at hff
        omega
      obtain ⟨rfl, rfl, rfl⟩ := hz
      rw [cc, dif_neg (by simp), Nat.add_zero] at hf
      subst hf
      exact s_ret (ev_var rfl) fun H5 e5 => k H5 ((e3.trans e4).trans e5)


/-! ### place by place -/
def cf (b : Nat) (xs : List Nat) : Bool := decide ((xs.map (ds b)).sum = ds b xs.sum)
theorem cf_nc {b : Nat} (hb : 1 < b) {n : Nat} {xs : List Nat} (h : xs.sum ≤ n) : cf b xs = nc b n xs := by
  have := nc_iff hb n xs h
  unfold cf
  by_cases q : nc b n xs = true
  · rw [q, decide_eq_true (this.mp q)]
  · rw [Bool.not_eq_true] at q
    rw [q, decide_eq_false (fun z => by rw [this.mpr z] at q; cases q)]
theorem sum_div_le {b : Nat} (hb : 1 < b) (xs : List Nat) : (xs.map (· / b)).sum ≤ xs.sum := by
  have h1 := sum_split hb xs
  have h2 : 1 * (xs.map (· / b)).sum ≤ b * (xs.map (· / b)).sum := Nat.mul_le_mul_right _ (by omega)
  omega
theorem sum_div_lt {b : Nat} (hb : 1 < b) (xs : List Nat) (h : 0 < xs.sum) : (xs.map (· / b)).sum < xs.sum := by
  have h1 := sum_split hb xs
  have h2 : 2 * (xs.map (· / b)).sum ≤ b * (xs.map (· / b)).sum := Nat.mul_le_mul_right _ hb
  omega
theorem cf_step {b : Nat} (hb : 1 < b) (xs : List Nat) : cf b xs = (decide ((xs.map (· % b)).sum < b) && cf b (xs.map (· / b))) := by
  rw [cf_nc hb (n := xs.sum + 1) (by omega), cf_nc hb (n := xs.sum) (xs := xs.map (· / b)) (sum_div_le hb xs)]
  rfl
theorem sum_zero : ∀ {xs : List Nat}, (∀ x ∈ xs, x = 0) → xs.sum = 0
  | [], _ => rfl
  | x :: r, h => by
    rw [List.sum_cons, h x (List.mem_cons_self ..), sum_zero fun y hy => h y (List.mem_cons_of_mem _ hy)]
theorem cf_zero {b : Nat} {xs : List Nat} (h : xs.sum = 0) : cf b xs = true := by
  have hz : ∀ x ∈ xs, x = 0 := fun x hx => by have := le_sum xs x hx; omega
  refine decide_eq_true ?_
  rw [h, ds_zero]
  refine sum_zero fun y hy => ?_
  obtain ⟨x, hx, rfl⟩ := List.mem_map.mp hy
  rw [hz x hx, ds_zero]
section
variable {K : PySem.W.Frag} {σ : L2.St} {H : Hp} {ta tb : TE}
/-- max(xs) > 0 of a list of natural numbers -/
theorem et_maxpos {a : Addr} {xs : List Nat} (h : Ev ta σ H (.ref a)) (hx : SqL K H a (xs.map N_)) (hl : 0 < xs.length) : EvT (tTest (tOp (rI0 fun i j => .bl (decide (j < i))) (tCB (rMax K) (tCons ta tNil)) (tC (.int 0)))) σ H (decide (0 < xs.sum)) := fun H1 e Q q =>
  h H1 e _ fun H2 e2 => ⟨a, xs.map Int.ofNat, rfl, by rw [← mapN]; exact ex_l (e.trans e2) hx, by rw [List.length_map]; exact hl, fun m hm hle => ⟨m, 0, rfl, rfl, decide (0 < m), rfl, by
    have : decide (0 < m) = decide (0 < xs.sum) := by
      obtain ⟨z, hz, rfl⟩ := List.mem_map.mp hm
      by_cases hp : 0 < xs.sum
      · rw [decide_eq_true hp]
        refine decide_eq_true ?_
        have : 0 < z := by
          rcases Nat.eq_zero_or_pos z with rfl | hz0
          · exfalso
            have := sum_zero (xs := xs) fun x hx => by
              have := hle (Int.ofNat x) (List.mem_map.mpr ⟨x, hx, rfl⟩)
              have h0 : (x : Int) ≤ (0 : Nat) := this
              omega
            omega
          · exact hz0
        show (0 : Int) < (z : Int)
        omega
      · rw [decide_eq_false hp]
        refine decide_eq_false ?_
        have := le_sum xs z hz
        show ¬ (0 : Int) < (z : Int)
        omega
    rw [this]
    exact q H2 e2⟩⟩
end
def sp__law_has_none (K : PySem.W.Frag) : Sp := fun vs H Q _ => ∃ (b : Nat) (a : Addr) (xs : List Nat), vs = [N_ b, .ref a] ∧ Bs b ∧ SqT K H a (xs.map N_) ∧ 0 < xs.length ∧ xs.length ≤ 100 ∧ RetV (.bl (cf b xs)) H Q
theorem sv__law_has_none {K : PySem.W.Frag} {H : Hp} {b : Nat} {a : Addr} {xs : List Nat} (hb : Bs b) (h : SqT K H a (xs.map N_)) (h1 : 0 < xs.length) (h2 : xs.length ≤ 100) : SpV (sp__law_has_none K) [N_ b, .ref a] H (.bl (cf b xs)) := fun H1 e Q q E => ⟨b, a, xs, rfl, hb, ex_t e h, h1, h2, q⟩

theorem ok__law_has_none {P : Program} {w : World} {K : PySem.W.Frag} {mg : Str → Option Value} {base : Heap} (T : Txt K mg) : FnOk P w K mg base CX0 1 T.a__law_has_none T.d__law_has_none ["_law_b", "_law_numbers"] (sp__law_has_none K) := by
  refine T.F__law_has_none.ok sc__law_has_none (fun vs H Q E h => ?_) (fun cdv A outer s H vs Q E hr h => ?_)
  · obtain ⟨b, a, xs, rfl, _⟩ := h
    rfl
  · obtain ⟨b, a, xs, rfl, hb, hx, hpos, hlen, k⟩ := h
    refine ⟨_, (pss_cons (ps_set (i := 2) sc__law_has_none.nd rfl (Or.inl rfl) (pe_callTy call_list_of (by rfl) T.z_list (by decide +kernel) (pa_cons (pv 1) pa_nil)))
      (pss_cons (ps_while PassesOwn.never (pt_cmpR op_gt (pe_callB (cr_max rfl) (by rfl) T.z_max (by decide +kernel) (pa_cons (pv 2) pa_nil)) pe_int (nomark _)) (pss_cons (ps_if (pt_cmpR op_ge (pe_callB (cr_sum rfl) (by rfl) T.z_sum (by decide +kernel) (pa_cons (pe_lc (own := [("_law_one", 3)]) (g := gName 3) rfl sc__law_has_none.nd (pi_list (pv 2)) (blkOk_by (N := ["_law_b", "_law_numbers", "_law_left", "_law_one"]) (sc := defScope s__law_has_none) (by decide +kernel)) (fun _ _ _ _ _ => pg_name (i := 3) sc__law_has_none.nd rfl (Or.inl rfl)) (fun _ _ _ _ _ => pts_nil) (fun _ _ _ _ _ => (pe_op op_mod (pv 3) (pv 0)))) pa_nil)) (pv 0) (nomark _)) (pss_one (ps_ret pe_bl)) pss_nil)
      (pss_one (ps_setLc (i := 2) (own := [("_law_one", 3)]) (g := gName 3) (by rfl) sc__law_has_none.nd rfl rfl (sw_true rfl rfl rfl (by decide +kernel)) (pi_list (pv 2)) (blkOk_by (N := ["_law_b", "_law_numbers", "_law_left", "_law_one"]) (sc := defScope s__law_has_none) (by decide +kernel)) (fun _ _ _ _ _ => pg_name (i := 3) sc__law_has_none.nd rfl (Or.inl rfl)) (fun _ _ _ _ _ => pts_nil) (fun _ _ _ _ _ => (pe_op op_fdivW (pv 3) (pv 0)))))))
      (pss_one (ps_ret pe_bl)))), ?_⟩
    refine q_asgL (el_listT (ev_var rfl) hx) fun p H1 np e1 h1 => ?_
    refine q_while (fun l σ H' => ∃ (q : Addr) (ys : List Nat) (y : Option V), σ = [some (N_ b), some (.ref a), some (.ref q), y] ∧ l = ys.sum ∧ ys.length = xs.length ∧ cf b ys = cf b xs ∧ Ex H H' ∧ H' q = some (.lst (ys.map N_))) xs.sum
      ⟨p, xs, none, rfl, rfl, rfl, rfl, e1, h1⟩ fun l σ H3 hw => ?_
    obtain ⟨q, ys, y, rfl, rfl, hl, hcf, e3, h3⟩ := hw
    refine ⟨_, et_maxpos (xs := ys) (ev_var rfl) (sq_of h3) (by omega), fun ht H4 e4 => ?_, fun hff H4 e4 => ?_⟩
    · have hpos : 0 < ys.sum := of_decide_eq_true ht
      have h4 := e4 _ _ h3
      have hst := cf_step hb.1 ys
      refine ⟨fun σ' H' => ∃ (q2 : Addr) (y2 : Option V), σ' = [some (N_ b), some (.ref a), some (.ref q2), y2] ∧ cf b (ys.map (· / b)) = cf b xs ∧ Ex H H' ∧ H' q2 = some (.lst ((ys.map (· / b)).map N_)), fun σ2 H2' hN => ?_, ?_⟩
      · obtain ⟨q2, y2, rfl, hcf2, e5, h5⟩ := hN
        exact ⟨_, sum_div_lt hb.1 ys hpos, q2, ys.map (· / b), y2, rfl, rfl, by rw [List.length_map]; exact hl, hcf2, e5, h5⟩
      · refine q_when (b := decide (b ≤ (ys.map (· % b)).sum)) (et_is (et_test (ev_op (ev_sumN (ns := (ys.map (· % b)).map Int.ofNat) (el_is (el_lcL (fun _ => true) (fun i => N_ (ys[i]?.getD 0 % b)) (ev_var rfl) (sq_of h4) (by rw [List.length_map]; omega) (fun _ => rfl) (fun _ _ _ _ _ => et_nil)
          (fun i x H5 e5 hi _ => ?_)) ?_)) (ev_var rfl) rv_I0)) ?_) (fun hb' H5 e5 => ?_) (fun hb' H5 e5 => ?_)
        · rw [List.getElem?_map] at hi
          obtain ⟨d, hd, rfl⟩ := Option.map_eq_some_iff.mp hi
          rw [hd]
          exact ev_op (ev_var rfl) (ev_var rfl) (rv_I (by have := hb.1; omega))
        · rw [List.length_map, given_all ys (fun d => N_ (d % b)) _ (fun i y h => by rw [h]; rfl), ← mapN, List.map_map]
          rfl
        · rw [sumN]
          by_cases hz : b ≤ (ys.map (· % b)).sum
          · rw [decide_eq_true hz, decide_eq_true (by omega)]
          · rw [decide_eq_false hz, decide_eq_false (by omega)]
        · have hge := of_decide_eq_true hb'
          rw [decide_eq_false (by omega), Bool.false_and, hcf] at hst
          rw [hst] at k
          exact s_ret ev_c fun H6 e6 => k H6 (((e3.trans e4).trans e5).trans e6)
        · have hlt := of_decide_eq_false hb'
          rw [decide_eq_true (by omega), Bool.true_and] at hst
          refine s_asgL (xs := (ys.map (· / b)).map N_) (el_is (el_lcL (fun _ => true) (fun i => N_ (ys[i]?.getD 0 / b)) (ev_var rfl) (sq_of (e5 _ _ h4)) (by rw [List.length_map]; omega) (fun _ => rfl) (fun _ _ _ _ _ => et_nil)
            (fun i x H6 e6 hi _ => ?_)) ?_) fun q2 H6 nq e6 h6 => ⟨q2, _, rfl, hst.symm.trans hcf, ((e3.trans e4).trans e5).trans e6, h6⟩
          · rw [List.getElem?_map] at hi
            obtain ⟨d, hd, rfl⟩ := Option.map_eq_some_iff.mp hi
            rw [hd]
            exact ev_op (ev_var rfl) (ev_var rfl) (rv_I (divW (by have := hb.1; omega) hb.2))
          · rw [List.length_map, given_all ys (fun d => N_ (d / b)) _ (fun i y h => by rw [h]; rfl), List.map_map]
            rfl
    · have hz : ys.sum = 0 := by have := of_decide_eq_false hff; omega
      rw [← hcf, cf_zero hz] at k
      exact s_ret ev_c fun H5 e5 => k H5 ((e3.trans e4).trans e5)


end Own
namespace Own
open PySem PySem.Spec PyProof.Rows L2 Evl

def sp__law_number (K : PySem.W.Frag) : Sp := fun vs H Q _ => ∃ (p : Addr) (b : Nat), vs = [.ref p, N_ b] ∧ IsDice H p ∧ Bs b ∧ ∀ (n : Nat) H', n < 10 ^ 59 → Exd p H H' → IsDice H' p → Q (N_ n) H'
theorem pow_le58 {b r t : Nat} (hb : 2 ≤ b) (h : b ^ t ≤ 10 ^ 58) (hr : r ≤ t) : b ^ r ≤ 10 ^ 58 := Nat.le_trans (Nat.pow_le_pow_right (by omega) hr) h

theorem ok__law_number {P : Program} {w : World} {K : PySem.W.Frag} {mg : Str → Option Value} {base : Heap} (T : Txt K mg) : FnOk P w K mg base CX0 3 T.a__law_number T.d__law_number ["_law_dice_here", "_law_b"] (sp__law_number K) := by
  refine T.F__law_number.ok sc__law_number (fun vs H Q E h => ?_) (fun cdv A outer s H vs Q E hr h => ?_)
  · obtain ⟨p, b, rfl, _⟩ := h
    rfl
  · obtain ⟨p, b, rfl, hd, hb, k⟩ := h
    refine ⟨_, (pss_cons (ps_set (i := 2) sc__law_number.nd rfl (Or.inl rfl) (pe_call (ok__law_roll T) (hr.mono (by decide)) (by rfl) T.g__law_roll T.F__law_roll.kp T.b__law_roll .nil pass0 (pa_cons (pv 0) (pa_cons pe_int pa_nil))))
      (pss_cons (ps_if (pt_cmpR op_eq (pv 2) pe_int (nomark _)) (pss_one (ps_ret (pe_call (ok__law_roll T) (hr.mono (by decide)) (by rfl) T.g__law_roll T.F__law_roll.kp T.b__law_roll .nil pass0 (pa_cons (pv 0) (pa_cons (pe_op op_mul pe_int (pv 1)) pa_nil))))) pss_nil)
      (pss_cons (ps_if (pt_cmpR op_eq (pv 2) pe_int (nomark _)) (pss_one (ps_ret (pe_call (ok__law_roll T) (hr.mono (by decide)) (by rfl) T.g__law_roll T.F__law_roll.kp T.b__law_roll .nil pass0 (pa_cons (pv 0) (pa_cons (pe_op op_powW pe_int pe_int) pa_nil))))) pss_nil)
      (pss_cons (ps_set (i := 3) sc__law_number.nd rfl (Or.inl rfl) (pe_call (ok__law_size T) (hr.mono (by decide)) (by rfl) T.g__law_size T.F__law_size.kp T.b__law_size .nil pass0 (pa_cons (pv 1) (pa_cons (pe_op op_powW pe_int pe_int) pa_nil))))
      (pss_cons (ps_if (pt_cmpR op_eq (pv 2) pe_int (nomark _)) (pss_one (ps_ret (pe_op op_sub (pe_call (ok__law_raised T) (hr.mono (by decide)) (by rfl) T.g__law_raised T.F__law_raised.kp T.b__law_raised .nil pass0 (pa_cons (pv 1) (pa_cons (pe_call (ok__law_roll T) (hr.mono (by decide)) (by rfl) T.g__law_roll T.F__law_roll.kp T.b__law_roll .nil pass0 (pa_cons (pv 0) (pa_cons (pv 3) pa_nil))) pa_nil))) pe_int))) pss_nil)
      (pss_cons (ps_set (i := 4) sc__law_number.nd rfl (Or.inl rfl) pe_int)
      (pss_cons (ps_for PassesOwn.never rfl (pi_range1 rfl T.z_range (pa_cons (pe_op op_add pe_int (pe_call (ok__law_roll T) (hr.mono (by decide)) (by rfl) T.g__law_roll T.F__law_roll.kp T.b__law_roll .nil pass0 (pa_cons (pv 0) (pa_cons pe_int pa_nil)))) pa_nil)) (pg_name (i := 5) sc__law_number.nd rfl (Or.inl rfl)) (pss_one (ps_set (i := 4) sc__law_number.nd rfl (Or.inl rfl) (pe_op op_add (pv 4) (pe_op op_mulW (pe_op op_add pe_int (pe_call (ok__law_roll T) (hr.mono (by decide)) (by rfl) T.g__law_roll T.F__law_roll.kp T.b__law_roll .nil pass0 (pa_cons (pv 0) (pa_cons (pe_op op_sub (pv 1) pe_int) pa_nil)))) (pe_call (ok__law_raised T) (hr.mono (by decide)) (by rfl) T.g__law_raised T.F__law_raised.kp T.b__law_raised .nil pass0 (pa_cons (pv 1) (pa_cons (pe_call (ok__law_roll T) (hr.mono (by decide)) (by rfl) T.g__law_roll T.F__law_roll.kp T.b__law_roll .nil pass0 (pa_cons (pv 0) (pa_cons (pe_callB (call_min2 rfl) (by rfl) T.z_min (by decide +kernel) (pa_cons (pv 3) (pa_cons pe_int pa_nil))) pa_nil))) pa_nil))))))))
      (pss_one (ps_ret (pv 4)))))))))), ?_⟩
    refine ⟨.ref p, rfl, p, 5, rfl, hd, by decide, by decide, fun way H1 hw x1 d1 => ?_⟩
    refine q_when (et_test (ev_op (ev_var rfl) ev_c (rv_eq rfl))) (fun _ H2 e2 => ?_) (fun _ H2 e2 => ?_)
    · refine ⟨.ref p, rfl, N_ b, rfl, 2, (b : Int), rfl, rfl, .inl ⟨by decide, by decide⟩, p, 2 * b, rfl, d1.ex e2, by have := hb.1; omega, Nat.lt_of_lt_of_le (show 2 * b < 2 ^ 11 by have := hb.2; omega) (Nat.pow_le_pow_right (by decide) (by decide : 11 ≤ 1000)), fun r H3 hr x3 d3 => ?_⟩
      exact k r H3 (Nat.lt_of_lt_of_le hr (Nat.le_trans (show 2 * b ≤ 2000 by have := hb.2; omega) (by decide))) ((x1.trans (Exd.of e2)).trans x3) d3
    have x2 := x1.trans (Exd.of e2)
    have d2 := d1.ex e2
    refine q_when (et_test (ev_op (ev_var rfl) ev_c (rv_eq rfl))) (fun _ H3 e3 => ?_) (fun _ H3 e3 => ?_)
    · refine ⟨.ref p, rfl, 10, 59, rfl, rfl, ⟨by decide, by decide, by decide⟩, p, 10 ^ 59, rfl, d2.ex e3, by decide, Nat.lt_of_lt_of_le (show 10 ^ 59 < 2 ^ 200 by decide) (Nat.pow_le_pow_right (by decide) (by decide)), fun r H4 hr x4 d4 => ?_⟩
      exact k r H4 hr ((x2.trans (Exd.of e3)).trans x4) d4
    have x3 := x2.trans (Exd.of e3)
    have d3 := d2.ex e3
    refine ⟨N_ b, rfl, 10, 58, rfl, rfl, ⟨by decide, by decide, by decide⟩, b, 10 ^ 58, rfl, hb, by decide, Nat.lt_of_lt_of_le (show 10 ^ 58 < 2 ^ 200 by decide) (Nat.pow_le_pow_right (by decide) (by decide)), fun top H4 ht1 ht2 ht3 e4 => ?_⟩
    have x4 := x3.trans (Exd.of e4)
    have d4 := d3.ex e4
    have ht0 : 0 < top := by
      rcases Nat.eq_zero_or_pos top with rfl | h
      · rw [Nat.zero_add, Nat.pow_one] at ht2
        have : 1000 < 10 ^ 58 := by decide
        have := hb.2
        omega
      · exact h
    have htop : top < 2 ^ 1000 := Nat.lt_of_le_of_lt ht3 (Nat.lt_of_lt_of_le (show 300 < 2 ^ 10 by decide) (Nat.pow_le_pow_right (by decide) (by decide)))
    refine q_when (et_test (ev_op (ev_var rfl) ev_c (rv_eq rfl))) (fun _ H5 e5 => ?_) (fun _ H5 e5 => ?_)
    · refine ⟨N_ b, rfl, .ref p, rfl, N_ top, rfl, p, top, rfl, d4.ex e5, ht0, htop, fun r H6 hr x6 d6 => ⟨b, r, rfl, hb.2, by omega, fun H7 e7 => ⟨_, 1, rfl, rfl, ?_⟩⟩⟩
      have hpw := pow_le58 hb.1 ht1 (Nat.le_of_lt hr)
      have hp1 : 1 ≤ b ^ r := Nat.pow_pos (by have := hb.1; omega)
      have := k (b ^ r - 1) H7 (Nat.lt_of_lt_of_le (show b ^ r - 1 < 10 ^ 58 by omega) (by decide)) (((x4.trans (Exd.of e5)).trans x6).trans (Exd.of e7)) (d6.ex e7)
      rw [show N_ (b ^ r - 1) = V.int (((b ^ r : Nat) : Int) - 1) from congrArg V.int (by omega)] at this
      exact this
    have x5 := x4.trans (Exd.of e5)
    have d5 := d4.ex e5
    refine q_asg ev_c fun H6 e6 => ?_
    have x6 := x5.trans (Exd.of e6)
    have d6 := d5.ex e6
    have hmin : ∃ t2 : Nat, (if (12 : Int) < (top : Int) then (12 : Int) else (top : Int)) = (t2 : Int) ∧ 0 < t2 ∧ t2 ≤ 12 := by
      by_cases h : 12 < top
      · exact ⟨12, by rw [if_pos (by omega)]; rfl, by omega, by omega⟩
      · exact ⟨top, by rw [if_neg (by omega)], by omega, by omega⟩
    obtain ⟨t2, et2, ht20, ht212⟩ := hmin
    refine ⟨.ref p, rfl, p, 6, rfl, d6, by decide, by decide, fun r H7 hr x7 d7 => ⟨1, (r : Int), rfl, rfl, 1 + (r : Int), rfl, by omega, by omega, ?_⟩⟩
    have en : (1 + (r : Int)).toNat = 1 + r := by omega
    rw [en]
    refine for_range (lo := 0) (n := 1 + r) (fun i σ H' => ∃ (f : Nat) (y : Option V), σ = [some (.ref p), some (N_ b), some (N_ way), some (N_ top), some (N_ f), y] ∧ f ≤ i * 10 ^ 36 ∧ Exd p H H' ∧ IsDice H' p)
      ⟨0, none, rfl, Nat.zero_le _, x6.trans x7, d7⟩ (fun i σ H8 hi hw8 => ?_) (fun σ H8 hw8 => ?_)
    · obtain ⟨f, y, rfl, hf, x8, d8⟩ := hw8
      refine ⟨N_ f, rfl, .ref p, rfl, N_ b, rfl, (b : Int), 1, rfl, rfl, p, b - 1, congrArg (fun z => [V.ref p, z]) (congrArg V.int (by have := hb.1; omega)), d8, by have := hb.1; omega, Nat.lt_of_le_of_lt (show b - 1 ≤ 1000 by have := hb.2; omega) (Nat.lt_of_lt_of_le (show 1000 < 2 ^ 10 by decide) (Nat.pow_le_pow_right (by decide) (by decide : 10 ≤ 1000))), fun r1 H9 hr1 x9 d9 => ?_⟩
      refine ⟨1, (r1 : Int), rfl, rfl, N_ b, rfl, .ref p, rfl, N_ top, rfl, (top : Int), 12, rfl, ?_⟩
      rw [et2]
      refine ⟨p, t2, rfl, d9, ht20, Nat.lt_of_le_of_lt ht212 (Nat.lt_of_lt_of_le (show 12 < 2 ^ 10 by decide) (Nat.pow_le_pow_right (by decide) (by decide))), fun r2 HA hr2 xA dA => ⟨b, r2, rfl, hb.2, by omega, fun HB eB => ?_⟩⟩
      have hpw : b ^ r2 ≤ 1000 ^ 11 := Nat.le_trans (Nat.pow_le_pow_left hb.2 r2) (Nat.pow_le_pow_right (by decide) (by omega))
      have hprod : (1 + r1) * b ^ r2 ≤ 10 ^ 36 := Nat.le_trans (Nat.mul_le_mul (show 1 + r1 ≤ 1000 by have := hb.2; omega) hpw) (by decide)
      refine ⟨1 + (r1 : Int), ((b ^ r2 : Nat) : Int), rfl, rfl, wide_mul (a := 10) (b := 200) (by show Int.natAbs (1 + (r1 : Int)) < 1024; have := hb.2; omega) (Nat.lt_of_le_of_lt hpw (by decide)) (by decide) (by decide) (by decide), ?_⟩
      refine ⟨(f : Int), _, rfl, rfl, f + (1 + r1) * b ^ r2, some (N_ i), ?_, ?_, ((x8.trans x9).trans xA).trans (Exd.of eB), dA.ex eB⟩
      · rw [show N_ (f + (1 + r1) * b ^ r2) = V.int ((f : Int) + (1 + (r1 : Int)) * ((b ^ r2 : Nat) : Int)) from congrArg V.int (by rw [Int.natCast_add, Int.natCast_mul, Int.natCast_add]; rfl), Int.zero_add]
        rfl
      · rw [Nat.succ_mul]
        omega
    · obtain ⟨f, y, rfl, hf, x8, d8⟩ := hw8
      refine ⟨N_ f, rfl, k f H8 (Nat.lt_of_le_of_lt (Nat.le_trans hf (Nat.mul_le_mul_right _ (show 1 + r ≤ 6 by omega))) (by decide)) x8 d8⟩


end Own
namespace Own
open PySem PySem.Spec PyProof.Rows L2 Evl
/-! ### digits put side by side -/
def mixed : List Nat → List Nat → Nat → List Nat
  | [], _, _ => []
  | y :: ys, [], _ => y :: ys
  | y :: ys, e :: es, w => (y + e * w) :: mixed ys es w
theorem mixed_nil (ys : List Nat) (w : Nat) : mixed ys [] w = ys := by cases ys <;> rfl
theorem mixed_len : ∀ (ys es : List Nat) (w : Nat), (mixed ys es w).length = ys.length
  | [], _, _ => rfl
  | y :: ys, [], _ => rfl
  | y :: ys, e :: es, w => by
    show (mixed ys es w).length + 1 = ys.length + 1
    rw [mixed_len]
theorem mixed_get : ∀ (ys es : List Nat) (w : Nat), (mixed ys es w)[es.length]? = ys[es.length]?
  | [], _, _ => rfl
  | y :: ys, [], _ => rfl
  | y :: ys, e :: es, w => by
    show (mixed ys es w)[es.length]? = ys[es.length]?
    exact mixed_get ys es w
theorem mixed_set : ∀ (ys es : List Nat) (w e y : Nat), ys[es.length]? = some y → (mixed ys es w).set es.length (y + e * w) = mixed ys (es ++ [e]) w
  | [], es, _, _, _, h => by simp at h
  | z :: ys, [], w, e, y, h => by
    have : z = y := Option.some.inj h
    subst this
    show (z + e * w) :: ys = (z + e * w) :: mixed ys [] w
    rw [mixed_nil]
  | z :: ys, d :: es, w, e, y, h => by
    show (z + d * w) :: (mixed ys es w).set es.length (y + e * w) = (z + d * w) :: mixed ys (es ++ [e]) w
    rw [mixed_set ys es w e y h]
theorem mixed_sum : ∀ (ys es : List Nat) (w : Nat), es.length = ys.length → (mixed ys es w).sum = ys.sum + es.sum * w
  | [], [], _, _ => by simp [mixed]
  | [], _ :: _, _, h => by cases h
  | y :: ys, [], _, h => by cases h
  | y :: ys, e :: es, w, h => by
    have ih := mixed_sum ys es w (Nat.succ.inj h)
    show ((y + e * w) :: mixed ys es w).sum = _
    rw [List.sum_cons, List.sum_cons, List.sum_cons, ih, Nat.add_mul]
    omega
theorem ds_app {b : Nat} (hb : 1 < b) : ∀ (i y e : Nat), y < b ^ i → e < b → ds b (y + e * b ^ i) = ds b y + e
  | 0, y, e, hy, he => by
    have : y = 0 := by
      rw [Nat.pow_zero] at hy
      omega
    subst this
    rw [Nat.pow_zero, Nat.mul_one, Nat.zero_add, ds_zero, ds_eq hb, Nat.mod_eq_of_lt he, Nat.div_eq_of_lt he, ds_zero]
    omega
  | i + 1, y, e, hy, he => by
    have hp : e * b ^ (i + 1) = b * (e * b ^ i) := by
      rw [Nat.pow_succ, ← Nat.mul_assoc, Nat.mul_comm]
    have hy2 : y / b < b ^ i := by
      rw [Nat.pow_succ] at hy
      exact Nat.div_lt_of_lt_mul (by rw [Nat.mul_comm]; exact hy)
    rw [hp, ds_eq hb (y + b * (e * b ^ i)), Nat.add_mul_mod_self_left, Nat.add_mul_div_left _ _ (by omega), ds_app hb i (y / b) e hy2 he, ds_eq hb y]
    omega
theorem mixed_ds {b i : Nat} (hb : 1 < b) : ∀ (ys es : List Nat), es.length = ys.length → (∀ y ∈ ys, y < b ^ i) → (∀ e ∈ es, e < b) → ((mixed ys es (b ^ i)).map (ds b)).sum = (ys.map (ds b)).sum + es.sum
  | [], [], _, _, _ => rfl
  | [], _ :: _, h, _, _ => by cases h
  | y :: ys, [], h, _, _ => by cases h
  | y :: ys, e :: es, h, hy, he => by
    have ih := mixed_ds hb ys es (Nat.succ.inj h) (fun z hz => hy z (List.mem_cons_of_mem _ hz)) (fun z hz => he z (List.mem_cons_of_mem _ hz))
    show (((y + e * b ^ i) :: mixed ys es (b ^ i)).map (ds b)).sum = _
    rw [List.map_cons, List.sum_cons, List.map_cons, List.sum_cons, List.sum_cons, ih, ds_app hb i y e (hy y (List.mem_cons_self ..)) (he e (List.mem_cons_self ..))]
    omega
theorem mixed_cf {b i : Nat} (hb : 1 < b) {ys es : List Nat} (hl : es.length = ys.length) (hs : ys.sum < b ^ i) (he : es.sum ≤ b - 1) (hc : cf b ys = true) : cf b (mixed ys es (b ^ i)) = true ∧ (mixed ys es (b ^ i)).sum < b ^ (i + 1) := by
  have hy : ∀ y ∈ ys, y < b ^ i := fun y h => Nat.lt_of_le_of_lt (le_sum ys y h) hs
  have hee : ∀ e ∈ es, e < b := fun e h => by have := le_sum es e h; omega
  constructor
  · refine decide_eq_true ?_
    rw [mixed_ds hb ys es hl hy hee, mixed_sum ys es _ hl, ds_app hb i _ _ hs (by omega), of_decide_eq_true hc]
  · rw [mixed_sum ys es _ hl, Nat.pow_succ]
    have h1 : es.sum * b ^ i ≤ (b - 1) * b ^ i := Nat.mul_le_mul_right _ he
    have h2 : b ^ i * b = (b - 1) * b ^ i + b ^ i := by
      have : b ^ i * b = b ^ i * ((b - 1) + 1) := by rw [Nat.sub_add_cancel (by omega)]
      rw [this, Nat.mul_add, Nat.mul_one, Nat.mul_comm]
    omega

def sp__law_parted_digits (K : PySem.W.Frag) : Sp := fun vs H Q _ => ∃ (p : Addr) (b c : Nat), vs = [.ref p, N_ b, N_ c] ∧ IsDice H p ∧ Bs b ∧ 1 ≤ c ∧ c ≤ 10 ∧ ∀ (ys : List Nat) (a : Addr) H', ys.length = c → ys.sum < 10 ^ 39 → cf b ys = true → SqT K H' a (ys.map N_) → Exd p H H' → IsDice H' p → Q (.ref a) H'
theorem rep_zero (c : Nat) : (List.replicate c [V.int 0]).flatten = (List.replicate c 0).map N_ := by
  induction c with
  | zero => rfl
  | succ c ih =>
    rw [List.replicate_succ, List.flatten_cons, ih, List.replicate_succ, List.map_cons]
    rfl
theorem rep_sum (c : Nat) : (List.replicate c 0).sum = 0 := sum_zero fun x h => (List.mem_replicate.mp h).2

theorem ok__law_parted_digits {P : Program} {w : World} {K : PySem.W.Frag} {mg : Str → Option Value} {base : Heap} (T : Txt K mg) : FnOk P w K mg base CX0 2 T.a__law_parted_digits T.d__law_parted_digits ["_law_dice_here", "_law_b", "_law_count"] (sp__law_parted_digits K) := by
  refine T.F__law_parted_digits.ok sc__law_parted_digits (fun vs H Q E h => ?_) (fun cdv A outer s H vs Q E hr h => ?_)
  · obtain ⟨p, b, c, rfl, _⟩ := h
    rfl
  · obtain ⟨p, b, c, rfl, hd, hb, hc1, hc2, k⟩ := h
    refine ⟨_, (pss_cons (ps_par (i := 3) (j := 4) (by rfl) sc__law_parted_digits.nd rfl rfl (by decide) rfl rfl (pa_cons (pe_op op_rep (pe_lst (pa_cons pe_int pa_nil)) (pv 2)) (pa_cons pe_int pa_nil)) (by rfl))
      (pss_cons (ps_for PassesOwn.never rfl (pi_range1 rfl T.z_range (pa_cons (pe_call (ok__law_roll T) (hr.mono (by decide)) (by rfl) T.g__law_roll T.F__law_roll.kp T.b__law_roll .nil pass0 (pa_cons (pv 0) (pa_cons pe_int pa_nil))) pa_nil)) (pg_name (i := 5) sc__law_parted_digits.nd rfl (Or.inl rfl)) (pss_cons (ps_set (i := 6) sc__law_parted_digits.nd rfl (Or.inl rfl) (pe_op op_sub (pv 1) pe_int))
      (pss_cons (ps_for PassesOwn.never rfl (pi_range1 rfl T.z_range (pa_cons (pv 2) pa_nil)) (pg_name (i := 7) sc__law_parted_digits.nd rfl (Or.inl rfl)) (pss_cons (ps_set (i := 8) sc__law_parted_digits.nd rfl (Or.inl rfl) (pe_call (ok__law_roll T) (hr.mono (by decide)) (by rfl) T.g__law_roll T.F__law_roll.kp T.b__law_roll .nil pass0 (pa_cons (pv 0) (pa_cons (pe_op op_add (pv 6) pe_int) pa_nil))))
      (pss_one (ps_asg (pe_tup (pa_cons (pe_op op_sub (pv 6) (pv 8)) (pa_cons (pe_op op_add (pe_ix (r := rIxL K) ix_list (pv 3) (pv 7) (fun _ _ => rfl)) (pe_op op_mulW (pv 8) (pv 4))) pa_nil))) (pg_tup (by rfl) (pgs_cons (pg_name (i := 6) sc__law_parted_digits.nd rfl (Or.inl rfl)) (pgs_cons (pg_sub (pv 3) (pv 7) set_list) pgs_nil)))))))
      (pss_one (ps_set (i := 4) sc__law_parted_digits.nd rfl (Or.inl rfl) (pe_op op_mulW (pv 4) (pv 1)))))))
      (pss_one (ps_ret (pe_callTy call_tuple_of (by rfl) T.z_tuple (by decide +kernel) (pa_cons (pv 3) pa_nil)))))), ?_⟩
    refine q_parL (el_rep (el_lst (ea_cons ev_c ea_nil) (by show 1 ≤ 100000; decide)) (ev_var rfl) (by omega) (by show 1 * _ ≤ _; omega) (by omega)) (fun l H1 nl e1 h1 => ev_c) fun l H1 nl e1 h1 => ?_
    rw [show ((c : Int)).toNat = c from rfl, rep_zero] at h1
    have d1 := hd.ex e1
    have nlp := new_ne nl hd
    refine ⟨.ref p, rfl, p, 14, rfl, d1, by decide, Nat.lt_of_lt_of_le (show 14 < 2 ^ 10 by decide) (Nat.pow_le_pow_right (by decide) (by decide : 10 ≤ 1000)), fun r H2 hr x2 d2 => ⟨(r : Int), rfl, by omega, by omega, ?_⟩⟩
    rw [Int.toNat_natCast]
    refine for_range (lo := 0) (n := r) (fun i σ H' => ∃ (ys : List Nat) (y5 y6 y7 y8 : Option V), σ = [some (.ref p), some (N_ b), some (N_ c), some (.ref l), some (N_ (b ^ i)), y5, y6, y7, y8] ∧ H' l = some (.lst (ys.map N_)) ∧ ys.length = c ∧ ys.sum < b ^ i ∧ cf b ys = true ∧ Exd p H H' ∧ IsDice H' p)
      ⟨List.replicate c 0, none, none, none, none, rfl, x2 _ _ nlp h1, List.length_replicate, by rw [rep_sum, Nat.pow_zero]; decide, cf_zero (rep_sum c), (Exd.of e1).trans x2, d2⟩ (fun i σ H3 hi hw3 => ?_) (fun σ H3 hw3 => ?_)
    · obtain ⟨ys, y5, y6, y7, y8, rfl, h3, hyl, hys, hyc, x3, d3⟩ := hw3
      have hbi : b ^ i ≤ 1000 ^ 13 := Nat.le_trans (Nat.pow_le_pow_left hb.2 i) (Nat.pow_le_pow_right (by decide) (by omega))
      have hbi2 : b ^ i < 2 ^ 140 := Nat.lt_of_le_of_lt hbi (by decide)
      -- left = b - 1
      refine q_asg (ev_op (ev_var rfl) ev_c rv_I0) fun H4 e4 => ?_
      have hb1 : ((b : Int) - 1) = ((b - 1 : Nat) : Int) := by have := hb.1; omega
      rw [hb1]
      -- for at in range(count)
      refine q_forR1 (n := (c : Int)) (ea_cons (ev_var rfl) ea_nil) ⟨by omega, by omega⟩ (fun j σ H' => ∃ (es : List Nat) (y7 y8 : Option V), σ = [some (.ref p), some (N_ b), some (N_ c), some (.ref l), some (N_ (b ^ i)), some (.int (0 + (i : Int))), some (N_ (b - 1 - es.sum)), y7, y8] ∧ es.length = j ∧ es.sum ≤ b - 1 ∧ H' l = some (.lst ((mixed ys es (b ^ i)).map N_)) ∧ Exd p H H' ∧ IsDice H' p)
        (fun H5 e5 => ⟨[], y7, y8, rfl, rfl, Nat.zero_le _, by rw [mixed_nil]; exact e5 _ _ (e4 _ _ h3), (x3.trans (Exd.of e4)).trans (Exd.of e5), (d3.ex e4).ex e5⟩) (fun j σ H5 hj hw5 => ?_) (fun σ H5 hw5 => ?_)
      · obtain ⟨es, y7, y8, rfl, rfl, hes, h5, x5, d5⟩ := hw5
        -- digit = roll(left + 1)
        refine ⟨.ref p, rfl, N_ (b - 1 - es.sum), rfl, ((b - 1 - es.sum : Nat) : Int), 1, rfl, rfl, p, b - 1 - es.sum + 1, rfl, d5, Nat.succ_pos _, Nat.lt_of_le_of_lt (show b - 1 - es.sum + 1 ≤ 1000 by have := hb.2; omega) (Nat.lt_of_lt_of_le (show 1000 < 2 ^ 10 by decide) (Nat.pow_le_pow_right (by decide) (by decide : 10 ≤ 1000))), fun g H6 hg x6 d6 => ?_⟩
        have h6 := x6 _ _ nlp h5
        have hjc : es.length < ys.length := by omega
        have hget : ((mixed ys es (b ^ i)).map N_)[es.length]? = some (N_ ys[es.length]) := by
          rw [List.getElem?_map, mixed_get, List.getElem?_eq_getElem hjc]
          rfl
        -- left, found[at] = (left - digit, found[at] + digit * weight)
        refine s_tupNS (j := es.length) (ev_op (ev_var rfl) (ev_var rfl) rv_I0) (ev_op (ev_op (ev_var rfl) (ev_var rfl) (rv_ixL (sq_of h6) (atI_nat hget))) (ev_op (ev_var rfl) (ev_var rfl) (rv_I (wide_mul (a := 10) (b := 140) (by show g < 1024; have := hb.2; omega) (by exact hbi2) (by decide) (by decide) (by decide)))) rv_I0) h6 (ev_var rfl) (ev_var rfl) (by rw [List.length_map, mixed_len]; exact hjc) fun H7 e7 => ?_
        refine ⟨es ++ [g], some (N_ es.length), some (N_ g), ?_, by rw [List.length_append]; rfl, by rw [List.sum_append]; show es.sum + (g + 0) ≤ b - 1; omega, ?_, ((x5.trans x6).trans (Exd.of e7)).newI nl, ?_⟩
        · rw [show N_ (b - 1 - (es ++ [g]).sum) = V.int (((b - 1 - es.sum : Nat) : Int) - (g : Int)) from congrArg V.int (by rw [List.sum_append]; show ((b - 1 - (es.sum + (g + 0)) : Nat) : Int) = _; omega)]
          rfl
        · rw [upd_same, ← mixed_set ys es (b ^ i) g ys[es.length] (List.getElem?_eq_getElem hjc), List.map_set, show N_ (ys[es.length] + g * b ^ i) = V.int (((ys[es.length] : Nat) : Int) + (g : Int) * ((b ^ i : Nat) : Int)) from congrArg V.int (by rw [Int.natCast_add, Int.natCast_mul])]
        · obtain ⟨q1, q2, q3, q⟩ := d6.ex e7
          exact ⟨q1, q2, q3, by rw [upd_ne (Ne.symm nlp)]; exact q⟩
      · obtain ⟨es, y7, y8, rfl, hel, hes, h5, x5, d5⟩ := hw5
        rw [Int.toNat_natCast] at hel
        obtain ⟨hc1, hc2⟩ := mixed_cf hb.1 (by omega) hys hes hyc
        refine s_asg (ev_op (ev_var rfl) (ev_var rfl) (rv_I (wide_mul (a := 140) (b := 10) (by exact hbi2) (by show b < 1024; have := hb.2; omega) (by decide) (by decide) (by decide)))) fun H6 e6 => ?_
        refine ⟨mixed ys es (b ^ i), some (.int (0 + (i : Int))), some (N_ (b - 1 - es.sum)), y7, y8, ?_, e6 _ _ h5, by rw [mixed_len]; exact hyl, hc2, hc1, x5.trans (Exd.of e6), d5.ex e6⟩
        rw [show N_ (b ^ (i + 1)) = V.int (((b ^ i : Nat) : Int) * (b : Int)) from congrArg V.int (by rw [Nat.pow_succ, Int.natCast_mul])]
        rfl
    · obtain ⟨ys, y5, y6, y7, y8, rfl, h3, hyl, hys, hyc, x3, d3⟩ := hw3
      have hbr : b ^ r ≤ 1000 ^ 13 := Nat.le_trans (Nat.pow_le_pow_left hb.2 r) (Nat.pow_le_pow_right (by decide) (by omega))
      exact s_retU (eu_tupleL (ev_var rfl) (sq_of h3)) fun a H4 na e4 h4 => k ys a H4 hyl (Nat.lt_of_lt_of_le hys (Nat.le_trans hbr (by decide))) hyc (st_of h4) (x3.trans (Exd.of e4)) (d3.ex e4)


end Own
namespace Own
open PySem PySem.Spec PyProof.Rows L2 Evl
theorem cc_comm {b : Nat} (hb : 1 < b) (x y : Nat) : cc b 0 x y = cc b 0 y x := by
  have h1 := ds_plus hb x y
  have h2 := ds_plus hb y x
  rw [Nat.add_comm y x] at h2
  exact Nat.eq_of_mul_eq_mul_left (show 0 < b - 1 by omega) (by omega)
theorem cc_le {b : Nat} (hb : 1 < b) (x y : Nat) : cc b 0 x y ≤ x + y := by
  have h1 := ds_plus hb x y
  have h2 := ds_le hb x
  have h3 := ds_le hb y
  have h4 : 1 * cc b 0 x y ≤ (b - 1) * cc b 0 x y := Nat.mul_le_mul_right _ (by omega)
  omega
theorem cf_two {b : Nat} (hb : 1 < b) (x y : Nat) : cf b [x, y] = decide (cc b 0 x y = 0) := by
  have h1 := ds_plus hb x y
  have e1 : ([x, y].map (ds b)).sum = ds b x + ds b y := by
    show ds b x + (ds b y + 0) = _
    omega
  have e2 : [x, y].sum = x + y := by
    show x + (y + 0) = _
    omega
  unfold cf
  rw [e1, e2]
  by_cases h : cc b 0 x y = 0
  · rw [decide_eq_true h]
    refine decide_eq_true ?_
    rw [h] at h1
    omega
  · rw [decide_eq_false h]
    have h4 : 1 * cc b 0 x y ≤ (b - 1) * cc b 0 x y := Nat.mul_le_mul_right _ (by omega)
    refine decide_eq_false ?_
    omega
theorem cf_one {b : Nat} (x : Nat) : cf b [x] = true := decide_eq_true (by
  show ds b x + 0 = ds b (x + 0)
  rfl)
theorem cf_tail {b : Nat} (hb : 1 < b) {x : Nat} {r : List Nat} (h : cf b (x :: r) = true) : cc b 0 x r.sum = 0 := by
  have h0 := of_decide_eq_true h
  rw [List.map_cons, List.sum_cons, List.sum_cons] at h0
  have h1 := ds_plus hb x r.sum
  have h2 := ds_sum_le hb r
  have h3 : (b - 1) * cc b 0 x r.sum = 0 := by omega
  rcases Nat.mul_eq_zero.mp h3 with h4 | h4
  · omega
  · exact h4
theorem cut1 (xs : List V) : cutV xs (some 1) none = xs.drop 1 := by
  unfold cutV
  rw [show HT.sIx xs.length 0 (some 1) = min 1 xs.length from HT.sIx_nat xs.length 0 1, HT.sIx_none]
  cases xs with
  | nil => rfl
  | cons x r =>
    rw [show min 1 (x :: r).length = 1 by
      rw [List.length_cons]
      omega]
    show (List.take ((x :: r).length - 1) r) = r
    rw [List.length_cons, Nat.add_sub_cancel]
    exact List.take_length
theorem bs_of {x : V} (h : x ∈ ([.int 2, .int 2, .int 3, .int 3, .int 4, .int 5, .int 7, .int 8, .int 9, .int 10, .int 27, .int 997, .int 1000] : List V)) : ∃ b : Nat, Bs b ∧ x = N_ b := by
  simp only [List.mem_cons, List.not_mem_nil, or_false] at h
  rcases h with h | h | h | h | h | h | h | h | h | h | h | h | h <;> subst h
  · exact ⟨2, ⟨by decide, by decide⟩, rfl⟩
  · exact ⟨2, ⟨by decide, by decide⟩, rfl⟩
  · exact ⟨3, ⟨by decide, by decide⟩, rfl⟩
  · exact ⟨3, ⟨by decide, by decide⟩, rfl⟩
  · exact ⟨4, ⟨by decide, by decide⟩, rfl⟩
  · exact ⟨5, ⟨by decide, by decide⟩, rfl⟩
  · exact ⟨7, ⟨by decide, by decide⟩, rfl⟩
  · exact ⟨8, ⟨by decide, by decide⟩, rfl⟩
  · exact ⟨9, ⟨by decide, by decide⟩, rfl⟩
  · exact ⟨10, ⟨by decide, by decide⟩, rfl⟩
  · exact ⟨27, ⟨by decide, by decide⟩, rfl⟩
  · exact ⟨997, ⟨by decide, by decide⟩, rfl⟩
  · exact ⟨1000, ⟨by decide, by decide⟩, rfl⟩
theorem lt60 {n : Nat} (h : n < 10 ^ 59) : n < 10 ^ 60 := Nat.lt_trans h (by decide)
theorem add60 {n m : Nat} (h : n < 10 ^ 59) (h2 : m < 10 ^ 59) : n + m < 10 ^ 60 := Nat.lt_of_lt_of_le (show n + m < 10 ^ 59 + 10 ^ 59 by omega) (by decide)
theorem rep_N (r : Nat) : (List.replicate (r : Int).toNat [V.int 0]).flatten = (List.replicate r 0).map N_ := rep_zero r

def sp__law_right (K : PySem.W.Frag) : Sp := fun vs H Q _ => ∃ (p : Addr), vs = [.ref p] ∧ IsDice H p ∧ ∀ H', Exd p H H' → IsDice H' p → Q (.bl true) H'

theorem ok__law_right {P : Program} {w : World} {K : PySem.W.Frag} {mg : Str → Option Value} {base : Heap} (T : Txt K mg) : FnOk P w K mg base CX0 6 T.a__law_right T.d__law_right ["_law_dice_here"] (sp__law_right K) := by
  refine T.F__law_right.ok sc__law_right (fun vs H Q E h => ?_) (fun cdv A outer s H vs Q E hr h => ?_)
  · obtain ⟨p, rfl, _⟩ := h
    rfl
  · obtain ⟨p, rfl, hd, k⟩ := h
    refine ⟨_, (pss_cons (ps_set (i := 1) sc__law_right.nd rfl (Or.inr rfl) (pe_call (ok__law_one_of T) (hr.mono (by decide)) (by rfl) T.g__law_one_of T.F__law_one_of.kp T.b__law_one_of .nil pass0 (pa_cons (pv 0) (pa_cons (pe_lst (pa_cons pe_int (pa_cons pe_int (pa_cons pe_int (pa_cons pe_int (pa_cons pe_int (pa_cons pe_int (pa_cons pe_int (pa_cons pe_int (pa_cons pe_int (pa_cons pe_int (pa_cons pe_int (pa_cons pe_int (pa_cons pe_int pa_nil)))))))))))))) pa_nil))))
      (pss_cons (ps_par (i := 2) (j := 3) (by rfl) sc__law_right.nd rfl rfl (by decide) rfl rfl (pa_cons (pe_call (ok__law_number T) (hr.mono (by decide)) (by rfl) T.g__law_number T.F__law_number.kp T.b__law_number .nil pass0 (pa_cons (pv 0) (pa_cons (pv 1) pa_nil))) (pa_cons (pe_call (ok__law_number T) (hr.mono (by decide)) (by rfl) T.g__law_number T.F__law_number.kp T.b__law_number .nil pass0 (pa_cons (pv 0) (pa_cons (pv 1) pa_nil))) pa_nil)) (by rfl))
      (pss_cons (ps_set (i := 4) sc__law_right.nd rfl (Or.inl rfl) (pe_callTy call_tuple_of (by rfl) T.z_tuple (by decide +kernel) (pa_cons (pe_call (ok__law_digits T) (hr.mono (by decide)) (by rfl) T.g__law_digits T.F__law_digits.kp T.b__law_digits .nil pass0 (pa_cons (pv 1) (pa_cons (pv 2) pa_nil))) pa_nil)))
      (pss_cons (ps_if (PW.pt (pw_or (pt_cmpR (op_neD hr.units) (pe_call (ok_digits T) (hr.mono (by decide)) (by rfl) T.g_digits T.F_digits.kp T.b_digits .nil pass0 (pa_cons (pv 1) (pa_cons (pv 2) pa_nil))) (pv 4) (nomark _)) (pw_or (pt_cmpR op_ne (pe_call (ok_of_digits T) (hr.mono (by decide)) (by rfl) T.g_of_digits T.F_of_digits.kp T.b_of_digits .nil pass0 (pa_cons (pv 1) (pa_cons (pv 4) pa_nil))) (pv 2) (nomark _)) (pw_or1 (pt_cmpR op_ne (pe_call (ok_digit_sum T) (hr.mono (by decide)) (by rfl) T.g_digit_sum T.F_digit_sum.kp T.b_digit_sum .nil pass0 (pa_cons (pv 1) (pa_cons (pv 2) pa_nil))) (pe_callB (cr_sumT rfl) (by rfl) T.z_sum (by decide +kernel) (pa_cons (pv 4) pa_nil)) (nomark _)))))) (pss_one (ps_ret pe_bl)) pss_nil)
      (pss_cons (ps_if (pt_cmpR op_ne (pe_call (ok_of_digits T) (hr.mono (by decide)) (by rfl) T.g_of_digits T.F_of_digits.kp T.b_of_digits .nil pass0 (pa_cons (pv 1) (pa_cons (pe_op op_catA (pv 4) (pe_op op_repU (pe_tup (pa_cons pe_int pa_nil)) (pe_call (ok__law_roll T) (hr.mono (by decide)) (by rfl) T.g__law_roll T.F__law_roll.kp T.b__law_roll .nil pass0 (pa_cons (pv 0) (pa_cons pe_int pa_nil))))) pa_nil))) (pv 2) (nomark _)) (pss_one (ps_ret pe_bl)) pss_nil)
      (pss_cons (ps_set (i := 5) sc__law_right.nd rfl (Or.inl rfl) (pe_call (ok__law_carry_count T) (hr.mono (by decide)) (by rfl) T.g__law_carry_count T.F__law_carry_count.kp T.b__law_carry_count .nil pass0 (pa_cons (pv 1) (pa_cons (pv 2) (pa_cons (pv 3) pa_nil)))))
      (pss_cons (ps_if (PW.pt (pw_or (pt_cmpR op_ne (pe_call (ok_carries T) (hr.mono (by decide)) (by rfl) T.g_carries T.F_carries.kp T.b_carries .nil pass0 (pa_cons (pv 1) (pa_cons (pv 2) (pa_cons (pv 3) pa_nil)))) (pv 5) (nomark _)) (pw_or1 (pt_cmpR op_ne (pe_call (ok_carries T) (hr.mono (by decide)) (by rfl) T.g_carries T.F_carries.kp T.b_carries .nil pass0 (pa_cons (pv 1) (pa_cons (pv 3) (pa_cons (pv 2) pa_nil)))) (pv 5) (nomark _))))) (pss_one (ps_ret pe_bl)) pss_nil)
      (pss_cons (ps_if (pt_cmpR op_ne (pe_op op_add (pe_call (ok_digit_sum T) (hr.mono (by decide)) (by rfl) T.g_digit_sum T.F_digit_sum.kp T.b_digit_sum .nil pass0 (pa_cons (pv 1) (pa_cons (pv 2) pa_nil))) (pe_call (ok_digit_sum T) (hr.mono (by decide)) (by rfl) T.g_digit_sum T.F_digit_sum.kp T.b_digit_sum .nil pass0 (pa_cons (pv 1) (pa_cons (pv 3) pa_nil)))) (pe_op op_add (pe_call (ok_digit_sum T) (hr.mono (by decide)) (by rfl) T.g_digit_sum T.F_digit_sum.kp T.b_digit_sum .nil pass0 (pa_cons (pv 1) (pa_cons (pe_op op_add (pv 2) (pv 3)) pa_nil))) (pe_op op_mulW (pv 5) (pe_op op_sub (pv 1) pe_int))) (nomark _)) (pss_one (ps_ret pe_bl)) pss_nil)
      (pss_cons (ps_if (PW.pt (pw_or (pt_cmpR op_ne (pe_call (ok_has_no_carries T) (hr.mono (by decide)) (by rfl) T.g_has_no_carries T.F_has_no_carries.kp T.b_has_no_carries .nil pass0 (pa_cons (pv 1) (pa_cons (pe_tup (pa_cons (pv 2) (pa_cons (pv 3) pa_nil))) pa_nil))) (pe_cmpR op_eq (pv 5) pe_int (nomark _)) (nomark _)) (pw_or1 (pt_not (pt_val (pe_call (ok_has_no_carries T) (hr.mono (by decide)) (by rfl) T.g_has_no_carries T.F_has_no_carries.kp T.b_has_no_carries .nil pass0 (pa_cons (pv 1) (pa_cons (pe_tup (pa_cons (pv 2) pa_nil)) pa_nil)))))))) (pss_one (ps_ret pe_bl)) pss_nil)
      (pss_cons (ps_set (i := 6) sc__law_right.nd rfl (Or.inl rfl) (pe_call (ok__law_parted_digits T) (hr.mono (by decide)) (by rfl) T.g__law_parted_digits T.F__law_parted_digits.kp T.b__law_parted_digits .nil pass0 (pa_cons (pv 0) (pa_cons (pv 1) (pa_cons (pe_op op_add pe_int (pe_call (ok__law_roll T) (hr.mono (by decide)) (by rfl) T.g__law_roll T.F__law_roll.kp T.b__law_roll .nil pass0 (pa_cons (pv 0) (pa_cons pe_int pa_nil)))) pa_nil)))))
      (pss_cons (ps_if (PW.pt (pw_or (pt_not (pt_val (pe_call (ok_has_no_carries T) (hr.mono (by decide)) (by rfl) T.g_has_no_carries T.F_has_no_carries.kp T.b_has_no_carries .nil pass0 (pa_cons (pv 1) (pa_cons (pv 6) pa_nil))))) (pw_or1 (pt_cmpR op_ne (pe_call (ok_carries T) (hr.mono (by decide)) (by rfl) T.g_carries T.F_carries.kp T.b_carries .nil pass0 (pa_cons (pv 1) (pa_cons (pe_ix (r := rIxT K) ix_tup (pv 6) pe_int (fun _ _ => rfl)) (pa_cons (pe_callB (cr_sumT rfl) (by rfl) T.z_sum (by decide +kernel) (pa_cons (pe_slice sl_tup (pv 6) (po_some pe_int) po_none) pa_nil)) pa_nil)))) pe_int (nomark _))))) (pss_one (ps_ret pe_bl)) pss_nil)
      (pss_cons (ps_set (i := 7) sc__law_right.nd rfl (Or.inl rfl) (pe_op op_catA (pv 6) (pe_tup (pa_cons (pe_call (ok__law_one_of T) (hr.mono (by decide)) (by rfl) T.g__law_one_of T.F__law_one_of.kp T.b__law_one_of .nil pass0 (pa_cons (pv 0) (pa_cons (pe_lst (pa_cons pe_int (pa_cons (pe_op op_sub (pv 1) pe_int) (pa_cons (pe_call (ok__law_number T) (hr.mono (by decide)) (by rfl) T.g__law_number T.F__law_number.kp T.b__law_number .nil pass0 (pa_cons (pv 0) (pa_cons (pv 1) pa_nil))) pa_nil)))) pa_nil))) pa_nil))))
      (pss_cons (ps_set (i := 8) sc__law_right.nd rfl (Or.inl rfl) (pe_cmpR op_eq (pe_callB (cr_sum rfl) (by rfl) T.z_sum (by decide +kernel) (pa_cons (pe_lc (own := [("_law_number_here", 9)]) (g := gName 9) rfl sc__law_right.nd (pi_tup (pv 7)) (blkOk_by (N := ["_law_dice_here", "_law_b", "_law_one", "_law_other", "_law_row", "_law_due", "_law_numbers", "_law_bent", "_law_none", "_law_number_here"]) (sc := defScope s__law_right) (by decide +kernel)) (fun _ _ _ _ _ => pg_name (i := 9) sc__law_right.nd rfl (Or.inl rfl)) (fun _ _ _ _ _ => pts_nil) (fun _ _ _ _ _ => (pe_call (ok_digit_sum T) (hr.mono (by decide)) (by rfl) T.g_digit_sum T.F_digit_sum.kp T.b_digit_sum .nil pass0 (pa_cons (pv 1) (pa_cons (pv 9) pa_nil))))) pa_nil)) (pe_call (ok_digit_sum T) (hr.mono (by decide)) (by rfl) T.g_digit_sum T.F_digit_sum.kp T.b_digit_sum .nil pass0 (pa_cons (pv 1) (pa_cons (pe_callB (cr_sumT rfl) (by rfl) T.z_sum (by decide +kernel) (pa_cons (pv 7) pa_nil)) pa_nil))) (nomark _)))
      (pss_one (ps_ret (pe_chain op_eq op_eq (pe_call (ok_has_no_carries T) (hr.mono (by decide)) (by rfl) T.g_has_no_carries T.F_has_no_carries.kp T.b_has_no_carries .nil pass0 (pa_cons (pv 1) (pa_cons (pv 7) pa_nil))) (pe_call (ok__law_has_none T) (hr.mono (by decide)) (by rfl) T.g__law_has_none T.F__law_has_none.kp T.b__law_has_none .nil pass0 (pa_cons (pv 1) (pa_cons (pv 7) pa_nil))) (pv 8))))))))))))))))), ?_⟩
    -- b
    refine ⟨.ref p, rfl, by show 13 ≤ sizeLine; decide, fun l nl => ⟨p, l, _, rfl, hd.ex (Ex.new nl), sq_of upd_same, new_ne nl hd, by show 0 < 13; decide, by show 13 ≤ 1000; decide, fun x H1 hx x1' d1 => ?_⟩⟩
    obtain ⟨b, hb, rfl⟩ := bs_of hx
    have x1 : Exd p H H1 := (Exd.of (Ex.new nl)).trans x1'
    -- one, other
    refine ⟨.ref p, rfl, N_ b, rfl, p, b, rfl, d1, hb, fun n1 H2 hn1 x2 d2 => ⟨.ref p, rfl, N_ b, rfl, p, b, rfl, d2, hb, fun n2 H3 hn2 x3 d3 => ⟨N_ n1, N_ n2, rfl, ?_⟩⟩⟩
    have hL1 := lt60 hn1
    have hL2 := lt60 hn2
    -- row
    refine q_asgU (eu_tupleN (el_call (ea_cons (ev_var rfl) (ea_cons (ev_var rfl) ea_nil)) (sv__law_digits hb (gt_n hL1)))) fun row H4 nr e4 hrow => ?_
    have sR : SqT K H4 row ((dg b n1).map N_) := st_of hrow
    have hdl : (dg b n1).length ≤ 200 := dg_len hb.1 200 n1 (Nat.lt_trans hL1 (by decide))
    have hdlt := dg_lt hb.1 n1
    -- the first test
    refine q_when (b := false) (et_is (et_or (et_test (ev_opU1 (eu_call (ea_cons (ev_var rfl) (ea_cons (ev_var rfl) ea_nil)) (sv_digits hb hL1)) (fun H5 e5 => ev_var rfl) (fun q H5 hq e5 => rv_neT (ns := (dg b n1).map Int.ofNat) (ms := (dg b n1).map Int.ofNat) (by rw [← mapN]; exact st_of hq) (by rw [← mapN]; exact ex_t e5 sR)))) fun _ =>
      et_or (et_test (ev_op (ev_call (ea_cons (ev_var rfl) (ea_cons (ev_var rfl) ea_nil)) (sv_of_digits hb sR (by omega) hdlt)) (ev_var rfl) (rv_ne rfl))) fun _ =>
        et_test (ev_op (ev_call (ea_cons (ev_var rfl) (ea_cons (ev_var rfl) ea_nil)) (sv_digit_sum hb hL1)) (ev_cb (ea_cons (ev_var rfl) ea_nil) (rc_sumT (ns := (dg b n1).map Int.ofNat) (by rw [← mapN]; exact sR))) (rv_ne rfl))) ?_) (fun h => nomatch h) (fun _ H5 e5 => ?_)
    · rw [od_dg hb.1, sumN]
      show (!decide ((dg b n1).map Int.ofNat = (dg b n1).map Int.ofNat) || (!decide (N_ n1 = N_ n1) || !decide (N_ (ds b n1) = N_ (ds b n1)))) = false
      rw [decide_eq_true rfl, decide_eq_true rfl, decide_eq_true rfl]
      rfl
    have sR5 := ex_t e5 sR
    have d5 := (d3.ex e4).ex e5
    have x5 := (((x1.trans x2).trans x3).trans (Exd.of e4)).trans (Exd.of e5)
    -- zeros at the end
    refine ⟨N_ b, rfl, .ref row, rfl, by show 1 ≤ sizeLine; decide, fun z nz => ⟨.ref p, rfl, p, 5, rfl, d5.ex (Ex.new nz), by decide, Nat.lt_of_lt_of_le (show 5 < 2 ^ 10 by decide) (Nat.pow_le_pow_right (by decide) (by decide : 10 ≤ 1000)), fun r H6 hr x6' d6 => ?_⟩⟩
    have x6 : Exd p _ H6 := (Exd.of (Ex.new nz)).trans x6'
    have sZ : SqT K H6 z [V.int 0] := exd_t (d5.ex (Ex.new nz)) x6' (st_of upd_same)
    have sR6 := exd_t d5 x6 sR5
    refine ⟨z, (r : Int), [.int 0], rfl, rfl, sZ, by simp, by omega, by omega, by show 1 ≤ 1000; decide, fun q H7 e7 hq => ?_⟩
    rw [rep_N] at hq
    refine catA_go (ex_t e7 sR6) hq (by rw [List.length_map, List.length_map, List.length_replicate]; omega) fun a8 H8 e8 h8 => ?_
    rw [← List.map_append] at h8
    have l8 : (dg b n1 ++ List.replicate r 0).length ≤ 400 := by rw [List.length_append, List.length_replicate]; omega
    refine ⟨b, a8, _, rfl, hb, h8, l8, fun d hd => ?_, fun H9 e9 => ⟨N_ n1, rfl, rfl, _, rfl, ?_⟩⟩
    · rcases List.mem_append.mp hd with h | h
      · exact hdlt d h
      · rw [(List.mem_replicate.mp h).2]
        have := hb.1
        omega
    rw [od_app, od_dg hb.1]
    refine iteNS rfl ?_
    have x9 : Exd p _ H9 := ((x6.trans (Exd.of e7)).trans (Exd.of e8)).trans (Exd.of e9)
    have d9 := ((d6.ex e7).ex e8).ex e9
    have xx9 := x5.trans x9
    have sR9 := exd_t d5 x9 sR5
    -- due
    refine q_asg (ev_call (ea_cons (ev_var rfl) (ea_cons (ev_var rfl) (ea_cons (ev_var rfl) ea_nil))) (sv__law_carry_count hb)) fun HA eA => ?_
    refine q_when (b := false) (et_is (et_or (et_test (ev_op (ev_call (ea_cons (ev_var rfl) (ea_cons (ev_var rfl) (ea_cons (ev_var rfl) ea_nil))) (sv_carries hb hL1 hL2)) (ev_var rfl) (rv_ne rfl))) fun _ =>
      et_test (ev_op (ev_call (ea_cons (ev_var rfl) (ea_cons (ev_var rfl) (ea_cons (ev_var rfl) ea_nil))) (sv_carries hb hL2 hL1)) (ev_var rfl) (rv_ne rfl))) ?_) (fun h => nomatch h) (fun _ HB eB => ?_)
    · rw [cc_comm hb.1 n2 n1, decide_eq_true rfl]
      rfl
    have hccb : (Int.natAbs ((cc b 0 n1 n2 : Nat) : Int)) < 2 ^ 201 := Nat.lt_of_le_of_lt (cc_le hb.1 n1 n2) (Nat.lt_trans (add60 hn1 hn2) (by decide))
    refine q_when (b := false) (et_is (et_test (ev_op (ev_op (ev_call (ea_cons (ev_var rfl) (ea_cons (ev_var rfl) ea_nil)) (sv_digit_sum hb hL1)) (ev_call (ea_cons (ev_var rfl) (ea_cons (ev_var rfl) ea_nil)) (sv_digit_sum hb hL2)) rv_I0)
      (ev_op (ev_call (ea_cons (ev_var rfl) (ea_cons (ev_op (ev_var rfl) (ev_var rfl) rv_I0) ea_nil)) (sv_digit_sum (n := n1 + n2) hb (add60 hn1 hn2))) (ev_op (ev_var rfl) (ev_op (ev_var rfl) ev_c rv_I0) (rv_I (wide_mul (a := 201) (b := 10) hccb (by show Int.natAbs ((b : Int) - 1) < 1024; have := hb.1; have := hb.2; omega) (by decide) (by decide) (by decide)))) rv_I0) (rv_ne rfl))) ?_) (fun h => nomatch h) (fun _ HC eC => ?_)
    · have h1 := ds_plus (b := b) hb.1 n1 n2
      have h2 : ((ds b n1 : Nat) : Int) + ((ds b n2 : Nat) : Int) = ((ds b (n1 + n2) : Nat) : Int) + ((cc b 0 n1 n2 : Nat) : Int) * ((b : Int) - 1) := by
        have h3 : ((b : Int) - 1) = ((b - 1 : Nat) : Int) := by have := hb.1; omega
        rw [h3, ← Int.natCast_mul, Nat.mul_comm]
        omega
      rw [h2, decide_eq_true rfl]
      rfl
    have eAC := (eA.trans eB).trans eC
    have b2 : ∀ d ∈ [n1, n2], d < 10 ^ 60 := fun d hd => by
      simp only [List.mem_cons, List.not_mem_nil, or_false] at hd
      rcases hd with rfl | rfl
      · exact hL1
      · exact hL2
    have b1 : ∀ d ∈ [n1], d < 10 ^ 60 := fun d hd => by
      simp only [List.mem_cons, List.not_mem_nil, or_false] at hd
      rw [hd]
      exact hL1
    refine q_when (b := false) (et_is (et_or (et_test (ev_op (x := .bl (cf b [n1, n2])) (fun H1 e Q q => ⟨N_ b, rfl, (eu_tup (ea_cons (ev_var rfl) (ea_cons (ev_var rfl) ea_nil)) (by show 2 ≤ 100000; decide)) H1 e _ fun t H2 nt e2 ht => sv_has_no_carries (xs := [n1, n2]) hb (st_of ht) (by show 1 ≤ 2; decide) (by show 2 ≤ 400; decide) b2 H2 (Ex.refl H2) Q (fun H3 e3 => q H3 (e2.trans e3)) E0⟩) (ev_op (ev_var rfl) ev_c (rv_eq rfl)) (rv_ne rfl))) fun _ =>
      et_not (et_B (b := true) (ev_is (v := .bl (cf b [n1])) (fun H1 e Q q => ⟨N_ b, rfl, (eu_tup (ea_cons (ev_var rfl) ea_nil) (by show 1 ≤ 100000; decide)) H1 e _ fun t H2 nt e2 ht => sv_has_no_carries (xs := [n1]) hb (st_of ht) (by show 1 ≤ 1; decide) (by show 1 ≤ 400; decide) b1 H2 (Ex.refl H2) Q (fun H3 e3 => q H3 (e2.trans e3)) E0⟩) (congrArg V.bl (cf_one n1))))) ?_) (fun h => nomatch h) (fun _ HD eD => ?_)
    · rw [cf_two hb.1, show decide (V.int ((cc b 0 n1 n2 : Nat) : Int) = V.int 0) = decide (cc b 0 n1 n2 = 0) from dec_int (y := 0), decide_eq_true rfl]
      rfl
    have eAD := eAC.trans eD
    have dD := d9.ex eAD
    -- numbers
    refine ⟨.ref p, rfl, N_ b, rfl, .ref p, rfl, p, 4, rfl, dD, by decide, Nat.lt_of_lt_of_le (show 4 < 2 ^ 10 by decide) (Nat.pow_le_pow_right (by decide) (by decide : 10 ≤ 1000)), fun r4 HE hr4 xE dE => ⟨2, (r4 : Int), rfl, rfl, p, b, 2 + r4, rfl, dE, hb, by omega, by omega, fun ys aY HF hyl hys hyc sY xF dF => ?_⟩⟩
    obtain ⟨y0, yr, rfl⟩ : ∃ y0 yr, ys = y0 :: yr := by
      cases ys with
      | nil => rw [List.length_nil] at hyl; omega
      | cons a r => exact ⟨a, r, rfl⟩
    have hy39 : ∀ d ∈ (y0 :: yr), d < 10 ^ 39 := fun d hd => Nat.lt_of_le_of_lt (le_sum _ d hd) hys
    have hy60 : ∀ d ∈ (y0 :: yr), d < 10 ^ 60 := fun d hd => Nat.lt_trans (hy39 d hd) (by decide)
    have hyr : yr.sum < 10 ^ 60 := Nat.lt_of_le_of_lt (show yr.sum ≤ (y0 :: yr).sum by rw [List.sum_cons]; omega) (Nat.lt_trans hys (by decide))
    have hlen : (y0 :: yr).length ≤ 5 := by omega
    refine q_when (b := false) (et_is (et_or (et_not (et_B (b := true) (ev_is (ev_call (ea_cons (ev_var rfl) (ea_cons (ev_var rfl) ea_nil)) (sv_has_no_carries hb sY (by rw [List.length_cons]; omega) (by omega) hy60)) (congrArg V.bl hyc)))) fun _ =>
      et_test (ev_op (ev_call (ea_cons (ev_var rfl) (ea_cons (ev_op (ev_var rfl) ev_c (rv_ixT sY (atI_nat (j := 0) rfl))) (ea_cons (ev_is (ev_sumU (ns := yr.map Int.ofNat) (eu_is (eu_sl1 (ev_var rfl) sY (Nat.succ_pos _) (cut1 _)) (mapN yr))) (congrArg V.int (sumN yr))) ea_nil))) (sv_carries hb (hy60 y0 (List.mem_cons_self ..)) hyr)) ev_c (rv_ne rfl))) ?_) (fun h => nomatch h) (fun _ HG eG => ?_)
    · rw [cf_tail hb.1 hyc]
      rfl
    have dG := dF.ex eG
    have sYG := ex_t eG sY
    -- bent
    refine ⟨.ref aY, rfl, .ref p, rfl, N_ b, rfl, (b : Int), 1, rfl, rfl, .ref p, rfl, N_ b, rfl, p, b, rfl, dG, hb, fun n3 HI hn3 xI dI => ⟨by show 3 ≤ sizeLine; decide, fun l2 nl2 => ⟨p, l2, _, rfl, dI.ex (Ex.new nl2), sq_of upd_same, new_ne nl2 dI, by show 0 < 3; decide, by show 3 ≤ 1000; decide, fun x HJ hxm xJ dJ => ?_⟩⟩⟩
    obtain ⟨m, hm, rfl⟩ : ∃ m : Nat, m < 10 ^ 59 ∧ x = N_ m := by
      simp only [List.mem_cons, List.not_mem_nil, or_false] at hxm
      rcases hxm with h | h | h
      · exact ⟨1, by decide, h⟩
      · exact ⟨b - 1, Nat.lt_of_le_of_lt (show b - 1 ≤ 1000 by have := hb.2; omega) (by decide), h.trans (congrArg V.int (by have := hb.1; omega))⟩
      · exact ⟨n3, hn3, h⟩
    have xGJ : Exd p HG HJ := (xI.trans (Exd.of (Ex.new nl2))).trans xJ
    have sYJ := exd_t dG xGJ sYG
    refine ⟨by show 1 ≤ sizeLine; decide, fun t nt => ?_⟩
    refine catA_go (xs := (y0 :: yr).map N_) (ys := [N_ m]) (ex_t (Ex.new nt) sYJ) (st_of upd_same) (by rw [List.length_map]; show _ + 1 ≤ _; omega) fun aB HK eK sB => ?_
    rw [show (y0 :: yr).map N_ ++ [N_ m] = ((y0 :: yr) ++ [m]).map N_ by rw [List.map_append]; rfl] at sB
    generalize hbt : (y0 :: yr) ++ [m] = bt at sB
    have hbl : bt.length = (y0 :: yr).length + 1 := by rw [← hbt, List.length_append]; rfl
    have hb60 : ∀ d ∈ bt, d < 10 ^ 60 := fun d hd => by
      rw [← hbt] at hd
      rcases List.mem_append.mp hd with h | h
      · exact hy60 d h
      · rw [List.mem_singleton.mp h]
        exact lt60 hm
    have hbs : bt.sum < 10 ^ 60 := by
      rw [← hbt, List.sum_append]
      exact Nat.lt_of_lt_of_le (show (y0 :: yr).sum + (m + 0) < 10 ^ 39 + 10 ^ 59 by omega) (by decide)
    have dK := (dJ.ex (Ex.new nt)).ex eK
    have xK : Exd p HG HK := (xGJ.trans (Exd.of (Ex.new nt))).trans (Exd.of eK)
    -- none
    refine q_asg (v := .bl (cf b bt)) (ev_is (ev_op (y := N_ (ds b bt.sum)) (ev_sumN (ns := (bt.map (ds b)).map Int.ofNat) (el_is (el_lcT (fun _ => true) (fun i => N_ (ds b (bt[i]?.getD 0))) (ev_var rfl) sB (by rw [List.length_map]; omega) (fun _ => rfl) (fun _ _ _ _ _ => et_nil)
      (fun i x HL eL hi _ => ?_)) ?_)) (ev_call (ea_cons (ev_var rfl) (ea_cons (ev_cb (ea_cons (ev_var rfl) ea_nil) (rc_sumT (ns := bt.map Int.ofNat) (by rw [← mapN]; exact sB))) ea_nil)) ?_) (rv_eq rfl)) ?_) fun HM eM => ?_
    · rw [List.getElem?_map] at hi
      obtain ⟨d, hd, rfl⟩ := Option.map_eq_some_iff.mp hi
      rw [hd]
      exact ev_call (ea_cons (ev_var rfl) (ea_cons (ev_var rfl) ea_nil)) (sv_digit_sum hb (hb60 d (List.mem_of_getElem? hd)))
    · rw [List.length_map, given_all bt (fun d => N_ (ds b d)) _ (fun i y h => by rw [h]; rfl), ← mapN, List.map_map]
      rfl
    · rw [sumN]
      exact sv_digit_sum hb hbs
    · rw [sumN]
      exact congrArg V.bl dec_int
    have sBM := ex_t eM sB
    refine s_ret (ev_is (ev_chain (ev_call (ea_cons (ev_var rfl) (ea_cons (ev_var rfl) ea_nil)) (sv_has_no_carries hb sBM (by omega) (by omega) hb60)) (ev_call (ea_cons (ev_var rfl) (ea_cons (ev_var rfl) ea_nil)) (sv__law_has_none hb sBM (by omega) (by omega))) (rv_eq rfl) (fun _ => ev_var rfl) (fun _ => rv_eq rfl)) (?_ : _ = V.bl true)) fun HN eN => ?_
    · show V.bl (decide (V.bl (cf b bt) = V.bl (cf b bt)) && decide (V.bl (cf b bt) = V.bl (cf b bt))) = V.bl true
      rw [decide_eq_true rfl]
      rfl
    · exact k HN (((((xx9.trans (Exd.of eAD)).trans xE).trans xF).trans (Exd.of eG)).trans (((xK.trans (Exd.of eM)).trans (Exd.of eN)))) ((dK.ex eM).ex eN)


def sp_law (K : PySem.W.Frag) : Sp := fun vs H Q _ => ∃ (a : Addr) (ns : List Int), vs = [.ref a] ∧ SqL K H a (ns.map V.int) ∧ ns.length ≤ 63 ∧ ∀ H', Q (.bl true) H'
theorem minmax (L : Nat) : ∃ n : Nat, n ≤ 100 ∧ (if (if (L : Int) < 6 then (L : Int) else 6) > 1 then (if (L : Int) < 6 then (L : Int) else 6) else 1) = (n : Int) := by
  have hz : ∀ z : Int, 0 ≤ z → z ≤ 6 → ∃ n : Nat, n ≤ 100 ∧ (if z > 1 then z else 1) = (n : Int) := fun z h0 h6 => by
    by_cases h : z > 1
    · exact ⟨z.toNat, by omega, by rw [if_pos h]; omega⟩
    · exact ⟨1, by omega, by rw [if_neg h]; rfl⟩
  refine hz _ ?_ ?_
  · split <;> omega
  · split <;> omega
theorem exd_lf {K : PySem.W.Frag} {H H' : Hp} {p a : Addr} {xs : List V} (n : H p = none) (e : Exd p H H') (h : SqL K H a xs) : SqL K H' a xs := by
  rcases h with (h | ⟨o, h⟩) | h
  · exact .inl (.inl (e a _ (ne_of_none h n) h))
  · exact .inl (.inr ⟨o, e a _ (ne_of_none h n) h⟩)
  · exact .inr h

theorem ok_law {P : Program} {w : World} {K : PySem.W.Frag} {mg : Str → Option Value} {base : Heap} (T : Txt K mg) : FnOk P w K mg base CX0 7 T.a_law T.d_law ["_law_script"] (sp_law K) := by
  refine T.F_law.ok sc_law (fun vs H Q E h => ?_) (fun cdv A outer s H vs Q E hr h => ?_)
  · obtain ⟨a, ns, rfl, _⟩ := h
    rfl
  · obtain ⟨a, ns, rfl, hx, hlen, k⟩ := h
    refine ⟨_, (pss_cons (ps_for PassesOwn.never rfl (pi_range1 rfl T.z_range (pa_cons (pe_callB (call_max2 rfl) (by rfl) T.z_max (by decide +kernel) (pa_cons pe_int (pa_cons (pe_callB (call_min2 rfl) (by rfl) T.z_min (by decide +kernel) (pa_cons pe_int (pa_cons (pe_callB call_len_seq (by rfl) T.z_len (by decide +kernel) (pa_cons (pv 0) pa_nil)) pa_nil))) pa_nil))) pa_nil)) (pg_name (i := 1) sc_law.nd rfl (Or.inl rfl)) (pss_cons (ps_set (i := 2) sc_law.nd rfl (Or.inl rfl) (pe_call (ok__law_dice T) (hr.mono (by decide)) (by rfl) T.g__law_dice T.F__law_dice.kp T.b__law_dice .nil pass0 (pa_cons (pv 0) (pa_cons (pv 1) pa_nil))))
      (pss_one (ps_for PassesOwn.never rfl (pi_range1 rfl T.z_range (pa_cons pe_int pa_nil)) (pg_name (i := 3) sc_law.nd rfl (Or.inl rfl)) (pss_one (ps_if (pt_not (pt_val (pe_call (ok__law_right T) (hr.mono (by decide)) (by rfl) T.g__law_right T.F__law_right.kp T.b__law_right .nil pass0 (pa_cons (pv 2) pa_nil)))) (pss_one (ps_ret pe_bl)) pss_nil))))))
      (pss_one (ps_ret pe_bl))), ?_⟩
    have hm := minmax ((ns.map V.int).length)
    obtain ⟨n, hn, en⟩ := hm
    refine q_forR1 (n := (n : Int)) (ea_cons (ev_is (ev_cb (ea_cons ev_c (ea_cons (ev_cb (ea_cons ev_c (ea_cons (ev_cb (ea_cons (ev_var rfl) ea_nil) (rc_lenL hx)) ea_nil)) rc_min2) ea_nil)) rc_max2) (congrArg V.int en)) ea_nil) ⟨by omega, by omega⟩
      (fun i σ H' => ∃ y1 y2 y3 : Option V, σ = [some (.ref a), y1, y2, y3] ∧ SqL K H' a (ns.map V.int)) (fun H1 e1 => ⟨none, none, none, rfl, ex_l e1 hx⟩) (fun i σ H2 hi hw => ?_) (fun σ H2 hw => ?_)
    · obtain ⟨y1, y2, y3, rfl, h2⟩ := hw
      -- dice
      refine ⟨.ref a, rfl, N_ i, rfl, a, ns, i, rfl, h2, hlen, by omega, fun p H3 np e3 d3 => ?_⟩
      have h3 := ex_l e3 h2
      refine s_forR1 (n := 3) (ea_cons ev_c ea_nil) ⟨by decide, by decide⟩ (fun j σ H' => ∃ y3 : Option V, σ = [some (.ref a), some (N_ i), some (.ref p), y3] ∧ IsDice H' p ∧ Exd p H2 H') (fun H4 e4 => ⟨y3, rfl, d3.ex e4, (Exd.of e3).trans (Exd.of e4)⟩) (fun j σ H4 hj hw4 => ?_) (fun σ H4 hw4 => ?_)
      · obtain ⟨y3, rfl, d4, h4⟩ := hw4
        refine ⟨.ref p, rfl, p, rfl, d4, fun H5 x5 d5 => ⟨true, rfl, iteF ?_⟩⟩
        exact ⟨_, rfl, d5, h4.trans x5⟩
      · obtain ⟨y3, rfl, d4, h4⟩ := hw4
        exact ⟨some (N_ i), some (.ref p), y3, rfl, exd_lf np h4 h2⟩
    · obtain ⟨y1, y2, y3, rfl, h2⟩ := hw
      exact s_ret ev_c fun H3 e3 => k H3


end Own
namespace Own
open PySem PySem.Spec PyProof.Rows L2 Evl

theorem all_mk {l : PySem.W.OpenLaw} {w : World} {K : PySem.W.Frag} {h : Heap} {mg : Str → Option Value} {fa : Addr} (X : K.In h) (G : h.Ns mainGlobals mg) (hfa : mg "law" = some (.ref fa))
    {f_digit_row f_row_integer f_digit_total f_are_carry_free f_is_integer f_is_from f_is_between f_check_from f_check_between f_check_base f_check_numbers f_digits f_of_digits f_digit_sum f_carries f_has_no_carries f__law_dice f__law_roll f__law_one_of f__law_raised f__law_digits f__law_size f__law_carry_count f__law_has_none f__law_number f__law_parted_digits f__law_right f_law : Addr} {od_digit_row an_digit_row od_row_integer an_row_integer od_digit_total an_digit_total od_are_carry_free an_are_carry_free od_is_integer an_is_integer od_is_from an_is_from od_is_between an_is_between od_check_from an_check_from od_check_between an_check_between od_check_base an_check_base od_check_numbers an_check_numbers od_digits an_digits od_of_digits an_of_digits od_digit_sum an_digit_sum od_carries an_carries od_has_no_carries an_has_no_carries od__law_dice an__law_dice od__law_roll an__law_roll od__law_one_of an__law_one_of od__law_raised an__law_raised od__law_digits an__law_digits od__law_size an__law_size od__law_carry_count an__law_carry_count od__law_has_none an__law_has_none od__law_number an__law_number od__law_parted_digits an__law_parted_digits od__law_right an__law_right od_law an_law : Option Addr} {sl_digit_row sl_row_integer sl_digit_total sl_are_carry_free sl_is_integer sl_is_from sl_is_between sl_check_from sl_check_between sl_check_base sl_check_numbers sl_digits sl_of_digits sl_digit_sum sl_carries sl_has_no_carries sl__law_dice sl__law_roll sl__law_one_of sl__law_raised sl__law_digits sl__law_size sl__law_carry_count sl__law_has_none sl__law_number sl__law_parted_digits sl__law_right sl_law : Array (Option Value)} {oc_digit_row kV_digit_row dc_digit_row pm_digit_row cd_digit_row ct_digit_row oc_row_integer kV_row_integer dc_row_integer pm_row_integer cd_row_integer ct_row_integer oc_digit_total kV_digit_total dc_digit_total pm_digit_total cd_digit_total ct_digit_total oc_are_carry_free kV_are_carry_free dc_are_carry_free pm_are_carry_free cd_are_carry_free ct_are_carry_free oc_is_integer kV_is_integer dc_is_integer pm_is_integer cd_is_integer ct_is_integer oc_is_from kV_is_from dc_is_from pm_is_from cd_is_from ct_is_from oc_is_between kV_is_between dc_is_between pm_is_between cd_is_between ct_is_between oc_check_from kV_check_from dc_check_from pm_check_from cd_check_from ct_check_from oc_check_between kV_check_between dc_check_between pm_check_between cd_check_between ct_check_between oc_check_base kV_check_base dc_check_base pm_check_base cd_check_base ct_check_base oc_check_numbers kV_check_numbers dc_check_numbers pm_check_numbers cd_check_numbers ct_check_numbers oc_digits kV_digits dc_digits pm_digits cd_digits ct_digits oc_of_digits kV_of_digits dc_of_digits pm_of_digits cd_of_digits ct_of_digits oc_digit_sum kV_digit_sum dc_digit_sum pm_digit_sum cd_digit_sum ct_digit_sum oc_carries kV_carries dc_carries pm_carries cd_carries ct_carries oc_has_no_carries kV_has_no_carries dc_has_no_carries pm_has_no_carries cd_has_no_carries ct_has_no_carries oc__law_dice kV__law_dice dc__law_dice pm__law_dice cd__law_dice ct__law_dice oc__law_roll kV__law_roll dc__law_roll pm__law_roll cd__law_roll ct__law_roll oc__law_one_of kV__law_one_of dc__law_one_of pm__law_one_of cd__law_one_of ct__law_one_of oc__law_raised kV__law_raised dc__law_raised pm__law_raised cd__law_raised ct__law_raised oc__law_digits kV__law_digits dc__law_digits pm__law_digits cd__law_digits ct__law_digits oc__law_size kV__law_size dc__law_size pm__law_size cd__law_size ct__law_size oc__law_carry_count kV__law_carry_count dc__law_carry_count pm__law_carry_count cd__law_carry_count ct__law_carry_count oc__law_has_none kV__law_has_none dc__law_has_none pm__law_has_none cd__law_has_none ct__law_has_none oc__law_number kV__law_number dc__law_number pm__law_number cd__law_number ct__law_number oc__law_parted_digits kV__law_parted_digits dc__law_parted_digits pm__law_parted_digits cd__law_parted_digits ct__law_parted_digits oc__law_right kV__law_right dc__law_right pm__law_right cd__law_right ct__law_right oc_law kV_law dc_law pm_law cd_law ct_law : Value}
    {t_TOO_LONG t_MOST_NUMBERS : Tok}
    (a_digit_row : PySem.W.nsIn K mainGlobals "digit_row" = some (some (.ref f_digit_row))) (l_digit_row : K.lookup f_digit_row = some ⟨oc_digit_row, od_digit_row, .func (PySem.W.fnOf "digit_row" "digit_row" (defArgs s_digit_row) (defBody s_digit_row) (defScope s_digit_row) .none kV_digit_row dc_digit_row pm_digit_row an_digit_row cd_digit_row ct_digit_row), sl_digit_row⟩) (c_digit_row : PySem.W.codeIn K cd_digit_row "digit_row" = true) (k_digit_row : PySem.W.keepIn K (.ref f_digit_row) = true)
    (a_row_integer : PySem.W.nsIn K mainGlobals "row_integer" = some (some (.ref f_row_integer))) (l_row_integer : K.lookup f_row_integer = some ⟨oc_row_integer, od_row_integer, .func (PySem.W.fnOf "row_integer" "row_integer" (defArgs s_row_integer) (defBody s_row_integer) (defScope s_row_integer) .none kV_row_integer dc_row_integer pm_row_integer an_row_integer cd_row_integer ct_row_integer), sl_row_integer⟩) (c_row_integer : PySem.W.codeIn K cd_row_integer "row_integer" = true) (k_row_integer : PySem.W.keepIn K (.ref f_row_integer) = true)
    (a_digit_total : PySem.W.nsIn K mainGlobals "digit_total" = some (some (.ref f_digit_total))) (l_digit_total : K.lookup f_digit_total = some ⟨oc_digit_total, od_digit_total, .func (PySem.W.fnOf "digit_total" "digit_total" (defArgs s_digit_total) (defBody s_digit_total) (defScope s_digit_total) .none kV_digit_total dc_digit_total pm_digit_total an_digit_total cd_digit_total ct_digit_total), sl_digit_total⟩) (c_digit_total : PySem.W.codeIn K cd_digit_total "digit_total" = true) (k_digit_total : PySem.W.keepIn K (.ref f_digit_total) = true)
    (a_are_carry_free : PySem.W.nsIn K mainGlobals "are_carry_free" = some (some (.ref f_are_carry_free))) (l_are_carry_free : K.lookup f_are_carry_free = some ⟨oc_are_carry_free, od_are_carry_free, .func (PySem.W.fnOf "are_carry_free" "are_carry_free" (defArgs s_are_carry_free) (defBody s_are_carry_free) (defScope s_are_carry_free) .none kV_are_carry_free dc_are_carry_free pm_are_carry_free an_are_carry_free cd_are_carry_free ct_are_carry_free), sl_are_carry_free⟩) (c_are_carry_free : PySem.W.codeIn K cd_are_carry_free "are_carry_free" = true) (k_are_carry_free : PySem.W.keepIn K (.ref f_are_carry_free) = true)
    (a_is_integer : PySem.W.nsIn K mainGlobals "is_integer" = some (some (.ref f_is_integer))) (l_is_integer : K.lookup f_is_integer = some ⟨oc_is_integer, od_is_integer, .func (PySem.W.fnOf "is_integer" "is_integer" (defArgs s_is_integer) (defBody s_is_integer) (defScope s_is_integer) .none kV_is_integer dc_is_integer pm_is_integer an_is_integer cd_is_integer ct_is_integer), sl_is_integer⟩) (c_is_integer : PySem.W.codeIn K cd_is_integer "is_integer" = true) (k_is_integer : PySem.W.keepIn K (.ref f_is_integer) = true)
    (a_is_from : PySem.W.nsIn K mainGlobals "is_from" = some (some (.ref f_is_from))) (l_is_from : K.lookup f_is_from = some ⟨oc_is_from, od_is_from, .func (PySem.W.fnOf "is_from" "is_from" (defArgs s_is_from) (defBody s_is_from) (defScope s_is_from) .none kV_is_from dc_is_from pm_is_from an_is_from cd_is_from ct_is_from), sl_is_from⟩) (c_is_from : PySem.W.codeIn K cd_is_from "is_from" = true) (k_is_from : PySem.W.keepIn K (.ref f_is_from) = true)
    (a_is_between : PySem.W.nsIn K mainGlobals "is_between" = some (some (.ref f_is_between))) (l_is_between : K.lookup f_is_between = some ⟨oc_is_between, od_is_between, .func (PySem.W.fnOf "is_between" "is_between" (defArgs s_is_between) (defBody s_is_between) (defScope s_is_between) .none kV_is_between dc_is_between pm_is_between an_is_between cd_is_between ct_is_between), sl_is_between⟩) (c_is_between : PySem.W.codeIn K cd_is_between "is_between" = true) (k_is_between : PySem.W.keepIn K (.ref f_is_between) = true)
    (a_check_from : PySem.W.nsIn K mainGlobals "check_from" = some (some (.ref f_check_from))) (l_check_from : K.lookup f_check_from = some ⟨oc_check_from, od_check_from, .func (PySem.W.fnOf "check_from" "check_from" (defArgs s_check_from) (defBody s_check_from) (defScope s_check_from) .none kV_check_from dc_check_from pm_check_from an_check_from cd_check_from ct_check_from), sl_check_from⟩) (c_check_from : PySem.W.codeIn K cd_check_from "check_from" = true) (k_check_from : PySem.W.keepIn K (.ref f_check_from) = true)
    (a_check_between : PySem.W.nsIn K mainGlobals "check_between" = some (some (.ref f_check_between))) (l_check_between : K.lookup f_check_between = some ⟨oc_check_between, od_check_between, .func (PySem.W.fnOf "check_between" "check_between" (defArgs s_check_between) (defBody s_check_between) (defScope s_check_between) .none kV_check_between dc_check_between pm_check_between an_check_between cd_check_between ct_check_between), sl_check_between⟩) (c_check_between : PySem.W.codeIn K cd_check_between "check_between" = true) (k_check_between : PySem.W.keepIn K (.ref f_check_between) = true)
    (a_check_base : PySem.W.nsIn K mainGlobals "check_base" = some (some (.ref f_check_base))) (l_check_base : K.lookup f_check_base = some ⟨oc_check_base, od_check_base, .func (PySem.W.fnOf "check_base" "check_base" (defArgs s_check_base) (defBody s_check_base) (defScope s_check_base) .none kV_check_base dc_check_base pm_check_base an_check_base cd_check_base ct_check_base), sl_check_base⟩) (c_check_base : PySem.W.codeIn K cd_check_base "check_base" = true) (k_check_base : PySem.W.keepIn K (.ref f_check_base) = true)
    (a_check_numbers : PySem.W.nsIn K mainGlobals "check_numbers" = some (some (.ref f_check_numbers))) (l_check_numbers : K.lookup f_check_numbers = some ⟨oc_check_numbers, od_check_numbers, .func (PySem.W.fnOf "check_numbers" "check_numbers" (defArgs s_check_numbers) (defBody s_check_numbers) (defScope s_check_numbers) .none kV_check_numbers dc_check_numbers pm_check_numbers an_check_numbers cd_check_numbers ct_check_numbers), sl_check_numbers⟩) (c_check_numbers : PySem.W.codeIn K cd_check_numbers "check_numbers" = true) (k_check_numbers : PySem.W.keepIn K (.ref f_check_numbers) = true)
    (a_digits : PySem.W.nsIn K mainGlobals "digits" = some (some (.ref f_digits))) (l_digits : K.lookup f_digits = some ⟨oc_digits, od_digits, .func (PySem.W.fnOf "digits" "digits" (defArgs s_digits) (defBody s_digits) (defScope s_digits) .none kV_digits dc_digits pm_digits an_digits cd_digits ct_digits), sl_digits⟩) (c_digits : PySem.W.codeIn K cd_digits "digits" = true) (k_digits : PySem.W.keepIn K (.ref f_digits) = true)
    (a_of_digits : PySem.W.nsIn K mainGlobals "of_digits" = some (some (.ref f_of_digits))) (l_of_digits : K.lookup f_of_digits = some ⟨oc_of_digits, od_of_digits, .func (PySem.W.fnOf "of_digits" "of_digits" (defArgs s_of_digits) (defBody s_of_digits) (defScope s_of_digits) .none kV_of_digits dc_of_digits pm_of_digits an_of_digits cd_of_digits ct_of_digits), sl_of_digits⟩) (c_of_digits : PySem.W.codeIn K cd_of_digits "of_digits" = true) (k_of_digits : PySem.W.keepIn K (.ref f_of_digits) = true)
    (a_digit_sum : PySem.W.nsIn K mainGlobals "digit_sum" = some (some (.ref f_digit_sum))) (l_digit_sum : K.lookup f_digit_sum = some ⟨oc_digit_sum, od_digit_sum, .func (PySem.W.fnOf "digit_sum" "digit_sum" (defArgs s_digit_sum) (defBody s_digit_sum) (defScope s_digit_sum) .none kV_digit_sum dc_digit_sum pm_digit_sum an_digit_sum cd_digit_sum ct_digit_sum), sl_digit_sum⟩) (c_digit_sum : PySem.W.codeIn K cd_digit_sum "digit_sum" = true) (k_digit_sum : PySem.W.keepIn K (.ref f_digit_sum) = true)
    (a_carries : PySem.W.nsIn K mainGlobals "carries" = some (some (.ref f_carries))) (l_carries : K.lookup f_carries = some ⟨oc_carries, od_carries, .func (PySem.W.fnOf "carries" "carries" (defArgs s_carries) (defBody s_carries) (defScope s_carries) .none kV_carries dc_carries pm_carries an_carries cd_carries ct_carries), sl_carries⟩) (c_carries : PySem.W.codeIn K cd_carries "carries" = true) (k_carries : PySem.W.keepIn K (.ref f_carries) = true)
    (a_has_no_carries : PySem.W.nsIn K mainGlobals "has_no_carries" = some (some (.ref f_has_no_carries))) (l_has_no_carries : K.lookup f_has_no_carries = some ⟨oc_has_no_carries, od_has_no_carries, .func (PySem.W.fnOf "has_no_carries" "has_no_carries" (defArgs s_has_no_carries) (defBody s_has_no_carries) (defScope s_has_no_carries) .none kV_has_no_carries dc_has_no_carries pm_has_no_carries an_has_no_carries cd_has_no_carries ct_has_no_carries), sl_has_no_carries⟩) (c_has_no_carries : PySem.W.codeIn K cd_has_no_carries "has_no_carries" = true) (k_has_no_carries : PySem.W.keepIn K (.ref f_has_no_carries) = true)
    (a__law_dice : PySem.W.nsIn K mainGlobals "_law_dice" = some (some (.ref f__law_dice))) (l__law_dice : K.lookup f__law_dice = some ⟨oc__law_dice, od__law_dice, .func (PySem.W.fnOf "_law_dice" "_law_dice" (defArgs s__law_dice) (defBody s__law_dice) (defScope s__law_dice) .none kV__law_dice dc__law_dice pm__law_dice an__law_dice cd__law_dice ct__law_dice), sl__law_dice⟩) (c__law_dice : PySem.W.codeIn K cd__law_dice "_law_dice" = true) (k__law_dice : PySem.W.keepIn K (.ref f__law_dice) = true)
    (a__law_roll : PySem.W.nsIn K mainGlobals "_law_roll" = some (some (.ref f__law_roll))) (l__law_roll : K.lookup f__law_roll = some ⟨oc__law_roll, od__law_roll, .func (PySem.W.fnOf "_law_roll" "_law_roll" (defArgs s__law_roll) (defBody s__law_roll) (defScope s__law_roll) .none kV__law_roll dc__law_roll pm__law_roll an__law_roll cd__law_roll ct__law_roll), sl__law_roll⟩) (c__law_roll : PySem.W.codeIn K cd__law_roll "_law_roll" = true) (k__law_roll : PySem.W.keepIn K (.ref f__law_roll) = true)
    (a__law_one_of : PySem.W.nsIn K mainGlobals "_law_one_of" = some (some (.ref f__law_one_of))) (l__law_one_of : K.lookup f__law_one_of = some ⟨oc__law_one_of, od__law_one_of, .func (PySem.W.fnOf "_law_one_of" "_law_one_of" (defArgs s__law_one_of) (defBody s__law_one_of) (defScope s__law_one_of) .none kV__law_one_of dc__law_one_of pm__law_one_of an__law_one_of cd__law_one_of ct__law_one_of), sl__law_one_of⟩) (c__law_one_of : PySem.W.codeIn K cd__law_one_of "_law_one_of" = true) (k__law_one_of : PySem.W.keepIn K (.ref f__law_one_of) = true)
    (a__law_raised : PySem.W.nsIn K mainGlobals "_law_raised" = some (some (.ref f__law_raised))) (l__law_raised : K.lookup f__law_raised = some ⟨oc__law_raised, od__law_raised, .func (PySem.W.fnOf "_law_raised" "_law_raised" (defArgs s__law_raised) (defBody s__law_raised) (defScope s__law_raised) .none kV__law_raised dc__law_raised pm__law_raised an__law_raised cd__law_raised ct__law_raised), sl__law_raised⟩) (c__law_raised : PySem.W.codeIn K cd__law_raised "_law_raised" = true) (k__law_raised : PySem.W.keepIn K (.ref f__law_raised) = true)
    (a__law_digits : PySem.W.nsIn K mainGlobals "_law_digits" = some (some (.ref f__law_digits))) (l__law_digits : K.lookup f__law_digits = some ⟨oc__law_digits, od__law_digits, .func (PySem.W.fnOf "_law_digits" "_law_digits" (defArgs s__law_digits) (defBody s__law_digits) (defScope s__law_digits) .none kV__law_digits dc__law_digits pm__law_digits an__law_digits cd__law_digits ct__law_digits), sl__law_digits⟩) (c__law_digits : PySem.W.codeIn K cd__law_digits "_law_digits" = true) (k__law_digits : PySem.W.keepIn K (.ref f__law_digits) = true)
    (a__law_size : PySem.W.nsIn K mainGlobals "_law_size" = some (some (.ref f__law_size))) (l__law_size : K.lookup f__law_size = some ⟨oc__law_size, od__law_size, .func (PySem.W.fnOf "_law_size" "_law_size" (defArgs s__law_size) (defBody s__law_size) (defScope s__law_size) .none kV__law_size dc__law_size pm__law_size an__law_size cd__law_size ct__law_size), sl__law_size⟩) (c__law_size : PySem.W.codeIn K cd__law_size "_law_size" = true) (k__law_size : PySem.W.keepIn K (.ref f__law_size) = true)
    (a__law_carry_count : PySem.W.nsIn K mainGlobals "_law_carry_count" = some (some (.ref f__law_carry_count))) (l__law_carry_count : K.lookup f__law_carry_count = some ⟨oc__law_carry_count, od__law_carry_count, .func (PySem.W.fnOf "_law_carry_count" "_law_carry_count" (defArgs s__law_carry_count) (defBody s__law_carry_count) (defScope s__law_carry_count) .none kV__law_carry_count dc__law_carry_count pm__law_carry_count an__law_carry_count cd__law_carry_count ct__law_carry_count), sl__law_carry_count⟩) (c__law_carry_count : PySem.W.codeIn K cd__law_carry_count "_law_carry_count" = true) (k__law_carry_count : PySem.W.keepIn K (.ref f__law_carry_count) = true)
    (a__law_has_none : PySem.W.nsIn K mainGlobals "_law_has_none" = some (some (.ref f__law_has_none))) (l__law_has_none : K.lookup f__law_has_none = some ⟨oc__law_has_none, od__law_has_none, .func (PySem.W.fnOf "_law_has_none" "_law_has_none" (defArgs s__law_has_none) (defBody s__law_has_none) (defScope s__law_has_none) .none kV__law_has_none dc__law_has_none pm__law_has_none an__law_has_none cd__law_has_none ct__law_has_none), sl__law_has_none⟩) (c__law_has_none : PySem.W.codeIn K cd__law_has_none "_law_has_none" = true) (k__law_has_none : PySem.W.keepIn K (.ref f__law_has_none) = true)
    (a__law_number : PySem.W.nsIn K mainGlobals "_law_number" = some (some (.ref f__law_number))) (l__law_number : K.lookup f__law_number = some ⟨oc__law_number, od__law_number, .func (PySem.W.fnOf "_law_number" "_law_number" (defArgs s__law_number) (defBody s__law_number) (defScope s__law_number) .none kV__law_number dc__law_number pm__law_number an__law_number cd__law_number ct__law_number), sl__law_number⟩) (c__law_number : PySem.W.codeIn K cd__law_number "_law_number" = true) (k__law_number : PySem.W.keepIn K (.ref f__law_number) = true)
    (a__law_parted_digits : PySem.W.nsIn K mainGlobals "_law_parted_digits" = some (some (.ref f__law_parted_digits))) (l__law_parted_digits : K.lookup f__law_parted_digits = some ⟨oc__law_parted_digits, od__law_parted_digits, .func (PySem.W.fnOf "_law_parted_digits" "_law_parted_digits" (defArgs s__law_parted_digits) (defBody s__law_parted_digits) (defScope s__law_parted_digits) .none kV__law_parted_digits dc__law_parted_digits pm__law_parted_digits an__law_parted_digits cd__law_parted_digits ct__law_parted_digits), sl__law_parted_digits⟩) (c__law_parted_digits : PySem.W.codeIn K cd__law_parted_digits "_law_parted_digits" = true) (k__law_parted_digits : PySem.W.keepIn K (.ref f__law_parted_digits) = true)
    (a__law_right : PySem.W.nsIn K mainGlobals "_law_right" = some (some (.ref f__law_right))) (l__law_right : K.lookup f__law_right = some ⟨oc__law_right, od__law_right, .func (PySem.W.fnOf "_law_right" "_law_right" (defArgs s__law_right) (defBody s__law_right) (defScope s__law_right) .none kV__law_right dc__law_right pm__law_right an__law_right cd__law_right ct__law_right), sl__law_right⟩) (c__law_right : PySem.W.codeIn K cd__law_right "_law_right" = true) (k__law_right : PySem.W.keepIn K (.ref f__law_right) = true)
    (a_law : PySem.W.nsIn K mainGlobals "law" = some (some (.ref f_law))) (l_law : K.lookup f_law = some ⟨oc_law, od_law, .func (PySem.W.fnOf "law" "law" (defArgs s_law) (defBody s_law) (defScope s_law) .none kV_law dc_law pm_law an_law cd_law ct_law), sl_law⟩) (c_law : PySem.W.codeIn K cd_law "law" = true) (k_law : PySem.W.keepIn K (.ref f_law) = true)
    (z_sum : PySem.W.nsIn K mainGlobals "sum" = some none)
    (z_isinstance : PySem.W.nsIn K mainGlobals "isinstance" = some none)
    (z_int : PySem.W.nsIn K mainGlobals "int" = some none)
    (z_bool : PySem.W.nsIn K mainGlobals "bool" = some none)
    (z_all : PySem.W.nsIn K mainGlobals "all" = some none)
    (z_tuple : PySem.W.nsIn K mainGlobals "tuple" = some none)
    (z_len : PySem.W.nsIn K mainGlobals "len" = some none)
    (z_abs : PySem.W.nsIn K mainGlobals "abs" = some none)
    (z_range : PySem.W.nsIn K mainGlobals "range" = some none)
    (z_list : PySem.W.nsIn K mainGlobals "list" = some none)
    (z_max : PySem.W.nsIn K mainGlobals "max" = some none)
    (z_min : PySem.W.nsIn K mainGlobals "min" = some none)
    (q_TOO_LONG : PySem.W.nsIn K mainGlobals "TOO_LONG" = some (some (.int 1000000000000000000000000000000000000000000000000000000000000 t_TOO_LONG)))
    (q_MOST_NUMBERS : PySem.W.nsIn K mainGlobals "MOST_NUMBERS" = some (some (.int 400 t_MOST_NUMBERS)))
    : ∃ fd : FuncData, (∀ (s : Shared) (v : Value), BindsTo s fd ⟨[v], []⟩ [("_law_script", v)]) ∧ ∀ base : Heap, K.In base → base.Ns mainGlobals mg → FnOk l.prog w K mg base CX0 7 fa fd ["_law_script"] (sp_law K) := by
  have e := hfa.symm.trans (PySem.W.mg_of X G a_law)
  cases e
  have F_digit_row := fun_mk (st := s_digit_row) l_digit_row c_digit_row k_digit_row
  have b_digit_row := F_digit_row.binds (ps := ["b", "k"]) fun _ _ _ _ _ _ us hl => match us, hl with | [_, _], _ => rfl
  have F_row_integer := fun_mk (st := s_row_integer) l_row_integer c_row_integer k_row_integer
  have b_row_integer := F_row_integer.binds (ps := ["b", "row"]) fun _ _ _ _ _ _ us hl => match us, hl with | [_, _], _ => rfl
  have F_digit_total := fun_mk (st := s_digit_total) l_digit_total c_digit_total k_digit_total
  have b_digit_total := F_digit_total.binds (ps := ["b", "k"]) fun _ _ _ _ _ _ us hl => match us, hl with | [_, _], _ => rfl
  have F_are_carry_free := fun_mk (st := s_are_carry_free) l_are_carry_free c_are_carry_free k_are_carry_free
  have b_are_carry_free := F_are_carry_free.binds (ps := ["b", "numbers"]) fun _ _ _ _ _ _ us hl => match us, hl with | [_, _], _ => rfl
  have F_is_integer := fun_mk (st := s_is_integer) l_is_integer c_is_integer k_is_integer
  have b_is_integer := F_is_integer.binds (ps := ["value"]) fun _ _ _ _ _ _ us hl => match us, hl with | [_], _ => rfl
  have F_is_from := fun_mk (st := s_is_from) l_is_from c_is_from k_is_from
  have b_is_from := F_is_from.binds (ps := ["value", "low"]) fun _ _ _ _ _ _ us hl => match us, hl with | [_, _], _ => rfl
  have F_is_between := fun_mk (st := s_is_between) l_is_between c_is_between k_is_between
  have b_is_between := F_is_between.binds (ps := ["value", "low", "high"]) fun _ _ _ _ _ _ us hl => match us, hl with | [_, _, _], _ => rfl
  have F_check_from := fun_mk (st := s_check_from) l_check_from c_check_from k_check_from
  have b_check_from := F_check_from.binds (ps := ["value", "low"]) fun _ _ _ _ _ _ us hl => match us, hl with | [_, _], _ => rfl
  have F_check_between := fun_mk (st := s_check_between) l_check_between c_check_between k_check_between
  have b_check_between := F_check_between.binds (ps := ["value", "low", "high"]) fun _ _ _ _ _ _ us hl => match us, hl with | [_, _, _], _ => rfl
  have F_check_base := fun_mk (st := s_check_base) l_check_base c_check_base k_check_base
  have b_check_base := F_check_base.binds (ps := ["b"]) fun _ _ _ _ _ _ us hl => match us, hl with | [_], _ => rfl
  have F_check_numbers := fun_mk (st := s_check_numbers) l_check_numbers c_check_numbers k_check_numbers
  have b_check_numbers := F_check_numbers.binds (ps := ["numbers"]) fun _ _ _ _ _ _ us hl => match us, hl with | [_], _ => rfl
  have F_digits := fun_mk (st := s_digits) l_digits c_digits k_digits
  have b_digits := F_digits.binds (ps := ["b", "k"]) fun _ _ _ _ _ _ us hl => match us, hl with | [_, _], _ => rfl
  have F_of_digits := fun_mk (st := s_of_digits) l_of_digits c_of_digits k_of_digits
  have b_of_digits := F_of_digits.binds (ps := ["b", "row"]) fun _ _ _ _ _ _ us hl => match us, hl with | [_, _], _ => rfl
  have F_digit_sum := fun_mk (st := s_digit_sum) l_digit_sum c_digit_sum k_digit_sum
  have b_digit_sum := F_digit_sum.binds (ps := ["b", "k"]) fun _ _ _ _ _ _ us hl => match us, hl with | [_, _], _ => rfl
  have F_carries := fun_mk (st := s_carries) l_carries c_carries k_carries
  have b_carries := F_carries.binds (ps := ["b", "i", "j"]) fun _ _ _ _ _ _ us hl => match us, hl with | [_, _, _], _ => rfl
  have F_has_no_carries := fun_mk (st := s_has_no_carries) l_has_no_carries c_has_no_carries k_has_no_carries
  have b_has_no_carries := F_has_no_carries.binds (ps := ["b", "numbers"]) fun _ _ _ _ _ _ us hl => match us, hl with | [_, _], _ => rfl
  have F__law_dice := fun_mk (st := s__law_dice) l__law_dice c__law_dice k__law_dice
  have b__law_dice := F__law_dice.binds (ps := ["_law_script", "_law_at"]) fun _ _ _ _ _ _ us hl => match us, hl with | [_, _], _ => rfl
  have F__law_roll := fun_mk (st := s__law_roll) l__law_roll c__law_roll k__law_roll
  have b__law_roll := F__law_roll.binds (ps := ["_law_dice_here", "_law_total"]) fun _ _ _ _ _ _ us hl => match us, hl with | [_, _], _ => rfl
  have F__law_one_of := fun_mk (st := s__law_one_of) l__law_one_of c__law_one_of k__law_one_of
  have b__law_one_of := F__law_one_of.binds (ps := ["_law_dice_here", "_law_items"]) fun _ _ _ _ _ _ us hl => match us, hl with | [_, _], _ => rfl
  have F__law_raised := fun_mk (st := s__law_raised) l__law_raised c__law_raised k__law_raised
  have b__law_raised := F__law_raised.binds (ps := ["_law_base", "_law_count"]) fun _ _ _ _ _ _ us hl => match us, hl with | [_, _], _ => rfl
  have F__law_digits := fun_mk (st := s__law_digits) l__law_digits c__law_digits k__law_digits
  have b__law_digits := F__law_digits.binds (ps := ["_law_base", "_law_number_here"]) fun _ _ _ _ _ _ us hl => match us, hl with | [_, _], _ => rfl
  have F__law_size := fun_mk (st := s__law_size) l__law_size c__law_size k__law_size
  have b__law_size := F__law_size.binds (ps := ["_law_q", "_law_most"]) fun _ _ _ _ _ _ us hl => match us, hl with | [_, _], _ => rfl
  have F__law_carry_count := fun_mk (st := s__law_carry_count) l__law_carry_count c__law_carry_count k__law_carry_count
  have b__law_carry_count := F__law_carry_count.binds (ps := ["_law_b", "_law_one", "_law_other"]) fun _ _ _ _ _ _ us hl => match us, hl with | [_, _, _], _ => rfl
  have F__law_has_none := fun_mk (st := s__law_has_none) l__law_has_none c__law_has_none k__law_has_none
  have b__law_has_none := F__law_has_none.binds (ps := ["_law_b", "_law_numbers"]) fun _ _ _ _ _ _ us hl => match us, hl with | [_, _], _ => rfl
  have F__law_number := fun_mk (st := s__law_number) l__law_number c__law_number k__law_number
  have b__law_number := F__law_number.binds (ps := ["_law_dice_here", "_law_b"]) fun _ _ _ _ _ _ us hl => match us, hl with | [_, _], _ => rfl
  have F__law_parted_digits := fun_mk (st := s__law_parted_digits) l__law_parted_digits c__law_parted_digits k__law_parted_digits
  have b__law_parted_digits := F__law_parted_digits.binds (ps := ["_law_dice_here", "_law_b", "_law_count"]) fun _ _ _ _ _ _ us hl => match us, hl with | [_, _, _], _ => rfl
  have F__law_right := fun_mk (st := s__law_right) l__law_right c__law_right k__law_right
  have b__law_right := F__law_right.binds (ps := ["_law_dice_here"]) fun _ _ _ _ _ _ us hl => match us, hl with | [_], _ => rfl
  have F_law := fun_mk (st := s_law) l_law c_law k_law
  have b_law := F_law.binds (ps := ["_law_script"]) fun _ _ _ _ _ _ us hl => match us, hl with | [_], _ => rfl
  have T : Txt K mg := { F_digit_row := F_digit_row, g_digit_row := PySem.W.mg_of X G a_digit_row, b_digit_row := b_digit_row, F_row_integer := F_row_integer, g_row_integer := PySem.W.mg_of X G a_row_integer, b_row_integer := b_row_integer, F_digit_total := F_digit_total, g_digit_total := PySem.W.mg_of X G a_digit_total, b_digit_total := b_digit_total, F_are_carry_free := F_are_carry_free, g_are_carry_free := PySem.W.mg_of X G a_are_carry_free, b_are_carry_free := b_are_carry_free, F_is_integer := F_is_integer, g_is_integer := PySem.W.mg_of X G a_is_integer, b_is_integer := b_is_integer, F_is_from := F_is_from, g_is_from := PySem.W.mg_of X G a_is_from, b_is_from := b_is_from, F_is_between := F_is_between, g_is_between := PySem.W.mg_of X G a_is_between, b_is_between := b_is_between, F_check_from := F_check_from, g_check_from := PySem.W.mg_of X G a_check_from, b_check_from := b_check_from, F_check_between := F_check_between, g_check_between := PySem.W.mg_of X G a_check_between, b_check_between := b_check_between, F_check_base := F_check_base, g_check_base := PySem.W.mg_of X G a_check_base, b_check_base := b_check_base, F_check_numbers := F_check_numbers, g_check_numbers := PySem.W.mg_of X G a_check_numbers, b_check_numbers := b_check_numbers, F_digits := F_digits, g_digits := PySem.W.mg_of X G a_digits, b_digits := b_digits, F_of_digits := F_of_digits, g_of_digits := PySem.W.mg_of X G a_of_digits, b_of_digits := b_of_digits, F_digit_sum := F_digit_sum, g_digit_sum := PySem.W.mg_of X G a_digit_sum, b_digit_sum := b_digit_sum, F_carries := F_carries, g_carries := PySem.W.mg_of X G a_carries, b_carries := b_carries, F_has_no_carries := F_has_no_carries, g_has_no_carries := PySem.W.mg_of X G a_has_no_carries, b_has_no_carries := b_has_no_carries, F__law_dice := F__law_dice, g__law_dice := PySem.W.mg_of X G a__law_dice, b__law_dice := b__law_dice, F__law_roll := F__law_roll, g__law_roll := PySem.W.mg_of X G a__law_roll, b__law_roll := b__law_roll, F__law_one_of := F__law_one_of, g__law_one_of := PySem.W.mg_of X G a__law_one_of, b__law_one_of := b__law_one_of, F__law_raised := F__law_raised, g__law_raised := PySem.W.mg_of X G a__law_raised, b__law_raised := b__law_raised, F__law_digits := F__law_digits, g__law_digits := PySem.W.mg_of X G a__law_digits, b__law_digits := b__law_digits, F__law_size := F__law_size, g__law_size := PySem.W.mg_of X G a__law_size, b__law_size := b__law_size, F__law_carry_count := F__law_carry_count, g__law_carry_count := PySem.W.mg_of X G a__law_carry_count, b__law_carry_count := b__law_carry_count, F__law_has_none := F__law_has_none, g__law_has_none := PySem.W.mg_of X G a__law_has_none, b__law_has_none := b__law_has_none, F__law_number := F__law_number, g__law_number := PySem.W.mg_of X G a__law_number, b__law_number := b__law_number, F__law_parted_digits := F__law_parted_digits, g__law_parted_digits := PySem.W.mg_of X G a__law_parted_digits, b__law_parted_digits := b__law_parted_digits, F__law_right := F__law_right, g__law_right := PySem.W.mg_of X G a__law_right, b__law_right := b__law_right, F_law := F_law, g_law := PySem.W.mg_of X G a_law, b_law := b_law, z_sum := PySem.W.mg_none_of X G z_sum, z_isinstance := PySem.W.mg_none_of X G z_isinstance, z_int := PySem.W.mg_none_of X G z_int, z_bool := PySem.W.mg_none_of X G z_bool, z_all := PySem.W.mg_none_of X G z_all, z_tuple := PySem.W.mg_none_of X G z_tuple, z_len := PySem.W.mg_none_of X G z_len, z_abs := PySem.W.mg_none_of X G z_abs, z_range := PySem.W.mg_none_of X G z_range, z_list := PySem.W.mg_none_of X G z_list, z_max := PySem.W.mg_none_of X G z_max, z_min := PySem.W.mg_none_of X G z_min, c_TOO_LONG := PySem.W.mg_of X G q_TOO_LONG, c_MOST_NUMBERS := PySem.W.mg_of X G q_MOST_NUMBERS }
  exact ⟨_, fun s v => .of_eq rfl, fun base _ _ => ok_law { F_digit_row := F_digit_row, g_digit_row := PySem.W.mg_of X G a_digit_row, b_digit_row := b_digit_row, F_row_integer := F_row_integer, g_row_integer := PySem.W.mg_of X G a_row_integer, b_row_integer := b_row_integer, F_digit_total := F_digit_total, g_digit_total := PySem.W.mg_of X G a_digit_total, b_digit_total := b_digit_total, F_are_carry_free := F_are_carry_free, g_are_carry_free := PySem.W.mg_of X G a_are_carry_free, b_are_carry_free := b_are_carry_free, F_is_integer := F_is_integer, g_is_integer := PySem.W.mg_of X G a_is_integer, b_is_integer := b_is_integer, F_is_from := F_is_from, g_is_from := PySem.W.mg_of X G a_is_from, b_is_from := b_is_from, F_is_between := F_is_between, g_is_between := PySem.W.mg_of X G a_is_between, b_is_between := b_is_between, F_check_from := F_check_from, g_check_from := PySem.W.mg_of X G a_check_from, b_check_from := b_check_from, F_check_between := F_check_between, g_check_between := PySem.W.mg_of X G a_check_between, b_check_between := b_check_between, F_check_base := F_check_base, g_check_base := PySem.W.mg_of X G a_check_base, b_check_base := b_check_base, F_check_numbers := F_check_numbers, g_check_numbers := PySem.W.mg_of X G a_check_numbers, b_check_numbers := b_check_numbers, F_digits := F_digits, g_digits := PySem.W.mg_of X G a_digits, b_digits := b_digits, F_of_digits := F_of_digits, g_of_digits := PySem.W.mg_of X G a_of_digits, b_of_digits := b_of_digits, F_digit_sum := F_digit_sum, g_digit_sum := PySem.W.mg_of X G a_digit_sum, b_digit_sum := b_digit_sum, F_carries := F_carries, g_carries := PySem.W.mg_of X G a_carries, b_carries := b_carries, F_has_no_carries := F_has_no_carries, g_has_no_carries := PySem.W.mg_of X G a_has_no_carries, b_has_no_carries := b_has_no_carries, F__law_dice := F__law_dice, g__law_dice := PySem.W.mg_of X G a__law_dice, b__law_dice := b__law_dice, F__law_roll := F__law_roll, g__law_roll := PySem.W.mg_of X G a__law_roll, b__law_roll := b__law_roll, F__law_one_of := F__law_one_of, g__law_one_of := PySem.W.mg_of X G a__law_one_of, b__law_one_of := b__law_one_of, F__law_raised := F__law_raised, g__law_raised := PySem.W.mg_of X G a__law_raised, b__law_raised := b__law_raised, F__law_digits := F__law_digits, g__law_digits := PySem.W.mg_of X G a__law_digits, b__law_digits := b__law_digits, F__law_size := F__law_size, g__law_size := PySem.W.mg_of X G a__law_size, b__law_size := b__law_size, F__law_carry_count := F__law_carry_count, g__law_carry_count := PySem.W.mg_of X G a__law_carry_count, b__law_carry_count := b__law_carry_count, F__law_has_none := F__law_has_none, g__law_has_none := PySem.W.mg_of X G a__law_has_none, b__law_has_none := b__law_has_none, F__law_number := F__law_number, g__law_number := PySem.W.mg_of X G a__law_number, b__law_number := b__law_number, F__law_parted_digits := F__law_parted_digits, g__law_parted_digits := PySem.W.mg_of X G a__law_parted_digits, b__law_parted_digits := b__law_parted_digits, F__law_right := F__law_right, g__law_right := PySem.W.mg_of X G a__law_right, b__law_right := b__law_right, F_law := F_law, g_law := PySem.W.mg_of X G a_law, b_law := b_law, z_sum := PySem.W.mg_none_of X G z_sum, z_isinstance := PySem.W.mg_none_of X G z_isinstance, z_int := PySem.W.mg_none_of X G z_int, z_bool := PySem.W.mg_none_of X G z_bool, z_all := PySem.W.mg_none_of X G z_all, z_tuple := PySem.W.mg_none_of X G z_tuple, z_len := PySem.W.mg_none_of X G z_len, z_abs := PySem.W.mg_none_of X G z_abs, z_range := PySem.W.mg_none_of X G z_range, z_list := PySem.W.mg_none_of X G z_list, z_max := PySem.W.mg_none_of X G z_max, z_min := PySem.W.mg_none_of X G z_min, c_TOO_LONG := PySem.W.mg_of X G q_TOO_LONG, c_MOST_NUMBERS := PySem.W.mg_of X G q_MOST_NUMBERS }⟩
end Own
open PySem PySem.W PyProof.Rows
set_option maxHeartbeats 0 in
theorem PySem.Challenge.cw_monicsums_k08_whole_digits_and_carries_b_holds : PySem.Challenge.rw_monicsums_k08_whole_digits_and_carries_b.Holds := by
  w_on; o_law; k_head; (case hw => w_witness2)
  k_fill
  refine L2.walk_of (l := PySem.Challenge.rw_monicsums_k08_whole_digits_and_carries_b) (n := 63) (k := 7) (x := "_law_script") (CX := fun _ => L2.CX0) (sp := fun w => Own.sp_law _) rfl (by decide) rfl ⟨rfl, by decide, by decide⟩ (fun w h Y => PySem.W.kIn_of Y) ?F (fun _ _ a ns hl _ hS => ⟨a, ns, rfl, hS, hl, fun _ => rfl⟩) (fun _ _ _ _ _ h => h)
  case F =>
    intro w mg fa h KX G hmg
    refine' Own.all_mk KX G hmg ?a_digit_row ?l_digit_row ?c_digit_row ?k_digit_row ?a_row_integer ?l_row_integer ?c_row_integer ?k_row_integer ?a_digit_total ?l_digit_total ?c_digit_total ?k_digit_total ?a_are_carry_free ?l_are_carry_free ?c_are_carry_free ?k_are_carry_free ?a_is_integer ?l_is_integer ?c_is_integer ?k_is_integer ?a_is_from ?l_is_from ?c_is_from ?k_is_from ?a_is_between ?l_is_between ?c_is_between ?k_is_between ?a_check_from ?l_check_from ?c_check_from ?k_check_from ?a_check_between ?l_check_between ?c_check_between ?k_check_between ?a_check_base ?l_check_base ?c_check_base ?k_check_base ?a_check_numbers ?l_check_numbers ?c_check_numbers ?k_check_numbers ?a_digits ?l_digits ?c_digits ?k_digits ?a_of_digits ?l_of_digits ?c_of_digits ?k_of_digits ?a_digit_sum ?l_digit_sum ?c_digit_sum ?k_digit_sum ?a_carries ?l_carries ?c_carries ?k_carries ?a_has_no_carries ?l_has_no_carries ?c_has_no_carries ?k_has_no_carries ?a__law_dice ?l__law_dice ?c__law_dice ?k__law_dice ?a__law_roll ?l__law_roll ?c__law_roll ?k__law_roll ?a__law_one_of ?l__law_one_of ?c__law_one_of ?k__law_one_of ?a__law_raised ?l__law_raised ?c__law_raised ?k__law_raised ?a__law_digits ?l__law_digits ?c__law_digits ?k__law_digits ?a__law_size ?l__law_size ?c__law_size ?k__law_size ?a__law_carry_count ?l__law_carry_count ?c__law_carry_count ?k__law_carry_count ?a__law_has_none ?l__law_has_none ?c__law_has_none ?k__law_has_none ?a__law_number ?l__law_number ?c__law_number ?k__law_number ?a__law_parted_digits ?l__law_parted_digits ?c__law_parted_digits ?k__law_parted_digits ?a__law_right ?l__law_right ?c__law_right ?k__law_right ?a_law ?l_law ?c_law ?k_law ?z_sum ?z_isinstance ?z_int ?z_bool ?z_all ?z_tuple ?z_len ?z_abs ?z_range ?z_list ?z_max ?z_min ?q_TOO_LONG ?q_MOST_NUMBERS
    (case a_digit_row => k_is); (case l_digit_row => k_is); (case c_digit_row => k_is); (case k_digit_row => k_is); (case a_row_integer => k_is); (case l_row_integer => k_is); (case c_row_integer => k_is); (case k_row_integer => k_is); (case a_digit_total => k_is); (case l_digit_total => k_is); (case c_digit_total => k_is); (case k_digit_total => k_is); (case a_are_carry_free => k_is); (case l_are_carry_free => k_is); (case c_are_carry_free => k_is); (case k_are_carry_free => k_is); (case a_is_integer => k_is); (case l_is_integer => k_is); (case c_is_integer => k_is); (case k_is_integer => k_is); (case a_is_from => k_is); (case l_is_from => k_is); (case c_is_from => k_is); (case k_is_from => k_is); (case a_is_between => k_is); (case l_is_between => k_is); (case c_is_between => k_is); (case k_is_between => k_is); (case a_check_from => k_is); (case l_check_from => k_is); (case c_check_from => k_is); (case k_check_from => k_is); (case a_check_between => k_is); (case l_check_between => k_is); (case c_check_between => k_is); (case k_check_between => k_is); (case a_check_base => k_is); (case l_check_base => k_is); (case c_check_base => k_is); (case k_check_base => k_is); (case a_check_numbers => k_is); (case l_check_numbers => k_is); (case c_check_numbers => k_is); (case k_check_numbers => k_is); (case a_digits => k_is); (case l_digits => k_is); (case c_digits => k_is); (case k_digits => k_is); (case a_of_digits => k_is); (case l_of_digits => k_is); (case c_of_digits => k_is); (case k_of_digits => k_is); (case a_digit_sum => k_is); (case l_digit_sum => k_is); (case c_digit_sum => k_is); (case k_digit_sum => k_is); (case a_carries => k_is); (case l_carries => k_is); (case c_carries => k_is); (case k_carries => k_is); (case a_has_no_carries => k_is); (case l_has_no_carries => k_is); (case c_has_no_carries => k_is); (case k_has_no_carries => k_is); (case a__law_dice => k_is); (case l__law_dice => k_is); (case c__law_dice => k_is); (case k__law_dice => k_is); (case a__law_roll => k_is); (case l__law_roll => k_is); (case c__law_roll => k_is); (case k__law_roll => k_is); (case a__law_one_of => k_is); (case l__law_one_of => k_is); (case c__law_one_of => k_is); (case k__law_one_of => k_is); (case a__law_raised => k_is); (case l__law_raised => k_is); (case c__law_raised => k_is); (case k__law_raised => k_is); (case a__law_digits => k_is); (case l__law_digits => k_is); (case c__law_digits => k_is); (case k__law_digits => k_is); (case a__law_size => k_is); (case l__law_size => k_is); (case c__law_size => k_is); (case k__law_size => k_is); (case a__law_carry_count => k_is); (case l__law_carry_count => k_is); (case c__law_carry_count => k_is); (case k__law_carry_count => k_is); (case a__law_has_none => k_is); (case l__law_has_none => k_is); (case c__law_has_none => k_is); (case k__law_has_none => k_is); (case a__law_number => k_is); (case l__law_number => k_is); (case c__law_number => k_is); (case k__law_number => k_is); (case a__law_parted_digits => k_is); (case l__law_parted_digits => k_is); (case c__law_parted_digits => k_is); (case k__law_parted_digits => k_is); (case a__law_right => k_is); (case l__law_right => k_is); (case c__law_right => k_is); (case k__law_right => k_is); (case a_law => k_is); (case l_law => k_is); (case c_law => k_is); (case k_law => k_is); (case z_sum => k_is); (case z_isinstance => k_is); (case z_int => k_is); (case z_bool => k_is); (case z_all => k_is); (case z_tuple => k_is); (case z_len => k_is); (case z_abs => k_is); (case z_range => k_is); (case z_list => k_is); (case z_max => k_is); (case z_min => k_is); (case q_TOO_LONG => k_is); (case q_MOST_NUMBERS => k_is)
#print axioms PySem.Challenge.cw_monicsums_k08_whole_digits_and_carries_b_holds
