import PyProof.Rows.All
import Wide.All
import OpenK.AllK
import Wide.FinOn
import HandS.ForMost
import HandS.Wide
import HandS.TupMul
import HandS.TupAny
import HandS.Style
import HandS.Evl
import HandS.IsInst
import HandS.Conv
import HandS.SortInts
import PySem.Challenge.RW_monicsums_k00_whole_fields_by_their_tabl
set_option Elab.async false
set_option linter.all false
set_option maxRecDepth 100000
set_option maxHeartbeats 4000000
set_option autoImplicit true
/-! own rules: powers of wide bases, sum of a tuple, tuple * 0 and * 1, tuple[::-1] -/
namespace Own
open PySem PySem.Spec PyProof.Rows L2

def CPowW (i j : Int) : Prop := 0 ≤ j ∧ j ≤ 1000 ∧ i.natAbs < 2 ^ 1000
section
variable {X : Cx}
theorem op_powW : OpR X (binaryOp .Pow) (rI CPowW fun i j => .int (i ^ j.toNat)) := opI fun i j _ _ _ _ _ hc q => by
  refine pow_int hc.1 ?_ q
  have h1 := PySem.Flt.log2_lt_of (by decide : 0 < 1000) hc.2.2
  have b : Builtin.Int.intBits i ≤ i.natAbs.log2 + 1 := by
    unfold Builtin.Int.intBits
    split <;> omega
  have h2 := hc.2.1
  have h0 := hc.1
  have h3 : ((Builtin.Int.intBits i : Nat) : Int) ≤ 1001 := by omega
  have h4 : ((Builtin.Int.intBits i : Nat) : Int) * j ≤ 1001 * j := Int.mul_le_mul_of_nonneg_right h3 h0
  omega

/-! sum of a tuple of ints -/
def rSumT (K : PySem.W.Frag) : List V → Hp → VK → Prop := fun vs H Q => ∃ (a : Addr) (ns : List Int), vs = [V.ref a] ∧ SqT K H a (ns.map V.int) ∧ Q (.int ns.sum) H
end
section
variable {prog : Program} {w : World} {A : Around} {E : Value → Shared → Prop} {s : Shared} {l : Addr} {its : List Value} {ns : List Int} {Q : Value → Shared → Prop}
theorem iter_intTup {xs : Array (Int × Tok)} {Q : Value → Shared → Prop} (hl : s.heap.IsTuple l (intItems xs))
    (h : ∀ s₂ : Shared, s₂ = { s with heap := s.heap.push { cls := .type "tuple_iterator", data := .fields #[.ref l, .int 0 0] } } →
      (s₂.heap.IsTupleIter s.heap.objs.size l 0 ∧ s₂.heap.IsTuple l (intItems xs)) → (∀ b ∈ [s.heap.objs.size, l], b < s₂.heap.objs.size) → l ≠ s.heap.objs.size → Q (.ref s.heap.objs.size) s₂) :
    wpAny (model prog w) A (pyIter (.ref l)) Q E s := by
  have hlt : l < s.heap.objs.size := by obtain ⟨_, e, _⟩ := hl; exact Heap.lt_size e
  refine wpAny_pyIter_tuple hl (h _ rfl ⟨⟨_, Heap.get?_push_size _ rfl, rfl, rfl⟩, hl.push _⟩ (fun b hb => ?_) (Nat.ne_of_lt hlt))
  show b < (s.heap.push _).objs.size
  rw [Heap.size_push]
  rcases List.mem_cons.mp hb with rfl | hb
  · exact Nat.lt_succ_self _
  · rcases List.mem_cons.mp hb with rfl | hb
    · exact Nat.lt_succ_of_lt hlt
    · cases hb
theorem old_keptT {h' : Heap} (hk : ∀ b o, b ∉ [s.heap.objs.size] → (s.heap.push { cls := .type "tuple_iterator", data := .fields #[.ref l, .int 0 0] }).get? b = some o → h'.get? b = some o) :
    ∀ b o, s.heap.get? b = some o → h'.get? b = some o := fun b o e => by
  refine hk b o (fun hm => ?_) (Heap.get?_push_of_some _ e)
  rcases List.mem_cons.mp hm with e1 | hm
  · exact absurd (e1 ▸ Heap.lt_size e) (Nat.lt_irrefl _)
  · cases hm
theorem sum_intTup {xs : Array (Int × Tok)} {Q : Value → Shared → Prop} (hh : A.handled = none) (hl : s.heap.IsTuple l (intItems xs))
    (h : ∀ h' tk t', (∀ b o, s.heap.get? b = some o → h'.get? b = some o) → Q (.int (preSum (numAt xs) xs.size) t') { s with heap := h', toks := tk }) :
    wpAny (model prog w) A (call (.builtin "sum") [.ref l]) Q E s := by
  refine call_sum_walkG (iter_intTup hl fun s₂ e st hfp hlI => ?_)
  subst e
  refine ⟨_, _, _, _, _, _, numAt xs, rfl, Walks.tuple (A := A.in1) hh _ l hlI (intItems xs), st, hfp, (fun _ _ => intItems_at), fun h' tk t' hk => ?_⟩
  have := h h' tk t' (old_keptT hk)
  simpa [intItems] using this
theorem sum_rawT (hh : A.handled = none) (hl : s.heap.IsTuple l its.toArray) (hi : IntsAre its ns)
    (h : ∀ h' tk t', (∀ b o, s.heap.get? b = some o → h'.get? b = some o) → Q (.int ns.sum t') { s with heap := h', toks := tk }) : wpAny (model prog w) A (call (.builtin "sum") [.ref l]) Q E s := by
  obtain ⟨xs, e⟩ := hi.allInts.items
  have hn : numsOf (intItems xs).toList = ns := by rw [← e]; exact hi.numsOf
  rw [nums_intItems] at hn
  rw [e] at hl
  refine sum_intTup hh hl fun h' tk t' hk => ?_
  have := h h' tk t' hk
  rw [preSum_eq, List.take_of_length_le (by simp), hn]; exact this
end
section
variable {X : Cx}
theorem cr_sumT (hc : X.calm = true) : CallR X (.builtin "sum") (rSumT X.K) := by
  intro pins s σ H vs us Q I r h
  obtain ⟨a, ns, rfl, hs, q⟩ := h
  obtain ⟨its, rv, hl, _⟩ := I.tuple hs
  rw [Vals.ref1 r]
  exact sum_rawT (I.ok.hd hc) hl rv.ints fun h' tk t' hk => ⟨.int _, H, I.kept hk, ⟨_, rfl⟩, q⟩
end

/-! tuple * k for k = 0 and k = 1 -/
theorem tuple_mul1 (l : Addr) (items : Array Value) (n : Nat) (dd : Option Addr) (sl : Array (Option Value)) (u : Tok) :
    Meets (Builtin.«tuple.__mul__» ⟨[.ref l, .int 1 u], []⟩) (fun _ R s => s.heap.get? l = some { cls := .type "tuple", dict := dd, data := .seq items n, slots := sl } ∧
      R (.ok (.ret (Value.ref l))) s) :=
  .of_wp fun prog w A R s h => by
    obtain ⟨hp, g, d, tk, os⟩ := s
    obtain ⟨hl, h⟩ := h
    have f1 := AutoSeq1.idx_int
    wp_walk using wpAny_loadPart' hl
    repeat (first
      | (refine wpAny_ite_false (by decide) ?_; wp_walk using wpAny_loadPart' hl)
      | (refine wpAny_ite_true (by rw [Bool.or_eq_true]; exact Or.inr rfl) ?_; wp_walk using wpAny_loadPart' hl)
      | (refine wpAny_ite_true (by simp) ?_; wp_walk using wpAny_loadPart' hl))
    exact ⟨_, rfl, h⟩
theorem tuple_mul0 (l : Addr) (items : Array Value) (n : Nat) (dd : Option Addr) (sl : Array (Option Value)) (u : Tok) (hn : items.isEmpty = false) :
    Meets (Builtin.«tuple.__mul__» ⟨[.ref l, .int 0 u], []⟩) (fun _ R s => s.heap.get? l = some { cls := .type "tuple", dict := dd, data := .seq items n, slots := sl } ∧
      R (.ok (.ret (Value.ref s.heap.objs.size))) { s with heap := s.heap.push { cls := Value.type "tuple", data := Data.seq #[] }, toks := s.toks }) :=
  .of_wp fun prog w A R s h => by
    obtain ⟨hp, g, d, tk, os⟩ := s
    obtain ⟨hl, h⟩ := h
    have f1 := AutoSeq1.idx_int
    wp_walk using wpAny_loadPart' hl
    repeat (first
      | (refine wpAny_ite_false (by decide) ?_; wp_walk using wpAny_loadPart' hl)
      | (refine wpAny_ite_false (by rw [hn]; decide) ?_; wp_walk using wpAny_loadPart' hl)
      | (refine wpAny_ite_true (by decide) ?_; wp_walk using wpAny_loadPart' hl)
      | (refine wpAny_ite_true (by rw [Bool.or_eq_true]; exact Or.inl rfl) ?_; wp_walk using wpAny_loadPart' hl)
      | (refine wpAny_ite_false (decide_eq_false (Nat.not_lt.mpr (Nat.zero_le _))) ?_; wp_walk using wpAny_loadPart' hl))
    exact ⟨_, rfl, h⟩
def rRepU (K : PySem.W.Frag) : R2 := fun x y H Q => ∃ l k xs, x = .ref l ∧ y = .int k ∧ SqT K H l xs ∧ xs ≠ [] ∧ 0 ≤ k ∧ k ≤ 1000 ∧ xs.length ≤ 1000 ∧ ∀ p H', Evl.Ex H H' → SqT K H' p (List.replicate k.toNat xs).flatten → Q (.ref p) H'
section
variable {X : Cx}
theorem op_repU : OpR X (binaryOp .Mult) (rRepU X.K) := by
  intro pins s σ H x y v u Q I rx ry h
  obtain ⟨l, k, xs, ex, ey, hT, hne, h1, h2, hz, q⟩ := h
  by_cases h22 : 2 ≤ k
  · exact op_repT pins s σ H x y v u Q I rx ry ⟨l, k, xs, ex, ey, hT, hne, h22, h2, hz, fun p hp => q p _ (Evl.Ex.new hp) (SqT.of upd_same)⟩
  · subst ex ey
    cases rx
    obtain ⟨t, rfl⟩ := ry
    obtain ⟨its, r, ⟨⟨cls, dd, data, sl⟩, ho, hc, n, hd⟩, hs⟩ := I.tuple hT
    simp only at hc hd
    subst hc hd
    have hle : its.length = xs.length := r.length.symm
    have hi : its.toArray.isEmpty = false := by
      cases its with
      | nil => exact absurd (List.eq_nil_of_length_eq_zero hle.symm) hne
      | cons a b => rfl
    by_cases h1k : k = 1
    · subst h1k
      refine wpAny_binaryOp_repeat_ref (T := "tuple") (U := "int") (by decide) ⟨_, ho, rfl⟩ (fun s' => typeIs_int s' 1 t) noFill_tuple_mul F.fills_int_mul F.slot_int_rmul repeat_tuple F.slot_int_index.lookup
        (call_meets F.slot_int_rmul (typeIs_int s 1 t) F.entry_int_rmul (F.args_int_rmul_2 _ _) (int_rmul_tuple 1 t l its.toArray n dd sl)
          ⟨ho, rfl, ⟨_, ho, rfl⟩, call_meets F.slot_tuple_mul ⟨_, ho, rfl⟩ F.entry_tuple_mul (F.args_tuple_mul_2 _ _) (tuple_mul1 l its.toArray n dd sl t) ⟨ho, ?_⟩⟩)
      refine ⟨.ref l, H, I.tok _, rfl, q l H (Evl.Ex.refl H) ?_⟩
      show SqT X.K H l (List.replicate 1 xs).flatten
      rw [List.replicate_one, List.flatten_singleton]
      exact hT
    · have h0k : k = 0 := by omega
      subst h0k
      refine wpAny_binaryOp_repeat_ref (T := "tuple") (U := "int") (by decide) ⟨_, ho, rfl⟩ (fun s' => typeIs_int s' 0 t) noFill_tuple_mul F.fills_int_mul F.slot_int_rmul repeat_tuple F.slot_int_index.lookup
        (call_meets F.slot_int_rmul (typeIs_int s 0 t) F.entry_int_rmul (F.args_int_rmul_2 _ _) (int_rmul_tuple 0 t l its.toArray n dd sl)
          ⟨ho, rfl, ⟨_, ho, rfl⟩, call_meets F.slot_tuple_mul ⟨_, ho, rfl⟩ F.entry_tuple_mul (F.args_tuple_mul_2 _ _) (tuple_mul0 l its.toArray n dd sl t hi) ⟨ho, ?_⟩⟩)
      have hf := I.hok.fresh (Nat.le_refl s.heap.objs.size)
      refine ⟨.ref s.heap.objs.size, _, I.laid (t' := s.toks) (o := .tup []) (fun b ob q => Heap.get?_push_of_some _ q) (Nat.le_refl _) ?_, rfl, q _ _ (Evl.Ex.new hf) (SqT.of upd_same)⟩
      exact ⟨Nat.zero_le _, [], .nil, IsTup.new _ _⟩

/-! tuple[::-1] -/
def tRevT (K : PySem.W.Frag) (te : TE) : TE := fun σ H Q => te σ H fun x H1 => ∃ a xs, x = .ref a ∧ SqT K H1 a xs ∧ ∀ p, H1 p = none → Q (.ref p) (upd H1 p (.tup xs.reverse))
end
theorem rev_adjust (n : Nat) : Builtin.Slice.sliceAdjust none none (-1) (n : Int) = ((n : Int) - 1, -1) := by
  first
  | rfl
  | simp [Builtin.Slice.sliceAdjust]
theorem rev_places (n : Nat) : Builtin.Slice.slicePlaces ((n : Int) - 1) (-1) (-1) = n := by
  unfold Builtin.Slice.slicePlaces
  have h1 : ¬ ((-1 : Int) > 0) := by decide
  have h2 : (- -1 : Int) = 1 := by decide
  simp only [h1, if_false, h2, Int.ediv_one]
  split <;> omega
theorem rev_pick (xs : Array Value) : ((List.range xs.size).filterMap fun (m : Nat) => xs[(((xs.size : Int) - 1) + (m : Int) * (-1)).toNat]?).toArray = xs.toList.reverse.toArray := by
  have e : (fun (m : Nat) => xs[(((xs.size : Int) - 1) + (m : Int) * (-1)).toNat]?) = fun m => xs[xs.size - 1 - m]? := by
    funext m
    have : (((xs.size : Int) - 1) + (m : Int) * (-1)).toNat = xs.size - 1 - m := by omega
    rw [this]
  rw [e]
  have h := PySem.W.krv_all xs
  have h2 : (List.range xs.size).filterMap (fun m => xs[xs.size - 1 - m]?) = ((List.range xs.size).map fun k => xs.size - 1 - k).filterMap (xs[·]?) := by
    rw [List.filterMap_map]
    rfl
  rw [h2, PySem.W.krv_range, List.filterMap_reverse, h]
section
variable {prog : Program} {w : World} {A : Around} {E : Value → Shared → Prop} {s : Shared}
theorem sliceApplied_rev {sl : Addr} {vl vu vs : Value} {n : Nat} {Q : Int × Int × Nat → Shared → Prop} (hs : s.heap.IsSliceOf sl vl vu vs) (pl : IsPart vl none) (pu : IsPart vu none) (ps : IsPart vs (some (-1)))
    (h : Q ((n : Int) - 1, -1, n) s) : wpAny (model prog w) A (Builtin.Slice.sliceApplied (.ref sl) (pure (n : Int))) Q E s := by
  obtain ⟨os, hos, hcs, hds⟩ := id hs
  unfold Builtin.Slice.sliceApplied Builtin.Slice.sliceFields
  refine wpAny_bind (wpAny_bind (wpAny_field hos hds (x := vl) rfl (wpAny_bind (wpAny_field hos hds (x := vu) rfl (wpAny_bind (wpAny_field hos hds (x := vs) rfl (wpAny_pure ?_)))))))
  refine wpAny_bind (HT.slicePart_ ps ?_)
  show wpAny _ _ (if ((-1 : Int) == 0) = true then _ else _) _ _ s
  rw [if_neg (by decide)]
  refine wpAny_bind (HT.slicePart_ pl (wpAny_bind (HT.slicePart_ pu (wpAny_bind (wpAny_pure ?_)))))
  show wpAny _ _ (match Builtin.Slice.sliceAdjust none none (-1) (n : Int) with | (lo, hi) => pure (lo, (-1 : Int), Builtin.Slice.slicePlaces lo hi (-1))) _ _ s
  rw [rev_adjust n]
  show wpAny _ _ (pure ((n : Int) - 1, (-1 : Int), Builtin.Slice.slicePlaces ((n : Int) - 1) (-1) (-1))) _ _ s
  rw [rev_places]
  exact wpAny_pure h
theorem getItem_tuple_rev {t sl : Addr} {items : Array Value} {vl vu vs : Value} {Q : Value → Shared → Prop} (ht : IsTup s.heap t items) (hs : s.heap.IsSliceOf sl vl vu vs) (pl : IsPart vl none) (pu : IsPart vu none) (ps : IsPart vs (some (-1)))
    (h : Q (.ref s.heap.objs.size) { s with heap := s.heap.push { cls := .type "tuple", data := .seq items.toList.reverse.toArray } })
    (hsz : items.size ≤ sizeLine) : wpAny (model prog w) A (getItem (.ref t) (.ref sl)) Q E s := by
  have htake : sizeOk (.seq items.toList.reverse.toArray) := by
    show items.toList.reverse.toArray.size ≤ sizeLine
    rw [List.size_toArray, List.length_reverse, Array.length_toList]
    exact hsz
  obtain ⟨os, hos, hcs, hds⟩ := id hs
  have hTs : s.TypeIs (.ref sl) "slice" := ⟨os, hos, hcs⟩
  unfold getItem
  try with_reducible refine wpAny_holding ?_
  first | refine wpAny_bind (wpAny_pure ?_) | skip
  refine wpAny_bind (wpAny_sequenceKey ht.typeIs (by decide) ?_)
  refine wpAny_bind (wpAny_callSpecial?_slot (name := Str.ofString "__getitem__") ht.typeIs PyProof.Rows.slot_tuple_getitem
    (wpAny_call_entry PyProof.Rows.slot_tuple_getitem ht.typeIs entry_tuple_getitem ?_ (args_tuple_getitem _ _)))
  show wpAny _ _ (Builtin.Tuple.tupleItemsOf (.ref t) >>= _) _ _ s
  refine wpAny_bind (tupleItemsOf_ ht ?_)
  refine wpAny_bind (wpAny_typeOf hTs ?_)
  rw [if_pos (by decide)]
  refine wpAny_bind (sliceApplied_rev hs pl pu ps ?_)
  have hno : ¬ ((((items.size : Int) - 1) == 0 && (-1 : Int) == 1 && items.size == items.size) = true) := by
    rw [show ((-1 : Int) == 1) = false from rfl, Bool.and_false, Bool.false_and]
    decide
  show wpAny _ _ (if ((((items.size : Int) - 1) == 0 && (-1 : Int) == 1 && items.size == items.size) = true) then _ else _) _ _ s
  rw [if_neg hno, rev_pick]
  first
    | exact wpAny_bind (m := Builtin.Tuple.tupleExact _) (wpAny_newObj_type (wpAny_pure ⟨_, rfl, wpAny_pure h⟩) htake)
    | exact wpAny_bind (m := Builtin.Tuple.tupleExact _) (wpAny_newObj_type (wpAny_bind (wpAny_pure (wpAny_pure ⟨_, rfl, wpAny_pure h⟩))) htake)
    | exact wpAny_bind (wpAny_bind (m := Builtin.Tuple.tupleExact _) (wpAny_newObj_type (wpAny_pure (wpAny_pure ⟨_, rfl, wpAny_pure h⟩)) htake))
    | exact wpAny_bind (wpAny_bind (m := Builtin.Tuple.tupleExact _) (wpAny_newObj_type (wpAny_pure ⟨_, rfl, wpAny_pure h⟩) htake))
end
section
variable {X : Cx}
theorem pe_revT {e : Expr} {te : TE} {k : Nat} {p1 p2 p3 pos : Pos} (he : PE X e te) : PE X (.Subscript e (.Slice none none (some (.UnaryOp .USub (.Constant (.int 1) k p1) p2)) p3) pos) (tRevT X.K te) := by
  refine ⟨fun pins s σ H Q I h => ?_⟩
  refine Subscript_ (thn (he.run pins s σ H _ I h) fun v s1 ⟨x, H1, I1, r1, q1⟩ => ?_)
  obtain ⟨a, xs, ex, hx, q⟩ := q1
  subst ex
  cases r1
  have hst : PO X (some (.UnaryOp .USub (.Constant (.int 1) k p1) p2)) (tPart (tUn (rU fun i => .int (-i)) (tC (.int 1)))) := po_some (pe_un un_neg pe_int)
  refine wpAny_Slice (thn (po_none.run pins s1 σ H1 (fun o H2 => o = none ∧ H2 = H1) I1 ⟨rfl, rfl⟩) fun vl s2 ⟨l, H2, I2, pl, el, e2⟩ => ?_)
  subst el e2
  refine thn (po_none.run pins s2 σ H2 (fun o H3 => o = none ∧ H3 = H2) I2 ⟨rfl, rfl⟩) fun vu s3 ⟨u, H3, I3, pu, eu, e3⟩ => ?_
  subst eu e3
  refine thn (hst.run pins s3 σ H3 (fun o H4 => o = some (-1) ∧ H4 = H3) I3 ⟨1, rfl, -1, rfl, rfl, rfl⟩) fun vs s4 ⟨o, H4, I4, ps, eo, e4⟩ => ?_
  subst eo e4
  have I5 : Inv X pins σ H4 { s4 with heap := s4.heap.push { cls := .type "slice", data := .fields #[vl, vu, vs] } } := I4.kept (t' := s4.toks) fun b ob q => Heap.get?_push_of_some _ q
  obtain ⟨its, r, ht, hz⟩ := I5.tuple hx
  have hlen := r.length
  show wpAny (model X.prog X.w) X.A (subscriptTail e (.Slice none none (some (.UnaryOp .USub (.Constant (.int 1) k p1) p2)) p3) (.ref a) (.ref s4.heap.objs.size)) (EP X pins σ Q) X.xe { s4 with heap := s4.heap.push { cls := .type "slice", data := .fields #[vl, vu, vs] } }
  refine tail_any (ops := [.ref a, .ref s4.heap.objs.size]) ht.typeIs PyProof.Rows.slot_tuple_getitem.lookup ?_ (by with_unfolding_all rfl)
  refine getItem_tuple_rev ht (Heap.IsSliceOf.new _ vl vu vs) pl pu ps ?_ (by rw [List.size_toArray]; omega)
  refine ⟨.ref _, _, I5.laid (t' := s4.toks) (o := .tup xs.reverse) (fun b ob q => Heap.get?_push_of_some _ q) (Nat.le_refl _) ?_, rfl, q _ (I5.hok.fresh (Nat.le_refl _))⟩
  exact ⟨by rw [List.length_reverse]; exact hz, _, r.reverse, IsTup.new _ _⟩
end
end Own
/-! own words over HandS.Evl: built-in calls, tuples walked, chains, promises of new tuples -/
namespace Own
open PySem PySem.Spec PyProof.Rows L2 Evl
section
variable {K : PySem.W.Frag} {σ : L2.St} {H H' : Hp} {ta tb te tx : TE} {t u : TT} {x y z v : V}
theorem rc_abs {i : Int} : RC (fun xs H Q => ∃ i, xs = [V.int i] ∧ Q (.int (if i < 0 then -i else i)) H) [.int i] H (.int (if i < 0 then -i else i)) := fun H1 _ _ q => ⟨i, rfl, q H1 (Ex.refl H1)⟩
theorem rc_int {i : Int} : RC (fun xs H Q => (∃ i, xs = [V.int i] ∧ Q (.int i) H) ∨ ∃ k, xs = [V.bl k] ∧ Q (.int (if k then 1 else 0)) H) [.int i] H (.int i) := fun H1 _ _ q => .inl ⟨i, rfl, q H1 (Ex.refl H1)⟩
theorem rc_intB {k : Bool} : RC (fun xs H Q => (∃ i, xs = [V.int i] ∧ Q (.int i) H) ∨ ∃ k, xs = [V.bl k] ∧ Q (.int (if k then 1 else 0)) H) [.bl k] H (.int (if k then 1 else 0)) := fun H1 _ _ q => .inr ⟨k, rfl, q H1 (Ex.refl H1)⟩
theorem rc_max2 {i j : Int} : RC (fun xs H Q => ∃ i j, xs = [V.int i, V.int j] ∧ Q (.int (if j > i then j else i)) H) [.int i, .int j] H (.int (if j > i then j else i)) := fun H1 _ _ q => ⟨i, j, rfl, q H1 (Ex.refl H1)⟩
theorem rc_min2 {i j : Int} : RC (fun xs H Q => ∃ i j, xs = [V.int i, V.int j] ∧ Q (.int (if j < i then j else i)) H) [.int i, .int j] H (.int (if j < i then j else i)) := fun H1 _ _ q => ⟨i, j, rfl, q H1 (Ex.refl H1)⟩
abbrev rLenQ (K : PySem.W.Frag) : List V → Hp → VK → Prop := fun xs H Q => ∃ p ys, xs = [.ref p] ∧ (SqL K H p ys ∨ SqT K H p ys) ∧ Q (.int ys.length) H
theorem rc_lenL {a : Addr} {xs : List V} (h : SqL K H a xs) : RC (rLenQ K) [.ref a] H (.int xs.length) := fun H1 e _ q => ⟨a, xs, rfl, .inl (ex_l e h), q H1 (Ex.refl H1)⟩
theorem rc_lenT {a : Addr} {xs : List V} (h : SqT K H a xs) : RC (rLenQ K) [.ref a] H (.int xs.length) := fun H1 e _ q => ⟨a, xs, rfl, .inr (ex_t e h), q H1 (Ex.refl H1)⟩
theorem rc_sumL {a : Addr} {ns : List Int} (h : SqL K H a (ns.map V.int)) : RC (rSum K) [.ref a] H (.int ns.sum) := fun H1 e _ q => ⟨a, ns, rfl, ex_l e h, q H1 (Ex.refl H1)⟩
theorem rc_sumT {a : Addr} {ns : List Int} (h : SqT K H a (ns.map V.int)) : RC (rSumT K) [.ref a] H (.int ns.sum) := fun H1 e _ q => ⟨a, ns, rfl, ex_t e h, q H1 (Ex.refl H1)⟩
theorem ev_sumN {ns : List Int} (h : EvL ta σ H (ns.map V.int)) : Ev (tCB (rSum K) (tCons ta tNil)) σ H (.int ns.sum) := fun H1 e _ q =>
  h H1 e _ fun p H2 _ e2 h2 => ⟨p, ns, rfl, sq_of h2, q H2 e2⟩
theorem ev_allN {bs : List Bool} (h : EvL ta σ H (bs.map V.bl)) : Ev (tCB (rAll K) (tCons ta tNil)) σ H (.bl (bs.all id)) := fun H1 e _ q =>
  h H1 e _ fun p H2 _ e2 h2 => ⟨p, bs, rfl, sq_of h2, q H2 e2⟩
theorem tyx_tup {a : Addr} {xs : List V} (h : SqT K H a xs) : TyX K H (.ref a) (.type "tuple") := by
  rcases h with (h | ⟨o, h⟩) | ⟨o, its, n, e, c, _⟩
  · exact .base (.tup h)
  · exact .fTuple h
  · exact .kTuple e c
theorem tyx_ex {x : V} {t : Value} (e : Ex H H') (h : TyX K H x t) : TyX K H' x t := by
  cases h with
  | base h =>
    refine .base ?_
    cases h with
    | non => exact .non
    | bl x => exact .bl x
    | int i => exact .int i
    | str x => exact .str x
    | flt x => exact .flt x
    | lst q => exact .lst (e _ _ q)
    | frz q => exact .frz (e _ _ q)
    | tup q => exact .tup (e _ _ q)
    | dK q => exact .dK (e _ _ q)
    | dT q => exact .dT (e _ _ q)
    | ins q a b c d f => exact .ins (e _ _ q) a b c d f
  | byt b => exact .byt b
  | set q => exact .set (e _ _ q)
  | kList a b => exact .kList a b
  | kTuple a b => exact .kTuple a b
  | kDict a b => exact .kDict a b
  | fTuple q => exact .fTuple (e _ _ q)
  | fDict q => exact .fDict (e _ _ q)
theorem rc_isi {x : V} {t : Value} {n : String} {b : Bool} (h : TyX K H x t) (hk : PySem.W.kitOne K t (.type n) = some b) : RC (rIsi K) [x, .ty n] H (.bl b) := fun H1 e _ q =>
  ⟨x, .ty n, t, .type n, b, rfl, .ty n, tyx_ex e h, hk, q H1 (Ex.refl H1)⟩
theorem ev_chain {r r' : R2} {a b : Bool} {tc : TE} (ha : Ev ta σ H x) (hb : Ev tb σ H y) (hr : RV r x y H (.bl a)) (hc : a = true → Ev tc σ H z) (hr' : a = true → RV r' y z H (.bl b)) : Ev (tChain r r' ta tb tc) σ H (.bl (a && b)) := fun H1 e Q q =>
  ha H1 e _ fun H2 e2 => hb H2 (e.trans e2) _ fun H3 e3 => hr H3 ((e.trans e2).trans e3) _ fun H4 e4 => ⟨a, rfl, by
    cases a with
    | true => exact iteT (hc rfl H4 (((e.trans e2).trans e3).trans e4) _ fun H5 e5 => hr' rfl H5 ((((e.trans e2).trans e3).trans e4).trans e5) Q fun H6 e6 => q H6 ((((e2.trans e3).trans e4).trans e5).trans e6))
    | false => exact iteF (q H4 ((e2.trans e3).trans e4))⟩
/-- tuple(..) of a new list -/
abbrev rTupQ (K : PySem.W.Frag) : List V → Hp → VK → Prop := fun xs H Q => ∃ p ys, xs = [.ref p] ∧ ((SqL K H p ys ∧ ∀ l, H l = none → Q (.ref l) (upd H l (.tup ys))) ∨ (SqT K H p ys ∧ Q (.ref p) H))
theorem eu_tupleN {xs : List V} (h : EvL ta σ H xs) : EvU (tCB (rTupQ K) (tCons ta tNil)) σ H xs := fun H1 e Q q =>
  h H1 e _ fun p H2 _ e2 h2 => ⟨p, xs, rfl, .inl ⟨sq_of h2, fun l hl => q l _ (fresh_back e2 hl) (e2.trans (Ex.new hl)) upd_same⟩⟩
theorem eu_tupleL {a : Addr} {xs : List V} (h : Ev ta σ H (.ref a)) (hx : SqL K H a xs) : EvU (tCB (rTupQ K) (tCons ta tNil)) σ H xs := fun H1 e Q q =>
  h H1 e _ fun H2 e2 => ⟨a, xs, rfl, .inl ⟨ex_l (e.trans e2) hx, fun l hl => q l _ (fresh_back e2 hl) (e2.trans (Ex.new hl)) upd_same⟩⟩
abbrev rLstQ (K : PySem.W.Frag) : List V → Hp → VK → Prop := fun xs H Q => ∃ p ys, xs = [.ref p] ∧ (SqL K H p ys ∨ SqT K H p ys) ∧ ∀ l, H l = none → Q (.ref l) (upd H l (.lst ys))
theorem el_listT {a : Addr} {xs : List V} (h : Ev ta σ H (.ref a)) (hx : SqT K H a xs) : EvL (tCB (rLstQ K) (tCons ta tNil)) σ H xs := fun H1 e Q q =>
  h H1 e _ fun H2 e2 => ⟨a, xs, rfl, .inr (ex_t (e.trans e2) hx), fun l hl => q l _ (fresh_back e2 hl) (e2.trans (Ex.new hl)) upd_same⟩
theorem eu_revT {a : Addr} {xs : List V} (h : Ev ta σ H (.ref a)) (hx : SqT K H a xs) : EvU (tRevT K ta) σ H xs.reverse := fun H1 e Q q =>
  h H1 e _ fun H2 e2 => ⟨a, xs, rfl, ex_t (e.trans e2) hx, fun l hl => q l _ (fresh_back e2 hl) (e2.trans (Ex.new hl)) upd_same⟩
/-- a comprehension over a tuple -/
theorem el_lcT {a : Addr} {xs : List V} {tl : TE} {j : Nat} {vs : List Nat} (f : Nat → Bool) (v : Nat → V) (h : Ev tl σ H (.ref a)) (hx : SqT K H a xs) (hz : xs.length ≤ 40000) (hw : ∀ x, wipe ((wipe σ vs).set j (some x)) vs = wipe σ vs)
    (ht : ∀ (i : Nat) (x : V) H1, Ex H H1 → xs[i]? = some x → EvT t ((wipe σ vs).set j (some x)) H1 (f i)) (he : ∀ (i : Nat) (x : V) H1, Ex H H1 → xs[i]? = some x → f i = true → Ev te ((wipe σ vs).set j (some x)) H1 (v i)) :
    EvL (tLc (iTup K tl) (gName j) t te vs) σ H (given xs.length f v) := fun H0 e Q q => h H0 e _ fun H1 e1 => ⟨a, rfl, ⟨xs, ex_t (e.trans e1) hx⟩, fun Dl hD =>
  lc_tup (xs := xs) (Cw H1 f v Dl) ⟨hD, Ex.new hD, upd_same⟩ (fun i H' _ p => ex_t ((e.trans e1).trans p.2.1) hx) (fun i x H' hi p => ⟨hw x, cw_turn p (by have := (List.getElem?_eq_some_iff.mp hi).1; omega) (ht i x H1 (e.trans e1) hi) (fun hf => he i x H1 (e.trans e1) hi hf)⟩)
    (fun H' p => q Dl H' (fresh_back e1 p.1) (e1.trans p.2.1) p.2.2)⟩
theorem et_nil : EvT tYes σ H true := fun H1 _ _ q => q H1 (Ex.refl H1)
theorem el_is {xs ys : List V} (h : EvL te σ H xs) (e : xs = ys) : EvL te σ H ys := e ▸ h
theorem eu_is {xs ys : List V} (h : EvU te σ H xs) (e : xs = ys) : EvU te σ H ys := e ▸ h
/-- all are kept: the list is a map -/
theorem given_all {α : Type} (ys : List α) (g : α → V) (v : Nat → V) (hv : ∀ (i : Nat) (y : α), ys[i]? = some y → v i = g y) : given ys.length (fun _ => true) v = ys.map g := by
  unfold given
  rw [List.filter_eq_self.mpr (fun _ _ => rfl)]
  refine List.ext_getElem? fun i => ?_
  rw [List.getElem?_map, List.getElem?_map]
  by_cases hi : i < ys.length
  · rw [List.getElem?_range hi, List.getElem?_eq_getElem hi]
    exact congrArg some (hv i _ (List.getElem?_eq_getElem hi))
  · rw [List.getElem?_eq_none (by rw [List.length_range]; omega), List.getElem?_eq_none (by omega)]
    rfl
variable {D : Ends} {tu tw tz : TS}
/-- for x in a new tuple; the target is a name -/
theorem s_forNT {xs : List V} {tl : TE} {j : Nat} (h : EvU tl σ H xs) (Pv : Addr → Nat → L2.St → Hp → Prop) (h0 : ∀ p H1, H p = none → Ex H H1 → H1 p = some (.tup xs) → Pv p 0 σ H1) (hl : ∀ p i σ' H', i ≤ xs.length → Pv p i σ' H' → SqT K H' p xs)
    (hs : ∀ p i x σ' H', xs[i]? = some x → Pv p i σ' H' → tu { D with nx := Pv p (i + 1), ct := Pv p (i + 1), bk := D.nx } (σ'.set j (some x)) H') (hd : ∀ p σ' H', Pv p xs.length σ' H' → D.nx σ' H') : tFor (iTup K tl) (gName j) tu D σ H :=
  h H (Ex.refl H) _ fun p H1 hp e h1 => ⟨p, rfl, ⟨xs, st_of h1⟩, for_tup (Pv p) (h0 p H1 hp e h1) (hl p) (hs p) (hd p)⟩
theorem q_forNT {xs : List V} {tl : TE} {j : Nat} (h : EvU tl σ H xs) (Pv : Addr → Nat → L2.St → Hp → Prop) (h0 : ∀ p H1, H p = none → Ex H H1 → H1 p = some (.tup xs) → Pv p 0 σ H1) (hl : ∀ p i σ' H', i ≤ xs.length → Pv p i σ' H' → SqT K H' p xs)
    (hs : ∀ p i x σ' H', xs[i]? = some x → Pv p i σ' H' → tu { D with nx := Pv p (i + 1), ct := Pv p (i + 1), bk := tz D } (σ'.set j (some x)) H') (hd : ∀ p σ' H', Pv p xs.length σ' H' → tz D σ' H') : tSeq (tFor (iTup K tl) (gName j) tu) tz D σ H :=
  s_forNT (D := { D with nx := tz D }) h Pv h0 hl hs hd
theorem q_par {i j : Nat} (h : Ev ta σ H x) (h2 : Ev tb σ H y) (k : ∀ H1, Ex H H1 → tz D ((σ.set i (some x)).set j (some y)) H1) : tSeq (tPar i j (tCons ta (tCons tb tNil))) tz D σ H :=
  h H (Ex.refl H) _ fun H1 e1 => h2 H1 e1 _ fun H2 e2 => ⟨x, y, rfl, k H2 (e1.trans e2)⟩
theorem q_parL {i j : Nat} {xs : List V} (h : EvL ta σ H xs) (h2 : ∀ p H1, H p = none → Ex H H1 → H1 p = some (.lst xs) → Ev tb σ H1 y) (k : ∀ p H1, H p = none → Ex H H1 → H1 p = some (.lst xs) → tz D ((σ.set i (some (.ref p))).set j (some y)) H1) : tSeq (tPar i j (tCons ta (tCons tb tNil))) tz D σ H :=
  h H (Ex.refl H) _ fun p H1 hp e1 hx => h2 p H1 hp e1 hx H1 (Ex.refl H1) _ fun H2 e2 => ⟨.ref p, y, rfl, k p H2 hp (e1.trans e2) (e2 _ _ hx)⟩
theorem q_par3 {i j l : Nat} {tc : TE} (h : Ev ta σ H x) (h2 : Ev tb σ H y) (h3 : Ev tc σ H z) (k : ∀ H1, Ex H H1 → tz D (((σ.set i (some x)).set j (some y)).set l (some z)) H1) : tSeq (tPar3 i j l (tCons ta (tCons tb (tCons tc tNil)))) tz D σ H :=
  h H (Ex.refl H) _ fun H1 e1 => h2 H1 e1 _ fun H2 e2 => h3 H2 (e1.trans e2) _ fun H3 e3 => ⟨x, y, z, rfl, k H3 ((e1.trans e2).trans e3)⟩
theorem s_par3 {i j l : Nat} {tc : TE} (h : Ev ta σ H x) (h2 : Ev tb σ H y) (h3 : Ev tc σ H z) (k : ∀ H1, Ex H H1 → D.nx (((σ.set i (some x)).set j (some y)).set l (some z)) H1) : tPar3 i j l (tCons ta (tCons tb (tCons tc tNil))) D σ H :=
  h H (Ex.refl H) _ fun H1 e1 => h2 H1 e1 _ fun H2 e2 => h3 H2 (e1.trans e2) _ fun H3 e3 => ⟨x, y, z, rfl, k H3 ((e1.trans e2).trans e3)⟩
/-- a, b = (e1, e2) where the tuple is made: two names; a name and an item of a list -/
theorem q_tupNN {i j : Nat} (h : Ev ta σ H x) (h2 : Ev tb σ H y) (k : ∀ H1, Ex H H1 → tz D ((σ.set i (some x)).set j (some y)) H1) : tSeq (tAsg (tTup (tCons ta (tCons tb tNil))) (gTup K 2 (gCons (gName i) (gCons (gName j) gNil)))) tz D σ H :=
  h H (Ex.refl H) _ fun H1 e1 => h2 H1 e1 _ fun H2 e2 => ⟨by show 2 ≤ sizeLine; decide, fun p hp => ⟨p, [x, y], rfl, st_of upd_same, rfl, x, [y], rfl, y, [], rfl, rfl, k _ ((e1.trans e2).trans (Ex.new hp))⟩⟩
theorem s_tupNS {i j : Nat} {to ti : TE} {l : Addr} {xs : List V} (h : Ev ta σ H x) (h2 : Ev tb σ H y) (hl : H l = some (.lst xs)) (ho : Ev to (σ.set i (some x)) H (.ref l)) (hi : Ev ti (σ.set i (some x)) H (.int (j : Int))) (hj : j < xs.length)
    (k : ∀ H1, Ex H H1 → D.nx (σ.set i (some x)) (upd H1 l (.lst (xs.set j y)))) : tAsg (tTup (tCons ta (tCons tb tNil))) (gTup K 2 (gCons (gName i) (gCons (gSub to ti rSetL) gNil))) D σ H :=
  h H (Ex.refl H) _ fun H1 e1 => h2 H1 e1 _ fun H2 e2 => ⟨by show 2 ≤ sizeLine; decide, fun p hp => ⟨p, [x, y], rfl, st_of upd_same, rfl, x, [y], rfl, y, [], rfl,
    ho _ ((e1.trans e2).trans (Ex.new hp)) _ fun H3 e3 => hi H3 (((e1.trans e2).trans (Ex.new hp)).trans e3) _ fun H4 e4 => ⟨l, xs, (j : Int), j, rfl, rfl, ((((e1.trans e2).trans (Ex.new hp)).trans e3).trans e4) l _ hl, ixN_nat hj, rfl, k H4 ((((e1.trans e2).trans (Ex.new hp)).trans e3).trans e4)⟩⟩⟩
def SpU (sp : Sp) (vs : List V) (H : Hp) (xs : List V) : Prop := ∀ H1, Ex H H1 → ∀ Q : VK, (∀ p H2, H1 p = none → Ex H1 H2 → H2 p = some (.tup xs) → Q (.ref p) H2) → ∀ E : XK, sp vs H1 Q E
theorem eu_call {sp : Sp} {dvs vs xs : List V} {E : XK} {ta : TA} (h : EvA ta σ H vs) (hs : SpU sp (vs ++ dvs) H xs) : EvU (tCall sp dvs E ta) σ H xs := fun H1 e Q q =>
  h H1 e _ fun H2 e2 => hs H2 (e.trans e2) Q (fun p H3 hp e3 h3 => q p H3 (fresh_back e2 hp) (e2.trans e3) h3) E
def RetU (xs : List V) (H : Hp) (Q : VK) : Prop := ∀ p H2, H p = none → Ex H H2 → H2 p = some (.tup xs) → Q (.ref p) H2
theorem RetU.go {xs : List V} {Q : VK} (k : RetU xs H Q) (e : Ex H H') {p : Addr} {H2 : Hp} (hp : H' p = none) (e2 : Ex H' H2) (h : H2 p = some (.tup xs)) : Q (.ref p) H2 := k p H2 (fresh_back e hp) (e.trans e2) h
end
end Own
/-! mathematics of digits; core Lean alone -/
namespace Own
def dg (b : Nat) (k : Nat) : List Nat := if h : 1 < b ∧ 0 < k then (k % b) :: dg b (k / b) else []
termination_by k
decreasing_by exact Nat.div_lt_self h.2 h.1
theorem dg_zero (b : Nat) : dg b 0 = [] := by
  rw [dg]
  simp
theorem dg_pos {b k : Nat} (hb : 1 < b) (hk : 0 < k) : dg b k = (k % b) :: dg b (k / b) := by
  rw [dg, dif_pos ⟨hb, hk⟩]
theorem dg_lt {b : Nat} (hb : 1 < b) (k : Nat) : ∀ d ∈ dg b k, d < b := by
  induction k using Nat.strongRecOn with
  | ind k ih =>
    by_cases hk : 0 < k
    · rw [dg_pos hb hk]
      intro d hd
      rcases List.mem_cons.mp hd with rfl | hd
      · exact Nat.mod_lt _ (by omega)
      · exact ih _ (Nat.div_lt_self hk hb) d hd
    · have : k = 0 := by omega
      subst this
      rw [dg_zero]
      intro d hd
      cases hd
theorem dg_len {b : Nat} (hb : 1 < b) : ∀ (n k : Nat), k < 2 ^ n → (dg b k).length ≤ n := by
  intro n
  induction n with
  | zero =>
    intro k h
    have : k = 0 := by
      have : (2 : Nat) ^ 0 = 1 := rfl
      omega
    subst this
    rw [dg_zero]
    exact Nat.le_refl _
  | succ n ih =>
    intro k h
    by_cases hk : 0 < k
    · rw [dg_pos hb hk, List.length_cons]
      have : k / b < 2 ^ n := by
        have h1 : k / b ≤ k / 2 := Nat.div_le_div_left hb (by decide)
        rw [Nat.pow_succ] at h
        omega
      have := ih _ this
      omega
    · have : k = 0 := by omega
      subst this
      rw [dg_zero]
      exact Nat.zero_le _
/-- the integer of a row of digits -/
def od (b : Nat) : List Nat → Nat
  | [] => 0
  | d :: r => d + b * od b r
theorem od_dg {b : Nat} (hb : 1 < b) (k : Nat) : od b (dg b k) = k := by
  induction k using Nat.strongRecOn with
  | ind k ih =>
    by_cases hk : 0 < k
    · rw [dg_pos hb hk, od, ih _ (Nat.div_lt_self hk hb)]
      exact Nat.mod_add_div k b
    · have : k = 0 := by omega
      subst this
      rw [dg_zero]
      rfl
theorem od_zeros (b : Nat) : ∀ n, od b (List.replicate n 0) = 0
  | 0 => rfl
  | n + 1 => by
    rw [List.replicate_succ, od, od_zeros b n]
    omega
theorem od_app (b : Nat) : ∀ (xs : List Nat) (n : Nat), od b (xs ++ List.replicate n 0) = od b xs
  | [], n => by
    rw [List.nil_append, od_zeros]
    rfl
  | d :: r, n => by
    rw [List.cons_append, od, od, od_app b r n]
theorem od_lt {b : Nat} (hb : b ≤ 1000) : ∀ (xs : List Nat), (∀ d ∈ xs, d < b) → od b xs < 2 ^ (10 * xs.length)
  | [], _ => by
    show 0 < 2 ^ 0
    decide
  | d :: r, h => by
    have ih := od_lt hb r fun x hx => h x (List.mem_cons_of_mem _ hx)
    have hd := h d (List.mem_cons_self ..)
    rw [od, List.length_cons, Nat.mul_add, Nat.pow_add]
    have h1 : b * od b r ≤ 1000 * od b r := Nat.mul_le_mul_right _ hb
    have h2 : (2 : Nat) ^ (10 * 1) = 1024 := rfl
    rw [h2]
    omega
/-- the sum of the digits -/
def ds (b k : Nat) : Nat := (dg b k).sum
theorem ds_zero (b : Nat) : ds b 0 = 0 := by
  unfold ds
  rw [dg_zero]
  rfl
theorem ds_pos {b k : Nat} (hb : 1 < b) (hk : 0 < k) : ds b k = k % b + ds b (k / b) := by
  unfold ds
  rw [dg_pos hb hk, List.sum_cons]
theorem ds_eq {b : Nat} (hb : 1 < b) (k : Nat) : ds b k = k % b + ds b (k / b) := by
  by_cases hk : 0 < k
  · exact ds_pos hb hk
  · have : k = 0 := by omega
    subst this
    rw [Nat.zero_mod, Nat.zero_div, ds_zero]
theorem ds_le {b : Nat} (hb : 1 < b) (k : Nat) : ds b k ≤ k := by
  induction k using Nat.strongRecOn with
  | ind k ih =>
    by_cases hk : 0 < k
    · rw [ds_pos hb hk]
      have h1 := ih _ (Nat.div_lt_self hk hb)
      have h2 := Nat.mod_add_div k b
      have h3 : 1 * (k / b) ≤ b * (k / b) := Nat.mul_le_mul_right _ (by omega)
      omega
    · have : k = 0 := by omega
      subst this
      rw [ds_zero]
      exact Nat.le_refl _
/-- carries where a carry comes in; with fuel by the size -/
def cc (b : Nat) (c x y : Nat) : Nat := if h : 1 < b ∧ (0 < x ∨ 0 < y) then
    (if b ≤ x % b + y % b + c then 1 else 0) + cc b (if b ≤ x % b + y % b + c then 1 else 0) (x / b) (y / b) else 0
termination_by x + y
decreasing_by
  rcases h.2 with hx | hy
  · have h1 := Nat.div_lt_self hx h.1
    have h2 := Nat.div_le_self y b
    omega
  · have h1 := Nat.div_lt_self hy h.1
    have h2 := Nat.div_le_self x b
    omega
/-- the rule by sums of digits, with a carry c coming in -/
theorem ds_add {b : Nat} (hb : 1 < b) : ∀ (n x y c : Nat), x + y ≤ n → c ≤ 1 → ds b x + ds b y + c = ds b (x + y + c) + (b - 1) * cc b c x y := by
  intro n
  induction n using Nat.strongRecOn with
  | ind n ih =>
    intro x y c hn hc
    by_cases hxy : 0 < x ∨ 0 < y
    · rw [cc, dif_pos ⟨hb, hxy⟩]
      have hlt : x / b + y / b < n := by
        rcases hxy with hx | hy
        · have h1 := Nat.div_lt_self hx hb
          have h2 := Nat.div_le_self y b
          omega
        · have h1 := Nat.div_lt_self hy hb
          have h2 := Nat.div_le_self x b
          omega
      have hx := Nat.mod_add_div x b
      have hy := Nat.mod_add_div y b
      have mx := Nat.mod_lt x (show 0 < b by omega)
      have my := Nat.mod_lt y (show 0 < b by omega)
      rw [ds_eq hb x, ds_eq hb y, ds_eq hb (x + y + c)]
      have hs : x + y + c = (x % b + y % b + c) + b * (x / b + y / b) := by
        rw [Nat.mul_add]
        omega
      by_cases hcar : b ≤ x % b + y % b + c
      · rw [if_pos hcar]
        have e : x + y + c = (x % b + y % b + c - b) + b * (x / b + y / b + 1) := by
          rw [Nat.mul_add b _ 1]
          omega
        have e1 : (x + y + c) % b = x % b + y % b + c - b := by
          rw [e, Nat.add_mul_mod_self_left, Nat.mod_eq_of_lt (by omega)]
        have e2 : (x + y + c) / b = x / b + y / b + 1 := by
          rw [e, Nat.add_mul_div_left _ _ (by omega), Nat.div_eq_of_lt (by omega)]
          omega
        rw [e1, e2]
        have := ih _ hlt (x / b) (y / b) 1 (Nat.le_refl _) (Nat.le_refl _)
        rw [Nat.mul_add]
        omega
      · rw [if_neg hcar]
        have e1 : (x + y + c) % b = x % b + y % b + c := by
          rw [hs, Nat.add_mul_mod_self_left, Nat.mod_eq_of_lt (by omega)]
        have e2 : (x + y + c) / b = x / b + y / b := by
          rw [hs, Nat.add_mul_div_left _ _ (by omega), Nat.div_eq_of_lt (by omega)]
          omega
        rw [e1, e2]
        have := ih _ hlt (x / b) (y / b) 0 (Nat.le_refl _) (Nat.zero_le _)
        simp only [Nat.add_zero] at this
        rw [Nat.mul_add]
        omega
    · have hx : x = 0 := by omega
      have hy : y = 0 := by omega
      subst hx hy
      rw [cc, dif_neg (by simp), ds_zero]
      have : ds b (0 + 0 + c) = c := by
        rw [Nat.zero_add]
        rcases Nat.le_one_iff_eq_zero_or_eq_one.mp hc with rfl | rfl
        · exact ds_zero b
        · rw [ds_pos hb (by decide), Nat.mod_eq_of_lt hb, Nat.div_eq_of_lt hb, ds_zero]
      omega
theorem ds_plus {b : Nat} (hb : 1 < b) (x y : Nat) : ds b x + ds b y = ds b (x + y) + (b - 1) * cc b 0 x y := by
  have := ds_add hb (x + y) x y 0 (Nat.le_refl _) (Nat.zero_le _)
  simpa using this
/-- place by place: no sum of digits reaches the base -/
def nc (b : Nat) : Nat → List Nat → Bool
  | 0, _ => true
  | n + 1, xs => decide ((xs.map (· % b)).sum < b) && nc b n (xs.map (· / b))
theorem le_sum : ∀ (xs : List Nat) (x : Nat), x ∈ xs → x ≤ xs.sum
  | [], _, h => by cases h
  | a :: r, x, h => by
    rw [List.sum_cons]
    rcases List.mem_cons.mp h with rfl | h
    · omega
    · have := le_sum r x h
      omega
/-- the same by sums of digits -/
theorem sum_split {b : Nat} (hb : 1 < b) : ∀ xs : List Nat, xs.sum = (xs.map (· % b)).sum + b * (xs.map (· / b)).sum
  | [] => rfl
  | x :: r => by
    rw [List.sum_cons, List.map_cons, List.map_cons, List.sum_cons, List.sum_cons, Nat.mul_add, sum_split hb r]
    have := Nat.mod_add_div x b
    omega
theorem sumds_split {b : Nat} (hb : 1 < b) : ∀ xs : List Nat, (xs.map (ds b)).sum = (xs.map (· % b)).sum + ((xs.map (· / b)).map (ds b)).sum
  | [] => rfl
  | x :: r => by
    simp only [List.map_cons, List.sum_cons]
    rw [sumds_split hb r, ds_eq hb x]
    omega
theorem ds_sum_le {b : Nat} (hb : 1 < b) : ∀ xs : List Nat, ds b xs.sum ≤ (xs.map (ds b)).sum
  | [] => by
    rw [List.sum_nil, ds_zero]
    exact Nat.zero_le _
  | x :: r => by
    rw [List.map_cons, List.sum_cons, List.sum_cons]
    have h1 := ds_plus hb x r.sum
    have h2 := ds_sum_le hb r
    omega
theorem ds_add_le {b : Nat} (hb : 1 < b) (x y : Nat) : ds b (x + y) ≤ ds b x + ds b y := by
  have := ds_plus hb x y
  omega
theorem nc_iff {b : Nat} (hb : 1 < b) : ∀ (n : Nat) (xs : List Nat), xs.sum ≤ n → (nc b n xs = true ↔ (xs.map (ds b)).sum = ds b xs.sum) := by
  intro n
  induction n with
  | zero =>
    intro xs h
    have hz : ∀ x ∈ xs, x = 0 := fun x hx => by
      have := le_sum xs x hx
      omega
    have e1 : (xs.map (ds b)).sum = 0 := by
      have : xs.map (ds b) = xs.map (fun _ => 0) := List.map_congr_left fun x hx => by rw [hz x hx, ds_zero]
      rw [this]
      clear this hz h
      induction xs with
      | nil => rfl
      | cons a r ih => simpa using ih
    have e2 : xs.sum = 0 := by omega
    rw [e1, e2, ds_zero]
    exact ⟨fun _ => rfl, fun _ => rfl⟩
  | succ n ih =>
    intro xs h
    unfold nc
    rw [Bool.and_eq_true, decide_eq_true_eq]
    have hs := sum_split hb xs
    have hd := sumds_split hb xs
    generalize hm : (xs.map (· % b)).sum = m at hs hd ⊢
    generalize hq : xs.map (· / b) = q at hs hd ⊢
    have hqn : q.sum ≤ n := by
      by_cases h0 : q.sum = 0
      · omega
      · have : 2 * q.sum ≤ b * q.sum := Nat.mul_le_mul_right _ hb
        omega
    have ihq := ih q hqn
    by_cases hlt : m < b
    · have e1 : xs.sum % b = m := by
        rw [hs, Nat.add_mul_mod_self_left, Nat.mod_eq_of_lt hlt]
      have e2 : xs.sum / b = q.sum := by
        rw [hs, Nat.add_mul_div_left _ _ (by omega), Nat.div_eq_of_lt hlt]
        omega
      rw [hd, ds_eq hb xs.sum, e1, e2, ihq]
      constructor
      · intro ⟨_, h2⟩
        omega
      · intro h2
        exact ⟨hlt, by omega⟩
    · constructor
      · intro ⟨h1, _⟩
        exact absurd h1 hlt
      · intro h2
        exfalso
        -- the sum of digits falls by a carry
        have e1 : ds b xs.sum = ds b (m + b * q.sum) := by rw [← hs]
        have e3 : ds b (m + b * q.sum) = m % b + ds b (m / b + q.sum) := by
          rw [ds_eq hb, Nat.add_mul_mod_self_left, Nat.add_mul_div_left _ _ (by omega)]
        have e4 := ds_add_le hb (m / b) q.sum
        have e5 := ds_sum_le hb q
        have e6 := ds_le hb (m / b)
        have e7 := Nat.mod_add_div m b
        have e8 : 2 * (m / b) ≤ b * (m / b) := Nat.mul_le_mul_right _ hb
        have e9 : 1 ≤ m / b := Nat.div_pos (by omega) (by omega)
        omega
end Own
/-! own words for the laws' dice: a list of three ints that draws change -/
namespace Own
open PySem PySem.Spec PyProof.Rows L2 Evl
abbrev N_ (n : Nat) : V := .int (n : Int)
def Exd (p : Addr) (H H' : Hp) : Prop := ∀ a o, a ≠ p → H a = some o → H' a = some o
def IsDice (H : Hp) (p : Addr) : Prop := ∃ a b c : Int, H p = some (.lst [.int a, .int b, .int c])
section
variable {K : PySem.W.Frag} {H H1 H2 H' : Hp} {p a : Addr} {xs : List V}
theorem Exd.refl : Exd p H H := fun _ _ _ h => h
theorem Exd.of (e : Ex H H') : Exd p H H' := fun a o _ h => e a o h
theorem Exd.trans (x : Exd p H H1) (y : Exd p H1 H2) : Exd p H H2 := fun a o n h => y a o n (x a o n h)
theorem Exd.put {o : HO} : Exd p H (upd H p o) := fun a u n h => by rw [upd_ne n]; exact h
theorem IsDice.ex (d : IsDice H p) (e : Ex H H') : IsDice H' p := by
  obtain ⟨a, b, c, h⟩ := d
  exact ⟨a, b, c, e _ _ h⟩
theorem IsDice.seq (d : IsDice H p) : ∃ a b c : Int, SqL K H p [.int a, .int b, .int c] := by
  obtain ⟨a, b, c, h⟩ := d
  exact ⟨a, b, c, sq_of h⟩
theorem exd_t (d : IsDice H p) (e : Exd p H H') (h : SqT K H a xs) : SqT K H' a xs := by
  obtain ⟨x, y, z, hd⟩ := d
  rcases h with (h | ⟨o, h⟩) | h
  · exact .inl (.inl (e a _ (fun z => by rw [z, hd] at h; cases h) h))
  · exact .inl (.inr ⟨o, e a _ (fun z => by rw [z, hd] at h; cases h) h⟩)
  · exact .inr h
theorem exd_l (n : a ≠ p) (e : Exd p H H') (h : SqL K H a xs) : SqL K H' a xs := by
  rcases h with (h | ⟨o, h⟩) | h
  · exact .inl (.inl (e a _ n h))
  · exact .inl (.inr ⟨o, e a _ n h⟩)
  · exact .inr h
theorem new_ne (n : H a = none) (d : IsDice H p) : a ≠ p := fun z => by
  obtain ⟨x, y, w, h⟩ := d
  rw [z, h] at n
  cases n
theorem Exd.free (e : Exd p H H') (n : H' a = none) (hn : a ≠ p) : H a = none := by
  cases q : H a with
  | none => rfl
  | some o =>
    rw [e a o hn q] at n
    cases n
theorem Exd.newI {H0 : Hp} {l : Addr} {o : HO} (e : Exd p H0 H) (n : H0 l = none) : Exd p H0 (upd H l o) := fun b u hb h => by
  rw [upd_ne (ne_of_none h n)]
  exact e b u hb h
end
theorem mod_lt64 {x m : Int} (h0 : 0 < m) (h : m < 2 ^ 64) : -(2 ^ 64) < x % m ∧ x % m < 2 ^ 64 := by
  have h1 := Int.emod_nonneg x (by omega : m ≠ 0)
  have h2 := Int.emod_lt_of_pos x h0
  omega
theorem mod_abs {x m : Int} {n : Nat} (h0 : 0 < m) (h : m.toNat ≤ 2 ^ n) : (x % m).natAbs < 2 ^ n := by
  have h1 := Int.emod_nonneg x (by omega : m ≠ 0)
  have h2 := Int.emod_lt_of_pos x h0
  omega
end Own
/-! own words: == of tuples and lists of ints -/
namespace Own
open PySem PySem.Spec PyProof.Rows L2 Evl
def pdI (ns : List Int) : List PyData := ns.map PyData.int
theorem dp_ints {K : PySem.W.Frag} {H : Hp} : ∀ ns : List Int, DpAll K H (ns.map V.int) (pdI ns)
  | [] => .nil
  | n :: r => .cons (.int n) (dp_ints r)
theorem canI : ∀ ns : List Int, PyData.canLayAll0 (pdI ns) = true
  | [] => rfl
  | n :: r => by
    show (PyData.canLay0 (.int n) && PyData.canLayAll0 (pdI r)) = true
    rw [canI r]
    rfl
theorem depthI : ∀ ns : List Int, PyData.depthAll (pdI ns) = 0
  | [] => rfl
  | n :: r => by
    show max (PyData.depth (.int n)) (PyData.depthAll (pdI r)) = 0
    rw [depthI r]
    rfl
theorem shapedT (ns : List Int) : SeqAt.shaped (.tuple (pdI ns)) = true := by
  show (PyData.canLayAll0 (pdI ns) && decide (PyData.depthAll (pdI ns) + 1 ≤ 64)) = true
  rw [canI, depthI]
  rfl
theorem shapedL (ns : List Int) : SeqAt.shaped (.list (pdI ns)) = true := by
  show (PyData.canLayAll0 (pdI ns) && decide (PyData.depthAll (pdI ns) + 1 ≤ 64)) = true
  rw [canI, depthI]
  rfl
theorem eqvI : ∀ ns ms : List Int, PyData.eqvAll (pdI ns) (pdI ms) = decide (ns = ms)
  | [], [] => rfl
  | [], m :: s => by
    rw [decide_eq_false (by simp)]
    rfl
  | n :: r, [] => by
    rw [decide_eq_false (by simp)]
    rfl
  | n :: r, m :: s => by
    show (PyData.eqv (.int n) (.int m) && PyData.eqvAll (pdI r) (pdI s)) = _
    rw [eqvI r s]
    show ((n == m) && decide (r = s)) = decide (n :: r = m :: s)
    by_cases h : n = m
    · subst h
      by_cases h2 : r = s
      · subst h2
        rw [decide_eq_true rfl, decide_eq_true rfl]
        simp
      · rw [decide_eq_false h2, decide_eq_false (fun z => h2 (List.cons.inj z).2), Bool.and_false]
    · rw [decide_eq_false (fun z => h (List.cons.inj z).1), show (n == m) = false from beq_eq_false_iff_ne.mpr h, Bool.false_and]
theorem eqvT (ns ms : List Int) : PyData.eqv (.tuple (pdI ns)) (.tuple (pdI ms)) = decide (ns = ms) := eqvI ns ms
theorem eqvL (ns ms : List Int) : PyData.eqv (.list (pdI ns)) (.list (pdI ms)) = decide (ns = ms) := eqvI ns ms
section
variable {K : PySem.W.Frag} {σ : L2.St} {H H' : Hp} {ta tb : TE}
theorem rv_neT {a b : Addr} {ns ms : List Int} (h1 : SqT K H a (ns.map V.int)) (h2 : SqT K H b (ms.map V.int)) : RV (rNeD K) (.ref a) (.ref b) H (.bl (!decide (ns = ms))) := fun H1 e _ q =>
  ⟨_, _, .tup (ex_t e h1) (dp_ints ns), .tup (ex_t e h2) (dp_ints ms), shapedT _, shapedT _, by rw [eqvT]; exact q H1 (Ex.refl H1)⟩
theorem rv_eqT {a b : Addr} {ns ms : List Int} (h1 : SqT K H a (ns.map V.int)) (h2 : SqT K H b (ms.map V.int)) : RV (rEqD K) (.ref a) (.ref b) H (.bl (decide (ns = ms))) := fun H1 e _ q =>
  ⟨_, _, .tup (ex_t e h1) (dp_ints ns), .tup (ex_t e h2) (dp_ints ms), shapedT _, shapedT _, by rw [eqvT]; exact q H1 (Ex.refl H1)⟩
theorem rv_neL {a b : Addr} {ns ms : List Int} (h1 : SqL K H a (ns.map V.int)) (h2 : SqL K H b (ms.map V.int)) : RV (rNeD K) (.ref a) (.ref b) H (.bl (!decide (ns = ms))) := fun H1 e _ q =>
  ⟨_, _, .lst (ex_l e h1) (dp_ints ns), .lst (ex_l e h2) (dp_ints ms), shapedL _, shapedL _, by rw [eqvL]; exact q H1 (Ex.refl H1)⟩
theorem rv_eqL {a b : Addr} {ns ms : List Int} (h1 : SqL K H a (ns.map V.int)) (h2 : SqL K H b (ms.map V.int)) : RV (rEqD K) (.ref a) (.ref b) H (.bl (decide (ns = ms))) := fun H1 e _ q =>
  ⟨_, _, .lst (ex_l e h1) (dp_ints ns), .lst (ex_l e h2) (dp_ints ms), shapedL _, shapedL _, by rw [eqvL]; exact q H1 (Ex.refl H1)⟩
/-- the first operand a new tuple -/
theorem ev_opU1 {r : R2} {xs : List V} {y z : V} (ha : EvU ta σ H xs) (hb : ∀ H1, Ex H H1 → Ev tb σ H1 y) (hr : ∀ p H1, H1 p = some (.tup xs) → Ex H H1 → RV r (.ref p) y H1 z) : Ev (tOp r ta tb) σ H z := fun H1 e Q q =>
  ha H1 e _ fun p H2 _ e2 hp => hb H2 (e.trans e2) H2 (Ex.refl H2) _ fun H3 e3 => hr p H3 (e3 p _ hp) ((e.trans e2).trans e3) H3 (Ex.refl H3) Q fun H4 e4 => q H4 ((e2.trans e3).trans e4)
/-- t + u of tuples, whatever object comes out -/
theorem catA_go {row q : Addr} {xs ys : List V} {Q : VK} (h1 : SqT K H row xs) (h2 : SqT K H q ys) (hl : xs.length + ys.length ≤ 100000) (k : ∀ a H', Ex H H' → SqT K H' a (xs ++ ys) → Q (.ref a) H') : rCatA K (.ref row) (.ref q) H Q :=
  ⟨row, q, xs, ys, rfl, rfl, h1, h2, sz_of hl, fun e => k q H (Ex.refl H) (by rw [e]; exact h2), fun _ e => k row H (Ex.refl H) (by rw [e, List.append_nil]; exact h1), fun _ _ p hp => k p _ (Ex.new hp) (st_of upd_same)⟩
/-- t[1:] of a tuple with an item -/
theorem eu_sl1 {a : Addr} {xs : List V} (h : Ev ta σ H (.ref a)) (hx : SqT K H a xs) (hl : 0 < xs.length) (hcut : cutV xs (some 1) none = xs.drop 1) : EvU (tSl (rSlT K) ta (tPart (tC (.int 1))) tNoPart) σ H (xs.drop 1) := fun H1 e Q q =>
  h H1 e _ fun H2 e2 => ⟨1, rfl, a, xs, rfl, ex_t (e.trans e2) hx, fun z => by
    have h1 := z.1
    rw [show HT.sIx xs.length 0 (some 1) = min 1 xs.length from HT.sIx_nat xs.length 0 1] at h1
    omega, fun p hp => q p _ (fresh_back e2 hp) (e2.trans (Ex.new hp)) (by rw [hcut]; exact upd_same)⟩
theorem ev_sumU {ns : List Int} (h : EvU ta σ H (ns.map V.int)) : Ev (tCB (rSumT K) (tCons ta tNil)) σ H (.int ns.sum) := fun H1 e _ q =>
  h H1 e _ fun p H2 _ e2 h2 => ⟨p, ns, rfl, st_of h2, q H2 e2⟩
/-- [..] * k -/
theorem el_rep {xs : List V} {k : Int} (h : EvL ta σ H xs) (h2 : Ev tb σ H (.int k)) (h0 : 0 ≤ k) (hk : xs.length * k.toNat ≤ 100000) (hk2 : k ≤ 100000) : EvL (tOp rRep ta tb) σ H (List.replicate k.toNat xs).flatten := fun H1 e Q q =>
  h H1 e _ fun p H2 hp e2 hx => h2 H2 (e.trans e2) _ fun H3 e3 => ⟨p, k, xs, rfl, rfl, e3 _ _ hx, by omega, by omega, sz_of hk, fun l hl => q l _ (fresh_back (e2.trans e3) hl) ((e2.trans e3).trans (Ex.new hl)) upd_same⟩
end
end Own
/-! own words: written tables with integer keys; their values integers, tuples of integers, tuples of those -/
namespace Own
open PySem PySem.Spec PyProof.Rows L2 Evl
abbrev Fr_ := PySem.W.Frag
def asInt : Value → Option Int
  | .int i _ => some i
  | _ => none
def asInts : List Value → Option (List Int)
  | [] => some []
  | v :: r => match asInt v, asInts r with
    | some i, some is => some (i :: is)
    | _, _ => none
/-- the items of a written tuple -/
def asTup (K : Fr_) : Value → Option (List Value)
  | .ref a => match K.lookup a with
    | some ⟨.type T, _, .seq its _, _⟩ => if T = "tuple" ∧ its.size ≤ 1000 then some its.toList else none
    | _ => none
  | _ => none
def asRow (K : Fr_) (v : Value) : Option (List Int) := match asTup K v with
  | some l => asInts l
  | none => none
def asRowsL (K : Fr_) : List Value → Option (List (List Int))
  | [] => some []
  | v :: r => match asRow K v, asRowsL K r with
    | some i, some is => some (i :: is)
    | _, _ => none
def asRows (K : Fr_) (v : Value) : Option (List (List Int)) := match asTup K v with
  | some l => asRowsL K l
  | none => none
/-- the entries of a written dict with integer keys -/
def entriesI : List DictEntry → Option (List (Int × Value))
  | [] => some []
  | e :: r => match asInt e.key, entriesI r with
    | some i, some is => if e.hash = hashInt i then some ((i, e.val) :: is) else none
    | _, _ => none
def tabOf (K : Fr_) (d : Addr) : Option (List (Int × Value)) := match K.lookup d with
  | some ⟨.type T, none, .dict es _, sl⟩ => if T = "dict" ∧ sl = #[] then entriesI es.toList else none
  | _ => none
def mapV2 {α β : Type} (f : α → Option β) : List (Int × α) → Option (List (Int × β))
  | [] => some []
  | (i, v) :: r => match f v, mapV2 f r with
    | some w, some is => some ((i, w) :: is)
    | _, _ => none
def tab0 (K : Fr_) (d : Addr) : Option (List (Int × Int)) := (tabOf K d).bind (mapV2 asInt)
def tab1 (K : Fr_) (d : Addr) : Option (List (Int × List Int)) := (tabOf K d).bind (mapV2 (asRow K))
def tab2 (K : Fr_) (d : Addr) : Option (List (Int × List (List Int))) := (tabOf K d).bind (mapV2 (asRows K))
theorem asInt_eq {v : Value} {i : Int} (h : asInt v = some i) : ∃ t, v = .int i t := by
  cases v <;> simp [asInt] at h
  subst h
  exact ⟨_, rfl⟩
theorem asInts_vals : ∀ {l : List Value} {ns : List Int}, asInts l = some ns → Vals (ns.map V.int) l
  | [], ns, h => by
    cases (Option.some.inj h : [] = ns)
    exact .nil
  | v :: r, ns, h => by
    unfold asInts at h
    split at h
    · rename_i i is h1 h2
      cases (Option.some.inj h : (i :: is) = ns)
      obtain ⟨t, rfl⟩ := asInt_eq h1
      exact .cons ⟨t, rfl⟩ (asInts_vals h2)
    · cases h
theorem asTup_eq {K : Fr_} {v : Value} {l : List Value} (h : asTup K v = some l) : ∃ (a : Addr) (o : Obj) (its : Array Value) (n : Nat), v = .ref a ∧ K.lookup a = some o ∧ o.cls = .type "tuple" ∧ o.data = .seq its n ∧ its.size ≤ 1000 ∧ its.toList = l := by
  unfold asTup at h
  split at h
  · split at h
    · rename_i a _ T dd its n sl e
      split at h
      · rename_i hc
        refine ⟨a, _, its, n, rfl, e, ?_, rfl, hc.2, Option.some.inj h⟩
        rw [hc.1]
      · cases h
    · cases h
  · cases h
theorem asRow_eq {K : Fr_} {v : Value} {ns : List Int} (h : asRow K v = some ns) : ∃ a : Addr, v = .ref a ∧ ∀ H, SqT K H a (ns.map V.int) := by
  unfold asRow at h
  split at h
  · rename_i l e
    obtain ⟨a, o, its, n, rfl, hl, hc, hd, hz, rfl⟩ := asTup_eq e
    exact ⟨a, rfl, fun H => .inr ⟨o, its, n, hl, hc, hd, Nat.le_trans hz (by decide), asInts_vals h⟩⟩
  · cases h
/-- a row of rows -/
def Rws (K : Fr_) (H : Hp) (rs : List Addr) (xss : List (List Int)) : Prop := rs.length = xss.length ∧ ∀ (i : Nat) (r : Addr) (xs : List Int), rs[i]? = some r → xss[i]? = some xs → SqT K H r (xs.map V.int)
theorem asRowsL_eq {K : Fr_} : ∀ {l : List Value} {xss : List (List Int)}, asRowsL K l = some xss → ∃ rs : List Addr, Vals (rs.map V.ref) l ∧ ∀ H, Rws K H rs xss
  | [], xss, h => by
    cases (Option.some.inj h : [] = xss)
    exact ⟨[], .nil, fun H => ⟨rfl, fun i r xs h => by simp at h⟩⟩
  | v :: l, xss, h => by
    unfold asRowsL at h
    split at h
    · rename_i i is h1 h2
      cases (Option.some.inj h : (i :: is) = xss)
      obtain ⟨a, rfl, hs⟩ := asRow_eq h1
      obtain ⟨rs, hv, hr⟩ := asRowsL_eq h2
      refine ⟨a :: rs, .cons rfl hv, fun H => ⟨by rw [List.length_cons, List.length_cons, (hr H).1], fun j r xs e1 e2 => ?_⟩⟩
      cases j with
      | zero =>
        cases (Option.some.inj e1 : a = r)
        cases (Option.some.inj e2 : i = xs)
        exact hs H
      | succ j => exact (hr H).2 j r xs e1 e2
    · cases h
theorem asRows_eq {K : Fr_} {v : Value} {xss : List (List Int)} (h : asRows K v = some xss) : ∃ (a : Addr) (rs : List Addr), v = .ref a ∧ ∀ H, SqT K H a (rs.map V.ref) ∧ Rws K H rs xss := by
  unfold asRows at h
  split at h
  · rename_i l e
    obtain ⟨a, o, its, n, rfl, hl, hc, hd, hz, rfl⟩ := asTup_eq e
    obtain ⟨rs, hv, hr⟩ := asRowsL_eq h
    exact ⟨a, rs, rfl, fun H => ⟨.inr ⟨o, its, n, hl, hc, hd, Nat.le_trans hz (by decide), hv⟩, hr H⟩⟩
  · cases h
theorem entriesI_find : ∀ {es : List DictEntry} {t : List (Int × Value)}, entriesI es = some t → (∀ e ∈ es, ∃ i tk, e.key = .int i tk ∧ e.hash = hashInt i) ∧ ∀ i, (es.find? fun e => Value.isInt i e.key).map (·.val) = t.lookup i
  | [], t, h => by
    cases (Option.some.inj h : [] = t)
    exact ⟨fun e he => (List.not_mem_nil he).elim, fun i => rfl⟩
  | e :: r, t, h => by
    unfold entriesI at h
    split at h
    · rename_i i is h1 h2
      split at h
      · rename_i hh
        cases (Option.some.inj h : ((i, e.val) :: is) = t)
        obtain ⟨tk, hk⟩ := asInt_eq h1
        obtain ⟨a1, a2⟩ := entriesI_find h2
        refine ⟨fun e' he => ?_, fun j => ?_⟩
        · rcases List.mem_cons.mp he with rfl | he
          · exact ⟨i, tk, hk, hh⟩
          · exact a1 e' he
        · rw [List.find?_cons, List.lookup_cons]
          have : Value.isInt j e.key = (i == j) := by rw [hk]; rfl
          rw [this]
          by_cases hij : i = j
          · subst hij
            rw [show (i == i) = true from beq_self_eq_true i]
            rfl
          · rw [show (i == j) = false from beq_eq_false_iff_ne.mpr hij, show (j == i) = false from beq_eq_false_iff_ne.mpr (Ne.symm hij)]
            exact a2 j
      · cases h
    · cases h
section
variable {X : Cx}
/-- d[i] of a written dict -/
def rIxW (K : Fr_) : R2 := fun x y H Q => ∃ (d : Addr) (i : Int) (t : List (Int × Value)) (u0 : Value) (v0 : V), x = .ref d ∧ y = .int i ∧ tabOf K d = some t ∧ t.lookup i = some u0 ∧ RelV v0 u0 ∧ Q v0 H
theorem ix_tab : IxR X (rIxW X.K) := by
  intro value slice pins s σ H x y v u Q I rx ry h hs
  obtain ⟨d, i, t, u0, v0, rfl, rfl, ht, hl, hr, q⟩ := h
  cases rx
  obtain ⟨tk, rfl⟩ := ry
  unfold tabOf at ht
  split at ht
  · rename_i T es n sl hk
    split at ht
    · rename_i hc
      obtain ⟨hT, hsl⟩ := hc
      subst hT hsl
      obtain ⟨a1, a2⟩ := entriesI_find ht
      have hm : s.heap.MapOf (intKind X.prog X.w) d (fun k => findBy Value.isInt es k) :=
        ⟨_, es, n, I.kIn d _ hk, ⟨rfl, rfl, rfl⟩, rfl, fun e he => by
          obtain ⟨j, tk, e1, e2⟩ := a1 e (Array.mem_toList_iff.mpr he)
          exact ⟨j, by rw [e1]; exact intKind_is X.prog X.w j tk, e2⟩, fun _ => rfl⟩
      have hf : (fun k => findBy Value.isInt es k) i = some u0 := by
        show findBy Value.isInt es i = some u0
        unfold findBy
        rw [← Array.find?_toList, a2 i]
        exact hl
      exact tail_any hm.typeIs slot_dict_getitem.lookup (wpAny_getItem_of (intKind_is X.prog X.w i tk) hm hf ⟨v0, H, I.tok _, hr, q⟩) hs
    · cases ht
  · cases ht
end
theorem mapV2_lookup {α β : Type} {f : α → Option β} : ∀ {t : List (Int × α)} {u : List (Int × β)}, mapV2 f t = some u → ∀ i w, u.lookup i = some w → ∃ v, t.lookup i = some v ∧ f v = some w
  | [], u, h, i, w, e => by
    cases (Option.some.inj h : [] = u)
    cases e
  | (j, v) :: r, u, h, i, w, e => by
    unfold mapV2 at h
    split at h
    · rename_i w' is h1 h2
      cases (Option.some.inj h : ((j, w') :: is) = u)
      rw [List.lookup_cons] at e ⊢
      by_cases hij : (i == j) = true
      · rw [hij] at e ⊢
        cases (Option.some.inj e : w' = w)
        exact ⟨v, rfl, h1⟩
      · rw [Bool.not_eq_true] at hij
        rw [hij] at e ⊢
        exact mapV2_lookup h2 i w e
    · cases h
section
variable {K : Fr_} {σ : L2.St} {H H' : Hp} {ta tb : TE}
theorem rv_tab0 {d : Addr} {t : List (Int × Int)} {i w : Int} (h : tab0 K d = some t) (hl : t.lookup i = some w) : RV (rIxW K) (.ref d) (.int i) H (.int w) := fun H1 _ _ q => by
  obtain ⟨t0, h1, h2⟩ := Option.bind_eq_some_iff.mp h
  obtain ⟨v, h3, h4⟩ := mapV2_lookup h2 i w hl
  obtain ⟨tk, rfl⟩ := asInt_eq h4
  exact ⟨d, i, t0, _, .int w, rfl, rfl, h1, h3, ⟨tk, rfl⟩, q H1 (Ex.refl H1)⟩
theorem tab1_get {d : Addr} {t : List (Int × List Int)} {i : Int} {w : List Int} (h : tab1 K d = some t) (hl : t.lookup i = some w) : ∃ a : Addr, (∀ H, SqT K H a (w.map V.int)) ∧ ∀ H, RV (rIxW K) (.ref d) (.int i) H (.ref a) := by
  obtain ⟨t0, h1, h2⟩ := Option.bind_eq_some_iff.mp h
  obtain ⟨v, h3, h4⟩ := mapV2_lookup h2 i w hl
  obtain ⟨a, rfl, hs⟩ := asRow_eq h4
  exact ⟨a, hs, fun H H1 _ _ q => ⟨d, i, t0, _, .ref a, rfl, rfl, h1, h3, rfl, q H1 (Ex.refl H1)⟩⟩
theorem tab2_get {d : Addr} {t : List (Int × List (List Int))} {i : Int} {w : List (List Int)} (h : tab2 K d = some t) (hl : t.lookup i = some w) : ∃ (a : Addr) (rs : List Addr), (∀ H, SqT K H a (rs.map V.ref) ∧ Rws K H rs w) ∧ ∀ H, RV (rIxW K) (.ref d) (.int i) H (.ref a) := by
  obtain ⟨t0, h1, h2⟩ := Option.bind_eq_some_iff.mp h
  obtain ⟨v, h3, h4⟩ := mapV2_lookup h2 i w hl
  obtain ⟨a, rs, rfl, hs⟩ := asRows_eq h4
  exact ⟨a, rs, hs, fun H H1 _ _ q => ⟨d, i, t0, _, .ref a, rfl, rfl, h1, h3, rfl, q H1 (Ex.refl H1)⟩⟩
/-- TAB[i][j], TAB[i][j][k] of written tables -/
theorem ev_tab0 {d : Addr} {t : List (Int × Int)} {i w : Int} (h : tab0 K d = some t) (hl : t.lookup i = some w) (ha : Ev ta σ H (.int i)) : Ev (tOp (rIxW K) (tC (.ref d)) ta) σ H (.int w) := ev_op ev_c ha (rv_tab0 h hl)
theorem ev_tab1 {d : Addr} {t : List (Int × List Int)} {i : Int} {j : Nat} {w : List Int} {x : Int} (h : tab1 K d = some t) (hl : t.lookup i = some w) (hx : w[j]? = some x) (ha : Ev ta σ H (.int i)) (hb : Ev tb σ H (.int (j : Int))) :
    Ev (tOp (rIxT K) (tOp (rIxW K) (tC (.ref d)) ta) tb) σ H (.int x) := by
  obtain ⟨a, hs, hr⟩ := tab1_get h hl
  exact ev_op (ev_op ev_c ha (hr H)) hb (rv_ixT (hs H) (atI_nat (by rw [List.getElem?_map, hx]; rfl)))
theorem ev_tab2 {d : Addr} {t : List (Int × List (List Int))} {i : Int} {j k : Nat} {w : List (List Int)} {xs : List Int} {x : Int} {tc : TE} (h : tab2 K d = some t) (hl : t.lookup i = some w) (hx : w[j]? = some xs) (hy : xs[k]? = some x) (ha : Ev ta σ H (.int i)) (hb : Ev tb σ H (.int (j : Int))) (hc : Ev tc σ H (.int (k : Int))) :
    Ev (tOp (rIxT K) (tOp (rIxT K) (tOp (rIxW K) (tC (.ref d)) ta) tb) tc) σ H (.int x) := by
  obtain ⟨a, rs, hs, hr⟩ := tab2_get h hl
  obtain ⟨h1, h2, h3⟩ := hs H
  have hj : j < rs.length := by rw [h2]; exact (List.getElem?_eq_some_iff.mp hx).1
  exact ev_op (ev_op (ev_op ev_c ha (hr H)) hb (rv_ixT (v := .ref rs[j]) h1 (atI_nat (by rw [List.getElem?_map, List.getElem?_eq_getElem hj]; rfl)))) hc (rv_ixT (h3 j _ xs (List.getElem?_eq_getElem hj) hx) (atI_nat (by rw [List.getElem?_map, hy]; rfl)))
end
end Own
/-! own words: enumerate, ranges by steps and from a place, lists of lists, sorted lists, values that are no integers -/
namespace Own
open PySem PySem.Spec PyProof.Rows L2 Evl
section
variable {K : PySem.W.Frag} {σ : L2.St} {H H' : Hp} {ta tb te : TE} {t : TT} {D : Ends} {tu tz : TS}
theorem for_enum {a : Addr} {xs : List V} {g : TG} {tb : TS} {D : Ends} {σ : L2.St} {H : Hp} (Pv : Nat → L2.St → Hp → Prop) (h0 : Pv 0 σ H) (hl : ∀ i σ H, i ≤ xs.length → Pv i σ H → SqL K H a xs)
    (hs : ∀ i x T σ H, xs[i]? = some x → Pv i σ H → H T = none → g (.ref T) σ (upd H T (.tup [.int (i : Nat), x])) fun σ2 H2 => tb { D with nx := Pv (i + 1), ct := Pv (i + 1), bk := D.nx } σ2 H2) (hd : ∀ σ H, Pv xs.length σ H → D.nx σ H) :
    ∃ W : Nat → Nat → L2.St → Hp → Prop, (∃ m, W 0 m σ H) ∧ ∀ i m σ H, W i m σ H →
      ((Ite K a).stop i H ∧ D.nx σ H) ∨ ((Ite K a).go i H ∧ ∃ N : L2.St → Hp → Prop, (∀ σ' H', N σ' H' → ∃ m', m' < m ∧ W (i + 1) m' σ' H') ∧ ∀ x H', (Ite K a).yld i H x H' → g x σ H' fun σ2 H2 => tb { D with nx := N, ct := N, bk := D.nx } σ2 H2) := by
  refine ⟨fun i m σ H => m = xs.length - i ∧ i ≤ xs.length ∧ Pv i σ H, ⟨xs.length, by simp, Nat.zero_le _, h0⟩, ?_⟩
  rintro i m σ H ⟨rfl, hi, p⟩
  have q := hl i σ H hi p
  by_cases hlt : i < xs.length
  · refine .inr ⟨⟨xs, xs[i], q, by simp [hlt]⟩, Pv (i + 1), fun σ' H' p' => ⟨xs.length - (i + 1), by omega, rfl, hlt, p'⟩, fun x H' y => ?_⟩
    obtain ⟨T, z, rfl, nT, rfl, f⟩ := y
    have hz := f xs q
    exact hs i z T σ H hz p nT
  · exact .inl ⟨⟨xs, q, by omega⟩, by
      have : i = xs.length := by omega
      subst this
      exact hd σ H p⟩
/-- for i, x in enumerate(new list), two names -/
theorem s_forEN {xs : List V} {ta : TE} {i1 i2 : Nat} (h : EvL ta σ H xs) (Pv : Addr → Nat → L2.St → Hp → Prop) (h0 : ∀ p H1, H p = none → Ex H H1 → H1 p = some (.lst xs) → Pv p 0 σ H1) (hl : ∀ p i σ' H', i ≤ xs.length → Pv p i σ' H' → SqL K H' p xs)
    (hs : ∀ p i x σ' H' H2, xs[i]? = some x → Pv p i σ' H' → Ex H' H2 → tu { D with nx := Pv p (i + 1), ct := Pv p (i + 1), bk := D.nx } ((σ'.set i1 (some (.int (i : Nat)))).set i2 (some x)) H2) (hd : ∀ p σ' H', Pv p xs.length σ' H' → D.nx σ' H') :
    tFor (iEnum K (tCons ta tNil)) (gTup K 2 (gCons (gName i1) (gCons (gName i2) gNil))) tu D σ H :=
  h H (Ex.refl H) _ fun p H1 hp e h1 => ⟨p, xs, rfl, sq_of h1, for_enum (xs := xs) (Pv p) (h0 p H1 hp e h1) (hl p) (fun i x T σ' H' hx hp nT => ⟨T, [.int (i : Nat), x], rfl, st_of upd_same, rfl, .int (i : Nat), [x], rfl, x, [], rfl, rfl, hs p i x σ' H' _ hx hp (Ex.new nT)⟩) (hd p)⟩
theorem q_forEN {xs : List V} {ta : TE} {i1 i2 : Nat} (h : EvL ta σ H xs) (Pv : Addr → Nat → L2.St → Hp → Prop) (h0 : ∀ p H1, H p = none → Ex H H1 → H1 p = some (.lst xs) → Pv p 0 σ H1) (hl : ∀ p i σ' H', i ≤ xs.length → Pv p i σ' H' → SqL K H' p xs)
    (hs : ∀ p i x σ' H' H2, xs[i]? = some x → Pv p i σ' H' → Ex H' H2 → tu { D with nx := Pv p (i + 1), ct := Pv p (i + 1), bk := tz D } ((σ'.set i1 (some (.int (i : Nat)))).set i2 (some x)) H2) (hd : ∀ p σ' H', Pv p xs.length σ' H' → tz D σ' H') :
    tSeq (tFor (iEnum K (tCons ta tNil)) (gTup K 2 (gCons (gName i1) (gCons (gName i2) gNil))) tu) tz D σ H := s_forEN (D := { D with nx := tz D }) h Pv h0 hl hs hd
/-- for i in range(a, b, -1) -/
theorem q_forRd {j : Nat} {lo n : Int} {ta : TA} (h : EvA ta σ H [.int lo, .int n, .int (-1)]) (hn : -100000 ≤ lo ∧ lo ≤ 100000 ∧ -100000 ≤ n ∧ n ≤ 100000) (Pv : Nat → L2.St → Hp → Prop) (h0 : ∀ H1, Ex H H1 → Pv 0 σ H1)
    (hs : ∀ (i : Nat) σ' H', (i : Int) < lo - n → Pv i σ' H' → tu { D with nx := Pv (i + 1), ct := Pv (i + 1), bk := tz D } (σ'.set j (some (.int (lo - (i : Int))))) H') (hd : ∀ σ' H', Pv (lo - n).toNat σ' H' → tz D σ' H') : tSeq (tFor (iRng3 ta) (gName j) tu) tz D σ H :=
  h H (Ex.refl H) _ fun H1 e => ⟨lo, n, -1, (lo - n).toNat, rfl, RgC.neg (by omega) (by omega) (by omega) (by omega), for_rangeC (lo := lo) (c := -1) (n := (lo - n).toNat) (D := { D with nx := tz D }) Pv (h0 H1 e) (fun i σ' H' hi p => by
    have e0 : lo + (i : Int) * -1 = lo - (i : Int) := by omega
    show tu { D with nx := Pv (i + 1), ct := Pv (i + 1), bk := tz D } (σ'.set j (some (.int (lo + (i : Int) * -1)))) H'
    rw [e0]
    exact hs i σ' H' (by omega) p) hd⟩
/-- [.. for i in range(lo, n) ..] -/
theorem el_lcR2 {ta : TA} {j : Nat} {vs : List Nat} {lo n : Int} (f : Nat → Bool) (v : Nat → V) (h : EvA ta σ H [.int lo, .int n]) (hn : -100000 ≤ lo ∧ lo ≤ 100000 ∧ n - lo ≤ 40000 ∧ -100000 ≤ n ∧ n ≤ 100000) (hw : ∀ x, wipe ((wipe σ vs).set j (some x)) vs = wipe σ vs)
    (ht : ∀ (i : Nat) H1, Ex H H1 → lo + (i : Int) < n → EvT t ((wipe σ vs).set j (some (.int (lo + (i : Int))))) H1 (f i)) (he : ∀ (i : Nat) H1, Ex H H1 → lo + (i : Int) < n → f i = true → Ev te ((wipe σ vs).set j (some (.int (lo + (i : Int))))) H1 (v i)) :
    EvL (tLc (iRng2 ta) (gName j) t te vs) σ H (given (n - lo).toNat f v) := fun H0 e Q q => h H0 e _ fun H1 e1 => ⟨lo, n, rfl, ⟨by omega, by omega, by omega, by omega⟩, fun Dl hD =>
  lc_range (lo := lo) (n := (n - lo).toNat) (Cw H1 f v Dl) ⟨hD, Ex.new hD, upd_same⟩ (fun i H' hi p => ⟨hw _, cw_turn p (by omega) (ht i H1 (e.trans e1) (by omega)) (fun hf => he i H1 (e.trans e1) (by omega) hf)⟩) (fun H' p => q Dl H' (fresh_back e1 p.1) (e1.trans p.2.1) p.2.2)⟩
/-- a new list of new lists -/
def EvLL (te : TE) (σ : L2.St) (H : Hp) (xss : List (List V)) : Prop := ∀ H1, Ex H H1 → ∀ Q : VK, (∀ (p : Addr) (rs : List Addr) H2, H1 p = none → Ex H1 H2 → H2 p = some (.lst (rs.map V.ref)) → rs.length = xss.length → (∀ (i : Nat) (r : Addr) (xs : List V), rs[i]? = some r → xss[i]? = some xs → H1 r = none ∧ H2 r = some (.lst xs)) → Q (.ref p) H2) → te σ H1 Q
theorem ell_is {xs ys : List (List V)} (h : EvLL te σ H xs) (e : xs = ys) : EvLL te σ H ys := e ▸ h
def LLw (H : Hp) (xss : List (List V)) (Dl : Addr) (i : Nat) (H' : Hp) : Prop := H Dl = none ∧ Ex H H' ∧ ∃ rs : List Addr, rs.length = i ∧ H' Dl = some (.lst (rs.map V.ref)) ∧ ∀ (k : Nat) (r : Addr) (xs : List V), rs[k]? = some r → xss[k]? = some xs → H r = none ∧ H' r = some (.lst xs) ∧ r ≠ Dl
theorem llw_turn {σ2 : L2.St} {xss : List (List V)} {Dl : Addr} {i : Nat} {xs : List V} (p : LLw H xss Dl i H') (hi : i < 50000) (hx : xss[i]? = some xs) (he : EvL te σ2 H xs) :
    tYes σ2 H' fun b H3 => if b = true then te σ2 H3 fun y H4 => ∃ acc, H4 Dl = some (.lst acc) ∧ acc.length < sizeLine ∧ LLw H xss Dl (i + 1) (upd H4 Dl (.lst (acc ++ [y]))) else LLw H xss Dl (i + 1) H3 := by
  obtain ⟨p1, p2, rs, p3, p4, p5⟩ := p
  show (if true = true then _ else LLw H xss Dl (i + 1) H')
  rw [if_pos rfl]
  refine (he H' p2 _ fun q H4 hq e4 h4 => ⟨rs.map V.ref, e4 _ _ p4, by rw [List.length_map]; exact sz_lt (by omega), p1, Ex.mut (p2.trans e4) p1, rs ++ [q], by rw [List.length_append, p3]; rfl, ?_, fun k r xs' hk hxk => ?_⟩)
  · rw [upd_same, List.map_append]
    rfl
  · by_cases hkr : k < rs.length
    · rw [List.getElem?_append_left hkr] at hk
      obtain ⟨a1, a2, a3⟩ := p5 k r xs' hk hxk
      exact ⟨a1, by rw [upd_ne a3]; exact e4 _ _ a2, a3⟩
    · rw [List.getElem?_append_right (by omega)] at hk
      have hk0 : k - rs.length = 0 := by
        have := (List.getElem?_eq_some_iff.mp hk).1
        rw [List.length_singleton] at this
        omega
      rw [hk0] at hk
      cases (Option.some.inj hk : q = r)
      have hki : k = i := by omega
      subst hki
      cases (Option.some.inj (hx.symm.trans hxk) : xs = xs')
      have hqD : q ≠ Dl := fun z => by
        subst z
        rw [hq] at p4
        cases p4
      exact ⟨fresh_back p2 hq, by rw [upd_ne hqD]; exact h4, hqD⟩
theorem ell_lcR1 {ta : TA} {j : Nat} {vs : List Nat} {n : Nat} {xss : List (List V)} (h : EvA ta σ H [.int (n : Int)]) (hn : n ≤ 40000) (hl : xss.length = n) (hw : ∀ x, wipe ((wipe σ vs).set j (some x)) vs = wipe σ vs)
    (he : ∀ (i : Nat) (xs : List V) H1, Ex H H1 → i < n → xss[i]? = some xs → EvL te ((wipe σ vs).set j (some (.int (i : Int)))) H1 xs) :
    EvLL (tLc (iRng1 ta) (gName j) tYes te vs) σ H xss := fun H0 e Q q => h H0 e _ fun H1 e1 => ⟨(n : Int), rfl, by omega, by omega, fun Dl hD => by
  rw [Int.toNat_natCast]
  refine lc_range (lo := 0) (n := n) (LLw H1 xss Dl) ⟨hD, Ex.new hD, [], rfl, upd_same, fun k r xs hk => by simp at hk⟩ (fun i H' hi p => ?_) (fun H' p => ?_)
  · have e0 : (0 : Int) + (i : Int) = (i : Int) := Int.zero_add _
    show wipe ((wipe σ vs).set j (some (.int ((0 : Int) + (i : Int))))) vs = wipe σ vs ∧ tYes ((wipe σ vs).set j (some (.int ((0 : Int) + (i : Int))))) H' fun b H3 => if b = true then te ((wipe σ vs).set j (some (.int ((0 : Int) + (i : Int))))) H3 fun y H4 => ∃ acc, H4 Dl = some (.lst acc) ∧ acc.length < sizeLine ∧ LLw H1 xss Dl (i + 1) (upd H4 Dl (.lst (acc ++ [y]))) else LLw H1 xss Dl (i + 1) H3
    rw [e0]
    have hx : xss[i]? = some xss[i] := List.getElem?_eq_getElem (by omega)
    exact ⟨hw _, llw_turn p (by omega) hx (he i _ H1 (e.trans e1) hi hx)⟩
  · obtain ⟨p1, p2, rs, p3, p4, p5⟩ := p
    exact q Dl rs H' (fresh_back e1 p1) (e1.trans p2) p4 (by omega) fun i r xs hr hx => ⟨fresh_back e1 (p5 i r xs hr hx).1, (p5 i r xs hr hx).2.1⟩⟩
/-- list(range(lo, n)) -/
theorem el_listR1 {n : Nat} (h : Ev ta σ H (.int (n : Int))) (hn : n ≤ 100000) : EvL (tLstRg (tRg1 ta)) σ H (rgV 0 (n : Int)) := fun H1 e Q q =>
  h H1 e _ fun H2 e2 => ⟨(n : Int), rfl, RgOk.of_le (by omega) (by omega) (by omega) (by omega), fun l hl => q l _ (fresh_back e2 hl) (e2.trans (Ex.new hl)) upd_same⟩
theorem el_listR2 {lo n : Nat} (h : Ev ta σ H (.int (lo : Int))) (h2 : Ev tb σ H (.int (n : Int))) (hn : n ≤ 100000) (hlo : lo ≤ 100000) : EvL (tLstRg (tRg2 ta tb)) σ H (rgV (lo : Int) (n : Int)) := fun H1 e Q q =>
  h H1 e _ fun H2 e2 => h2 H2 (e.trans e2) _ fun H3 e3 => ⟨(lo : Int), (n : Int), rfl, rfl, RgOk.of_le (by omega) (by omega) (by omega) (by omega), fun l hl => q l _ (fresh_back (e2.trans e3) hl) ((e2.trans e3).trans (Ex.new hl)) upd_same⟩
/-- sorted(..) of a list whose order is known -/
theorem el_sorted {a : Addr} {ns ts : List Int} (h : Ev ta σ H (.ref a)) (hx : SqL K H a (ns.map V.int)) (hp : ts.Perm ns) (hs : ts.Pairwise (· ≤ ·)) : EvL (tCB (rSortedI K) (tCons ta tNil)) σ H (ts.map V.int) := fun H1 e Q q =>
  h H1 e _ fun H2 e2 => ⟨a, ns, rfl, ex_l (e.trans e2) hx, fun ns' p p1 p2 hp' => by
    have : ns' = ts := PySem.W.ksm_same (p1.trans hp.symm) p2 hs
    subst this
    exact q p _ (fresh_back e2 hp') (e2.trans (Ex.new hp')) upd_same⟩
/-- what isinstance(.., int) and the rest of is_integer say of a value -/
inductive IntB (K : PySem.W.Frag) (H : Hp) : V → Bool → Prop
  | int (i : Int) : IntB K H (.int i) (decide (i.natAbs < 10 ^ 60))
  | bl (b : Bool) : IntB K H (.bl b) false
  | other {v : V} (n : String) (h : TyX K H v (.type n)) (hk : PySem.W.kitOne K (.type n) (.type "int") = some false) : IntB K H v false
theorem IntB.ex {v : V} {b : Bool} (e : Ex H H') (h : IntB K H v b) : IntB K H' v b := by
  cases h with
  | int i => exact .int i
  | bl b => exact .bl b
  | other n h hk => exact .other n (tyx_ex e h) hk
end
end Own
/-! own words that the laws share -/
namespace Own
open PySem PySem.Spec PyProof.Rows L2 Evl
theorem mapN (xs : List Nat) : xs.map N_ = (xs.map Int.ofNat).map V.int := by
  rw [List.map_map]
  rfl
theorem sumN : ∀ (xs : List Nat), (xs.map Int.ofNat).sum = ((xs.sum : Nat) : Int)
  | [] => rfl
  | x :: r => by
    rw [List.map_cons, List.sum_cons, List.sum_cons, sumN r]
    show (x : Int) + _ = _
    omega
theorem divW {x : Nat} {b : Nat} (h0 : 0 < b) (hb : b ≤ 1000) : CDivW (x : Int) (b : Int) := wide_div (b := 10) (by omega) (by show (Int.natAbs (b : Int)) < 1024; omega) (by decide) (by decide)
theorem int_div (x b : Nat) : (x : Int) / (b : Int) = ((x / b : Nat) : Int) := rfl
theorem int_mod (x b : Nat) : (x : Int) % (b : Int) = ((x % b : Nat) : Int) := rfl
def Bs (b : Nat) : Prop := 2 ≤ b ∧ b ≤ 1000
abbrev Gt (n : Nat) : Prop := n < 2 ^ 400
theorem dec_int {x y : Nat} : decide (V.int (x : Int) = V.int (y : Int)) = decide (x = y) := by
  by_cases h : x = y
  · subst h
    rw [decide_eq_true rfl, decide_eq_true rfl]
  · rw [decide_eq_false h, decide_eq_false (fun z => h (by have := V.int.inj z; omega))]
theorem minmax (M : Nat) (hM : 1 ≤ M ∧ M ≤ 60) (L : Nat) : ∃ n : Nat, n ≤ 100 ∧ (if (if (L : Int) < (M : Int) then (L : Int) else (M : Int)) > 1 then (if (L : Int) < (M : Int) then (L : Int) else (M : Int)) else 1) = (n : Int) := by
  have hz : ∀ z : Int, 0 ≤ z → z ≤ 60 → ∃ n : Nat, n ≤ 100 ∧ (if z > 1 then z else 1) = (n : Int) := fun z h0 h6 => by
    by_cases h : z > 1
    · exact ⟨z.toNat, by omega, by rw [if_pos h]; omega⟩
    · exact ⟨1, by omega, by rw [if_neg h]; rfl⟩
  refine hz _ ?_ ?_
  · split <;> omega
  · split <;> omega
theorem exd_lf {K : PySem.W.Frag} {H H' : Hp} {p a : Addr} {xs : List V} (n : H p = none) (e : Exd p H H') (h : SqL K H a xs) : SqL K H' a xs := by
  rcases h with (h | ⟨o, h⟩) | h
  · exact .inl (.inl (e a _ (ne_of_none h n) h))
  · exact .inl (.inr ⟨o, e a _ (ne_of_none h n) h⟩)
  · exact .inr h
theorem rep_zero (c : Nat) : (List.replicate c [V.int 0]).flatten = (List.replicate c 0).map N_ := by
  induction c with
  | zero => rfl
  | succ c ih =>
    rw [List.replicate_succ, List.flatten_cons, ih, List.replicate_succ, List.map_cons]
    rfl
theorem od_drop {b : Nat} {xs : List Nat} {i d : Nat} (hi : i < xs.length) (hd : xs.reverse[i]? = some d) : od b (xs.drop (xs.length - (i + 1))) = d + b * od b (xs.drop (xs.length - i)) := by
  have h1 : xs.reverse[i]? = xs[xs.length - 1 - i]? := List.getElem?_reverse hi
  rw [h1] at hd
  have h2 : xs.length - (i + 1) = xs.length - 1 - i := by omega
  have h3 : xs.length - 1 - i < xs.length := by omega
  rw [h2, List.drop_eq_getElem_cons h3, od]
  rw [List.getElem?_eq_getElem h3] at hd
  rw [Option.some.inj hd, show xs.length - 1 - i + 1 = xs.length - i by omega]
theorem cutTake (xs : List V) (f : Nat) : cutV xs none (some (f : Int)) = xs.take f := by
  unfold cutV
  rw [HT.sIx_none, show HT.sIx xs.length xs.length (some (f : Int)) = min f xs.length from HT.sIx_nat xs.length xs.length f, List.drop_zero, Nat.sub_zero]
  by_cases h : f ≤ xs.length
  · rw [Nat.min_eq_left h]
  · rw [Nat.min_eq_right (by omega), List.take_length, List.take_of_length_le (by omega)]
section
variable {K : PySem.W.Frag} {σ : L2.St} {H H' : Hp} {ta tb te : TE}
theorem el_revN {xs : List V} (h : EvL ta σ H xs) : EvL (tRevL K ta) σ H xs.reverse := fun H1 e Q q =>
  h H1 e _ fun a H2 na e2 h2 => ⟨a, xs, rfl, sq_of h2, fun l hl => q l _ (fresh_back e2 hl) (e2.trans (Ex.new hl)) upd_same⟩
end
theorem small_k {n : Nat} (h : n ≤ 1000) : n < 2 ^ 1000 := Nat.lt_of_le_of_lt h (Nat.lt_of_lt_of_le (show 1000 < 2 ^ 10 by decide) (Nat.pow_le_pow_right (by decide) (by decide : 10 ≤ 1000)))
end Own
namespace Own
open PySem PySem.Spec PyProof.Rows L2 Evl

def topS (i : Nat) : Stmt := PySem.Challenge.pw_monicsums_k00_whole_fields_by_their_tabl.main.body.getD i (.Pass ⟨0, 0, 0, 0⟩)
abbrev s_is_integer : Stmt := topS 7
abbrev s_is_between : Stmt := topS 8
abbrev s_is_field : Stmt := topS 17
abbrev s_check_field : Stmt := topS 18
abbrev s_prime_of : Stmt := topS 19
abbrev s_power_of : Stmt := topS 20
abbrev s_is_element : Stmt := topS 21
abbrev s_check_element : Stmt := topS 22
abbrev s_check_other_than_zero : Stmt := topS 23
abbrev s_element_sum : Stmt := topS 24
abbrev s_element_less : Stmt := topS 25
abbrev s_element_product : Stmt := topS 26
abbrev s_element_inverse : Stmt := topS 27
abbrev s_repeated_product : Stmt := topS 28
abbrev s_element_root : Stmt := topS 29
abbrev s_root_of : Stmt := topS 30
abbrev s__law_dice : Stmt := topS 32
abbrev s__law_roll : Stmt := topS 33
abbrev s__law_raised : Stmt := topS 34
abbrev s__law_one_of : Stmt := topS 35
abbrev s__law_digits : Stmt := topS 36
abbrev s__law_element_product : Stmt := topS 37
abbrev s__law_element_sum : Stmt := topS 38
abbrev s__law_field : Stmt := topS 39
abbrev s__law_tables_right : Stmt := topS 40
abbrev s__law_roots_right : Stmt := topS 41
abbrev s__law_triple_right : Stmt := topS 42
abbrev s__law_judged_right : Stmt := topS 43
abbrev s__law_right : Stmt := topS 44
abbrev s_law : Stmt := topS 45
theorem sc_is_integer : FnScope ["value"] ["value"] (defScope s_is_integer) := ⟨rfl, rfl, rfl, by decide +kernel, rfl, by decide +kernel, by decide +kernel⟩
theorem sc_is_between : FnScope ["value", "low", "high"] ["value", "low", "high"] (defScope s_is_between) := ⟨rfl, rfl, rfl, by decide +kernel, rfl, by decide +kernel, by decide +kernel⟩
theorem sc_is_field : FnScope ["value"] ["value"] (defScope s_is_field) := ⟨rfl, rfl, rfl, by decide +kernel, rfl, by decide +kernel, by decide +kernel⟩
theorem sc_check_field : FnScope ["q"] ["q"] (defScope s_check_field) := ⟨rfl, rfl, rfl, by decide +kernel, rfl, by decide +kernel, by decide +kernel⟩
theorem sc_prime_of : FnScope ["q"] ["q"] (defScope s_prime_of) := ⟨rfl, rfl, rfl, by decide +kernel, rfl, by decide +kernel, by decide +kernel⟩
theorem sc_power_of : FnScope ["q"] ["q"] (defScope s_power_of) := ⟨rfl, rfl, rfl, by decide +kernel, rfl, by decide +kernel, by decide +kernel⟩
theorem sc_is_element : FnScope ["q", "value"] ["q", "value"] (defScope s_is_element) := ⟨rfl, rfl, rfl, by decide +kernel, rfl, by decide +kernel, by decide +kernel⟩
theorem sc_check_element : FnScope ["q", "value"] ["q", "value"] (defScope s_check_element) := ⟨rfl, rfl, rfl, by decide +kernel, rfl, by decide +kernel, by decide +kernel⟩
theorem sc_check_other_than_zero : FnScope ["element"] ["element"] (defScope s_check_other_than_zero) := ⟨rfl, rfl, rfl, by decide +kernel, rfl, by decide +kernel, by decide +kernel⟩
theorem sc_element_sum : FnScope ["q", "one", "other"] ["q", "one", "other"] (defScope s_element_sum) := ⟨rfl, rfl, rfl, by decide +kernel, rfl, by decide +kernel, by decide +kernel⟩
theorem sc_element_less : FnScope ["q", "one", "other"] ["q", "one", "other"] (defScope s_element_less) := ⟨rfl, rfl, rfl, by decide +kernel, rfl, by decide +kernel, by decide +kernel⟩
theorem sc_element_product : FnScope ["q", "one", "other"] ["q", "one", "other"] (defScope s_element_product) := ⟨rfl, rfl, rfl, by decide +kernel, rfl, by decide +kernel, by decide +kernel⟩
theorem sc_element_inverse : FnScope ["q", "element"] ["q", "element"] (defScope s_element_inverse) := ⟨rfl, rfl, rfl, by decide +kernel, rfl, by decide +kernel, by decide +kernel⟩
theorem sc_repeated_product : FnScope ["q", "element", "k", "made", "_"] ["q", "element", "k"] (defScope s_repeated_product) := ⟨rfl, rfl, rfl, by decide +kernel, rfl, by decide +kernel, by decide +kernel⟩
theorem sc_element_root : FnScope ["q", "element"] ["q", "element"] (defScope s_element_root) := ⟨rfl, rfl, rfl, by decide +kernel, rfl, by decide +kernel, by decide +kernel⟩
theorem sc_root_of : FnScope ["q", "element"] ["q", "element"] (defScope s_root_of) := ⟨rfl, rfl, rfl, by decide +kernel, rfl, by decide +kernel, by decide +kernel⟩
theorem sc__law_dice : FnScope ["_law_script", "_law_at", "_law_cell", "_law_great", "_law_left", "_law_mixed"] ["_law_script", "_law_at"] (defScope s__law_dice) := ⟨rfl, rfl, rfl, by decide +kernel, rfl, by decide +kernel, by decide +kernel⟩
theorem sc__law_roll : FnScope ["_law_dice_here", "_law_total", "_law_size", "_law_drawn", "_law_one", "_law_two"] ["_law_dice_here", "_law_total"] (defScope s__law_roll) := ⟨rfl, rfl, rfl, by decide +kernel, rfl, by decide +kernel, by decide +kernel⟩
theorem sc__law_raised : FnScope ["_law_base", "_law_count", "_law_found", "_law_turn"] ["_law_base", "_law_count"] (defScope s__law_raised) := ⟨rfl, rfl, rfl, by decide +kernel, rfl, by decide +kernel, by decide +kernel⟩
theorem sc__law_one_of : FnScope ["_law_dice_here", "_law_items"] ["_law_dice_here", "_law_items"] (defScope s__law_one_of) := ⟨rfl, rfl, rfl, by decide +kernel, rfl, by decide +kernel, by decide +kernel⟩
theorem sc__law_digits : FnScope ["_law_base", "_law_number", "_law_found", "_law_left"] ["_law_base", "_law_number"] (defScope s__law_digits) := ⟨rfl, rfl, rfl, by decide +kernel, rfl, by decide +kernel, by decide +kernel⟩
theorem sc__law_element_product : FnScope ["_law_p", "_law_f", "_law_one", "_law_other", "_law_found", "_law_i", "_law_left", "_law_j", "_law_right_here", "_law_value", "_law_digit"] ["_law_p", "_law_f", "_law_one", "_law_other"] (defScope s__law_element_product) := ⟨rfl, rfl, rfl, by decide +kernel, rfl, by decide +kernel, by decide +kernel⟩
theorem sc__law_element_sum : FnScope ["_law_p", "_law_f", "_law_one", "_law_other", "_law_found", "_law_place", "_law_turn"] ["_law_p", "_law_f", "_law_one", "_law_other"] (defScope s__law_element_sum) := ⟨rfl, rfl, rfl, by decide +kernel, rfl, by decide +kernel, by decide +kernel⟩
theorem sc__law_field : FnScope ["_law_q", "_law_p", "_law_f", "_law_plus", "_law_other", "_law_one", "_law_mul", "_law_row"] ["_law_q"] (defScope s__law_field) := ⟨rfl, rfl, rfl, by decide +kernel, rfl, by decide +kernel, by decide +kernel⟩
theorem sc__law_tables_right : FnScope ["_law_field_here", "_law_q", "_law_one", "_law_row", "_law_other", "_law_more"] ["_law_field_here"] (defScope s__law_tables_right) := ⟨rfl, rfl, rfl, by decide +kernel, rfl, by decide +kernel, by decide +kernel⟩
theorem sc__law_roots_right : FnScope ["_law_field_here", "_law_q", "_law_one", "_law_root", "_law_whole", "_law_turn"] ["_law_field_here"] (defScope s__law_roots_right) := ⟨rfl, rfl, rfl, by decide +kernel, rfl, by decide +kernel, by decide +kernel⟩
theorem sc__law_triple_right : FnScope ["_law_dice_here", "_law_q", "_law_a", "_law_b", "_law_c", "_law_both"] ["_law_dice_here", "_law_q"] (defScope s__law_triple_right) := ⟨rfl, rfl, rfl, by decide +kernel, rfl, by decide +kernel, by decide +kernel⟩
theorem sc__law_judged_right : FnScope ["_law_dice_here", "_law_q", "_law_one", "_law_odd"] ["_law_dice_here", "_law_q"] (defScope s__law_judged_right) := ⟨rfl, rfl, rfl, by decide +kernel, rfl, by decide +kernel, by decide +kernel⟩
theorem sc__law_right : FnScope ["_law_dice_here", "_law_q", "_law_field_here"] ["_law_dice_here"] (defScope s__law_right) := ⟨rfl, rfl, rfl, by decide +kernel, rfl, by decide +kernel, by decide +kernel⟩
theorem sc_law : FnScope ["_law_script", "_law_at"] ["_law_script"] (defScope s_law) := ⟨rfl, rfl, rfl, by decide +kernel, rfl, by decide +kernel, by decide +kernel⟩
def W_PRIMES : List (Int × Int) := [(2, 2), (3, 3), (4, 2), (5, 5), (7, 7), (8, 2), (9, 3)]
def W_POWERS : List (Int × Int) := [(2, 1), (3, 1), (4, 2), (5, 1), (7, 1), (8, 3), (9, 2)]
def W_SUMS : List (Int × List (List Int)) := [(2, [[0, 1], [1, 0]]), (3, [[0, 1, 2], [1, 2, 0], [2, 0, 1]]), (4, [[0, 1, 2, 3], [1, 0, 3, 2], [2, 3, 0, 1], [3, 2, 1, 0]]), (5, [[0, 1, 2, 3, 4], [1, 2, 3, 4, 0], [2, 3, 4, 0, 1], [3, 4, 0, 1, 2], [4, 0, 1, 2, 3]]), (7, [[0, 1, 2, 3, 4, 5, 6], [1, 2, 3, 4, 5, 6, 0], [2, 3, 4, 5, 6, 0, 1], [3, 4, 5, 6, 0, 1, 2], [4, 5, 6, 0, 1, 2, 3], [5, 6, 0, 1, 2, 3, 4], [6, 0, 1, 2, 3, 4, 5]]), (8, [[0, 1, 2, 3, 4, 5, 6, 7], [1, 0, 3, 2, 5, 4, 7, 6], [2, 3, 0, 1, 6, 7, 4, 5], [3, 2, 1, 0, 7, 6, 5, 4], [4, 5, 6, 7, 0, 1, 2, 3], [5, 4, 7, 6, 1, 0, 3, 2], [6, 7, 4, 5, 2, 3, 0, 1], [7, 6, 5, 4, 3, 2, 1, 0]]), (9, [[0, 1, 2, 3, 4, 5, 6, 7, 8], [1, 2, 0, 4, 5, 3, 7, 8, 6], [2, 0, 1, 5, 3, 4, 8, 6, 7], [3, 4, 5, 6, 7, 8, 0, 1, 2], [4, 5, 3, 7, 8, 6, 1, 2, 0], [5, 3, 4, 8, 6, 7, 2, 0, 1], [6, 7, 8, 0, 1, 2, 3, 4, 5], [7, 8, 6, 1, 2, 0, 4, 5, 3], [8, 6, 7, 2, 0, 1, 5, 3, 4]])]
def W_PRODUCTS : List (Int × List (List Int)) := [(2, [[0, 0], [0, 1]]), (3, [[0, 0, 0], [0, 1, 2], [0, 2, 1]]), (4, [[0, 0, 0, 0], [0, 1, 2, 3], [0, 2, 3, 1], [0, 3, 1, 2]]), (5, [[0, 0, 0, 0, 0], [0, 1, 2, 3, 4], [0, 2, 4, 1, 3], [0, 3, 1, 4, 2], [0, 4, 3, 2, 1]]), (7, [[0, 0, 0, 0, 0, 0, 0], [0, 1, 2, 3, 4, 5, 6], [0, 2, 4, 6, 1, 3, 5], [0, 3, 6, 2, 5, 1, 4], [0, 4, 1, 5, 2, 6, 3], [0, 5, 3, 1, 6, 4, 2], [0, 6, 5, 4, 3, 2, 1]]), (8, [[0, 0, 0, 0, 0, 0, 0, 0], [0, 1, 2, 3, 4, 5, 6, 7], [0, 2, 4, 6, 3, 1, 7, 5], [0, 3, 6, 5, 7, 4, 1, 2], [0, 4, 3, 7, 6, 2, 5, 1], [0, 5, 1, 4, 2, 7, 3, 6], [0, 6, 7, 1, 5, 3, 2, 4], [0, 7, 5, 2, 1, 6, 4, 3]]), (9, [[0, 0, 0, 0, 0, 0, 0, 0, 0], [0, 1, 2, 3, 4, 5, 6, 7, 8], [0, 2, 1, 6, 8, 7, 3, 5, 4], [0, 3, 6, 4, 7, 1, 8, 2, 5], [0, 4, 8, 7, 2, 3, 5, 6, 1], [0, 5, 7, 1, 3, 8, 2, 4, 6], [0, 6, 3, 8, 5, 2, 4, 1, 7], [0, 7, 5, 2, 6, 4, 1, 8, 3], [0, 8, 4, 5, 1, 6, 7, 3, 2]])]
def W_OPPOSITES : List (Int × List Int) := [(2, [0, 1]), (3, [0, 2, 1]), (4, [0, 1, 2, 3]), (5, [0, 4, 3, 2, 1]), (7, [0, 6, 5, 4, 3, 2, 1]), (8, [0, 1, 2, 3, 4, 5, 6, 7]), (9, [0, 2, 1, 6, 8, 7, 3, 5, 4])]
def W_INVERSES : List (Int × List Int) := [(2, [0, 1]), (3, [0, 1, 2]), (4, [0, 1, 3, 2]), (5, [0, 1, 3, 2, 4]), (7, [0, 1, 4, 5, 2, 3, 6]), (8, [0, 1, 5, 6, 7, 2, 3, 4]), (9, [0, 1, 2, 5, 8, 3, 7, 6, 4])]
def W_FIELDS : List Int := [2, 3, 4, 5, 7, 8, 9]
structure Txt (K : PySem.W.Frag) (mg : Str → Option Value) where
  {a_is_integer : Addr}
  {d_is_integer : FuncData}
  F_is_integer : Fun K "is_integer" "is_integer" s_is_integer a_is_integer d_is_integer
  g_is_integer : mg "is_integer" = some (.ref a_is_integer)
  b_is_integer : Binds K d_is_integer ["value"] []
  {a_is_between : Addr}
  {d_is_between : FuncData}
  F_is_between : Fun K "is_between" "is_between" s_is_between a_is_between d_is_between
  g_is_between : mg "is_between" = some (.ref a_is_between)
  b_is_between : Binds K d_is_between ["value", "low", "high"] []
  {a_is_field : Addr}
  {d_is_field : FuncData}
  F_is_field : Fun K "is_field" "is_field" s_is_field a_is_field d_is_field
  g_is_field : mg "is_field" = some (.ref a_is_field)
  b_is_field : Binds K d_is_field ["value"] []
  {a_check_field : Addr}
  {d_check_field : FuncData}
  F_check_field : Fun K "check_field" "check_field" s_check_field a_check_field d_check_field
  g_check_field : mg "check_field" = some (.ref a_check_field)
  b_check_field : Binds K d_check_field ["q"] []
  {a_prime_of : Addr}
  {d_prime_of : FuncData}
  F_prime_of : Fun K "prime_of" "prime_of" s_prime_of a_prime_of d_prime_of
  g_prime_of : mg "prime_of" = some (.ref a_prime_of)
  b_prime_of : Binds K d_prime_of ["q"] []
  {a_power_of : Addr}
  {d_power_of : FuncData}
  F_power_of : Fun K "power_of" "power_of" s_power_of a_power_of d_power_of
  g_power_of : mg "power_of" = some (.ref a_power_of)
  b_power_of : Binds K d_power_of ["q"] []
  {a_is_element : Addr}
  {d_is_element : FuncData}
  F_is_element : Fun K "is_element" "is_element" s_is_element a_is_element d_is_element
  g_is_element : mg "is_element" = some (.ref a_is_element)
  b_is_element : Binds K d_is_element ["q", "value"] []
  {a_check_element : Addr}
  {d_check_element : FuncData}
  F_check_element : Fun K "check_element" "check_element" s_check_element a_check_element d_check_element
  g_check_element : mg "check_element" = some (.ref a_check_element)
  b_check_element : Binds K d_check_element ["q", "value"] []
  {a_check_other_than_zero : Addr}
  {d_check_other_than_zero : FuncData}
  F_check_other_than_zero : Fun K "check_other_than_zero" "check_other_than_zero" s_check_other_than_zero a_check_other_than_zero d_check_other_than_zero
  g_check_other_than_zero : mg "check_other_than_zero" = some (.ref a_check_other_than_zero)
  b_check_other_than_zero : Binds K d_check_other_than_zero ["element"] []
  {a_element_sum : Addr}
  {d_element_sum : FuncData}
  F_element_sum : Fun K "element_sum" "element_sum" s_element_sum a_element_sum d_element_sum
  g_element_sum : mg "element_sum" = some (.ref a_element_sum)
  b_element_sum : Binds K d_element_sum ["q", "one", "other"] []
  {a_element_less : Addr}
  {d_element_less : FuncData}
  F_element_less : Fun K "element_less" "element_less" s_element_less a_element_less d_element_less
  g_element_less : mg "element_less" = some (.ref a_element_less)
  b_element_less : Binds K d_element_less ["q", "one", "other"] []
  {a_element_product : Addr}
  {d_element_product : FuncData}
  F_element_product : Fun K "element_product" "element_product" s_element_product a_element_product d_element_product
  g_element_product : mg "element_product" = some (.ref a_element_product)
  b_element_product : Binds K d_element_product ["q", "one", "other"] []
  {a_element_inverse : Addr}
  {d_element_inverse : FuncData}
  F_element_inverse : Fun K "element_inverse" "element_inverse" s_element_inverse a_element_inverse d_element_inverse
  g_element_inverse : mg "element_inverse" = some (.ref a_element_inverse)
  b_element_inverse : Binds K d_element_inverse ["q", "element"] []
  {a_repeated_product : Addr}
  {d_repeated_product : FuncData}
  F_repeated_product : Fun K "repeated_product" "repeated_product" s_repeated_product a_repeated_product d_repeated_product
  g_repeated_product : mg "repeated_product" = some (.ref a_repeated_product)
  b_repeated_product : Binds K d_repeated_product ["q", "element", "k"] []
  {a_element_root : Addr}
  {d_element_root : FuncData}
  F_element_root : Fun K "element_root" "element_root" s_element_root a_element_root d_element_root
  g_element_root : mg "element_root" = some (.ref a_element_root)
  b_element_root : Binds K d_element_root ["q", "element"] []
  {a_root_of : Addr}
  {d_root_of : FuncData}
  F_root_of : Fun K "root_of" "root_of" s_root_of a_root_of d_root_of
  g_root_of : mg "root_of" = some (.ref a_root_of)
  b_root_of : Binds K d_root_of ["q", "element"] []
  {a__law_dice : Addr}
  {d__law_dice : FuncData}
  F__law_dice : Fun K "_law_dice" "_law_dice" s__law_dice a__law_dice d__law_dice
  g__law_dice : mg "_law_dice" = some (.ref a__law_dice)
  b__law_dice : Binds K d__law_dice ["_law_script", "_law_at"] []
  {a__law_roll : Addr}
  {d__law_roll : FuncData}
  F__law_roll : Fun K "_law_roll" "_law_roll" s__law_roll a__law_roll d__law_roll
  g__law_roll : mg "_law_roll" = some (.ref a__law_roll)
  b__law_roll : Binds K d__law_roll ["_law_dice_here", "_law_total"] []
  {a__law_raised : Addr}
  {d__law_raised : FuncData}
  F__law_raised : Fun K "_law_raised" "_law_raised" s__law_raised a__law_raised d__law_raised
  g__law_raised : mg "_law_raised" = some (.ref a__law_raised)
  b__law_raised : Binds K d__law_raised ["_law_base", "_law_count"] []
  {a__law_one_of : Addr}
  {d__law_one_of : FuncData}
  F__law_one_of : Fun K "_law_one_of" "_law_one_of" s__law_one_of a__law_one_of d__law_one_of
  g__law_one_of : mg "_law_one_of" = some (.ref a__law_one_of)
  b__law_one_of : Binds K d__law_one_of ["_law_dice_here", "_law_items"] []
  {a__law_digits : Addr}
  {d__law_digits : FuncData}
  F__law_digits : Fun K "_law_digits" "_law_digits" s__law_digits a__law_digits d__law_digits
  g__law_digits : mg "_law_digits" = some (.ref a__law_digits)
  b__law_digits : Binds K d__law_digits ["_law_base", "_law_number"] []
  {a__law_element_product : Addr}
  {d__law_element_product : FuncData}
  F__law_element_product : Fun K "_law_element_product" "_law_element_product" s__law_element_product a__law_element_product d__law_element_product
  g__law_element_product : mg "_law_element_product" = some (.ref a__law_element_product)
  b__law_element_product : Binds K d__law_element_product ["_law_p", "_law_f", "_law_one", "_law_other"] []
  {a__law_element_sum : Addr}
  {d__law_element_sum : FuncData}
  F__law_element_sum : Fun K "_law_element_sum" "_law_element_sum" s__law_element_sum a__law_element_sum d__law_element_sum
  g__law_element_sum : mg "_law_element_sum" = some (.ref a__law_element_sum)
  b__law_element_sum : Binds K d__law_element_sum ["_law_p", "_law_f", "_law_one", "_law_other"] []
  {a__law_field : Addr}
  {d__law_field : FuncData}
  F__law_field : Fun K "_law_field" "_law_field" s__law_field a__law_field d__law_field
  g__law_field : mg "_law_field" = some (.ref a__law_field)
  b__law_field : Binds K d__law_field ["_law_q"] []
  {a__law_tables_right : Addr}
  {d__law_tables_right : FuncData}
  F__law_tables_right : Fun K "_law_tables_right" "_law_tables_right" s__law_tables_right a__law_tables_right d__law_tables_right
  g__law_tables_right : mg "_law_tables_right" = some (.ref a__law_tables_right)
  b__law_tables_right : Binds K d__law_tables_right ["_law_field_here"] []
  {a__law_roots_right : Addr}
  {d__law_roots_right : FuncData}
  F__law_roots_right : Fun K "_law_roots_right" "_law_roots_right" s__law_roots_right a__law_roots_right d__law_roots_right
  g__law_roots_right : mg "_law_roots_right" = some (.ref a__law_roots_right)
  b__law_roots_right : Binds K d__law_roots_right ["_law_field_here"] []
  {a__law_triple_right : Addr}
  {d__law_triple_right : FuncData}
  F__law_triple_right : Fun K "_law_triple_right" "_law_triple_right" s__law_triple_right a__law_triple_right d__law_triple_right
  g__law_triple_right : mg "_law_triple_right" = some (.ref a__law_triple_right)
  b__law_triple_right : Binds K d__law_triple_right ["_law_dice_here", "_law_q"] []
  {a__law_judged_right : Addr}
  {d__law_judged_right : FuncData}
  F__law_judged_right : Fun K "_law_judged_right" "_law_judged_right" s__law_judged_right a__law_judged_right d__law_judged_right
  g__law_judged_right : mg "_law_judged_right" = some (.ref a__law_judged_right)
  b__law_judged_right : Binds K d__law_judged_right ["_law_dice_here", "_law_q"] []
  {a__law_right : Addr}
  {d__law_right : FuncData}
  F__law_right : Fun K "_law_right" "_law_right" s__law_right a__law_right d__law_right
  g__law_right : mg "_law_right" = some (.ref a__law_right)
  b__law_right : Binds K d__law_right ["_law_dice_here"] []
  {a_law : Addr}
  {d_law : FuncData}
  F_law : Fun K "law" "law" s_law a_law d_law
  g_law : mg "law" = some (.ref a_law)
  b_law : Binds K d_law ["_law_script"] []
  z_isinstance : mg "isinstance" = none
  z_int : mg "int" = none
  z_bool : mg "bool" = none
  z_range : mg "range" = none
  z_len : mg "len" = none
  z_abs : mg "abs" = none
  z_enumerate : mg "enumerate" = none
  z_sorted : mg "sorted" = none
  z_list : mg "list" = none
  z_max : mg "max" = none
  z_min : mg "min" = none
  {t_TOO_LONG : Tok}
  c_TOO_LONG : mg "TOO_LONG" = some (.int 1000000000000000000000000000000000000000000000000000000000000 t_TOO_LONG)
  {a_PRIMES : Addr}
  g_PRIMES : mg "PRIMES" = some (.ref a_PRIMES)
  w_PRIMES : tab0 K a_PRIMES = some W_PRIMES
  {a_POWERS : Addr}
  g_POWERS : mg "POWERS" = some (.ref a_POWERS)
  w_POWERS : tab0 K a_POWERS = some W_POWERS
  {a_SUMS : Addr}
  g_SUMS : mg "SUMS" = some (.ref a_SUMS)
  w_SUMS : tab2 K a_SUMS = some W_SUMS
  {a_PRODUCTS : Addr}
  g_PRODUCTS : mg "PRODUCTS" = some (.ref a_PRODUCTS)
  w_PRODUCTS : tab2 K a_PRODUCTS = some W_PRODUCTS
  {a_OPPOSITES : Addr}
  g_OPPOSITES : mg "OPPOSITES" = some (.ref a_OPPOSITES)
  w_OPPOSITES : tab1 K a_OPPOSITES = some W_OPPOSITES
  {a_INVERSES : Addr}
  g_INVERSES : mg "INVERSES" = some (.ref a_INVERSES)
  w_INVERSES : tab1 K a_INVERSES = some W_INVERSES
  {a_FIELDS : Addr}
  g_FIELDS : mg "FIELDS" = some (.ref a_FIELDS)
  w_FIELDS : asRow K (.ref a_FIELDS) = some W_FIELDS
end Own
namespace Own
open PySem PySem.Spec PyProof.Rows L2 Evl
/-! the fields' tables as functions -/
def FQ : List Nat := [2, 3, 4, 5, 7, 8, 9]
def Fq (q : Nat) : Prop := q ∈ FQ
theorem Fq.b {q : Nat} (h : Fq q) : 2 ≤ q ∧ q ≤ 9 := by
  unfold Fq FQ at h
  simp only [List.mem_cons, List.not_mem_nil, or_false] at h
  omega
def g0 (t : List (Int × Int)) (q : Nat) : Option Int := t.lookup (q : Int)
def g1 (t : List (Int × List Int)) (q a : Nat) : Option Int := (t.lookup (q : Int)).bind fun w => w[a]?
def g2 (t : List (Int × List (List Int))) (q a b : Nat) : Option Int := (t.lookup (q : Int)).bind fun w => w[a]?.bind fun xs => xs[b]?
section
variable {K : PySem.W.Frag} {σ : L2.St} {H : Hp} {ta tb tc : TE}
theorem ev_t1 {d : Addr} {t : List (Int × List Int)} {q a : Nat} {x : Int} (h : tab1 K d = some t) (hx : g1 t q a = some x) (ha : Ev ta σ H (N_ q)) (hb : Ev tb σ H (N_ a)) : Ev (tOp (rIxT K) (tOp (rIxW K) (tC (.ref d)) ta) tb) σ H (.int x) := by
  obtain ⟨w, h1, h2⟩ := Option.bind_eq_some_iff.mp hx
  exact ev_tab1 h h1 h2 ha hb
theorem ev_t2 {d : Addr} {t : List (Int × List (List Int))} {q a b : Nat} {x : Int} (h : tab2 K d = some t) (hx : g2 t q a b = some x) (ha : Ev ta σ H (N_ q)) (hb : Ev tb σ H (N_ a)) (hc : Ev tc σ H (N_ b)) : Ev (tOp (rIxT K) (tOp (rIxT K) (tOp (rIxW K) (tC (.ref d)) ta) tb) tc) σ H (.int x) := by
  obtain ⟨w, h1, h2⟩ := Option.bind_eq_some_iff.mp hx
  obtain ⟨xs, h3, h4⟩ := Option.bind_eq_some_iff.mp h2
  exact ev_tab2 h h1 h3 h4 ha hb hc
end
def sE (q a b : Nat) : Nat := ((g2 W_SUMS q a b).getD 0).toNat
def pE (q a b : Nat) : Nat := ((g2 W_PRODUCTS q a b).getD 0).toNat
def oE (q a : Nat) : Nat := ((g1 W_OPPOSITES q a).getD 0).toNat
def iE (q a : Nat) : Nat := ((g1 W_INVERSES q a).getD 0).toNat
def prE (q : Nat) : Nat := ((g0 W_PRIMES q).getD 0).toNat
def poE (q : Nat) : Nat := ((g0 W_POWERS q).getD 0).toNat
def chkAll (f : Nat → Bool) : Bool := FQ.all f
theorem chk_get {f : Nat → Bool} (h : chkAll f = true) {q : Nat} (hq : Fq q) : f q = true := List.all_eq_true.mp h q hq
def all1 (q : Nat) (f : Nat → Bool) : Bool := (List.range q).all f
theorem all1_get {q : Nat} {f : Nat → Bool} (h : all1 q f = true) {a : Nat} (ha : a < q) : f a = true := List.all_eq_true.mp h a (List.mem_range.mpr ha)
theorem chk_tabs : chkAll (fun q => decide (g0 W_PRIMES q = some ((prE q : Nat) : Int)) && decide (g0 W_POWERS q = some ((poE q : Nat) : Int)) && decide (2 ≤ prE q) && decide (prE q ≤ 7) && decide (1 ≤ poE q) && decide (poE q ≤ 3) && all1 q fun a => decide (g1 W_OPPOSITES q a = some ((oE q a : Nat) : Int)) && decide (oE q a < q) && decide (g1 W_INVERSES q a = some ((iE q a : Nat) : Int)) && decide (iE q a < q) && all1 q fun b =>
  decide (g2 W_SUMS q a b = some ((sE q a b : Nat) : Int)) && decide (sE q a b < q) && decide (g2 W_PRODUCTS q a b = some ((pE q a b : Nat) : Int)) && decide (pE q a b < q)) = true := by decide +kernel
structure T0 (q : Nat) : Prop where
  pr : g0 W_PRIMES q = some ((prE q : Nat) : Int)
  po : g0 W_POWERS q = some ((poE q : Nat) : Int)
  p2 : 2 ≤ prE q
  p7 : prE q ≤ 7
  f1 : 1 ≤ poE q
  f3 : poE q ≤ 3
structure T1 (q a : Nat) : Prop where
  op : g1 W_OPPOSITES q a = some ((oE q a : Nat) : Int)
  oL : oE q a < q
  iv : g1 W_INVERSES q a = some ((iE q a : Nat) : Int)
  iL : iE q a < q
structure T2 (q a b : Nat) : Prop where
  su : g2 W_SUMS q a b = some ((sE q a b : Nat) : Int)
  sL : sE q a b < q
  pd : g2 W_PRODUCTS q a b = some ((pE q a b : Nat) : Int)
  pL : pE q a b < q
theorem t0_of {q : Nat} (hq : Fq q) : T0 q := by
  have h := chk_get chk_tabs hq
  simp only [Bool.and_eq_true, decide_eq_true_eq] at h
  exact ⟨h.1.1.1.1.1.1, h.1.1.1.1.1.2, h.1.1.1.1.2, h.1.1.1.2, h.1.1.2, h.1.2⟩
theorem t1_of {q a : Nat} (hq : Fq q) (ha : a < q) : T1 q a := by
  have h := chk_get chk_tabs hq
  rw [Bool.and_eq_true] at h
  have h := all1_get h.2 ha
  simp only [Bool.and_eq_true, decide_eq_true_eq] at h
  exact ⟨h.1.1.1.1, h.1.1.1.2, h.1.1.2, h.1.2⟩
theorem t2_of {q a b : Nat} (hq : Fq q) (ha : a < q) (hb : b < q) : T2 q a b := by
  have h := chk_get chk_tabs hq
  rw [Bool.and_eq_true] at h
  have h := all1_get h.2 ha
  rw [Bool.and_eq_true] at h
  have h := all1_get h.2 hb
  simp only [Bool.and_eq_true, decide_eq_true_eq] at h
  exact ⟨h.1.1.1, h.1.1.2, h.1.2, h.2⟩
theorem tup_of {K : PySem.W.Frag} {a : Addr} {ns : List Int} (h : asRow K (.ref a) = some ns) (H : Hp) : SqT K H a (ns.map V.int) := by
  obtain ⟨b, e, hs⟩ := asRow_eq h
  cases e
  exact hs H

def sp_is_integer (K : PySem.W.Frag) : Sp := fun vs H Q _ => ∃ (v : V) (b : Bool), vs = [v] ∧ IntB K H v b ∧ RetV (.bl b) H Q
theorem sv_is_integer {K : PySem.W.Frag} {H : Hp} {v : V} {b : Bool} (h : IntB K H v b) : SpV (sp_is_integer K) [v] H (.bl b) := fun H1 e Q q E => ⟨v, b, rfl, h.ex e, q⟩
theorem int_abs (x : Int) : (decide (-1000000000000000000000000000000000000000000000000000000000000 < x) && decide (x < 1000000000000000000000000000000000000000000000000000000000000)) = decide (x.natAbs < 10 ^ 60) := by
  rw [← Bool.decide_and]
  exact decide_eq_decide.mpr (by omega)

theorem ok_is_integer {P : Program} {w : World} {K : PySem.W.Frag} {mg : Str → Option Value} {base : Heap} (T : Txt K mg) : FnOk P w K mg base CX0 1 T.a_is_integer T.d_is_integer ["value"] (sp_is_integer K) := by
  refine T.F_is_integer.ok sc_is_integer (fun vs H Q E h => ?_) (fun cdv A outer s H vs Q E hr h => ?_)
  · obtain ⟨v, b, rfl, _⟩ := h
    rfl
  · obtain ⟨v, b, rfl, hv, k⟩ := h
    refine ⟨_, (pss_one (ps_ret (pe_and (pe_callB call_isi (by rfl) T.z_isinstance (by decide +kernel) (pa_cons (pv 0) (pa_cons (pe_bltn (v := .ty "int") (u := .type "int") (by rfl) T.z_int (by decide +kernel) rfl) pa_nil))) (pe_and (pe_not (pe_callB call_isi (by rfl) T.z_isinstance (by decide +kernel) (pa_cons (pv 0) (pa_cons (pe_bltn (v := .ty "bool") (u := .type "bool") (by rfl) T.z_bool (by decide +kernel) rfl) pa_nil)))) (pe_one (pe_chain op_lt op_lt (pe_un un_neg (pe_glob (v := .int 1000000000000000000000000000000000000000000000000000000000000) (by rfl) T.c_TOO_LONG ⟨_, rfl⟩)) (pv 0) (pe_glob (v := .int 1000000000000000000000000000000000000000000000000000000000000) (by rfl) T.c_TOO_LONG ⟨_, rfl⟩))))))), ?_⟩
    cases hv with
    | int i =>
      refine s_ret (ev_is (ev_andV (ev_cb (ea_cons (ev_var rfl) (ea_cons ev_c ea_nil)) (rc_isi (b := true) (.base (.int i)) (kit_ty (by decide +kernel)))) fun _ =>
        (ev_andV (ev_notV (ev_cb (ea_cons (ev_var rfl) (ea_cons ev_c ea_nil)) (rc_isi (b := false) (.base (.int i)) (kit_ty (by decide +kernel))))) fun _ =>
          (ev_chain (ev_un ev_c ru_neg) (ev_var rfl) rv_I0 (fun _ => ev_c) (fun _ => rv_I0)))) ?_) fun H1 e1 => k H1 e1
      rw [int_abs]
      rfl
    | bl b =>
      refine s_ret (ev_is (ev_andV (b := false) (ev_cb (ea_cons (ev_var rfl) (ea_cons ev_c ea_nil)) (rc_isi (b := true) (.base (.bl b)) (kit_ty (by decide +kernel)))) fun _ =>
        (ev_andV (b := false) (ev_notV (ev_cb (ea_cons (ev_var rfl) (ea_cons ev_c ea_nil)) (rc_isi (b := true) (.base (.bl b)) (kit_ty (by decide +kernel))))) fun z => nomatch z)) rfl) fun H1 e1 => k H1 e1
    | other n h hk =>
      exact s_ret (ev_andV (b := false) (ev_cb (ea_cons (ev_var rfl) (ea_cons ev_c ea_nil)) (rc_isi (b := false) h hk)) fun z => nomatch z) fun H1 e1 => k H1 e1


def btw (K : PySem.W.Frag) (H : Hp) (v : V) (lo hi : Int) (b : Bool) : Prop := (∃ i, v = .int i ∧ b = (decide (i.natAbs < 10 ^ 60) && (decide (lo ≤ i) && decide (i ≤ hi)))) ∨ ((∀ i, v ≠ .int i) ∧ IntB K H v false ∧ b = false)
theorem btw.ex {K : PySem.W.Frag} {H H' : Hp} {v : V} {lo hi : Int} {b : Bool} (e : Ex H H') (h : btw K H v lo hi b) : btw K H' v lo hi b := by
  rcases h with h | ⟨h1, h2, h3⟩
  · exact .inl h
  · exact .inr ⟨h1, h2.ex e, h3⟩
def sp_is_between (K : PySem.W.Frag) : Sp := fun vs H Q _ => ∃ (v : V) (lo hi : Int) (b : Bool), vs = [v, .int lo, .int hi] ∧ btw K H v lo hi b ∧ RetV (.bl b) H Q
theorem sv_is_between {K : PySem.W.Frag} {H : Hp} {v : V} {lo hi : Int} {b : Bool} (h : btw K H v lo hi b) : SpV (sp_is_between K) [v, .int lo, .int hi] H (.bl b) := fun H1 e Q q E => ⟨v, lo, hi, b, rfl, h.ex e, q⟩

theorem ok_is_between {P : Program} {w : World} {K : PySem.W.Frag} {mg : Str → Option Value} {base : Heap} (T : Txt K mg) : FnOk P w K mg base CX0 2 T.a_is_between T.d_is_between ["value", "low", "high"] (sp_is_between K) := by
  refine T.F_is_between.ok sc_is_between (fun vs H Q E h => ?_) (fun cdv A outer s H vs Q E hr h => ?_)
  · obtain ⟨v, lo, hi, b, rfl, _⟩ := h
    rfl
  · obtain ⟨v, lo, hi, b, rfl, hv, k⟩ := h
    refine ⟨_, (pss_one (ps_ret (pe_and (pe_call (ok_is_integer T) (hr.mono (by decide)) (by rfl) T.g_is_integer T.F_is_integer.kp T.b_is_integer .nil pass0 (pa_cons (pv 0) pa_nil)) (pe_one (pe_chain op_le op_le (pv 1) (pv 0) (pv 2)))))), ?_⟩
    rcases hv with ⟨i, rfl, rfl⟩ | ⟨_, hv, rfl⟩
    · exact s_ret (ev_andV (ev_call (ea_cons (ev_var rfl) ea_nil) (sv_is_integer (.int i))) fun _ => (ev_chain (ev_var rfl) (ev_var rfl) rv_I0 (fun _ => ev_var rfl) (fun _ => rv_I0))) fun H1 e1 => k H1 e1
    · exact s_ret (ev_andV (b := false) (ev_call (ea_cons (ev_var rfl) ea_nil) (sv_is_integer hv)) fun z => nomatch z) fun H1 e1 => k H1 e1


def fld (K : PySem.W.Frag) (H : Hp) (v : V) (b : Bool) : Prop := (∃ i, v = .int i ∧ b = (decide (i.natAbs < 10 ^ 60) && decide (i ∈ W_FIELDS))) ∨ ((∀ i, v ≠ .int i) ∧ IntB K H v false ∧ b = false)
theorem fld.ex {K : PySem.W.Frag} {H H' : Hp} {v : V} {b : Bool} (e : Ex H H') (h : fld K H v b) : fld K H' v b := by
  rcases h with h | ⟨h1, h2, h3⟩
  · exact .inl h
  · exact .inr ⟨h1, h2.ex e, h3⟩
def sp_is_field (K : PySem.W.Frag) : Sp := fun vs H Q _ => ∃ (v : V) (b : Bool), vs = [v] ∧ fld K H v b ∧ RetV (.bl b) H Q
theorem sv_is_field {K : PySem.W.Frag} {H : Hp} {v : V} {b : Bool} (h : fld K H v b) : SpV (sp_is_field K) [v] H (.bl b) := fun H1 e Q q E => ⟨v, b, rfl, h.ex e, q⟩
theorem inV_ints (i : Int) : ∀ ns : List Int, inV (.int i) (ns.map V.int) = decide (i ∈ ns)
  | [] => rfl
  | n :: r => by
    have ih := inV_ints i r
    unfold inV at ih ⊢
    rw [List.map_cons, List.any_cons, ih]
    show ((n == i) || decide (i ∈ r)) = decide (i ∈ n :: r)
    by_cases h : n = i
    · subst h
      rw [show (n == n) = true from beq_self_eq_true n, Bool.true_or, decide_eq_true (List.mem_cons_self ..)]
    · rw [show (n == i) = false from beq_eq_false_iff_ne.mpr h, Bool.false_or]
      by_cases h2 : i ∈ r
      · rw [decide_eq_true h2, decide_eq_true (List.mem_cons_of_mem _ h2)]
      · rw [decide_eq_false h2, decide_eq_false (fun z => by
          rcases List.mem_cons.mp z with z | z
          · exact h z.symm
          · exact h2 z)]
theorem flat_ints (ns : List Int) : (ns.map V.int).all flatV = true := by
  rw [List.all_eq_true]
  intro x hx
  obtain ⟨n, _, rfl⟩ := List.mem_map.mp hx
  rfl

theorem ok_is_field {P : Program} {w : World} {K : PySem.W.Frag} {mg : Str → Option Value} {base : Heap} (T : Txt K mg) : FnOk P w K mg base CX0 2 T.a_is_field T.d_is_field ["value"] (sp_is_field K) := by
  refine T.F_is_field.ok sc_is_field (fun vs H Q E h => ?_) (fun cdv A outer s H vs Q E hr h => ?_)
  · obtain ⟨v, b, rfl, _⟩ := h
    rfl
  · obtain ⟨v, b, rfl, hv, k⟩ := h
    refine ⟨_, (pss_one (ps_ret (pe_and (pe_call (ok_is_integer T) (hr.mono (by decide)) (by rfl) T.g_is_integer T.F_is_integer.kp T.b_is_integer .nil pass0 (pa_cons (pv 0) pa_nil)) (pe_one (pe_cmpR op_in_seq (pv 0) (pe_glob (v := .ref T.a_FIELDS) (by rfl) T.g_FIELDS rfl) (by rfl)))))), ?_⟩
    rcases hv with ⟨i, rfl, rfl⟩ | ⟨_, hv, rfl⟩
    · exact s_ret (ev_andV (ev_call (ea_cons (ev_var rfl) ea_nil) (sv_is_integer (.int i))) fun _ => (ev_is (ev_op (ev_var rfl) ev_c (rv_isT (tup_of T.w_FIELDS H) rfl (flat_ints _))) (congrArg V.bl (inV_ints i _)))) fun H1 e1 => k H1 e1
    · exact s_ret (ev_andV (b := false) (ev_call (ea_cons (ev_var rfl) ea_nil) (sv_is_integer hv)) fun z => nomatch z) fun H1 e1 => k H1 e1


theorem fld_q {K : PySem.W.Frag} {H : Hp} {q : Nat} (hq : Fq q) : fld K H (N_ q) true := by
  refine .inl ⟨q, rfl, ?_⟩
  have h2 : decide ((q : Int) ∈ W_FIELDS) = true := by
    unfold Fq FQ at hq
    simp only [List.mem_cons, List.not_mem_nil, or_false] at hq
    rcases hq with rfl | rfl | rfl | rfl | rfl | rfl | rfl <;> decide
  have h1 : decide ((q : Int).natAbs < 10 ^ 60) = true := by
    refine decide_eq_true ?_
    have := hq.b.2
    show q < 10 ^ 60
    have e : 10 ≤ 10 ^ 60 := by decide
    omega
  rw [h1, h2]
  rfl
def sp_check_field (K : PySem.W.Frag) : Sp := fun vs H Q _ => ∃ (q : Nat), vs = [N_ q] ∧ Fq q ∧ RetV .non H Q
theorem sv_check_field {K : PySem.W.Frag} {H : Hp} {q : Nat} (hq : Fq q) : SpV (sp_check_field K) [N_ q] H .non := fun H1 e Q k E => ⟨q, rfl, hq, k⟩

theorem ok_check_field {P : Program} {w : World} {K : PySem.W.Frag} {mg : Str → Option Value} {base : Heap} (T : Txt K mg) : FnOk P w K mg base CX0 3 T.a_check_field T.d_check_field ["q"] (sp_check_field K) := by
  refine T.F_check_field.ok sc_check_field (fun vs H Q E h => ?_) (fun cdv A outer s H vs Q E hr h => ?_)
  · obtain ⟨q, rfl, _⟩ := h
    rfl
  · obtain ⟨q, rfl, hq, k⟩ := h
    refine ⟨_, (pss_one (ps_if (pt_not (pt_val (pe_call (ok_is_field T) (hr.mono (by decide)) (by rfl) T.g_is_field T.F_is_field.kp T.b_is_field .nil pass0 (pa_cons (pv 0) pa_nil)))) (pss_one ps_never) pss_nil)), ?_⟩
    exact s_when (et_not (et_B (ev_call (ea_cons (ev_var rfl) ea_nil) (sv_is_field (fld_q hq))))) (fun z => nomatch z) (fun _ H1 e1 => k H1 e1)


def sp_prime_of (K : PySem.W.Frag) : Sp := fun vs H Q _ => ∃ (q : Nat), vs = [N_ q] ∧ Fq q ∧ RetV (N_ (prE q)) H Q
theorem sv_prime_of {K : PySem.W.Frag} {H : Hp} {q : Nat} (hq : Fq q) : SpV (sp_prime_of K) [N_ q] H (N_ (prE q)) := fun H1 e Q k E => ⟨q, rfl, hq, k⟩

theorem ok_prime_of {P : Program} {w : World} {K : PySem.W.Frag} {mg : Str → Option Value} {base : Heap} (T : Txt K mg) : FnOk P w K mg base CX0 4 T.a_prime_of T.d_prime_of ["q"] (sp_prime_of K) := by
  refine T.F_prime_of.ok sc_prime_of (fun vs H Q E h => ?_) (fun cdv A outer s H vs Q E hr h => ?_)
  · obtain ⟨q, rfl, _⟩ := h
    rfl
  · obtain ⟨q, rfl, hq, k⟩ := h
    refine ⟨_, (pss_cons (ps_expr (pe_call (ok_check_field T) (hr.mono (by decide)) (by rfl) T.g_check_field T.F_check_field.kp T.b_check_field .nil pass0 (pa_cons (pv 0) pa_nil)))
      (pss_one (ps_ret (pe_ix (r := rIxW K) ix_tab (pe_glob (v := .ref T.a_PRIMES) (by rfl) T.g_PRIMES rfl) (pv 0) (fun _ _ => rfl))))), ?_⟩
    refine q_drop (ev_call (ea_cons (ev_var rfl) ea_nil) (sv_check_field hq)) fun H1 e1 => ?_
    exact s_ret (ev_tab0 T.w_PRIMES (t0_of hq).pr (ev_var rfl)) fun H2 e2 => k H2 (e1.trans e2)


def sp_power_of (K : PySem.W.Frag) : Sp := fun vs H Q _ => ∃ (q : Nat), vs = [N_ q] ∧ Fq q ∧ RetV (N_ (poE q)) H Q
theorem sv_power_of {K : PySem.W.Frag} {H : Hp} {q : Nat} (hq : Fq q) : SpV (sp_power_of K) [N_ q] H (N_ (poE q)) := fun H1 e Q k E => ⟨q, rfl, hq, k⟩

theorem ok_power_of {P : Program} {w : World} {K : PySem.W.Frag} {mg : Str → Option Value} {base : Heap} (T : Txt K mg) : FnOk P w K mg base CX0 4 T.a_power_of T.d_power_of ["q"] (sp_power_of K) := by
  refine T.F_power_of.ok sc_power_of (fun vs H Q E h => ?_) (fun cdv A outer s H vs Q E hr h => ?_)
  · obtain ⟨q, rfl, _⟩ := h
    rfl
  · obtain ⟨q, rfl, hq, k⟩ := h
    refine ⟨_, (pss_cons (ps_expr (pe_call (ok_check_field T) (hr.mono (by decide)) (by rfl) T.g_check_field T.F_check_field.kp T.b_check_field .nil pass0 (pa_cons (pv 0) pa_nil)))
      (pss_one (ps_ret (pe_ix (r := rIxW K) ix_tab (pe_glob (v := .ref T.a_POWERS) (by rfl) T.g_POWERS rfl) (pv 0) (fun _ _ => rfl))))), ?_⟩
    refine q_drop (ev_call (ea_cons (ev_var rfl) ea_nil) (sv_check_field hq)) fun H1 e1 => ?_
    exact s_ret (ev_tab0 T.w_POWERS (t0_of hq).po (ev_var rfl)) fun H2 e2 => k H2 (e1.trans e2)


def sp_is_element (K : PySem.W.Frag) : Sp := fun vs H Q _ => ∃ (q : Nat) (v : V) (b : Bool), vs = [N_ q, v] ∧ Fq q ∧ btw K H v 0 ((q : Int) - 1) b ∧ RetV (.bl b) H Q
theorem sv_is_element {K : PySem.W.Frag} {H : Hp} {q : Nat} {v : V} {b : Bool} (hq : Fq q) (h : btw K H v 0 ((q : Int) - 1) b) : SpV (sp_is_element K) [N_ q, v] H (.bl b) := fun H1 e Q k E => ⟨q, v, b, rfl, hq, h.ex e, k⟩
theorem btw_a {K : PySem.W.Frag} {H : Hp} {q a : Nat} (hq : Fq q) (ha : a < q) : btw K H (N_ a) 0 ((q : Int) - 1) true := by
  refine .inl ⟨a, rfl, ?_⟩
  have h1 : decide ((a : Int).natAbs < 10 ^ 60) = true := by
    refine decide_eq_true ?_
    have := hq.b.2
    show a < 10 ^ 60
    have e : 10 ≤ 10 ^ 60 := by decide
    omega
  rw [h1, decide_eq_true (by omega), decide_eq_true (by omega)]
  rfl

theorem ok_is_element {P : Program} {w : World} {K : PySem.W.Frag} {mg : Str → Option Value} {base : Heap} (T : Txt K mg) : FnOk P w K mg base CX0 4 T.a_is_element T.d_is_element ["q", "value"] (sp_is_element K) := by
  refine T.F_is_element.ok sc_is_element (fun vs H Q E h => ?_) (fun cdv A outer s H vs Q E hr h => ?_)
  · obtain ⟨q, v, b, rfl, _⟩ := h
    rfl
  · obtain ⟨q, v, b, rfl, hq, hv, k⟩ := h
    refine ⟨_, (pss_cons (ps_expr (pe_call (ok_check_field T) (hr.mono (by decide)) (by rfl) T.g_check_field T.F_check_field.kp T.b_check_field .nil pass0 (pa_cons (pv 0) pa_nil)))
      (pss_one (ps_ret (pe_call (ok_is_between T) (hr.mono (by decide)) (by rfl) T.g_is_between T.F_is_between.kp T.b_is_between .nil pass0 (pa_cons (pv 1) (pa_cons pe_int (pa_cons (pe_op op_sub (pv 0) pe_int) pa_nil))))))), ?_⟩
    refine q_drop (ev_call (ea_cons (ev_var rfl) ea_nil) (sv_check_field hq)) fun H1 e1 => ?_
    exact s_ret (ev_call (ea_cons (ev_var rfl) (ea_cons ev_c (ea_cons (ev_op (ev_var rfl) ev_c rv_I0) ea_nil))) (sv_is_between (hv.ex e1))) fun H2 e2 => k H2 (e1.trans e2)


def sp_check_element (K : PySem.W.Frag) : Sp := fun vs H Q _ => ∃ (q a : Nat), vs = [N_ q, N_ a] ∧ Fq q ∧ a < q ∧ RetV .non H Q
theorem sv_check_element {K : PySem.W.Frag} {H : Hp} {q a : Nat} (hq : Fq q) (ha : a < q) : SpV (sp_check_element K) [N_ q, N_ a] H .non := fun H1 e Q k E => ⟨q, a, rfl, hq, ha, k⟩

theorem ok_check_element {P : Program} {w : World} {K : PySem.W.Frag} {mg : Str → Option Value} {base : Heap} (T : Txt K mg) : FnOk P w K mg base CX0 5 T.a_check_element T.d_check_element ["q", "value"] (sp_check_element K) := by
  refine T.F_check_element.ok sc_check_element (fun vs H Q E h => ?_) (fun cdv A outer s H vs Q E hr h => ?_)
  · obtain ⟨q, a, rfl, _⟩ := h
    rfl
  · obtain ⟨q, a, rfl, hq, ha, k⟩ := h
    refine ⟨_, (pss_one (ps_if (pt_not (pt_val (pe_call (ok_is_element T) (hr.mono (by decide)) (by rfl) T.g_is_element T.F_is_element.kp T.b_is_element .nil pass0 (pa_cons (pv 0) (pa_cons (pv 1) pa_nil))))) (pss_one ps_never) pss_nil)), ?_⟩
    exact s_when (et_not (et_B (ev_call (ea_cons (ev_var rfl) (ea_cons (ev_var rfl) ea_nil)) (sv_is_element hq (btw_a hq ha))))) (fun z => nomatch z) (fun _ H1 e1 => k H1 e1)


def sp_check_other_than_zero (K : PySem.W.Frag) : Sp := fun vs H Q _ => ∃ (a : Nat), vs = [N_ a] ∧ 0 < a ∧ RetV .non H Q
theorem sv_check_other_than_zero {K : PySem.W.Frag} {H : Hp} {a : Nat} (ha : 0 < a) : SpV (sp_check_other_than_zero K) [N_ a] H .non := fun H1 e Q k E => ⟨a, rfl, ha, k⟩
theorem dec0 {a : Nat} : decide (V.int (a : Int) = V.int 0) = decide (a = 0) := by
  by_cases h : a = 0
  · subst h
    rfl
  · rw [decide_eq_false h, decide_eq_false (fun z => h (by have := V.int.inj z; omega))]

theorem ok_check_other_than_zero {P : Program} {w : World} {K : PySem.W.Frag} {mg : Str → Option Value} {base : Heap} (T : Txt K mg) : FnOk P w K mg base CX0 1 T.a_check_other_than_zero T.d_check_other_than_zero ["element"] (sp_check_other_than_zero K) := by
  refine T.F_check_other_than_zero.ok sc_check_other_than_zero (fun vs H Q E h => ?_) (fun cdv A outer s H vs Q E hr h => ?_)
  · obtain ⟨a, rfl, _⟩ := h
    rfl
  · obtain ⟨a, rfl, ha, k⟩ := h
    refine ⟨_, (pss_one (ps_if (pt_cmpR op_eq (pv 0) pe_int (nomark _)) (pss_one ps_never) pss_nil)), ?_⟩
    refine s_when (et_is (et_test (ev_op (ev_var rfl) ev_c (rv_eq rfl))) (show _ = false from ?_)) (fun z => nomatch z) (fun _ H1 e1 => k H1 e1)
    rw [dec0]
    exact decide_eq_false (by omega)


def sp_element_sum (K : PySem.W.Frag) : Sp := fun vs H Q _ => ∃ (q a b : Nat), vs = [N_ q, N_ a, N_ b] ∧ Fq q ∧ a < q ∧ b < q ∧ RetV (N_ (sE q a b)) H Q
theorem sv_element_sum {K : PySem.W.Frag} {H : Hp} {q a b : Nat} (hq : Fq q) (ha : a < q) (hb : b < q) : SpV (sp_element_sum K) [N_ q, N_ a, N_ b] H (N_ (sE q a b)) := fun H1 e Q k E => ⟨q, a, b, rfl, hq, ha, hb, k⟩

theorem ok_element_sum {P : Program} {w : World} {K : PySem.W.Frag} {mg : Str → Option Value} {base : Heap} (T : Txt K mg) : FnOk P w K mg base CX0 6 T.a_element_sum T.d_element_sum ["q", "one", "other"] (sp_element_sum K) := by
  refine T.F_element_sum.ok sc_element_sum (fun vs H Q E h => ?_) (fun cdv A outer s H vs Q E hr h => ?_)
  · obtain ⟨q, a, b, rfl, _⟩ := h
    rfl
  · obtain ⟨q, a, b, rfl, hq, ha, hb, k⟩ := h
    refine ⟨_, (pss_cons (ps_expr (pe_call (ok_check_element T) (hr.mono (by decide)) (by rfl) T.g_check_element T.F_check_element.kp T.b_check_element .nil pass0 (pa_cons (pv 0) (pa_cons (pv 1) pa_nil))))
      (pss_cons (ps_expr (pe_call (ok_check_element T) (hr.mono (by decide)) (by rfl) T.g_check_element T.F_check_element.kp T.b_check_element .nil pass0 (pa_cons (pv 0) (pa_cons (pv 2) pa_nil))))
      (pss_one (ps_ret (pe_ix (r := rIxT K) ix_tup (pe_ix (r := rIxT K) ix_tup (pe_ix (r := rIxW K) ix_tab (pe_glob (v := .ref T.a_SUMS) (by rfl) T.g_SUMS rfl) (pv 0) (fun _ _ => rfl)) (pv 1) (fun _ _ => rfl)) (pv 2) (fun _ _ => rfl)))))), ?_⟩
    refine q_drop (ev_call (ea_cons (ev_var rfl) (ea_cons (ev_var rfl) ea_nil)) (sv_check_element hq ha)) fun H1 e1 => ?_
    refine q_drop (ev_call (ea_cons (ev_var rfl) (ea_cons (ev_var rfl) ea_nil)) (sv_check_element hq hb)) fun H2 e2 => ?_
    exact s_ret (ev_t2 T.w_SUMS (t2_of hq ha hb).su (ev_var rfl) (ev_var rfl) (ev_var rfl)) fun H3 e3 => k H3 ((e1.trans e2).trans e3)


def sp_element_product (K : PySem.W.Frag) : Sp := fun vs H Q _ => ∃ (q a b : Nat), vs = [N_ q, N_ a, N_ b] ∧ Fq q ∧ a < q ∧ b < q ∧ RetV (N_ (pE q a b)) H Q
theorem sv_element_product {K : PySem.W.Frag} {H : Hp} {q a b : Nat} (hq : Fq q) (ha : a < q) (hb : b < q) : SpV (sp_element_product K) [N_ q, N_ a, N_ b] H (N_ (pE q a b)) := fun H1 e Q k E => ⟨q, a, b, rfl, hq, ha, hb, k⟩

theorem ok_element_product {P : Program} {w : World} {K : PySem.W.Frag} {mg : Str → Option Value} {base : Heap} (T : Txt K mg) : FnOk P w K mg base CX0 6 T.a_element_product T.d_element_product ["q", "one", "other"] (sp_element_product K) := by
  refine T.F_element_product.ok sc_element_product (fun vs H Q E h => ?_) (fun cdv A outer s H vs Q E hr h => ?_)
  · obtain ⟨q, a, b, rfl, _⟩ := h
    rfl
  · obtain ⟨q, a, b, rfl, hq, ha, hb, k⟩ := h
    refine ⟨_, (pss_cons (ps_expr (pe_call (ok_check_element T) (hr.mono (by decide)) (by rfl) T.g_check_element T.F_check_element.kp T.b_check_element .nil pass0 (pa_cons (pv 0) (pa_cons (pv 1) pa_nil))))
      (pss_cons (ps_expr (pe_call (ok_check_element T) (hr.mono (by decide)) (by rfl) T.g_check_element T.F_check_element.kp T.b_check_element .nil pass0 (pa_cons (pv 0) (pa_cons (pv 2) pa_nil))))
      (pss_one (ps_ret (pe_ix (r := rIxT K) ix_tup (pe_ix (r := rIxT K) ix_tup (pe_ix (r := rIxW K) ix_tab (pe_glob (v := .ref T.a_PRODUCTS) (by rfl) T.g_PRODUCTS rfl) (pv 0) (fun _ _ => rfl)) (pv 1) (fun _ _ => rfl)) (pv 2) (fun _ _ => rfl)))))), ?_⟩
    refine q_drop (ev_call (ea_cons (ev_var rfl) (ea_cons (ev_var rfl) ea_nil)) (sv_check_element hq ha)) fun H1 e1 => ?_
    refine q_drop (ev_call (ea_cons (ev_var rfl) (ea_cons (ev_var rfl) ea_nil)) (sv_check_element hq hb)) fun H2 e2 => ?_
    exact s_ret (ev_t2 T.w_PRODUCTS (t2_of hq ha hb).pd (ev_var rfl) (ev_var rfl) (ev_var rfl)) fun H3 e3 => k H3 ((e1.trans e2).trans e3)


def sp_element_less (K : PySem.W.Frag) : Sp := fun vs H Q _ => ∃ (q a b : Nat), vs = [N_ q, N_ a, N_ b] ∧ Fq q ∧ a < q ∧ b < q ∧ RetV (N_ (sE q a (oE q b))) H Q
theorem sv_element_less {K : PySem.W.Frag} {H : Hp} {q a b : Nat} (hq : Fq q) (ha : a < q) (hb : b < q) : SpV (sp_element_less K) [N_ q, N_ a, N_ b] H (N_ (sE q a (oE q b))) := fun H1 e Q k E => ⟨q, a, b, rfl, hq, ha, hb, k⟩

theorem ok_element_less {P : Program} {w : World} {K : PySem.W.Frag} {mg : Str → Option Value} {base : Heap} (T : Txt K mg) : FnOk P w K mg base CX0 6 T.a_element_less T.d_element_less ["q", "one", "other"] (sp_element_less K) := by
  refine T.F_element_less.ok sc_element_less (fun vs H Q E h => ?_) (fun cdv A outer s H vs Q E hr h => ?_)
  · obtain ⟨q, a, b, rfl, _⟩ := h
    rfl
  · obtain ⟨q, a, b, rfl, hq, ha, hb, k⟩ := h
    refine ⟨_, (pss_cons (ps_expr (pe_call (ok_check_element T) (hr.mono (by decide)) (by rfl) T.g_check_element T.F_check_element.kp T.b_check_element .nil pass0 (pa_cons (pv 0) (pa_cons (pv 1) pa_nil))))
      (pss_cons (ps_expr (pe_call (ok_check_element T) (hr.mono (by decide)) (by rfl) T.g_check_element T.F_check_element.kp T.b_check_element .nil pass0 (pa_cons (pv 0) (pa_cons (pv 2) pa_nil))))
      (pss_one (ps_ret (pe_ix (r := rIxT K) ix_tup (pe_ix (r := rIxT K) ix_tup (pe_ix (r := rIxW K) ix_tab (pe_glob (v := .ref T.a_SUMS) (by rfl) T.g_SUMS rfl) (pv 0) (fun _ _ => rfl)) (pv 1) (fun _ _ => rfl)) (pe_ix (r := rIxT K) ix_tup (pe_ix (r := rIxW K) ix_tab (pe_glob (v := .ref T.a_OPPOSITES) (by rfl) T.g_OPPOSITES rfl) (pv 0) (fun _ _ => rfl)) (pv 2) (fun _ _ => rfl)) (fun _ _ => rfl)))))), ?_⟩
    refine q_drop (ev_call (ea_cons (ev_var rfl) (ea_cons (ev_var rfl) ea_nil)) (sv_check_element hq ha)) fun H1 e1 => ?_
    refine q_drop (ev_call (ea_cons (ev_var rfl) (ea_cons (ev_var rfl) ea_nil)) (sv_check_element hq hb)) fun H2 e2 => ?_
    exact s_ret (ev_t2 T.w_SUMS (t2_of hq ha (t1_of hq hb).oL).su (ev_var rfl) (ev_var rfl) (ev_t1 T.w_OPPOSITES (t1_of hq hb).op (ev_var rfl) (ev_var rfl))) fun H3 e3 => k H3 ((e1.trans e2).trans e3)


def sp_element_inverse (K : PySem.W.Frag) : Sp := fun vs H Q _ => ∃ (q a : Nat), vs = [N_ q, N_ a] ∧ Fq q ∧ a < q ∧ 0 < a ∧ RetV (N_ (iE q a)) H Q
theorem sv_element_inverse {K : PySem.W.Frag} {H : Hp} {q a : Nat} (hq : Fq q) (ha : a < q) (h0 : 0 < a) : SpV (sp_element_inverse K) [N_ q, N_ a] H (N_ (iE q a)) := fun H1 e Q k E => ⟨q, a, rfl, hq, ha, h0, k⟩

theorem ok_element_inverse {P : Program} {w : World} {K : PySem.W.Frag} {mg : Str → Option Value} {base : Heap} (T : Txt K mg) : FnOk P w K mg base CX0 6 T.a_element_inverse T.d_element_inverse ["q", "element"] (sp_element_inverse K) := by
  refine T.F_element_inverse.ok sc_element_inverse (fun vs H Q E h => ?_) (fun cdv A outer s H vs Q E hr h => ?_)
  · obtain ⟨q, a, rfl, _⟩ := h
    rfl
  · obtain ⟨q, a, rfl, hq, ha, h0, k⟩ := h
    refine ⟨_, (pss_cons (ps_expr (pe_call (ok_check_element T) (hr.mono (by decide)) (by rfl) T.g_check_element T.F_check_element.kp T.b_check_element .nil pass0 (pa_cons (pv 0) (pa_cons (pv 1) pa_nil))))
      (pss_cons (ps_expr (pe_call (ok_check_other_than_zero T) (hr.mono (by decide)) (by rfl) T.g_check_other_than_zero T.F_check_other_than_zero.kp T.b_check_other_than_zero .nil pass0 (pa_cons (pv 1) pa_nil)))
      (pss_one (ps_ret (pe_ix (r := rIxT K) ix_tup (pe_ix (r := rIxW K) ix_tab (pe_glob (v := .ref T.a_INVERSES) (by rfl) T.g_INVERSES rfl) (pv 0) (fun _ _ => rfl)) (pv 1) (fun _ _ => rfl)))))), ?_⟩
    refine q_drop (ev_call (ea_cons (ev_var rfl) (ea_cons (ev_var rfl) ea_nil)) (sv_check_element hq ha)) fun H1 e1 => ?_
    refine q_drop (ev_call (ea_cons (ev_var rfl) ea_nil) (sv_check_other_than_zero h0)) fun H2 e2 => ?_
    exact s_ret (ev_t1 T.w_INVERSES (t1_of hq ha).iv (ev_var rfl) (ev_var rfl)) fun H3 e3 => k H3 ((e1.trans e2).trans e3)


def itP (q e : Nat) : Nat → Nat
  | 0 => 1
  | n + 1 => pE q (itP q e n) e
theorem itP_lt {q e : Nat} (hq : Fq q) (he : e < q) : ∀ n, itP q e n < q
  | 0 => by have := hq.b.1; show 1 < q; omega
  | n + 1 => (t2_of hq (itP_lt hq he n) he).pL
def rp (q e k : Nat) : Nat := if k = 0 then 1 else if e = 0 then 0 else itP q e (k % (q - 1))
theorem rp_lt {q e : Nat} (hq : Fq q) (he : e < q) (k : Nat) : rp q e k < q := by
  have := hq.b.1
  unfold rp
  split
  · omega
  · split
    · omega
    · exact itP_lt hq he _
def sp_repeated_product (K : PySem.W.Frag) : Sp := fun vs H Q _ => ∃ (q e k : Nat), vs = [N_ q, N_ e, N_ k] ∧ Fq q ∧ e < q ∧ RetV (N_ (rp q e k)) H Q
theorem sv_repeated_product {K : PySem.W.Frag} {H : Hp} {q e k : Nat} (hq : Fq q) (he : e < q) : SpV (sp_repeated_product K) [N_ q, N_ e, N_ k] H (N_ (rp q e k)) := fun H1 _ Q kk E => ⟨q, e, k, rfl, hq, he, kk⟩

theorem ok_repeated_product {P : Program} {w : World} {K : PySem.W.Frag} {mg : Str → Option Value} {base : Heap} (T : Txt K mg) : FnOk P w K mg base CX0 1 T.a_repeated_product T.d_repeated_product ["q", "element", "k"] (sp_repeated_product K) := by
  refine T.F_repeated_product.ok sc_repeated_product (fun vs H Q E h => ?_) (fun cdv A outer s H vs Q E hr h => ?_)
  · obtain ⟨q, e, k, rfl, _⟩ := h
    rfl
  · obtain ⟨q, e, k, rfl, hq, he, kk⟩ := h
    refine ⟨_, (pss_cons (ps_if (pt_cmpR op_eq (pv 2) pe_int (nomark _)) (pss_one (ps_ret pe_int)) pss_nil)
      (pss_cons (ps_if (pt_cmpR op_eq (pv 1) pe_int (nomark _)) (pss_one (ps_ret pe_int)) pss_nil)
      (pss_cons (ps_set (i := 3) sc_repeated_product.nd rfl (Or.inl rfl) pe_int)
      (pss_cons (ps_for PassesOwn.never rfl (pi_range1 rfl T.z_range (pa_cons (pe_op op_mod (pv 2) (pe_op op_sub (pv 0) pe_int)) pa_nil)) (pg_name (i := 4) sc_repeated_product.nd rfl (Or.inl rfl)) (pss_one (ps_set (i := 3) sc_repeated_product.nd rfl (Or.inl rfl) (pe_ix (r := rIxT K) ix_tup (pe_ix (r := rIxT K) ix_tup (pe_ix (r := rIxW K) ix_tab (pe_glob (v := .ref T.a_PRODUCTS) (by rfl) T.g_PRODUCTS rfl) (pv 0) (fun _ _ => rfl)) (pv 3) (fun _ _ => rfl)) (pv 1) (fun _ _ => rfl)))))
      (pss_one (ps_ret (pv 3))))))), ?_⟩
    refine q_when (et_is (et_test (ev_op (ev_var rfl) ev_c (rv_eq rfl))) dec0) (fun h H1 e1 => ?_) (fun h H1 e1 => ?_)
    · have := of_decide_eq_true h
      subst this
      exact s_ret ev_c fun H2 e2 => kk H2 (e1.trans e2)
    have hk := of_decide_eq_false h
    refine q_when (et_is (et_test (ev_op (ev_var rfl) ev_c (rv_eq rfl))) dec0) (fun h H2 e2 => ?_) (fun h H2 e2 => ?_)
    · have := of_decide_eq_true h
      subst this
      unfold rp at kk
      rw [if_neg hk, if_pos rfl] at kk
      exact s_ret ev_c fun H3 e3 => kk H3 ((e1.trans e2).trans e3)
    have he0 := of_decide_eq_false h
    unfold rp at kk
    rw [if_neg hk, if_neg he0] at kk
    have hb := hq.b
    have hmod : (k : Int) % ((q : Int) - 1) = ((k % (q - 1) : Nat) : Int) := by
      rw [show ((q : Int) - 1) = ((q - 1 : Nat) : Int) by omega]
      rfl
    have hmlt := Nat.mod_lt k (show 0 < q - 1 by omega)
    refine q_asg ev_c fun H3 e3 => ?_
    refine q_forR1 (n := ((k % (q - 1) : Nat) : Int)) (ea_cons (ev_is (ev_op (ev_var rfl) (ev_op (ev_var rfl) ev_c rv_I0) (rv_I (by omega))) (congrArg V.int hmod)) ea_nil) ⟨by omega, by omega⟩ (fun i σ H' => ∃ y, σ = [some (N_ q), some (N_ e), some (N_ k), some (N_ (itP q e i)), y] ∧ Ex H H') (fun H4 e4 => ⟨none, rfl, ((e1.trans e2).trans e3).trans e4⟩) (fun i σ H' hi hw => ?_) (fun σ H' hw => ?_)
    · obtain ⟨y, rfl, e5⟩ := hw
      exact s_asg (ev_t2 T.w_PRODUCTS (t2_of hq (itP_lt hq he i) he).pd (ev_var rfl) (ev_var rfl) (ev_var rfl)) fun H6 e6 => ⟨some (.int (i : Int)), rfl, e5.trans e6⟩
    · obtain ⟨y, rfl, e5⟩ := hw
      rw [Int.toNat_natCast]
      exact s_ret (ev_var rfl) fun H6 e6 => kk H6 (e5.trans e6)


def rtE (q e : Nat) : Nat := rp q e (q / prE q)
def sp_root_of (K : PySem.W.Frag) : Sp := fun vs H Q _ => ∃ (q e : Nat), vs = [N_ q, N_ e] ∧ Fq q ∧ e < q ∧ RetV (N_ (rtE q e)) H Q
theorem sv_root_of {K : PySem.W.Frag} {H : Hp} {q e : Nat} (hq : Fq q) (he : e < q) : SpV (sp_root_of K) [N_ q, N_ e] H (N_ (rtE q e)) := fun H1 _ Q kk E => ⟨q, e, rfl, hq, he, kk⟩

theorem ok_root_of {P : Program} {w : World} {K : PySem.W.Frag} {mg : Str → Option Value} {base : Heap} (T : Txt K mg) : FnOk P w K mg base CX0 2 T.a_root_of T.d_root_of ["q", "element"] (sp_root_of K) := by
  refine T.F_root_of.ok sc_root_of (fun vs H Q E h => ?_) (fun cdv A outer s H vs Q E hr h => ?_)
  · obtain ⟨q, e, rfl, _⟩ := h
    rfl
  · obtain ⟨q, e, rfl, hq, he, k⟩ := h
    refine ⟨_, (pss_one (ps_ret (pe_call (ok_repeated_product T) (hr.mono (by decide)) (by rfl) T.g_repeated_product T.F_repeated_product.kp T.b_repeated_product .nil pass0 (pa_cons (pv 0) (pa_cons (pv 1) (pa_cons (pe_op op_fdivW (pv 0) (pe_ix (r := rIxW K) ix_tab (pe_glob (v := .ref T.a_PRIMES) (by rfl) T.g_PRIMES rfl) (pv 0) (fun _ _ => rfl))) pa_nil)))))), ?_⟩
    have ht := t0_of hq
    exact s_ret (ev_call (ea_cons (ev_var rfl) (ea_cons (ev_var rfl) (ea_cons (ev_op (ev_var rfl) (ev_tab0 T.w_PRIMES ht.pr (ev_var rfl)) (rv_I (wide_div (b := 10) (by have := ht.p2; omega) (by have := ht.p7; show prE q < 1024; omega) (by decide) (by decide)))) ea_nil))) (sv_repeated_product (k := q / prE q) hq he)) fun H1 e1 => k H1 e1


def sp_element_root (K : PySem.W.Frag) : Sp := fun vs H Q _ => ∃ (q e : Nat), vs = [N_ q, N_ e] ∧ Fq q ∧ e < q ∧ RetV (N_ (rtE q e)) H Q
theorem sv_element_root {K : PySem.W.Frag} {H : Hp} {q e : Nat} (hq : Fq q) (he : e < q) : SpV (sp_element_root K) [N_ q, N_ e] H (N_ (rtE q e)) := fun H1 _ Q kk E => ⟨q, e, rfl, hq, he, kk⟩

theorem ok_element_root {P : Program} {w : World} {K : PySem.W.Frag} {mg : Str → Option Value} {base : Heap} (T : Txt K mg) : FnOk P w K mg base CX0 6 T.a_element_root T.d_element_root ["q", "element"] (sp_element_root K) := by
  refine T.F_element_root.ok sc_element_root (fun vs H Q E h => ?_) (fun cdv A outer s H vs Q E hr h => ?_)
  · obtain ⟨q, e, rfl, _⟩ := h
    rfl
  · obtain ⟨q, e, rfl, hq, he, k⟩ := h
    refine ⟨_, (pss_cons (ps_expr (pe_call (ok_check_element T) (hr.mono (by decide)) (by rfl) T.g_check_element T.F_check_element.kp T.b_check_element .nil pass0 (pa_cons (pv 0) (pa_cons (pv 1) pa_nil))))
      (pss_one (ps_ret (pe_call (ok_root_of T) (hr.mono (by decide)) (by rfl) T.g_root_of T.F_root_of.kp T.b_root_of .nil pass0 (pa_cons (pv 0) (pa_cons (pv 1) pa_nil)))))), ?_⟩
    refine q_drop (ev_call (ea_cons (ev_var rfl) (ea_cons (ev_var rfl) ea_nil)) (sv_check_element hq he)) fun H1 e1 => ?_
    exact s_ret (ev_call (ea_cons (ev_var rfl) (ea_cons (ev_var rfl) ea_nil)) (sv_root_of hq he)) fun H2 e2 => k H2 (e1.trans e2)


end Own
namespace Own
open PySem PySem.Spec PyProof.Rows L2 Evl

def sp__law_dice (K : PySem.W.Frag) : Sp := fun vs H Q _ => ∃ (a : Addr) (ns : List Int) (at_ : Nat), vs = [.ref a, N_ at_] ∧ SqL K H a (ns.map V.int) ∧ ns.length ≤ 63 ∧ at_ ≤ 100 ∧ ∀ p H', H p = none → Ex H H' → IsDice H' p → Q (.ref p) H'

theorem ok__law_dice {P : Program} {w : World} {K : PySem.W.Frag} {mg : Str → Option Value} {base : Heap} (T : Txt K mg) : FnOk P w K mg base CX0 1 T.a__law_dice T.d__law_dice ["_law_script", "_law_at"] (sp__law_dice K) := by
  refine T.F__law_dice.ok sc__law_dice (fun vs H Q E h => ?_) (fun cdv A outer s H vs Q E hr h => ?_)
  · obtain ⟨a, ns, at_, rfl, _⟩ := h
    rfl
  · obtain ⟨a, ns, at_, rfl, hx, hlen, hat, k⟩ := h
    refine ⟨_, (pss_cons (ps_set (i := 2) sc__law_dice.nd rfl (Or.inl rfl) (pe_op op_add (pe_op op_mul pe_int (pv 1)) pe_int))
      (pss_cons (ps_if (pt_cmpR op_lt (pv 1) (pe_callB call_len_seq (by rfl) T.z_len (by decide +kernel) (pa_cons (pv 0) pa_nil)) (nomark _)) (pss_one (ps_set (i := 2) sc__law_dice.nd rfl (Or.inl rfl) (pe_ix (r := rIxL K) ix_list (pv 0) (pv 1) (fun _ _ => rfl)))) pss_nil)
      (pss_cons (ps_set (i := 3) sc__law_dice.nd rfl (Or.inl rfl) (pe_op op_mod (pe_callTy call_int1 (by rfl) T.z_int (by decide +kernel) (pa_cons (pe_callB call_abs (by rfl) T.z_abs (by decide +kernel) (pa_cons (pv 2) pa_nil)) pa_nil)) (pe_op op_powW (pe_op op_powW pe_int pe_int) pe_int)))
      (pss_cons (ps_set (i := 4) sc__law_dice.nd rfl (Or.inl rfl) (pe_op op_fdivW (pv 3) (pe_op op_powW pe_int pe_int)))
      (pss_cons (ps_set (i := 5) sc__law_dice.nd rfl (Or.inl rfl) (pe_op op_add (pe_op op_add (pe_op op_add (pe_op op_mul (pe_op op_mod (pv 3) pe_int) pe_int) (pe_op op_mul pe_int (pv 1))) (pe_op op_mul pe_int (pe_callTy call_int1 (by rfl) T.z_int (by decide +kernel) (pa_cons (pe_cmpR op_lt (pv 2) pe_int (nomark _)) pa_nil)))) pe_int))
      (pss_one (ps_ret (pe_lst (pa_cons (pv 4) (pa_cons (pe_op op_mod (pv 5) pe_int) (pa_cons pe_int pa_nil))))))))))), ?_⟩
    refine q_asg (ev_op (ev_op ev_c (ev_var rfl) (rv_I (.inl ⟨by decide, by decide⟩))) ev_c rv_I0) fun H1 e1 => ?_
    have hz : ∃ z : Int, (decide ((at_ : Int) < ((ns.map V.int).length : Nat)) = true → (ns.map V.int)[at_]? = some (.int z)) ∧ (decide ((at_ : Int) < ((ns.map V.int).length : Nat)) = false → z = 103 * (at_ : Int) + 43) := by
      by_cases hlt : at_ < ns.length
      · refine ⟨ns[at_], fun _ => ?_, fun h => ?_⟩
        · rw [List.getElem?_map, List.getElem?_eq_getElem hlt]
          rfl
        · have := of_decide_eq_false h
          rw [List.length_map] at this
          omega
      · refine ⟨103 * (at_ : Int) + 43, fun h => ?_, fun _ => rfl⟩
        have := of_decide_eq_true h
        rw [List.length_map] at this
        omega
    obtain ⟨z, hz1, hz2⟩ := hz
    refine q_ifAsg (v := .int z) (et_test (ev_op (ev_var rfl) (ev_cb (ea_cons (ev_var rfl) ea_nil) (rc_lenL (ex_l e1 hx))) rv_I0)) (fun hb => ev_op (ev_var rfl) (ev_var rfl) (rv_ixL (ex_l e1 hx) (atI_nat (hz1 hb)))) (fun hb => ?_) (fun H2 e2' => ?_)
    · rw [hz2 hb]
      rfl
    have e2 := e1.trans e2'
    refine q_asg (ev_op (ev_cb (ea_cons (ev_cb (ea_cons (ev_var rfl) ea_nil) rc_abs) ea_nil) rc_int) (ev_op (ev_op ev_c ev_c (rv_I ⟨by decide, by decide, by decide⟩)) ev_c (rv_I ⟨by decide, by decide, by decide +kernel⟩)) (rv_I (by decide +kernel))) fun H3 e3 => ?_
    refine q_asg (ev_op (ev_var rfl) (ev_op ev_c ev_c (rv_I ⟨by decide, by decide, by decide⟩)) (rv_I (wide_div (b := 100) (by decide +kernel) (by decide +kernel) (by decide) (by decide)))) fun H4 e4 => ?_
    refine q_asg (ev_op (ev_op (ev_op (ev_op (ev_op (ev_var rfl) ev_c (rv_I (by decide))) ev_c (rv_I (.inr ⟨by decide, by decide⟩))) (ev_op ev_c (ev_var rfl) (rv_I (.inl ⟨by decide, by decide⟩))) rv_I0) (ev_op ev_c (ev_cb (ea_cons (ev_op (ev_var rfl) ev_c rv_I0) ea_nil) rc_intB) (rv_I (.inl ⟨by decide, by decide⟩))) rv_I0) ev_c rv_I0) fun H5 e5 => ?_
    exact s_retL (el_lst (ea_cons (ev_var rfl) (ea_cons (ev_op (ev_var rfl) ev_c (rv_I (by decide))) (ea_cons ev_c ea_nil))) (by show 3 ≤ 100000; decide)) fun p H6 hp e6 h6 => k p H6 (fresh_back ((((e2.trans e3).trans e4).trans e5)) hp) ((((e2.trans e3).trans e4).trans e5).trans e6) ⟨_, _, _, h6⟩


def sp__law_roll (K : PySem.W.Frag) : Sp := fun vs H Q _ => ∃ (p : Addr) (m : Nat), vs = [.ref p, N_ m] ∧ IsDice H p ∧ 0 < m ∧ m < 2 ^ 1000 ∧ ∀ (r : Nat) H', r < m → Exd p H H' → IsDice H' p → Q (N_ r) H'
theorem nat_mod (x : Int) {m : Nat} (h : 0 < m) : ∃ r : Nat, r < m ∧ x % (m : Int) = (r : Int) := by
  have h1 := Int.emod_nonneg x (by omega : (m : Int) ≠ 0)
  have h2 := Int.emod_lt_of_pos x (by omega : (0 : Int) < m)
  exact ⟨(x % (m : Int)).toNat, by omega, by omega⟩

theorem ok__law_roll {P : Program} {w : World} {K : PySem.W.Frag} {mg : Str → Option Value} {base : Heap} (T : Txt K mg) : FnOk P w K mg base CX0 1 T.a__law_roll T.d__law_roll ["_law_dice_here", "_law_total"] (sp__law_roll K) := by
  refine T.F__law_roll.ok sc__law_roll (fun vs H Q E h => ?_) (fun cdv A outer s H vs Q E hr h => ?_)
  · obtain ⟨p, m, rfl, _⟩ := h
    rfl
  · obtain ⟨p, m, rfl, hd, hm, hM, k⟩ := h
    refine ⟨_, (pss_cons (ps_set (i := 2) sc__law_roll.nd rfl (Or.inl rfl) (pe_callTy call_int1 (by rfl) T.z_int (by decide +kernel) (pa_cons (pv 1) pa_nil)))
      (pss_cons (ps_if (pt_cmpR op_gt (pe_ix (r := rIxL K) ix_list (pv 0) pe_int (fun _ _ => rfl)) pe_int (nomark _)) (pss_cons (ps_set (i := 3) sc__law_roll.nd rfl (Or.inl rfl) (pe_op op_mod (pe_ix (r := rIxL K) ix_list (pv 0) pe_int (fun _ _ => rfl)) (pv 2)))
      (pss_cons (ps_asg (pe_op op_fdivW (pe_ix (r := rIxL K) ix_list (pv 0) pe_int (fun _ _ => rfl)) (pv 2)) (pg_sub (pv 0) pe_int set_list))
      (pss_one (ps_ret (pe_callTy call_int1 (by rfl) T.z_int (by decide +kernel) (pa_cons (pv 3) pa_nil)))))) pss_nil)
      (pss_cons (ps_asg (pe_op op_add (pe_ix (r := rIxL K) ix_list (pv 0) pe_int (fun _ _ => rfl)) pe_int) (pg_sub (pv 0) pe_int set_list))
      (pss_cons (ps_set (i := 4) sc__law_roll.nd rfl (Or.inl rfl) (pe_op op_mod (pe_op op_add (pe_ix (r := rIxL K) ix_list (pv 0) pe_int (fun _ _ => rfl)) (pe_op op_mul pe_int (pe_ix (r := rIxL K) ix_list (pv 0) pe_int (fun _ _ => rfl)))) pe_int))
      (pss_cons (ps_set (i := 5) sc__law_roll.nd rfl (Or.inl rfl) (pe_op op_add (pe_op op_mulW (pe_op op_mod (pe_op op_mulW (pv 4) (pv 4)) pe_int) (pv 4)) (pe_op op_mul pe_int (pe_ix (r := rIxL K) ix_list (pv 0) pe_int (fun _ _ => rfl)))))
      (pss_cons (ps_set (i := 5) sc__law_roll.nd rfl (Or.inl rfl) (pe_op op_mod (pv 5) pe_int))
      (pss_one (ps_ret (pe_callTy call_int1 (by rfl) T.z_int (by decide +kernel) (pa_cons (pe_op op_mod (pe_op op_fdivW (pv 5) pe_int) (pv 2)) pa_nil)))))))))), ?_⟩
    obtain ⟨d0, d1, d2, hd⟩ := hd
    refine q_asg (ev_cb (ea_cons (ev_var rfl) ea_nil) rc_int) fun H1 e1 => ?_
    have h1 := e1 _ _ hd
    refine q_if (et_test (ev_op (ev_op (ev_var rfl) ev_c (rv_ixL (sq_of h1) (atI_nat (j := 0) rfl))) ev_c rv_I0)) (fun hb H2 e2 => ?_) (fun _ H2 e2 => ?_)
    · have h2 := e2 _ _ h1
      obtain ⟨r, hr1, hr2⟩ := nat_mod d0 hm
      refine q_asg (ev_op (ev_op (ev_var rfl) ev_c (rv_ixL (sq_of h2) (atI_nat (j := 0) rfl))) (ev_var rfl) (rv_I (by omega))) fun H3 e3 => ?_
      have h3 := e3 _ _ h2
      refine q_setL (j := 0) h3 (ev_op (ev_op (ev_var rfl) ev_c (rv_ixL (sq_of h3) (atI_nat (j := 0) rfl))) (ev_var rfl) (rv_I (wide_div (b := 1000) (by omega) (by exact hM) (by decide) (by decide)))) (ev_var rfl) ev_c (by show 0 < 3; decide) fun H4 e4 => ?_
      refine s_ret (ev_cb (ea_cons (ev_var rfl) ea_nil) rc_int) fun H5 e5 => ?_
      rw [hr2]
      exact k r H5 hr1 (((Exd.of (((e1.trans e2).trans e3).trans e4)).trans Exd.put).trans (Exd.of e5)) (IsDice.ex ⟨_, _, _, upd_same⟩ e5)
    · have h2 := e2 _ _ h1
      refine q_setL (j := 2) h2 (ev_op (ev_op (ev_var rfl) ev_c (rv_ixL (sq_of h2) (atI_nat (j := 2) rfl))) ev_c rv_I0) (ev_var rfl) ev_c (by show 2 < 3; decide) fun H3 e3 => ?_
      have h3 : (upd H3 p (.lst ([V.int d0, .int d1, .int d2].set 2 (.int (d2 + 1))))) p = some (.lst [.int d0, .int d1, .int (d2 + 1)]) := upd_same
      generalize hg : upd H3 p (.lst ([V.int d0, .int d1, .int d2].set 2 (.int (d2 + 1)))) = G at h3
      have eG : Exd p H G := by
        rw [← hg]
        exact (Exd.of ((e1.trans e2).trans e3)).trans Exd.put
      refine q_asg (ev_op (ev_op (ev_op (ev_var rfl) ev_c (rv_ixL (sq_of h3) (atI_nat (j := 1) rfl))) (ev_op ev_c (ev_op (ev_var rfl) ev_c (rv_ixL (sq_of h3) (atI_nat (j := 2) rfl))) (rv_I (.inl ⟨by decide, by decide⟩))) rv_I0) ev_c (rv_I (by decide))) fun H4 e4 => ?_
      have h4 := e4 _ _ h3
      have b1 : ∀ x : Int, (x % 2305843009213693951).natAbs < 2 ^ 61 := fun x => mod_abs (by decide) (by decide)
      have b2 : ∀ x : Int, (x % 2305843009213693921).natAbs < 2 ^ 61 := fun x => mod_abs (by decide) (by decide)
      refine q_asg (ev_op (ev_op (ev_op (ev_op (ev_var rfl) (ev_var rfl) (rv_I (wide_mul (b1 _) (b1 _) (by decide) (by decide) (by decide)))) ev_c (rv_I (by decide))) (ev_var rfl) (rv_I (wide_mul (b2 _) (b1 _) (by decide) (by decide) (by decide)))) (ev_op ev_c (ev_op (ev_var rfl) ev_c (rv_ixL (sq_of h4) (atI_nat (j := 2) rfl))) (rv_I (.inl ⟨by decide, by decide⟩))) rv_I0) fun H5 e5 => ?_
      refine q_asg (ev_op (ev_var rfl) ev_c (rv_I (by decide))) fun H6 e6 => ?_
      refine s_ret (ev_cb (ea_cons (ev_op (ev_op (ev_var rfl) ev_c (rv_I (wide_div (b := 20) (by decide) (by decide) (by decide) (by decide)))) (ev_var rfl) (rv_I (by omega))) ea_nil) rc_int) fun H7 e7 => ?_
      obtain ⟨r, hr1, hr2⟩ := nat_mod _ hm
      rw [hr2]
      exact k r H7 hr1 (eG.trans (Exd.of (((e4.trans e5).trans e6).trans e7))) (IsDice.ex ⟨_, _, _, h4⟩ ((e5.trans e6).trans e7))


def sp__law_raised (K : PySem.W.Frag) : Sp := fun vs H Q _ => ∃ (b c : Nat), vs = [N_ b, N_ c] ∧ b ≤ 1000 ∧ c ≤ 1000 ∧ RetV (N_ (b ^ c)) H Q
theorem sv_raised {K : PySem.W.Frag} {H : Hp} {b c : Nat} (hb : b ≤ 1000) (hc : c ≤ 1000) : SpV (sp__law_raised K) [N_ b, N_ c] H (N_ (b ^ c)) := fun H1 _ Q q E => ⟨b, c, rfl, hb, hc, q⟩
theorem pow_bd {b : Nat} (hb : b ≤ 1000) : ∀ i : Nat, b ^ i ≤ 2 ^ (10 * i)
  | 0 => Nat.le_refl _
  | i + 1 => by
    have ih := pow_bd hb i
    rw [Nat.pow_succ, Nat.mul_add, Nat.pow_add]
    exact Nat.mul_le_mul ih (by show b ≤ 1024; omega)

theorem ok__law_raised {P : Program} {w : World} {K : PySem.W.Frag} {mg : Str → Option Value} {base : Heap} (T : Txt K mg) : FnOk P w K mg base CX0 1 T.a__law_raised T.d__law_raised ["_law_base", "_law_count"] (sp__law_raised K) := by
  refine T.F__law_raised.ok sc__law_raised (fun vs H Q E h => ?_) (fun cdv A outer s H vs Q E hr h => ?_)
  · obtain ⟨b, c, rfl, _⟩ := h
    rfl
  · obtain ⟨b, c, rfl, hb, hc, k⟩ := h
    refine ⟨_, (pss_cons (ps_set (i := 2) sc__law_raised.nd rfl (Or.inl rfl) pe_int)
      (pss_cons (ps_for PassesOwn.never rfl (pi_range1 rfl T.z_range (pa_cons (pv 1) pa_nil)) (pg_name (i := 3) sc__law_raised.nd rfl (Or.inl rfl)) (pss_one (ps_set (i := 2) sc__law_raised.nd rfl (Or.inl rfl) (pe_op op_mulW (pv 2) (pv 0)))))
      (pss_one (ps_ret (pv 2))))), ?_⟩
    refine q_asg ev_c fun H1 e1 => ?_
    refine q_forR1 (n := (c : Int)) (ea_cons (ev_var rfl) ea_nil) ⟨by omega, by omega⟩ (fun i σ H' => ∃ y, σ = [some (N_ b), some (N_ c), some (N_ (b ^ i)), y] ∧ Ex H H') (fun H2 e2 => ⟨none, rfl, e1.trans e2⟩) (fun i σ H' hi hw => ?_) (fun σ H' hw => ?_)
    · obtain ⟨y, rfl, e2⟩ := hw
      have hb2 : b ^ i < 2 ^ 10001 := Nat.lt_of_le_of_lt (Nat.le_trans (pow_bd hb i) (Nat.pow_le_pow_right (by decide) (by omega : 10 * i ≤ 10000))) (Nat.pow_lt_pow_right (by decide) (by decide))
      refine s_asg (ev_op (ev_var rfl) (ev_var rfl) (rv_I (wide_mul (a := 10001) (b := 10) (by exact hb2) (by show b < 1024; omega) (by decide) (by decide) (by decide)))) fun H3 e3 => ⟨some (N_ i), ?_, e2.trans e3⟩
      rw [show N_ (b ^ (i + 1)) = V.int (((b ^ i : Nat) : Int) * (b : Int)) from congrArg V.int (by rw [Nat.pow_succ, Int.natCast_mul])]
      rfl
    · obtain ⟨y, rfl, e2⟩ := hw
      rw [Int.toNat_natCast]
      exact s_ret (ev_var rfl) fun H3 e3 => k H3 (e2.trans e3)


def sp__law_one_of (K : PySem.W.Frag) : Sp := fun vs H Q _ => ∃ (p a : Addr) (xs : List V), vs = [.ref p, .ref a] ∧ IsDice H p ∧ SqL K H a xs ∧ a ≠ p ∧ 0 < xs.length ∧ xs.length ≤ 1000 ∧ ∀ (x : V) H', x ∈ xs → Exd p H H' → IsDice H' p → Q x H'

theorem ok__law_one_of {P : Program} {w : World} {K : PySem.W.Frag} {mg : Str → Option Value} {base : Heap} (T : Txt K mg) : FnOk P w K mg base CX0 2 T.a__law_one_of T.d__law_one_of ["_law_dice_here", "_law_items"] (sp__law_one_of K) := by
  refine T.F__law_one_of.ok sc__law_one_of (fun vs H Q E h => ?_) (fun cdv A outer s H vs Q E hr h => ?_)
  · obtain ⟨p, a, xs, rfl, _⟩ := h
    rfl
  · obtain ⟨p, a, xs, rfl, hd, hx, hne, hpos, hlen, k⟩ := h
    refine ⟨_, (pss_one (ps_ret (pe_ix (r := rIxL K) ix_list (pv 1) (pe_call (ok__law_roll T) (hr.mono (by decide)) (by rfl) T.g__law_roll T.F__law_roll.kp T.b__law_roll .nil pass0 (pa_cons (pv 0) (pa_cons (pe_callB call_len_seq (by rfl) T.z_len (by decide +kernel) (pa_cons (pv 1) pa_nil)) pa_nil))) (fun _ _ => rfl)))), ?_⟩
    refine ⟨.ref a, rfl, .ref p, rfl, .ref a, rfl, a, xs, rfl, .inl hx, p, xs.length, rfl, hd, hpos, Nat.lt_of_le_of_lt hlen (by decide), fun r H' hr ex hd' => ?_⟩
    exact ⟨a, xs, (r : Int), xs[r], rfl, rfl, exd_l hne ex hx, atI_nat (List.getElem?_eq_getElem hr), k _ _ (List.getElem_mem hr) ex hd'⟩


def sp__law_digits (K : PySem.W.Frag) : Sp := fun vs H Q _ => ∃ (b n : Nat), vs = [N_ b, N_ n] ∧ Bs b ∧ Gt n ∧ RetL ((dg b n).map N_) H Q
theorem sv__law_digits {K : PySem.W.Frag} {H : Hp} {b n : Nat} (hb : Bs b) (hn : Gt n) : SpL (sp__law_digits K) [N_ b, N_ n] H ((dg b n).map N_) := fun H1 _ Q q E => ⟨b, n, rfl, hb, hn, q⟩

theorem ok__law_digits {P : Program} {w : World} {K : PySem.W.Frag} {mg : Str → Option Value} {base : Heap} (T : Txt K mg) : FnOk P w K mg base CX0 1 T.a__law_digits T.d__law_digits ["_law_base", "_law_number"] (sp__law_digits K) := by
  refine T.F__law_digits.ok sc__law_digits (fun vs H Q E h => ?_) (fun cdv A outer s H vs Q E hr h => ?_)
  · obtain ⟨b, n, rfl, _⟩ := h
    rfl
  · obtain ⟨b, n, rfl, hb, hn, k⟩ := h
    refine ⟨_, (pss_cons (ps_par (i := 2) (j := 3) (by rfl) sc__law_digits.nd rfl rfl (by decide) rfl rfl (pa_cons (pe_lst pa_nil) (pa_cons (pv 1) pa_nil)) (by rfl))
      (pss_cons (ps_while PassesOwn.never (pt_cmpR op_gt (pv 3) pe_int (nomark _)) (pss_cons (ps_expr (pe_bm PySem.F.plainAttrs_list PySem.F.slot_list_append PySem.F.type_list_append mt_append (pv 2) (pa_cons (pe_op op_mod (pv 3) (pv 0)) pa_nil)))
      (pss_one (ps_set (i := 3) sc__law_digits.nd rfl (Or.inl rfl) (pe_op op_fdivW (pv 3) (pv 0))))))
      (pss_one (ps_ret (pv 2))))), ?_⟩
    refine q_parL (el_lst ea_nil (by decide)) (fun p H1 np e1 h1 => ev_var rfl) fun p H1 np e1 h1 => ?_
    refine q_while (fun l σ H' => ∃ acc : List Nat, σ = [some (N_ b), some (N_ n), some (.ref p), some (N_ l)] ∧ acc ++ dg b l = dg b n ∧ Ex H H' ∧ H' p = some (.lst (acc.map N_))) n
      ⟨[], rfl, rfl, e1, h1⟩ fun l σ H3 hw => ?_
    obtain ⟨acc, rfl, ha, e3, h3⟩ := hw
    refine ⟨decide (0 < (l : Int)), et_test (ev_op (ev_var rfl) ev_c rv_I0), fun ht H4 e4 => ?_, fun hf H4 e4 => ?_⟩
    · have hl : 0 < l := by have := of_decide_eq_true ht; omega
      refine ⟨fun σ' H' => σ' = [some (N_ b), some (N_ n), some (.ref p), some (N_ (l / b))] ∧ Ex H H' ∧ H' p = some (.lst ((acc ++ [l % b]).map N_)), fun σ2 H2' hN => ?_, ?_⟩
      · obtain ⟨rfl, e5, h5⟩ := hN
        refine ⟨l / b, Nat.div_lt_self hl hb.1, acc ++ [l % b], rfl, ?_, e5, h5⟩
        rw [← ha, dg_pos hb.1 hl, List.append_assoc]
        rfl
      · have hlen : acc.length < 100000 := by
          have h6 := dg_len hb.1 400 n hn
          rw [← ha, List.length_append] at h6
          omega
        refine q_app (e4 p _ h3) (ev_var rfl) (ev_op (ev_var rfl) (ev_var rfl) (rv_I (by have := hb.1; omega))) (by rw [List.length_map]; exact hlen) fun H5 e5 => ?_
        refine s_asg (ev_op (ev_var rfl) (ev_var rfl) (rv_I (divW (by have := hb.1; omega) hb.2))) fun H6 e6 => ?_
        refine ⟨rfl, ((e3.trans (e4.trans e5)).mut np).trans e6, ?_⟩
        rw [e6 p _ upd_same, List.map_append]
        rfl
    · have hl : l = 0 := by have := of_decide_eq_false hf; omega
      subst hl
      rw [dg_zero, List.append_nil] at ha
      subst ha
      exact s_ret (ev_var rfl) fun H5 e5 => k p H5 np ((e3.trans e4).trans e5) (e5 p _ (e4 p _ h3))


/-! the law's own sums and products of elements, as plain functions -/
def esR (p a b : Nat) : Nat → Nat × Nat
  | 0 => (0, 1)
  | i + 1 => ((esR p a b i).1 + (a / (esR p a b i).2 + b / (esR p a b i).2) % p * (esR p a b i).2, (esR p a b i).2 * p)
theorem esR_pow (p a b : Nat) : ∀ i, (esR p a b i).2 = p ^ i
  | 0 => rfl
  | i + 1 => by
    show (esR p a b i).2 * p = p ^ (i + 1)
    rw [esR_pow p a b i, Nat.pow_succ]
def esL (p f a b : Nat) : Nat := (esR p a b f).1
/-- p and f of a field, small -/
structure PF_ (p f : Nat) : Prop where
  p2 : 2 ≤ p
  p7 : p ≤ 7
  f1 : 1 ≤ f
  f3 : f ≤ 3
def sp__law_element_sum (K : PySem.W.Frag) : Sp := fun vs H Q _ => ∃ (p f a b : Nat), vs = [N_ p, N_ f, N_ a, N_ b] ∧ PF_ p f ∧ RetV (N_ (esL p f a b)) H Q
theorem sv__law_element_sum {K : PySem.W.Frag} {H : Hp} {p f a b : Nat} (h : PF_ p f) : SpV (sp__law_element_sum K) [N_ p, N_ f, N_ a, N_ b] H (N_ (esL p f a b)) := fun H1 _ Q kk E => ⟨p, f, a, b, rfl, h, kk⟩

theorem ok__law_element_sum {P : Program} {w : World} {K : PySem.W.Frag} {mg : Str → Option Value} {base : Heap} (T : Txt K mg) : FnOk P w K mg base CX0 1 T.a__law_element_sum T.d__law_element_sum ["_law_p", "_law_f", "_law_one", "_law_other"] (sp__law_element_sum K) := by
  refine T.F__law_element_sum.ok sc__law_element_sum (fun vs H Q E h => ?_) (fun cdv A outer s H vs Q E hr h => ?_)
  · obtain ⟨p, f, a, b, rfl, _⟩ := h
    rfl
  · obtain ⟨p, f, a, b, rfl, hp, k⟩ := h
    refine ⟨_, (pss_cons (ps_asg (pe_tup (pa_cons pe_int (pa_cons pe_int pa_nil))) (pg_tup (by rfl) (pgs_cons (pg_name (i := 4) sc__law_element_sum.nd rfl (Or.inl rfl)) (pgs_cons (pg_name (i := 5) sc__law_element_sum.nd rfl (Or.inl rfl)) pgs_nil))))
      (pss_cons (ps_for PassesOwn.never rfl (pi_range1 rfl T.z_range (pa_cons (pv 1) pa_nil)) (pg_name (i := 6) sc__law_element_sum.nd rfl (Or.inl rfl)) (pss_cons (ps_set (i := 4) sc__law_element_sum.nd rfl (Or.inl rfl) (pe_op op_add (pv 4) (pe_op op_mulW (pe_op op_mod (pe_op op_add (pe_op op_fdivW (pv 2) (pv 5)) (pe_op op_fdivW (pv 3) (pv 5))) (pv 0)) (pv 5))))
      (pss_one (ps_set (i := 5) sc__law_element_sum.nd rfl (Or.inl rfl) (pe_op op_mulW (pv 5) (pv 0))))))
      (pss_one (ps_ret (pv 4))))), ?_⟩
    refine q_tupNN ev_c ev_c fun H1 e1 => ?_
    refine q_forR1 (n := (f : Int)) (ea_cons (ev_var rfl) ea_nil) ⟨by omega, by have := hp.f3; omega⟩ (fun i σ H' => ∃ y, σ = [some (N_ p), some (N_ f), some (N_ a), some (N_ b), some (N_ (esR p a b i).1), some (N_ (esR p a b i).2), y] ∧ Ex H H') (fun H2 e2 => ⟨none, rfl, e1.trans e2⟩) (fun i σ H' hi hw => ?_) (fun σ H' hw => ?_)
    · obtain ⟨y, rfl, e2⟩ := hw
      have h2 := esR_pow p a b i
      have hpl : (esR p a b i).2 ≤ 343 := by
        rw [h2]
        exact Nat.le_trans (Nat.pow_le_pow_left hp.p7 i) (Nat.le_trans (Nat.pow_le_pow_right (by decide) (show i ≤ 3 by have := hp.f3; omega)) (by decide))
      have hpl0 : 0 < (esR p a b i).2 := by rw [h2]; exact Nat.pow_pos (by have := hp.p2; omega)
      have hdv : ∀ x : Nat, CDivW (x : Int) (((esR p a b i).2 : Nat) : Int) := fun x => wide_div (b := 10) (by omega) (by show (esR p a b i).2 < 1024; omega) (by decide) (by decide)
      refine q_asg (ev_op (ev_var rfl) (ev_op (ev_op (ev_op (ev_op (ev_var rfl) (ev_var rfl) (rv_I (hdv a))) (ev_op (ev_var rfl) (ev_var rfl) (rv_I (hdv b))) rv_I0) (ev_var rfl) (rv_I (by have := hp.p2; omega))) (ev_var rfl) (rv_I (wide_mul (a := 10) (b := 10) (mod_abs (by have := hp.p2; omega) (by show p ≤ 1024; have := hp.p7; omega)) (by show (esR p a b i).2 < 1024; omega) (by decide) (by decide) (by decide)))) rv_I0) fun H3 e3 => ?_
      exact s_asg (ev_op (ev_var rfl) (ev_var rfl) (rv_I (wide_mul (a := 10) (b := 10) (by show (esR p a b i).2 < 1024; omega) (by show p < 1024; have := hp.p7; omega) (by decide) (by decide) (by decide)))) fun H4 e4 => ⟨some (.int (i : Int)), rfl, (e2.trans e3).trans e4⟩
    · obtain ⟨y, rfl, e2⟩ := hw
      rw [Int.toNat_natCast]
      exact s_ret (ev_var rfl) fun H3 e3 => k H3 (e2.trans e3)


def inL (p i l : Nat) : Nat → List Nat → List Nat → List Nat
  | _, [], fd => fd
  | j, r :: rs, fd => inL p i l (j + 1) rs (fd.set (i + j) ((fd.getD (i + j) 0 + l * r) % p))
def ouL (p : Nat) (os : List Nat) : Nat → List Nat → List Nat → List Nat
  | _, [], fd => fd
  | i, l :: ls, fd => ouL p os (i + 1) ls (inL p i l 0 os fd)
def rdL (p f i : Nat) (fd : List Nat) : List Nat :=
  if 1 < f then
    let f1 := fd.set (i - f) ((fd.getD (i - f) 0 + fd.getD i 0) % p)
    let f2 := f1.set (i - f + 1) ((f1.getD (i - f + 1) 0 + f1.getD i 0) % p)
    f2.set i 0
  else fd
def dnL (p f : Nat) (fd : List Nat) : Nat → List Nat
  | 0 => fd
  | k + 1 => rdL p f (2 * f - 1 - k) (dnL p f fd k)
def epL (p f a b : Nat) : Nat := od p ((dnL p f (ouL p (dg p b) 0 (dg p a) (List.replicate (2 * f) 0)) f).take f)
theorem inL_len (p i l : Nat) : ∀ (rs : List Nat) (j : Nat) (fd : List Nat), (inL p i l j rs fd).length = fd.length
  | [], _, _ => rfl
  | r :: rs, j, fd => by
    show (inL p i l (j + 1) rs _).length = _
    rw [inL_len p i l rs, List.length_set]
theorem ouL_len (p : Nat) (os : List Nat) : ∀ (ls : List Nat) (i : Nat) (fd : List Nat), (ouL p os i ls fd).length = fd.length
  | [], _, _ => rfl
  | l :: ls, i, fd => by
    show (ouL p os (i + 1) ls _).length = _
    rw [ouL_len p os ls, inL_len]
theorem rdL_len (p f i : Nat) (fd : List Nat) : (rdL p f i fd).length = fd.length := by
  unfold rdL
  split
  · simp
  · rfl
theorem dnL_len (p f : Nat) (fd : List Nat) : ∀ k, (dnL p f fd k).length = fd.length
  | 0 => rfl
  | k + 1 => by
    show (rdL p f _ _).length = _
    rw [rdL_len, dnL_len]
def lt_all (p : Nat) (fd : List Nat) : Prop := ∀ x ∈ fd, x < p
theorem lt_all_set {p i x : Nat} {fd : List Nat} (h : lt_all p fd) (hx : x < p) : lt_all p (fd.set i x) := fun y hy => by
  rcases List.mem_or_eq_of_mem_set hy with h1 | h1
  · exact h y h1
  · rw [h1]; exact hx
theorem inL_lt {p : Nat} (h0 : 0 < p) (i l : Nat) : ∀ (rs : List Nat) (j : Nat) (fd : List Nat), lt_all p fd → lt_all p (inL p i l j rs fd)
  | [], _, _, h => h
  | r :: rs, j, fd, h => inL_lt h0 i l rs (j + 1) _ (lt_all_set h (Nat.mod_lt _ h0))
theorem ouL_lt {p : Nat} (h0 : 0 < p) (os : List Nat) : ∀ (ls : List Nat) (i : Nat) (fd : List Nat), lt_all p fd → lt_all p (ouL p os i ls fd)
  | [], _, _, h => h
  | l :: ls, i, fd, h => ouL_lt h0 os ls (i + 1) _ (inL_lt h0 i l os 0 fd h)
theorem rdL_lt {p : Nat} (h0 : 0 < p) (f i : Nat) {fd : List Nat} (h : lt_all p fd) : lt_all p (rdL p f i fd) := by
  unfold rdL
  split
  · exact lt_all_set (lt_all_set (lt_all_set h (Nat.mod_lt _ h0)) (Nat.mod_lt _ h0)) h0
  · exact h
theorem dnL_lt {p : Nat} (h0 : 0 < p) (f : Nat) {fd : List Nat} (h : lt_all p fd) : ∀ k, lt_all p (dnL p f fd k)
  | 0 => h
  | k + 1 => rdL_lt h0 f _ (dnL_lt h0 f h k)
theorem inL_snoc (p i l : Nat) : ∀ (rs : List Nat) (j : Nat) (fd : List Nat) (r : Nat), inL p i l j (rs ++ [r]) fd = (inL p i l j rs fd).set (i + (j + rs.length)) (((inL p i l j rs fd).getD (i + (j + rs.length)) 0 + l * r) % p)
  | [], j, fd, r => rfl
  | z :: rs, j, fd, r => by
    show inL p i l (j + 1) (rs ++ [r]) _ = _
    rw [inL_snoc p i l rs (j + 1) _ r]
    show (inL p i l (j + 1) rs _).set _ _ = (inL p i l (j + 1) rs _).set _ _
    rw [show j + 1 + rs.length = j + (z :: rs).length by rw [List.length_cons]; omega]
    rfl
theorem ouL_snoc (p : Nat) (os : List Nat) : ∀ (ls : List Nat) (i : Nat) (fd : List Nat) (l : Nat), ouL p os i (ls ++ [l]) fd = inL p (i + ls.length) l 0 os (ouL p os i ls fd)
  | [], i, fd, l => rfl
  | z :: ls, i, fd, l => by
    show ouL p os (i + 1) (ls ++ [l]) _ = _
    rw [ouL_snoc p os ls (i + 1) _ l, show i + 1 + ls.length = i + (z :: ls).length by rw [List.length_cons]; omega]
    rfl
theorem take_snoc {xs : List Nat} {i x : Nat} (h : xs[i]? = some x) : xs.take (i + 1) = xs.take i ++ [x] := by
  rw [List.take_add_one, h]
  rfl
theorem dg_len2 {p f a : Nat} (hp : 2 ≤ p) : ∀ (f a : Nat), a < p ^ f → (dg p a).length ≤ f
  | 0, a, h => by
    have : a = 0 := by rw [Nat.pow_zero] at h; omega
    subst this
    rw [dg_zero]
    exact Nat.le_refl _
  | f + 1, a, h => by
    by_cases ha : 0 < a
    · rw [dg_pos hp ha, List.length_cons]
      have : a / p < p ^ f := by
        rw [Nat.pow_succ] at h
        exact Nat.div_lt_of_lt_mul (by rw [Nat.mul_comm]; exact h)
      have := dg_len2 (f := f) (a := a) hp f (a / p) this
      omega
    · have : a = 0 := by omega
      subst this
      rw [dg_zero]
      exact Nat.zero_le _
theorem getD_some {xs : List Nat} {i : Nat} (h : i < xs.length) : xs[i]? = some (xs.getD i 0) := by
  rw [List.getElem?_eq_getElem h, List.getD_eq_getElem?_getD, List.getElem?_eq_getElem h]
  rfl
theorem get_N {xs : List Nat} {i : Nat} (h : i < xs.length) : (xs.map N_)[i]? = some (N_ (xs.getD i 0)) := by
  rw [List.getElem?_map, getD_some h]
  rfl
theorem getD_lt {p i : Nat} {fd : List Nat} (h : lt_all p fd) (hi : i < fd.length) : fd.getD i 0 < p := h _ (List.mem_of_getElem? (getD_some hi))
theorem exl {l : Addr} {H H' : Hp} (n : H l = none) (x : Exd l H H') : Ex H H' := fun a o h => x a o (fun z => by rw [z, n] at h; cases h) h
def sp__law_element_product (K : PySem.W.Frag) : Sp := fun vs H Q _ => ∃ (p f a b : Nat), vs = [N_ p, N_ f, N_ a, N_ b] ∧ PF_ p f ∧ a < p ^ f ∧ b < p ^ f ∧ RetV (N_ (epL p f a b)) H Q
theorem sv__law_element_product {K : PySem.W.Frag} {H : Hp} {p f a b : Nat} (h : PF_ p f) (ha : a < p ^ f) (hb : b < p ^ f) : SpV (sp__law_element_product K) [N_ p, N_ f, N_ a, N_ b] H (N_ (epL p f a b)) := fun H1 _ Q kk E => ⟨p, f, a, b, rfl, h, ha, hb, kk⟩
theorem pf_343 {p f a : Nat} (h : PF_ p f) (ha : a < p ^ f) : a < 343 := Nat.lt_of_lt_of_le ha (Nat.le_trans (Nat.pow_le_pow_left h.p7 f) (Nat.le_trans (Nat.pow_le_pow_right (by decide) h.f3) (by decide)))

theorem ok__law_element_product {P : Program} {w : World} {K : PySem.W.Frag} {mg : Str → Option Value} {base : Heap} (T : Txt K mg) : FnOk P w K mg base CX0 2 T.a__law_element_product T.d__law_element_product ["_law_p", "_law_f", "_law_one", "_law_other"] (sp__law_element_product K) := by
  refine T.F__law_element_product.ok sc__law_element_product (fun vs H Q E h => ?_) (fun cdv A outer s H vs Q E hr h => ?_)
  · obtain ⟨p, f, a, b, rfl, _⟩ := h
    rfl
  · obtain ⟨p, f, a, b, rfl, hp, ha, hb, k⟩ := h
    refine ⟨_, (pss_cons (ps_set (i := 4) sc__law_element_product.nd rfl (Or.inl rfl) (pe_op op_rep (pe_lst (pa_cons pe_int pa_nil)) (pe_op op_mul pe_int (pv 1))))
      (pss_cons (ps_for PassesOwn.never rfl (pi_enum (by rfl) T.z_enumerate (pa_cons (pe_call (ok__law_digits T) (hr.mono (by decide)) (by rfl) T.g__law_digits T.F__law_digits.kp T.b__law_digits .nil pass0 (pa_cons (pv 0) (pa_cons (pv 2) pa_nil))) pa_nil)) (pg_tup (by rfl) (pgs_cons (pg_name (i := 5) sc__law_element_product.nd rfl (Or.inl rfl)) (pgs_cons (pg_name (i := 6) sc__law_element_product.nd rfl (Or.inl rfl)) pgs_nil))) (pss_one (ps_for PassesOwn.never rfl (pi_enum (by rfl) T.z_enumerate (pa_cons (pe_call (ok__law_digits T) (hr.mono (by decide)) (by rfl) T.g__law_digits T.F__law_digits.kp T.b__law_digits .nil pass0 (pa_cons (pv 0) (pa_cons (pv 3) pa_nil))) pa_nil)) (pg_tup (by rfl) (pgs_cons (pg_name (i := 7) sc__law_element_product.nd rfl (Or.inl rfl)) (pgs_cons (pg_name (i := 8) sc__law_element_product.nd rfl (Or.inl rfl)) pgs_nil))) (pss_one (ps_asg (pe_op op_mod (pe_op op_add (pe_ix (r := rIxL K) ix_list (pv 4) (pe_op op_add (pv 5) (pv 7)) (fun _ _ => rfl)) (pe_op op_mulW (pv 6) (pv 8))) (pv 0)) (pg_sub (pv 4) (pe_op op_add (pv 5) (pv 7)) set_list))))))
      (pss_cons (ps_for PassesOwn.never rfl (pi_range3 rfl T.z_range (pa_cons (pe_op op_sub (pe_op op_mul pe_int (pv 1)) pe_int) (pa_cons (pe_op op_sub (pv 1) pe_int) (pa_cons (pe_un un_neg pe_int) pa_nil)))) (pg_name (i := 5) sc__law_element_product.nd rfl (Or.inl rfl)) (pss_one (ps_if (pt_cmpR op_gt (pv 1) pe_int (nomark _)) (pss_cons (ps_asg (pe_op op_mod (pe_op op_add (pe_ix (r := rIxL K) ix_list (pv 4) (pe_op op_sub (pv 5) (pv 1)) (fun _ _ => rfl)) (pe_ix (r := rIxL K) ix_list (pv 4) (pv 5) (fun _ _ => rfl))) (pv 0)) (pg_sub (pv 4) (pe_op op_sub (pv 5) (pv 1)) set_list))
      (pss_cons (ps_asg (pe_op op_mod (pe_op op_add (pe_ix (r := rIxL K) ix_list (pv 4) (pe_op op_add (pe_op op_sub (pv 5) (pv 1)) pe_int) (fun _ _ => rfl)) (pe_ix (r := rIxL K) ix_list (pv 4) (pv 5) (fun _ _ => rfl))) (pv 0)) (pg_sub (pv 4) (pe_op op_add (pe_op op_sub (pv 5) (pv 1)) pe_int) set_list))
      (pss_one (ps_asg pe_int (pg_sub (pv 4) (pv 5) set_list))))) pss_nil)))
      (pss_cons (ps_set (i := 9) sc__law_element_product.nd rfl (Or.inl rfl) pe_int)
      (pss_cons (ps_for PassesOwn.never rfl (pi_list (pe_revL (pe_slice sl_list (pv 4) po_none (po_some (pv 1))))) (pg_name (i := 10) sc__law_element_product.nd rfl (Or.inl rfl)) (pss_one (ps_set (i := 9) sc__law_element_product.nd rfl (Or.inl rfl) (pe_op op_add (pe_op op_mulW (pv 9) (pv 0)) (pv 10)))))
      (pss_one (ps_ret (pv 9)))))))), ?_⟩
    have hp2 := hp.p2
    have hp7 := hp.p7
    have hf1 := hp.f1
    have hf3 := hp.f3
    have ha343 := pf_343 hp ha
    have hb343 := pf_343 hp hb
    have h0 : 0 < p := by omega
    have hBs : Bs p := ⟨hp2, by omega⟩
    have hla : (dg p a).length ≤ f := dg_len2 (f := f) (a := a) hp2 f a ha
    have hlb : (dg p b).length ≤ f := dg_len2 (f := f) (a := b) hp2 f b hb
    have hGa : Gt a := Nat.lt_trans ha343 (show 343 < 2 ^ 400 from Nat.lt_of_lt_of_le (show 343 < 2 ^ 10 by decide) (Nat.pow_le_pow_right (by decide) (by decide : 10 ≤ 400)))
    have hGb : Gt b := Nat.lt_trans hb343 (show 343 < 2 ^ 400 from Nat.lt_of_lt_of_le (show 343 < 2 ^ 10 by decide) (Nat.pow_le_pow_right (by decide) (by decide : 10 ≤ 400)))
    -- found = [0] * (2 * f)
    refine q_asgL (el_rep (k := ((2 * f : Nat) : Int)) (el_lst (ea_cons ev_c ea_nil) (by show 1 ≤ 100000; decide)) (ev_is (ev_op ev_c (ev_var rfl) (rv_I (.inl ⟨by decide, by decide⟩))) (congrArg V.int (by omega))) (by omega) (by show 1 * _ ≤ _; omega) (by omega)) fun l H1 nl e1 h1 => ?_
    rw [Int.toNat_natCast, rep_zero] at h1
    -- the double loop
    generalize hfd : ouL p (dg p b) 0 (dg p a) (List.replicate (2 * f) 0) = fd
    have hrl : lt_all p (List.replicate (2 * f) 0) := fun x hx => by rw [(List.mem_replicate.mp hx).2]; exact h0
    have hfl : fd.length = 2 * f := by rw [← hfd, ouL_len, List.length_replicate]
    have hft : lt_all p fd := by rw [← hfd]; exact ouL_lt h0 _ _ _ _ hrl
    refine q_forEN (xs := (dg p a).map N_) (el_call (ea_cons (ev_var rfl) (ea_cons (ev_var rfl) ea_nil)) (sv__law_digits hBs hGa)) (fun q i σ H' => ∃ y5 y6 y7 y8 : Option V, σ = [some (N_ p), some (N_ f), some (N_ a), some (N_ b), some (.ref l), y5, y6, y7, y8, none, none] ∧ Exd l H H' ∧ SqL K H' q ((dg p a).map N_) ∧ q ≠ l ∧ H' l = some (.lst ((ouL p (dg p b) 0 ((dg p a).take i) (List.replicate (2 * f) 0)).map N_)))
      (fun q H2 nq e2 h2 => ⟨none, none, none, none, rfl, (Exd.of (e1.trans e2)), sq_of h2, (fun z => by rw [z, h1] at nq; cases nq), e2 _ _ h1⟩) (fun q i σ H2 hi hw => ?_) (fun q i x σ H2 H3 hx hw e3 => ?_) (fun q σ H2 hw => ?_)
    · obtain ⟨y5, y6, y7, y8, rfl, x2, s2, n2, h2⟩ := hw
      exact s2
    · obtain ⟨y5, y6, y7, y8, rfl, x2, s2, n2, h2⟩ := hw
      rw [List.getElem?_map] at hx
      obtain ⟨d, hd, rfl⟩ := Option.map_eq_some_iff.mp hx
      have hil : i < (dg p a).length := (List.getElem?_eq_some_iff.mp hd).1
      have hdp : d < p := dg_lt hp2 a d (List.mem_of_getElem? hd)
      have h3 := e3 _ _ h2
      have s3 := ex_l e3 s2
      generalize hA : ouL p (dg p b) 0 ((dg p a).take i) (List.replicate (2 * f) 0) = fA at h3
      have hAl : fA.length = 2 * f := by rw [← hA, ouL_len, List.length_replicate]
      have hAt : lt_all p fA := by rw [← hA]; exact ouL_lt h0 _ _ _ _ hrl
      refine s_forEN (xs := (dg p b).map N_) (el_call (ea_cons (ev_var rfl) (ea_cons (ev_var rfl) ea_nil)) (sv__law_digits hBs hGb)) (fun q2 j σ H' => ∃ y7 y8 : Option V, σ = [some (N_ p), some (N_ f), some (N_ a), some (N_ b), some (.ref l), some (N_ i), some (N_ d), y7, y8, none, none] ∧ Exd l H H' ∧ SqL K H' q ((dg p a).map N_) ∧ SqL K H' q2 ((dg p b).map N_) ∧ q2 ≠ l ∧ H' l = some (.lst ((inL p i d 0 ((dg p b).take j) fA).map N_)))
        (fun q2 H4 nq4 e4 h4 => ⟨y7, y8, rfl, (x2.trans (Exd.of e3)).trans (Exd.of e4), ex_l e4 s3, sq_of h4, (fun z => by rw [z, h3] at nq4; cases nq4), e4 _ _ h3⟩) (fun q2 j σ H4 hj hw4 => ?_) (fun q2 j x σ H4 H5 hxj hw4 e5 => ?_) (fun q2 σ H4 hw4 => ?_)
      · obtain ⟨y7, y8, rfl, x4, s4, s42, n42, h4⟩ := hw4
        exact s42
      · obtain ⟨y7, y8, rfl, x4, s4, s42, n42, h4⟩ := hw4
        rw [List.getElem?_map] at hxj
        obtain ⟨g, hg, rfl⟩ := Option.map_eq_some_iff.mp hxj
        have hjl : j < (dg p b).length := (List.getElem?_eq_some_iff.mp hg).1
        have hgp : g < p := dg_lt hp2 b g (List.mem_of_getElem? hg)
        have h5 := e5 _ _ h4
        generalize hB : inL p i d 0 ((dg p b).take j) fA = fB at h5
        have hBl : fB.length = 2 * f := by rw [← hB, inL_len, hAl]
        have hij : i + j < fB.length := by omega
        have hget := get_N hij
        refine s_setL (l := l) (j := i + j) h5 (ev_op (ev_op (ev_op (ev_var rfl) (ev_op (ev_var rfl) (ev_var rfl) rv_I0) (rv_ixL (sq_of h5) (atI_nat hget))) (ev_op (ev_var rfl) (ev_var rfl) (rv_I (wide_mul (a := 10) (b := 10) (by show d < 1024; omega) (by show g < 1024; omega) (by decide) (by decide) (by decide)))) rv_I0) (ev_var rfl) (rv_I (by omega))) (ev_var rfl) (ev_op (ev_var rfl) (ev_var rfl) rv_I0) (by rw [List.length_map]; exact hij) fun H6 e6 => ?_
        refine ⟨some (N_ j), some (N_ g), rfl, ((x4.trans (Exd.of e5)).trans (Exd.of e6)).trans Exd.put, exd_l n2 ((Exd.of (e5.trans e6)).trans Exd.put) s4, exd_l n42 ((Exd.of (e5.trans e6)).trans Exd.put) s42, n42, ?_⟩
        rw [upd_same, take_snoc hg, inL_snoc, hB, List.length_take, Nat.min_eq_left (Nat.le_of_lt hjl), Nat.zero_add, List.map_set]
        rfl
      · obtain ⟨y7, y8, rfl, x4, s4, s42, n42, h4⟩ := hw4
        rw [List.length_map, List.take_length] at h4
        refine ⟨some (N_ i), some (N_ d), y7, y8, rfl, x4, s4, n2, ?_⟩
        rw [h4, take_snoc hd, ouL_snoc, hA, List.length_take, Nat.min_eq_left (Nat.le_of_lt hil), Nat.zero_add]
    · obtain ⟨y5, y6, y7, y8, rfl, x2, s2, n2, h2⟩ := hw
      rw [List.length_map, List.take_length, hfd] at h2
      -- the powers of u from f on
      refine q_forRd (lo := ((2 * f : Nat) : Int) - 1) (n := (f : Int) - 1) (ea_cons (ev_is (ev_op (ev_op ev_c (ev_var rfl) (rv_I (.inl ⟨by decide, by decide⟩))) ev_c rv_I0) (congrArg V.int (by omega))) (ea_cons (ev_op (ev_var rfl) ev_c rv_I0) (ea_cons (ev_un ev_c ru_neg) ea_nil))) ⟨by omega, by omega, by omega, by omega⟩ (fun i σ H' => ∃ y5 y6 y7 y8 : Option V, σ = [some (N_ p), some (N_ f), some (N_ a), some (N_ b), some (.ref l), y5, y6, y7, y8, none, none] ∧ Exd l H H' ∧ H' l = some (.lst ((dnL p f fd i).map N_)))
        (fun H3 e3 => ⟨y5, y6, y7, y8, rfl, x2.trans (Exd.of e3), e3 _ _ h2⟩) (fun i σ H3 hi hw3 => ?_) (fun σ H3 hw3 => ?_)
      · obtain ⟨y5, y6, y7, y8, rfl, x3, h3⟩ := hw3
        have hif : i < f := by omega
        have hm : ((2 * f : Nat) : Int) - 1 - (i : Int) = ((2 * f - 1 - i : Nat) : Int) := by omega
        rw [hm]
        generalize hmm : 2 * f - 1 - i = m
        have hmf : f ≤ m ∧ m < 2 * f := by omega
        generalize hG : dnL p f fd i = g0 at h3
        have hgl : g0.length = 2 * f := by rw [← hG, dnL_len, hfl]
        have hstep : dnL p f fd (i + 1) = rdL p f m g0 := by rw [← hG, ← hmm]; rfl
        refine s_when (et_test (ev_op (ev_var rfl) ev_c rv_I0)) (fun hb H4 e4 => ?_) (fun hb H4 e4 => ?_)
        · have hf2 : 1 < f := by have := of_decide_eq_true hb; omega
          have h4 := e4 _ _ h3
          have em : ∀ H, Ev (tOp (rI0 fun i j => V.int (i - j)) (tVar 5) (tVar 1)) [some (N_ p), some (N_ f), some (N_ a), some (N_ b), some (.ref l), some (N_ m), y6, y7, y8, none, none] H (N_ (m - f)) := fun H => ev_is (ev_op (ev_var rfl) (ev_var rfl) rv_I0) (congrArg V.int (by omega))
          have em1 : ∀ H, Ev (tOp (rI0 fun i j => V.int (i + j)) (tOp (rI0 fun i j => V.int (i - j)) (tVar 5) (tVar 1)) (tC (.int 1))) [some (N_ p), some (N_ f), some (N_ a), some (N_ b), some (.ref l), some (N_ m), y6, y7, y8, none, none] H (N_ (m - f + 1)) := fun H => ev_is (ev_op (em H) ev_c rv_I0) (congrArg V.int (by omega))
          refine q_setL (l := l) (j := m - f) h4 (ev_op (ev_op (ev_op (ev_var rfl) (em _) (rv_ixL (sq_of h4) (atI_nat (get_N (by omega))))) (ev_op (ev_var rfl) (ev_var rfl) (rv_ixL (sq_of h4) (atI_nat (get_N (i := m) (by omega))))) rv_I0) (ev_var rfl) (rv_I (by omega))) (ev_var rfl) (em _) (by rw [List.length_map]; omega) fun H5 e5 => ?_
          have h5 : (upd H5 l (.lst ((g0.map N_).set (m - f) (N_ ((g0.getD (m - f) 0 + g0.getD m 0) % p))))) l = some (.lst ((g0.set (m - f) ((g0.getD (m - f) 0 + g0.getD m 0) % p)).map N_)) := by rw [upd_same, List.map_set]
          have x5 : Exd l H (upd H5 l (.lst ((g0.map N_).set (m - f) (N_ ((g0.getD (m - f) 0 + g0.getD m 0) % p))))) := (x3.trans (Exd.of (e4.trans e5))).trans Exd.put
          generalize hg1 : g0.set (m - f) ((g0.getD (m - f) 0 + g0.getD m 0) % p) = g1 at h5
          have hl1 : g1.length = 2 * f := by rw [← hg1, List.length_set, hgl]
          refine q_setL (l := l) (j := m - f + 1) h5 (ev_op (ev_op (ev_op (ev_var rfl) (em1 _) (rv_ixL (sq_of h5) (atI_nat (get_N (by omega))))) (ev_op (ev_var rfl) (ev_var rfl) (rv_ixL (sq_of h5) (atI_nat (get_N (i := m) (by omega))))) rv_I0) (ev_var rfl) (rv_I (by omega))) (ev_var rfl) (em1 _) (by rw [List.length_map]; omega) fun H6 e6 => ?_
          have h6 : (upd H6 l (.lst ((g1.map N_).set (m - f + 1) (N_ ((g1.getD (m - f + 1) 0 + g1.getD m 0) % p))))) l = some (.lst ((g1.set (m - f + 1) ((g1.getD (m - f + 1) 0 + g1.getD m 0) % p)).map N_)) := by rw [upd_same, List.map_set]
          have x6 := (x5.trans (Exd.of e6)).trans (Exd.put (o := .lst ((g1.map N_).set (m - f + 1) (N_ ((g1.getD (m - f + 1) 0 + g1.getD m 0) % p)))))
          generalize hg2 : g1.set (m - f + 1) ((g1.getD (m - f + 1) 0 + g1.getD m 0) % p) = g2' at h6
          have hl2 : g2'.length = 2 * f := by rw [← hg2, List.length_set, hl1]
          refine s_setL (l := l) (j := m) h6 ev_c (ev_var rfl) (ev_var rfl) (by rw [List.length_map]; omega) fun H7 e7 => ⟨some (N_ m), y6, y7, y8, rfl, (x6.trans (Exd.of e7)).trans Exd.put, ?_⟩
          rw [upd_same, hstep]
          unfold rdL
          rw [if_pos hf2]
          show some (HO.lst ((g2'.map N_).set m (N_ 0))) = some (.lst (((((g0.set (m - f) ((g0.getD (m - f) 0 + g0.getD m 0) % p)).set (m - f + 1) (((g0.set (m - f) ((g0.getD (m - f) 0 + g0.getD m 0) % p)).getD (m - f + 1) 0 + (g0.set (m - f) ((g0.getD (m - f) 0 + g0.getD m 0) % p)).getD m 0) % p)).set m 0)).map N_))
          rw [hg1, hg2, List.map_set]
        · have hf2 : ¬ 1 < f := by have := of_decide_eq_false hb; omega
          refine ⟨some (N_ m), y6, y7, y8, rfl, x3.trans (Exd.of e4), ?_⟩
          rw [hstep]
          unfold rdL
          rw [if_neg hf2]
          exact e4 _ _ h3
      · obtain ⟨y5, y6, y7, y8, rfl, x3, h3⟩ := hw3
        have hn : (((2 * f : Nat) : Int) - 1 - ((f : Int) - 1)).toNat = f := by omega
        rw [hn] at h3
        generalize hG : dnL p f fd f = g0 at h3
        have hgl : g0.length = 2 * f := by rw [← hG, dnL_len, hfl]
        have hgt : lt_all p g0 := by rw [← hG]; exact dnL_lt h0 f hft f
        refine q_asg ev_c fun H4 e4 => ?_
        have h4 := e4 _ _ h3
        generalize hys : g0.take f = ys
        have hyl : ys.length = f := by rw [← hys, List.length_take, hgl]; omega
        have hyt : ∀ d ∈ ys, d < p := fun d hd => hgt d (by rw [← hys] at hd; exact List.mem_of_mem_take hd)
        have ek : epL p f a b = od p ys := by
          unfold epL
          rw [hfd, hG, hys]
        rw [ek] at k
        refine q_forNLn (xs := (ys.map N_).reverse) (el_is (el_revN (el_sl (ev_var rfl) eo_none (eo_some (ev_var rfl)) (sq_of h4))) (by rw [cutTake, ← List.map_take, hys])) (fun q i σ H' => ∃ y10, σ = [some (N_ p), some (N_ f), some (N_ a), some (N_ b), some (.ref l), y5, y6, y7, y8, some (N_ (od p (ys.drop (ys.length - i)))), y10] ∧ Exd l H H' ∧ SqL K H' q (ys.map N_).reverse)
          (fun q H5 nq e5 h5 => ⟨none, by rw [Nat.sub_zero, List.drop_length]; rfl, x3.trans (Exd.of (e4.trans e5)), sq_of h5⟩) (fun q i σ H5 hi hw => ?_) (fun q i x σ H5 hx hw => ?_) (fun q σ H5 hw => ?_)
        · obtain ⟨y10, rfl, x5, s5⟩ := hw
          exact s5
        · obtain ⟨y10, rfl, x5, s5⟩ := hw
          rw [← List.map_reverse, List.getElem?_map] at hx
          obtain ⟨d, hd, rfl⟩ := Option.map_eq_some_iff.mp hx
          have hil : i < ys.length := by
            have := (List.getElem?_eq_some_iff.mp hd).1
            rwa [List.length_reverse] at this
          have hlt := od_lt (b := p) (by omega) (ys.drop (ys.length - i)) fun z hz => hyt z (List.mem_of_mem_drop hz)
          have hlt2 : od p (ys.drop (ys.length - i)) < 2 ^ 40 := Nat.lt_of_lt_of_le hlt (Nat.pow_le_pow_right (by decide) (by rw [List.length_drop]; omega))
          refine s_asg (ev_op (ev_op (ev_var rfl) (ev_var rfl) (rv_I (wide_mul (a := 40) (b := 10) (by exact hlt2) (by show p < 1024; omega) (by decide) (by decide) (by decide)))) (ev_var rfl) rv_I0) fun H6 e6 => ⟨some (N_ d), ?_, x5.trans (Exd.of e6), ex_l e6 s5⟩
          rw [od_drop hil hd, show N_ (d + p * od p (ys.drop (ys.length - i))) = V.int (((od p (ys.drop (ys.length - i)) : Nat) : Int) * (p : Int) + (d : Int)) from congrArg V.int (by rw [Int.natCast_add, Int.natCast_mul, Int.mul_comm, Int.add_comm])]
          rfl
        · obtain ⟨y10, rfl, x5, s5⟩ := hw
          rw [List.length_reverse, List.length_map, Nat.sub_self, List.drop_zero]
          exact s_ret (ev_var rfl) fun H6 e6 => k H6 (exl nl (x5.trans (Exd.of e6)))


end Own
namespace Own
open PySem PySem.Spec PyProof.Rows L2 Evl
/-! the law's own tables are the program's -/
def dgF (b : Nat) : Nat → Nat → List Nat
  | 0, _ => []
  | n + 1, k => if k = 0 then [] else (k % b) :: dgF b n (k / b)
theorem dgF_eq {b : Nat} (hb : 1 < b) : ∀ (n k : Nat), k < 2 ^ n → dgF b n k = dg b k
  | 0, k, h => by
    have : k = 0 := by rw [Nat.pow_zero] at h; omega
    subst this
    rw [dg_zero]
    rfl
  | n + 1, k, h => by
    unfold dgF
    by_cases hk : k = 0
    · rw [if_pos hk, hk, dg_zero]
    · rw [if_neg hk, dg_pos hb (by omega), dgF_eq hb n (k / b) (by
        have h1 : k / b ≤ k / 2 := Nat.div_le_div_left hb (by decide)
        rw [Nat.pow_succ] at h
        omega)]
def epF (p f a b : Nat) : Nat := od p ((dnL p f (ouL p (dgF p 9 b) 0 (dgF p 9 a) (List.replicate (2 * f) 0)) f).take f)
theorem epF_eq {p f a b : Nat} (hp : 1 < p) (ha : a < 512) (hb : b < 512) : epF p f a b = epL p f a b := by
  unfold epF epL
  rw [dgF_eq hp 9 a ha, dgF_eq hp 9 b hb]
theorem chk_own : chkAll (fun q => all1 q fun a => decide (esL (prE q) (poE q) a (oE q a) = 0) && (all1 (oE q a) fun b => decide (esL (prE q) (poE q) a b ≠ 0)) && all1 q fun b => decide (esL (prE q) (poE q) a b = sE q a b) && decide (epF (prE q) (poE q) a b = pE q a b)) = true := by decide +kernel
theorem chk_pow : chkAll (fun q => decide (prE q ^ poE q = q)) = true := by decide +kernel
theorem pow_q {q : Nat} (hq : Fq q) : prE q ^ poE q = q := of_decide_eq_true (chk_get chk_pow hq)
theorem pf_q {q : Nat} (hq : Fq q) : PF_ (prE q) (poE q) := ⟨(t0_of hq).p2, (t0_of hq).p7, (t0_of hq).f1, (t0_of hq).f3⟩
theorem es_q {q a b : Nat} (hq : Fq q) (ha : a < q) (hb : b < q) : esL (prE q) (poE q) a b = sE q a b := by
  have h := all1_get (chk_get chk_own hq) ha
  rw [Bool.and_eq_true] at h
  have h := all1_get h.2 hb
  rw [Bool.and_eq_true] at h
  exact of_decide_eq_true h.1
theorem ep_q {q a b : Nat} (hq : Fq q) (ha : a < q) (hb : b < q) : epL (prE q) (poE q) a b = pE q a b := by
  have h := all1_get (chk_get chk_own hq) ha
  rw [Bool.and_eq_true] at h
  have h := all1_get h.2 hb
  rw [Bool.and_eq_true] at h
  have := hq.b.2
  rw [← epF_eq (t0_of hq).p2 (by omega) (by omega)]
  exact of_decide_eq_true h.2
theorem op_q {q a : Nat} (hq : Fq q) (ha : a < q) : sE q a (oE q a) = 0 ∧ ∀ b, b < oE q a → sE q a b ≠ 0 := by
  have h := all1_get (chk_get chk_own hq) ha
  rw [Bool.and_eq_true, Bool.and_eq_true] at h
  have ho := (t1_of hq ha).oL
  refine ⟨by rw [← es_q hq ha ho]; exact of_decide_eq_true h.1.1, fun b hb => ?_⟩
  rw [← es_q hq ha (by omega)]
  exact of_decide_eq_true (all1_get h.1.2 hb)
def row2 (g : Nat → Nat → Nat → Nat) (q : Nat) : List (List Nat) := (List.range q).map fun a => (List.range q).map fun b => g q a b
/-- a list of lists of natural numbers that stands in the heap, all at addresses of the kind N -/
def LLt (N : Addr → Prop) (H : Hp) (a : Addr) (xss : List (List Nat)) : Prop := ∃ rs : List Addr, N a ∧ H a = some (.lst (rs.map V.ref)) ∧ rs.length = xss.length ∧ ∀ (i : Nat) (r : Addr) (xs : List Nat), rs[i]? = some r → xss[i]? = some xs → N r ∧ H r = some (.lst (xs.map N_))
structure FldAt (N : Addr → Prop) (H : Hp) (d : Addr) (q : Nat) : Prop where
  nd : N d
  dc : ∃ (kvs : List (Key × V)) (a1 a2 a3 : Addr), H d = some (.dK kvs) ∧ valV kvs (Sum.inr "q") = some (N_ q) ∧ valV kvs (Sum.inr "p") = some (N_ (prE q)) ∧ valV kvs (Sum.inr "f") = some (N_ (poE q)) ∧ valV kvs (Sum.inr "plus") = some (.ref a1) ∧ valV kvs (Sum.inr "mul") = some (.ref a2) ∧ valV kvs (Sum.inr "minus") = some (.ref a3) ∧
    LLt N H a1 (row2 sE q) ∧ LLt N H a2 (row2 pE q) ∧ N a3 ∧ H a3 = some (.lst (((List.range q).map (oE q)).map N_))
theorem LLt.keep {N M : Addr → Prop} {H H' : Hp} {a : Addr} {xss : List (List Nat)} (h : LLt N H a xss) (hk : ∀ b o, N b → H b = some o → M b ∧ H' b = some o) : LLt M H' a xss := by
  obtain ⟨rs, n, h1, h2, h3⟩ := h
  exact ⟨rs, (hk _ _ n h1).1, (hk _ _ n h1).2, h2, fun i r xs e1 e2 => hk _ _ (h3 i r xs e1 e2).1 (h3 i r xs e1 e2).2⟩
theorem FldAt.keep {N M : Addr → Prop} {H H' : Hp} {d : Addr} {q : Nat} (h : FldAt N H d q) (hk : ∀ b o, N b → H b = some o → M b ∧ H' b = some o) : FldAt M H' d q := by
  obtain ⟨nd, kvs, a1, a2, a3, h1, g1, g2, g3, g4, g5, g6, l1, l2, n3, h3⟩ := h
  exact ⟨(hk _ _ nd h1).1, kvs, a1, a2, a3, (hk _ _ nd h1).2, g1, g2, g3, g4, g5, g6, l1.keep hk, l2.keep hk, (hk _ _ n3 h3).1, (hk _ _ n3 h3).2⟩
theorem FldAt.ex {N : Addr → Prop} {H H' : Hp} {d : Addr} {q : Nat} (h : FldAt N H d q) (e : Ex H H') : FldAt N H' d q := h.keep fun b o n q => ⟨n, e _ _ q⟩
theorem given_range (n : Nat) (v : Nat → V) : given n (fun _ => true) v = (List.range n).map v := by
  unfold given
  rw [List.filter_eq_self.mpr (fun _ _ => rfl)]
section
variable {K : PySem.W.Frag} {σ : L2.St} {H H' : Hp} {ta tb te : TE} {D : Ends} {tz : TS}
theorem q_asgLL {i : Nat} {xss : List (List V)} (h : EvLL te σ H xss) (k : ∀ (p : Addr) (rs : List Addr) H1, H p = none → Ex H H1 → H1 p = some (.lst (rs.map V.ref)) → rs.length = xss.length → (∀ (i : Nat) (r : Addr) (xs : List V), rs[i]? = some r → xss[i]? = some xs → H r = none ∧ H1 r = some (.lst xs)) → tz D (σ.set i (some (.ref p))) H1) : tSeq (tAsg te (gName i)) tz D σ H := h H (Ex.refl H) _ k
end
theorem ll_of {H0 H1 : Hp} {p : Addr} {rs : List Addr} {g : Nat → Nat → Nat → Nat} {q : Nat} (hp : H0 p = none) (h1 : H1 p = some (.lst (rs.map V.ref))) (hl : rs.length = ((row2 g q).map (·.map N_)).length) (hr : ∀ (i : Nat) (r : Addr) (xs : List V), rs[i]? = some r → ((row2 g q).map (·.map N_))[i]? = some xs → H0 r = none ∧ H1 r = some (.lst xs)) : LLt (fun x => H0 x = none) H1 p (row2 g q) :=
  ⟨rs, hp, h1, by rw [hl, List.length_map], fun i r xs e1 e2 => hr i r _ e1 (by rw [List.getElem?_map, e2]; rfl)⟩

theorem valV_merge : ∀ (more acc : List (Key × V)) (k : Key) (v : V), valV more.reverse k = some v → valV (mergeK acc more) k = some v
  | [], acc, k, v, h => by cases h
  | (k', v') :: r, acc, k, v, h => by
    show valV (mergeK (putK acc k' v') r) k = some v
    by_cases hr : (valV r.reverse k).isSome
    · obtain ⟨v2, h2⟩ := Option.isSome_iff_exists.mp hr
      have : valV ((k', v') :: r).reverse k = some v2 := by
        rw [List.reverse_cons]
        unfold valV at h2 ⊢
        rw [List.find?_append]
        obtain ⟨p, hp, hp2⟩ := Option.map_eq_some_iff.mp h2
        rw [hp]
        exact congrArg some hp2
      rw [this] at h
      exact valV_merge r _ k v (by rw [h2]; exact h)
    · have hn : valV r.reverse k = none := by
        cases e : valV r.reverse k with
        | none => rfl
        | some x => rw [e] at hr; exact absurd rfl hr
      have hk : k' = k ∧ v' = v := by
        rw [List.reverse_cons] at h
        unfold valV at h hn
        rw [List.find?_append] at h
        have h0 : (r.reverse.find? fun kv => decide (kv.1 = k)) = none := Option.map_eq_none_iff.mp hn
        rw [h0, Option.none_or, List.find?_cons] at h
        by_cases e : k' = k
        · rw [decide_eq_true e] at h
          exact ⟨e, Option.some.inj h⟩
        · rw [decide_eq_false e] at h
          cases h
      obtain ⟨rfl, rfl⟩ := hk
      have hany : ∀ (r : List (Key × V)) (acc : List (Key × V)), valV r.reverse k' = none → valV (mergeK acc r) k' = valV acc k' := by
        intro r
        induction r with
        | nil => intro acc _; rfl
        | cons p r ih =>
          intro acc h
          rw [List.reverse_cons] at h
          unfold valV at h
          rw [List.find?_append] at h
          have h1 := Option.map_eq_none_iff.mp h
          rw [Option.or_eq_none_iff] at h1
          have h2 : ¬ p.1 = k' := fun e => by
            have := h1.2
            rw [List.find?_cons, decide_eq_true e] at this
            cases this
          show valV (mergeK (putK acc p.1 p.2) r) k' = _
          rw [ih (putK acc p.1 p.2) (by unfold valV; rw [h1.1]; rfl), valV_put, if_neg (fun e => h2 e.symm)]
      rw [hany r _ hn, valV_put, if_pos rfl]
theorem pairs_go {te : TE} {σ : L2.St} {H : Hp} {xs : List V} {kx : V} {Q : List (V × V) → Hp → Prop} (h : EvL te σ H xs) (k : ∀ p H2, H p = none → Ex H H2 → H2 p = some (.lst xs) → Q [(kx, .ref p)] H2) : tPairs [(tC kx, te)] σ H Q := h H (Ex.refl H) _ k
def sp__law_field (K : PySem.W.Frag) : Sp := fun vs H Q _ => ∃ (q : Nat), vs = [N_ q] ∧ Fq q ∧ ∀ d H', Ex H H' → FldAt (fun x => H x = none) H' d q → Q (.ref d) H'

theorem ok__law_field {P : Program} {w : World} {K : PySem.W.Frag} {mg : Str → Option Value} {base : Heap} (T : Txt K mg) : FnOk P w K mg base CX0 3 T.a__law_field T.d__law_field ["_law_q"] (sp__law_field K) := by
  refine T.F__law_field.ok sc__law_field (fun vs H Q E h => ?_) (fun cdv A outer s H vs Q E hr h => ?_)
  · obtain ⟨q, rfl, _⟩ := h
    rfl
  · obtain ⟨q, rfl, hq, k⟩ := h
    refine ⟨_, (pss_cons (ps_asg (pe_dget (hu_of hr) (pe_disp (pps_cons pe_int (pe_tup (pa_cons pe_int (pa_cons pe_int pa_nil))) (pps_cons pe_int (pe_tup (pa_cons pe_int (pa_cons pe_int pa_nil))) (pps_cons pe_int (pe_tup (pa_cons pe_int (pa_cons pe_int pa_nil))) (pps_cons pe_int (pe_tup (pa_cons pe_int (pa_cons pe_int pa_nil))) (pps_cons pe_int (pe_tup (pa_cons pe_int (pa_cons pe_int pa_nil))) (pps_cons pe_int (pe_tup (pa_cons pe_int (pa_cons pe_int pa_nil))) (pps_cons pe_int (pe_tup (pa_cons pe_int (pa_cons pe_int pa_nil))) pps_nil))))))) (by rfl) (by rfl) (fun z => by cases z) (by decide)) (pv 0) (fun _ _ => rfl)) (pg_tup (by rfl) (pgs_cons (pg_name (i := 1) sc__law_field.nd rfl (Or.inr rfl)) (pgs_cons (pg_name (i := 2) sc__law_field.nd rfl (Or.inr rfl)) pgs_nil))))
      (pss_cons (ps_setLc (i := 3) (own := [("_law_one", 5)]) (g := gName 5) (by rfl) sc__law_field.nd rfl rfl (sw_true rfl rfl rfl (by decide +kernel)) (pi_range1 rfl T.z_range (pa_cons (pv 0) pa_nil)) (blkOk_by (N := ["_law_q", "_law_p", "_law_f", "_law_plus", "_law_other", "_law_one", "_law_mul", "_law_row"]) (sc := defScope s__law_field) (by decide +kernel)) (fun _ _ _ _ _ => pg_name (i := 5) sc__law_field.nd rfl (Or.inr rfl)) (fun _ _ _ _ _ => pts_nil) (fun _ _ _ _ _ => (pe_lc (own := [("_law_other", 4)]) (g := gName 4) rfl sc__law_field.nd (pi_range1 rfl T.z_range (pa_cons (pv 0) pa_nil)) (blkOk_by (by kernel_rfl)) (fun _ _ _ _ _ => pg_name (i := 4) sc__law_field.nd rfl (Or.inl rfl)) (fun _ _ _ _ _ => pts_nil) (fun _ _ _ _ _ => (pe_call (ok__law_element_sum T) (hr.mono (by decide)) (by rfl) T.g__law_element_sum T.F__law_element_sum.kp T.b__law_element_sum .nil pass0 (pa_cons (pv 1) (pa_cons (pv 2) (pa_cons (pv 5) (pa_cons (pv 4) pa_nil)))))))))
      (pss_cons (ps_setLc (i := 6) (own := [("_law_one", 5)]) (g := gName 5) (by rfl) sc__law_field.nd rfl rfl (sw_true rfl rfl rfl (by decide +kernel)) (pi_range1 rfl T.z_range (pa_cons (pv 0) pa_nil)) (blkOk_by (N := ["_law_q", "_law_p", "_law_f", "_law_plus", "_law_other", "_law_one", "_law_mul", "_law_row"]) (sc := defScope s__law_field) (by decide +kernel)) (fun _ _ _ _ _ => pg_name (i := 5) sc__law_field.nd rfl (Or.inr rfl)) (fun _ _ _ _ _ => pts_nil) (fun _ _ _ _ _ => (pe_lc (own := [("_law_other", 4)]) (g := gName 4) rfl sc__law_field.nd (pi_range1 rfl T.z_range (pa_cons (pv 0) pa_nil)) (blkOk_by (by kernel_rfl)) (fun _ _ _ _ _ => pg_name (i := 4) sc__law_field.nd rfl (Or.inl rfl)) (fun _ _ _ _ _ => pts_nil) (fun _ _ _ _ _ => (pe_call (ok__law_element_product T) (hr.mono (by decide)) (by rfl) T.g__law_element_product T.F__law_element_product.kp T.b__law_element_product .nil pass0 (pa_cons (pv 1) (pa_cons (pv 2) (pa_cons (pv 5) (pa_cons (pv 4) pa_nil)))))))))
      (pss_one (ps_ret (pe_disp (pps_cons pe_str (pv 0) (pps_cons pe_str (pv 1) (pps_cons pe_str (pv 2) (pps_cons pe_str (pv 3) (pps_cons pe_str (pv 6) (pps_cons pe_str (pe_lc (own := [("_law_row", 7)]) (g := gName 7) rfl sc__law_field.nd (pi_list (pv 3)) (blkOk_by (N := ["_law_q", "_law_p", "_law_f", "_law_plus", "_law_other", "_law_one", "_law_mul", "_law_row"]) (sc := defScope s__law_field) (by decide +kernel)) (fun _ _ _ _ _ => pg_name (i := 7) sc__law_field.nd rfl (Or.inl rfl)) (fun _ _ _ _ _ => pts_nil) (fun _ _ _ _ _ => (show PE _ _ (tBM K "list" (rIndex K) (tVar 7) (tCons (tC (.int 0)) tNil)) from (pe_bm PySem.F.plainAttrs_list PySem.F.slot_list_index PySem.F.type_list_index mt_index (pv 7) (pa_cons pe_int pa_nil))))) pps_nil)))))) (by rfl) (by rfl) (fun z => by cases z) (by decide))))))), ?_⟩
    have hpf := pf_q hq
    have hqb := hq.b
    intro d0 nd0
    refine ⟨by show 2 ≤ sizeLine; decide, fun t1 n1 => ⟨by show 2 ≤ sizeLine; decide, fun t2 n2 => ⟨by show 2 ≤ sizeLine; decide, fun t3 n3 => ⟨by show 2 ≤ sizeLine; decide, fun t4 n4 => ⟨by show 2 ≤ sizeLine; decide, fun t5 n5 => ⟨by show 2 ≤ sizeLine; decide, fun t6 n6 => ⟨by show 2 ≤ sizeLine; decide, fun t7 n7 => ?_⟩⟩⟩⟩⟩⟩⟩
    generalize hD : upd (upd (upd (upd (upd (upd (upd (upd H d0 (.dK [])) t1 (.tup [.int 2, .int 1])) t2 (.tup [.int 3, .int 1])) t3 (.tup [.int 2, .int 2])) t4 (.tup [.int 5, .int 1])) t5 (.tup [.int 7, .int 1])) t6 (.tup [.int 2, .int 3])) t7 (.tup [.int 3, .int 2]) = HD
    have x0 : Ex H (upd H d0 (.dK [])) := Ex.new nd0
    have eD : Ex H HD := by rw [← hD]; exact ((((((x0.trans (Ex.new n1)).trans (Ex.new n2)).trans (Ex.new n3)).trans (Ex.new n4)).trans (Ex.new n5)).trans (Ex.new n6)).trans (Ex.new n7)
    have eD0 : Ex (upd H d0 (.dK [])) HD := by rw [← hD]; exact (((((((Ex.new n1).trans (Ex.new n2)).trans (Ex.new n3)).trans (Ex.new n4)).trans (Ex.new n5)).trans (Ex.new n6)).trans (Ex.new n7))
    have g7 : HD t7 = some (.tup [.int 3, .int 2]) := by rw [← hD]; exact upd_same
    have g6 : HD t6 = some (.tup [.int 2, .int 3]) := by rw [← hD]; exact (Ex.new n7) _ _ upd_same
    have g5 : HD t5 = some (.tup [.int 7, .int 1]) := by rw [← hD]; exact ((Ex.new n6).trans (Ex.new n7)) _ _ upd_same
    have g4 : HD t4 = some (.tup [.int 5, .int 1]) := by rw [← hD]; exact (((Ex.new n5).trans (Ex.new n6)).trans (Ex.new n7)) _ _ upd_same
    have g3 : HD t3 = some (.tup [.int 2, .int 2]) := by rw [← hD]; exact ((((Ex.new n4).trans (Ex.new n5)).trans (Ex.new n6)).trans (Ex.new n7)) _ _ upd_same
    have g2' : HD t2 = some (.tup [.int 3, .int 1]) := by rw [← hD]; exact (((((Ex.new n3).trans (Ex.new n4)).trans (Ex.new n5)).trans (Ex.new n6)).trans (Ex.new n7)) _ _ upd_same
    have g1' : HD t1 = some (.tup [.int 2, .int 1]) := by rw [← hD]; exact ((((((Ex.new n2).trans (Ex.new n3)).trans (Ex.new n4)).trans (Ex.new n5)).trans (Ex.new n6)).trans (Ex.new n7)) _ _ upd_same
    clear hD
    have hd0 : HD d0 = some (.dK []) := eD0 _ _ upd_same
    have hnew : ∀ x o, HD x = some o → x ≠ d0 → (upd HD d0 (.dK (mergeK [] [(Sum.inl 2, .ref t1), (Sum.inl 3, .ref t2), (Sum.inl 4, .ref t3), (Sum.inl 5, .ref t4), (Sum.inl 7, .ref t5), (Sum.inl 8, .ref t6), (Sum.inl 9, .ref t7)]))) x = some o := fun x o h n => by rw [upd_ne n]; exact h
    refine ⟨hd0, [(Sum.inl 2, .ref t1), (Sum.inl 3, .ref t2), (Sum.inl 4, .ref t3), (Sum.inl 5, .ref t4), (Sum.inl 7, .ref t5), (Sum.inl 8, .ref t6), (Sum.inl 9, .ref t7)], rfl, by show 7 ≤ 15; decide, ?_⟩
    have hv : ∃ t, valV (mergeK [] ([(Sum.inl 2, .ref t1), (Sum.inl 3, .ref t2), (Sum.inl 4, .ref t3), (Sum.inl 5, .ref t4), (Sum.inl 7, .ref t5), (Sum.inl 8, .ref t6), (Sum.inl 9, .ref t7)] : List (Key × V))) (Sum.inl (q : Int)) = some (.ref t) ∧ HD t = some (.tup [N_ (prE q), N_ (poE q)]) := by
      have hq' := hq
      unfold Fq FQ at hq'
      simp only [List.mem_cons, List.not_mem_nil, or_false] at hq'
      rcases hq' with rfl | rfl | rfl | rfl | rfl | rfl | rfl
      · exact ⟨t1, valV_merge _ _ _ _ rfl, g1'⟩
      · exact ⟨t2, valV_merge _ _ _ _ rfl, g2'⟩
      · exact ⟨t3, valV_merge _ _ _ _ rfl, g3⟩
      · exact ⟨t4, valV_merge _ _ _ _ rfl, g4⟩
      · exact ⟨t5, valV_merge _ _ _ _ rfl, g5⟩
      · exact ⟨t6, valV_merge _ _ _ _ rfl, g6⟩
      · exact ⟨t7, valV_merge _ _ _ _ rfl, g7⟩
    obtain ⟨t, hv1, hv2⟩ := hv
    have htd : t ≠ d0 := fun z => by rw [z, hd0] at hv2; cases hv2
    refine ⟨N_ q, rfl, d0, .ref t, rfl, hv1 ▸ DGet.k (k := Sum.inl (q : Int)) upd_same, t, [N_ (prE q), N_ (poE q)], rfl, st_of (hnew _ _ hv2 htd), rfl, N_ (prE q), [N_ (poE q)], rfl, N_ (poE q), [], rfl, rfl, ?_⟩
    have eF : Ex H (upd HD d0 (.dK (mergeK [] [(Sum.inl 2, .ref t1), (Sum.inl 3, .ref t2), (Sum.inl 4, .ref t3), (Sum.inl 5, .ref t4), (Sum.inl 7, .ref t5), (Sum.inl 8, .ref t6), (Sum.inl 9, .ref t7)]))) := Ex.mut eD nd0
    generalize (upd HD d0 (.dK (mergeK [] [(Sum.inl 2, .ref t1), (Sum.inl 3, .ref t2), (Sum.inl 4, .ref t3), (Sum.inl 5, .ref t4), (Sum.inl 7, .ref t5), (Sum.inl 8, .ref t6), (Sum.inl 9, .ref t7)]))) = HF at eF
    clear hnew
    -- plus, mul
    refine q_asgLL (ell_is (ell_lcR1 (n := q) (ea_cons (ev_var rfl) ea_nil) (by omega) (xss := (row2 sE q).map (·.map N_)) (by rw [List.length_map]; unfold row2; rw [List.length_map, List.length_range]) (fun _ => rfl) (fun i xs H1 e1 hi hx => ?_)) rfl) fun a1 rs1 H1 na1 e1 h1 hl1 hr1 => ?_
    · unfold row2 at hx
      rw [List.getElem?_map, List.getElem?_map, List.getElem?_range hi] at hx
      cases (Option.some.inj hx : _ = xs)
      refine el_is (el_lcR1 (n := (q : Int)) (fun _ => true) (fun j => N_ (esL (prE q) (poE q) i j)) (ea_cons (ev_var rfl) ea_nil) ⟨by omega, by omega⟩ (fun _ => rfl) (fun _ _ _ _ => et_nil) (fun j H2 e2 hj _ => ev_call (ea_cons (ev_var rfl) (ea_cons (ev_var rfl) (ea_cons (ev_var rfl) (ea_cons (ev_var rfl) ea_nil)))) (sv__law_element_sum hpf))) ?_
      rw [Int.toNat_natCast, given_range]
      show _ = ((List.range q).map fun b => sE q i b).map N_
      rw [List.map_map]
      exact List.map_congr_left fun j hj => congrArg N_ (es_q hq hi (List.mem_range.mp hj))
    refine q_asgLL (ell_is (ell_lcR1 (n := q) (ea_cons (ev_var rfl) ea_nil) (by omega) (xss := (row2 pE q).map (·.map N_)) (by rw [List.length_map]; unfold row2; rw [List.length_map, List.length_range]) (fun _ => rfl) (fun i xs H2 e2 hi hx => ?_)) rfl) fun a2 rs2 H2 na2 e2 h2 hl2 hr2 => ?_
    · unfold row2 at hx
      rw [List.getElem?_map, List.getElem?_map, List.getElem?_range hi] at hx
      cases (Option.some.inj hx : _ = xs)
      have hpq := pow_q hq
      refine el_is (el_lcR1 (n := (q : Int)) (fun j => true) (fun j => N_ (epL (prE q) (poE q) i j)) (ea_cons (ev_var rfl) ea_nil) ⟨by omega, by omega⟩ (fun _ => rfl) (fun _ _ _ _ => et_nil) (fun j H3 e3 hj _ => ev_call (ea_cons (ev_var rfl) (ea_cons (ev_var rfl) (ea_cons (ev_var rfl) (ea_cons (ev_var rfl) ea_nil)))) (sv__law_element_product hpf (by rw [hpq]; exact hi) (by rw [hpq]; omega)))) ?_
      rw [Int.toNat_natCast, given_range]
      show _ = ((List.range q).map fun b => pE q i b).map N_
      rw [List.map_map]
      exact List.map_congr_left fun j hj => congrArg N_ (ep_q hq hi (List.mem_range.mp hj))
    have L1 : LLt (fun x => H x = none) H1 a1 (row2 sE q) := (ll_of na1 h1 hl1 hr1).keep fun b o n h => ⟨fresh_back eF n, h⟩
    have L2' : LLt (fun x => H x = none) H2 a2 (row2 pE q) := (ll_of na2 h2 hl2 hr2).keep fun b o n h => ⟨fresh_back (eF.trans e1) n, h⟩
    -- the dict
    intro d nd
    have xd : Ex H2 (upd H2 d (.dK [])) := Ex.new nd
    have hq9 := hqb.2
    have hl1' : rs1.length = q := by rw [hl1, List.length_map]; unfold row2; rw [List.length_map, List.length_range]
    refine ⟨N_ q, rfl, N_ (prE q), rfl, N_ (poE q), rfl, .ref a1, rfl, .ref a2, rfl, ?_⟩
    show tPairs [_] _ _ _
    refine pairs_go (el_is (ys := ((List.range q).map (oE q)).map N_) (el_lcL (xs := rs1.map V.ref) (fun _ => true) (fun i => N_ (oE q i)) (ev_var rfl) (sq_of (xd _ _ (e2 _ _ h1))) (by rw [List.length_map]; omega) (fun _ => rfl) (fun _ _ _ _ _ => et_nil) (fun i x H3 e3 hx _ => ?_)) ?_) fun a3 H3 na3 e3 h3 => ?_
    · rw [List.getElem?_map] at hx
      obtain ⟨r, hr, hx2⟩ := Option.map_eq_some_iff.mp hx
      subst hx2
      have hi : i < q := by rw [← hl1']; exact (List.getElem?_eq_some_iff.mp hr).1
      have ho := op_q hq hi
      have hoL := (t1_of hq hi).oL
      have hrow : (row2 sE q)[i]? = some ((List.range q).map fun b => sE q i b) := by unfold row2; rw [List.getElem?_map, List.getElem?_range hi]; rfl
      have hst := (hr1 i r _ hr (by rw [List.getElem?_map, hrow]; rfl)).2
      refine fun H4 e4 Q' q' => ⟨.ref r, rfl, Or.inl ⟨rfl, _, sq_of (e4 _ _ (e3 _ _ (xd _ _ (e2 _ _ hst))))⟩, r, _, .int 0, oE q i, N_ (sE q i (oE q i)), rfl, rfl, sq_of (e4 _ _ (e3 _ _ (xd _ _ (e2 _ _ hst)))), rfl, ?_, ?_, ?_, fun m z hm hz => ?_, q' H4 (Ex.refl H4)⟩
      · rw [List.all_eq_true]
        intro y hy
        obtain ⟨b, _, rfl⟩ := List.mem_map.mp hy
        rfl
      · rw [List.getElem?_map, List.getElem?_map, List.getElem?_range hoL]
        rfl
      · rw [ho.1]
        rfl
      · rw [List.getElem?_map, List.getElem?_map, List.getElem?_range (by omega)] at hz
        cases (Option.some.inj hz : N_ (sE q i m) = z)
        show ((((sE q i m : Nat) : Int)) == (0 : Int)) = false
        have := ho.2 m hm
        exact beq_eq_false_iff_ne.mpr (by omega)
    · rw [List.length_map, hl1', given_range, List.map_map]
      rfl
    have eX : Ex H2 H3 := xd.trans e3
    have hd3 : H3 d = some (.dK []) := e3 _ _ upd_same
    have na3' : (upd H2 d (.dK [])) a3 = none := na3
    have nd3 : a3 ≠ d := fun z => by rw [z, upd_same] at na3'; cases na3'
    have nH2 : ∀ b, H2 b = none → H b = none := fun b n => fresh_back ((eF.trans e1).trans e2) n
    refine ⟨hd3, [(Sum.inr (Str.ofString "q"), N_ q), (Sum.inr (Str.ofString "p"), N_ (prE q)), (Sum.inr (Str.ofString "f"), N_ (poE q)), (Sum.inr (Str.ofString "plus"), .ref a1), (Sum.inr (Str.ofString "mul"), .ref a2), (Sum.inr (Str.ofString "minus"), .ref a3)], rfl, by show 6 ≤ 15; decide, ?_⟩
    have hkeep : ∀ b o, H3 b = some o → b ≠ d → (upd H3 d (.dK (mergeK [] [(Sum.inr (Str.ofString "q"), N_ q), (Sum.inr (Str.ofString "p"), N_ (prE q)), (Sum.inr (Str.ofString "f"), N_ (poE q)), (Sum.inr (Str.ofString "plus"), .ref a1), (Sum.inr (Str.ofString "mul"), .ref a2), (Sum.inr (Str.ofString "minus"), .ref a3)]))) b = some o := fun b o h n => by rw [upd_ne n]; exact h
    have hne : ∀ b o, H2 b = some o → b ≠ d := fun b o h z => by rw [z, nd] at h; cases h
    refine k d _ (Ex.mut (((eF.trans e1).trans e2).trans eX) (nH2 d nd)) ⟨nH2 d nd, _, a1, a2, a3, upd_same, valV_merge _ _ _ _ rfl, valV_merge _ _ _ _ rfl, valV_merge _ _ _ _ rfl, valV_merge _ _ _ _ rfl, valV_merge _ _ _ _ rfl, valV_merge _ _ _ _ rfl, L1.keep fun b o n h => ⟨n, hkeep b o (eX _ _ (e2 _ _ h)) (hne b o (e2 _ _ h))⟩, L2'.keep fun b o n h => ⟨n, hkeep b o (eX _ _ h) (hne b o h)⟩, nH2 a3 (fresh_back xd na3), ?_⟩
    rw [upd_ne nd3]
    exact h3


end Own
namespace Own
open PySem PySem.Spec PyProof.Rows L2 Evl

def itW (q r : Nat) : Nat → Nat
  | 0 => 1
  | n + 1 => pE q (itW q r n) r
theorem itW_lt {q r : Nat} (hq : Fq q) (hr : r < q) : ∀ n, itW q r n < q
  | 0 => by have := hq.b; show 1 < q; omega
  | n + 1 => (t2_of hq (itW_lt hq hr n) hr).pL
def rS (q a : Nat) : List Nat := (List.range q).map fun b => sE q a b
def rP (q a : Nat) : List Nat := (List.range q).map fun b => pE q a b
def ups (q : Nat) : List Int := (List.range q).map Int.ofNat
theorem chk_right : chkAll (fun q => decide ((ups q).Pairwise (· ≤ ·)) && all1 q fun a => (List.range q).isPerm (rS q a) && (decide (a = 0) || (List.range q).isPerm (rP q a)) && decide (sE q 0 (oE q a) = oE q a) && (decide (a = 0) || decide (pE q a (iE q a) = 1)) && decide (rtE q a < q) && decide (itW q (rtE q a) (prE q) = a) && all1 q fun b => decide (sE q (sE q a b) (oE q b) = a)) = true := by decide +kernel
structure Rt (q a : Nat) : Prop where
  ps : (List.range q).Perm (rS q a)
  pp : a ≠ 0 → (List.range q).Perm (rP q a)
  ol : sE q 0 (oE q a) = oE q a
  iv : a ≠ 0 → pE q a (iE q a) = 1
  rl : rtE q a < q
  rw_ : itW q (rtE q a) (prE q) = a
  le : ∀ b, b < q → sE q (sE q a b) (oE q b) = a
theorem ups_sorted {q : Nat} (hq : Fq q) : (ups q).Pairwise (· ≤ ·) := by
  have h := chk_get chk_right hq
  rw [Bool.and_eq_true] at h
  exact of_decide_eq_true h.1
theorem rt_of {q a : Nat} (hq : Fq q) (ha : a < q) : Rt q a := by
  have h := chk_get chk_right hq
  rw [Bool.and_eq_true] at h
  have h := all1_get h.2 ha
  simp only [Bool.and_eq_true, Bool.or_eq_true, decide_eq_true_eq] at h
  obtain ⟨⟨⟨⟨⟨⟨h1, h2⟩, h3⟩, h4⟩, h5⟩, h6⟩, h7⟩ := h
  exact ⟨List.isPerm_iff.mp h1, fun n => List.isPerm_iff.mp (h2.resolve_left n), h3, fun n => h4.resolve_left n, h5, h6, fun b hb => of_decide_eq_true (all1_get h7 hb)⟩
theorem chk_three : chkAll (fun q => all1 q fun a => all1 q fun b => all1 q fun c => decide (pE q a (sE q b c) = sE q (pE q a b) (pE q a c)) && decide (sE q a (sE q b c) = sE q (sE q a b) c) && decide (pE q a (pE q b c) = pE q (pE q a b) c)) = true := by decide +kernel
theorem three {q a b c : Nat} (hq : Fq q) (ha : a < q) (hb : b < q) (hc : c < q) : pE q a (sE q b c) = sE q (pE q a b) (pE q a c) ∧ sE q a (sE q b c) = sE q (sE q a b) c ∧ pE q a (pE q b c) = pE q (pE q a b) c := by
  have h := all1_get (all1_get (all1_get (chk_get chk_three hq) ha) hb) hc
  simp only [Bool.and_eq_true, decide_eq_true_eq] at h
  exact ⟨h.1.1, h.1.2, h.2⟩
theorem chk_root : chkAll (fun q => all1 q fun b => all1 q fun c => decide (rtE q (sE q b c) = sE q (rtE q b) (rtE q c))) = true := by decide +kernel
theorem root_add {q b c : Nat} (hq : Fq q) (hb : b < q) (hc : c < q) : rtE q (sE q b c) = sE q (rtE q b) (rtE q c) := of_decide_eq_true (all1_get (all1_get (chk_get chk_root hq) hb) hc)
theorem rg_ups (q : Nat) : rgV 0 (q : Int) = (ups q).map V.int := by
  unfold rgV ups
  rw [List.map_map, Int.sub_zero, Int.toNat_natCast]
  refine List.map_congr_left fun i _ => ?_
  show V.int (0 + (i : Int)) = V.int (Int.ofNat i)
  rw [Int.zero_add]
  rfl
theorem rep_one (x : V) : ∀ n : Nat, (List.replicate n [x]).flatten = List.replicate n x
  | 0 => rfl
  | n + 1 => by
    rw [List.replicate_succ, List.flatten_cons, rep_one x n]
    rfl
theorem perm_I {xs ys : List Nat} (h : xs.Perm ys) : (xs.map Int.ofNat).Perm (ys.map Int.ofNat) := h.map _
section
variable {K : PySem.W.Frag} {σ : L2.St} {H H' : Hp} {td : TE}
theorem ev_dg {d : Addr} {kvs : List (Key × V)} {s : Str} {v : V} (h : Ev td σ H (.ref d)) (hd : H d = some (.dK kvs)) (hv : valV kvs (Sum.inr s) = some v) : Ev (tDGet td (tC (.str s))) σ H v := fun H1 e Q q =>
  h H1 e _ fun H2 e2 => ⟨d, v, rfl, hv ▸ DGet.k (k := Sum.inr s) (e2 _ _ (e _ _ hd)), q H2 e2⟩
end
def sp__law_tables_right (K : PySem.W.Frag) : Sp := fun vs H Q _ => ∃ (d : Addr) (q : Nat), vs = [.ref d] ∧ Fq q ∧ FldAt (fun _ => True) H d q ∧ RetV (.bl true) H Q
theorem sv__law_tables_right {K : PySem.W.Frag} {H : Hp} {d : Addr} {q : Nat} (hq : Fq q) (h : FldAt (fun _ => True) H d q) : SpV (sp__law_tables_right K) [.ref d] H (.bl true) := fun H1 e Q kk E => ⟨d, q, rfl, hq, h.ex e, kk⟩
def sp__law_roots_right (K : PySem.W.Frag) : Sp := fun vs H Q _ => ∃ (d : Addr) (q : Nat), vs = [.ref d] ∧ Fq q ∧ FldAt (fun _ => True) H d q ∧ RetV (.bl true) H Q
theorem sv__law_roots_right {K : PySem.W.Frag} {H : Hp} {d : Addr} {q : Nat} (hq : Fq q) (h : FldAt (fun _ => True) H d q) : SpV (sp__law_roots_right K) [.ref d] H (.bl true) := fun H1 e Q kk E => ⟨d, q, rfl, hq, h.ex e, kk⟩
def sp__law_triple_right (K : PySem.W.Frag) : Sp := fun vs H Q _ => ∃ (p : Addr) (q : Nat), vs = [.ref p, N_ q] ∧ Fq q ∧ IsDice H p ∧ ∀ H', Exd p H H' → IsDice H' p → Q (.bl true) H'
def sp__law_judged_right (K : PySem.W.Frag) : Sp := fun vs H Q _ => ∃ (p : Addr) (q : Nat), vs = [.ref p, N_ q] ∧ Fq q ∧ IsDice H p ∧ ∀ H', Exd p H H' → IsDice H' p → Q (.bl true) H'

theorem ok__law_tables_right {P : Program} {w : World} {K : PySem.W.Frag} {mg : Str → Option Value} {base : Heap} (T : Txt K mg) : FnOk P w K mg base CX0 7 T.a__law_tables_right T.d__law_tables_right ["_law_field_here"] (sp__law_tables_right K) := by
  refine T.F__law_tables_right.ok sc__law_tables_right (fun vs H Q E h => ?_) (fun cdv A outer s H vs Q E hr h => ?_)
  · obtain ⟨d, q, rfl, _⟩ := h
    rfl
  · obtain ⟨d, q, rfl, hq, hf, k⟩ := h
    refine ⟨_, (pss_cons (ps_set (i := 1) sc__law_tables_right.nd rfl (Or.inr rfl) (pe_dget (hu_of hr) (pv 0) pe_str (fun _ _ => rfl)))
      (pss_cons (ps_for PassesOwn.never rfl (pi_range1 rfl T.z_range (pa_cons (pv 1) pa_nil)) (pg_name (i := 2) sc__law_tables_right.nd rfl (Or.inr rfl)) (pss_cons (ps_set (i := 3) sc__law_tables_right.nd rfl (Or.inr rfl) (pe_lc (own := [("_law_other", 4)]) (g := gName 4) rfl sc__law_tables_right.nd (pi_range1 rfl T.z_range (pa_cons (pv 1) pa_nil)) (blkOk_by (N := ["_law_field_here", "_law_q", "_law_one", "_law_row", "_law_other", "_law_more"]) (sc := defScope s__law_tables_right) (by decide +kernel)) (fun _ _ _ _ _ => pg_name (i := 4) sc__law_tables_right.nd rfl (Or.inl rfl)) (fun _ _ _ _ _ => pts_nil) (fun _ _ _ _ _ => (pe_call (ok_element_sum T) (hr.mono (by decide)) (by rfl) T.g_element_sum T.F_element_sum.kp T.b_element_sum .nil pass0 (pa_cons (pv 1) (pa_cons (pv 2) (pa_cons (pv 4) pa_nil)))))))
      (pss_cons (ps_setLc (i := 5) (own := [("_law_other", 4)]) (g := gName 4) (by rfl) sc__law_tables_right.nd rfl rfl (sw_true rfl rfl rfl (by decide +kernel)) (pi_range1 rfl T.z_range (pa_cons (pv 1) pa_nil)) (blkOk_by (N := ["_law_field_here", "_law_q", "_law_one", "_law_row", "_law_other", "_law_more"]) (sc := defScope s__law_tables_right) (by decide +kernel)) (fun _ _ _ _ _ => pg_name (i := 4) sc__law_tables_right.nd rfl (Or.inl rfl)) (fun _ _ _ _ _ => pts_nil) (fun _ _ _ _ _ => (pe_call (ok_element_product T) (hr.mono (by decide)) (by rfl) T.g_element_product T.F_element_product.kp T.b_element_product .nil pass0 (pa_cons (pv 1) (pa_cons (pv 2) (pa_cons (pv 4) pa_nil))))))
      (pss_cons (ps_if (PW.pt (pw_or (pt_cmpR (op_neD hr.units) (pv 3) (pe_ix (r := rIxL K) ix_list (pe_dget (hu_of hr) (pv 0) pe_str (fun _ _ => rfl)) (pv 2) (fun _ _ => rfl)) (nomark _)) (pw_or1 (pt_cmpR (op_neD hr.units) (pv 5) (pe_ix (r := rIxL K) ix_list (pe_dget (hu_of hr) (pv 0) pe_str (fun _ _ => rfl)) (pv 2) (fun _ _ => rfl)) (nomark _))))) (pss_one (ps_ret pe_bl)) pss_nil)
      (pss_cons (ps_if (PW.pt (pw_or (pt_cmpR (op_neD hr.units) (pe_callB cr_sortedI (by rfl) T.z_sorted (by decide +kernel) (pa_cons (pv 3) pa_nil)) (pe_listRg rfl (by rfl) T.z_list (prg_1 (by rfl) T.z_range (pv 1))) (nomark _)) (pw_or1 (PW.pt (pw_and (pt_cmpR op_ne (pv 2) pe_int (nomark _)) (pw_and1 (pt_cmpR (op_neD hr.units) (pe_callB cr_sortedI (by rfl) T.z_sorted (by decide +kernel) (pa_cons (pv 5) pa_nil)) (pe_listRg rfl (by rfl) T.z_list (prg_1 (by rfl) T.z_range (pv 1))) (nomark _)))))))) (pss_one (ps_ret pe_bl)) pss_nil)
      (pss_cons (ps_if (pt_cmpR (op_neD hr.units) (pe_lc (own := [("_law_other", 4)]) (g := gName 4) rfl sc__law_tables_right.nd (pi_range1 rfl T.z_range (pa_cons (pv 1) pa_nil)) (blkOk_by (N := ["_law_field_here", "_law_q", "_law_one", "_law_row", "_law_other", "_law_more"]) (sc := defScope s__law_tables_right) (by decide +kernel)) (fun _ _ _ _ _ => pg_name (i := 4) sc__law_tables_right.nd rfl (Or.inl rfl)) (fun _ _ _ _ _ => pts_nil) (fun _ _ _ _ _ => (pe_call (ok_element_less T) (hr.mono (by decide)) (by rfl) T.g_element_less T.F_element_less.kp T.b_element_less .nil pass0 (pa_cons (pv 1) (pa_cons (pe_ix (r := rIxL K) ix_list (pv 3) (pv 4) (fun _ _ => rfl)) (pa_cons (pv 4) pa_nil)))))) (pe_op op_rep (pe_lst (pa_cons (pv 2) pa_nil)) (pv 1)) (nomark _)) (pss_one (ps_ret pe_bl)) pss_nil)
      (pss_one (ps_if (PW.pt (pw_or (pt_cmpR op_ne (pe_call (ok_element_less T) (hr.mono (by decide)) (by rfl) T.g_element_less T.F_element_less.kp T.b_element_less .nil pass0 (pa_cons (pv 1) (pa_cons pe_int (pa_cons (pv 2) pa_nil)))) (pe_ix (r := rIxL K) ix_list (pe_dget (hu_of hr) (pv 0) pe_str (fun _ _ => rfl)) (pv 2) (fun _ _ => rfl)) (nomark _)) (pw_or1 (PW.pt (pw_and (pt_cmpR op_gt (pv 2) pe_int (nomark _)) (pw_and1 (pt_cmpR op_ne (pe_ix (r := rIxL K) ix_list (pv 5) (pe_call (ok_element_inverse T) (hr.mono (by decide)) (by rfl) T.g_element_inverse T.F_element_inverse.kp T.b_element_inverse .nil pass0 (pa_cons (pv 1) (pa_cons (pv 2) pa_nil))) (fun _ _ => rfl)) pe_int (nomark _)))))))) (pss_one (ps_ret pe_bl)) pss_nil))))))))
      (pss_one (ps_ret pe_bl)))), ?_⟩
    obtain ⟨nd, kvs, a1, a2, a3, hd, gq, gp, gf, g1, g2, g3, ⟨rs1, _, hs1, hl1, hr1⟩, ⟨rs2, _, hs2, hl2, hr2⟩, _, hm⟩ := hf
    have hqb := hq.b
    have len2 : ∀ g, (row2 g q).length = q := fun g => by unfold row2; rw [List.length_map, List.length_range]
    rw [len2] at hl1 hl2
    refine q_asg (ev_dg (ev_var rfl) hd gq) fun H1 e1 => ?_
    refine q_forR1 (n := (q : Int)) (ea_cons (ev_var rfl) ea_nil) ⟨by omega, by omega⟩ (fun i σ H' => ∃ y2 y3 y4 y5, σ = [some (.ref d), some (N_ q), y2, y3, y4, y5] ∧ Ex H H') (fun H2 e2 => ⟨none, none, none, none, rfl, e1.trans e2⟩) (fun i σ H' hi hw => ?_) (fun σ H' hw => ?_)
    · obtain ⟨y2, y3, y4, y5, rfl, e2⟩ := hw
      have hi : i < q := by omega
      have R := rt_of hq hi
      refine q_asgL (xs := (rS q i).map N_) (el_is (el_lcR1 (n := (q : Int)) (fun _ => true) (fun b => N_ (sE q i b)) (ea_cons (ev_var rfl) ea_nil) ⟨by omega, by omega⟩ (fun _ => rfl) (fun _ _ _ _ => et_nil) (fun b H3 e3 hb _ => ev_call (ea_cons (ev_var rfl) (ea_cons (ev_var rfl) (ea_cons (ev_var rfl) ea_nil))) (sv_element_sum hq hi (by omega)))) (by
        rw [Int.toNat_natCast, given_range]
        unfold rS
        rw [List.map_map]
        rfl)) fun row H3 n3 e3 h3 => ?_
      refine q_asgL (xs := (rP q i).map N_) (el_is (el_lcR1 (n := (q : Int)) (fun _ => true) (fun b => N_ (pE q i b)) (ea_cons (ev_var rfl) ea_nil) ⟨by omega, by omega⟩ (fun _ => rfl) (fun _ _ _ _ => et_nil) (fun b H3 e3 hb _ => ev_call (ea_cons (ev_var rfl) (ea_cons (ev_var rfl) (ea_cons (ev_var rfl) ea_nil))) (sv_element_product hq hi (by omega)))) (by
        rw [Int.toNat_natCast, given_range]
        unfold rP
        rw [List.map_map]
        rfl)) fun more H4 n4 e4 h4 => ?_
      have E4 := (e2.trans e3).trans e4
      have hrow2 : ∀ g, (row2 g q)[i]? = some ((List.range q).map fun b => g q i b) := fun g => by unfold row2; rw [List.getElem?_map, List.getElem?_range hi]; rfl
      obtain ⟨r1, hr1'⟩ : ∃ r, rs1[i]? = some r := ⟨_, List.getElem?_eq_getElem (by omega)⟩
      obtain ⟨r2, hr2'⟩ : ∃ r, rs2[i]? = some r := ⟨_, List.getElem?_eq_getElem (by omega)⟩
      have hst1 := (hr1 i r1 _ hr1' (hrow2 sE)).2
      have hst2 := (hr2 i r2 _ hr2' (hrow2 pE)).2
      have sRow : SqL K H4 row ((rS q i).map N_) := sq_of (e4 _ _ h3)
      have sMore : SqL K H4 more ((rP q i).map N_) := sq_of h4
      refine q_when (b := false) (et_is (et_or (et_test (ev_op (ev_var rfl) (ev_op (r := rIxL K) (ev_dg (ev_var rfl) (E4 _ _ hd) g1) (ev_var rfl) (rv_ixL (xs := rs1.map V.ref) (v := .ref r1) (sq_of (E4 _ _ hs1)) (atI_nat (by rw [List.getElem?_map, hr1']; rfl)))) (rv_neL (ns := (rS q i).map Int.ofNat) (ms := (rS q i).map Int.ofNat) (by rw [← mapN]; exact sRow) (by rw [← mapN]; exact sq_of (E4 _ _ hst1))))) fun _ =>
        et_test (ev_op (ev_var rfl) (ev_op (r := rIxL K) (ev_dg (ev_var rfl) (E4 _ _ hd) g2) (ev_var rfl) (rv_ixL (xs := rs2.map V.ref) (v := .ref r2) (sq_of (E4 _ _ hs2)) (atI_nat (by rw [List.getElem?_map, hr2']; rfl)))) (rv_neL (ns := (rP q i).map Int.ofNat) (ms := (rP q i).map Int.ofNat) (by rw [← mapN]; exact sMore) (by rw [← mapN]; exact sq_of (E4 _ _ hst2))))) (by
          rw [decide_eq_true rfl, decide_eq_true rfl]
          rfl)) (fun h => nomatch h) (fun _ H5 e5 => ?_)
      have sRow5 := ex_l e5 sRow
      have sMore5 := ex_l e5 sMore
      refine q_when (b := false) (et_is (et_or (et_test (ev_opLL (el_sorted (ns := (rS q i).map Int.ofNat) (ts := ups q) (ev_var rfl) (by rw [← mapN]; exact sRow5) (perm_I R.ps) (ups_sorted hq)) (el_is (el_listR1 (ev_var rfl) (by omega)) (rg_ups q)) fun u v H6 hu hv _ => rv_neL (sq_of hu) (sq_of hv))) fun _ =>
        et_and (et_test (ev_op (ev_var rfl) ev_c (rv_ne rfl))) fun hne => et_test (ev_opLL (el_sorted (ns := (rP q i).map Int.ofNat) (ts := ups q) (ev_var rfl) (by rw [← mapN]; exact sMore5) (perm_I (R.pp (fun z => by subst z; cases hne))) (ups_sorted hq)) (el_is (el_listR1 (ev_var rfl) (by omega)) (rg_ups q)) fun u v H6 hu hv _ => rv_neL (sq_of hu) (sq_of hv))) (by
          rw [decide_eq_true (rfl : ups q = ups q)]
          exact Bool.and_false _)) (fun h => nomatch h) (fun _ H6 e6 => ?_)
      have sRow6 := ex_l e6 sRow5
      have sMore6 := ex_l e6 sMore5
      have E6 := (E4.trans e5).trans e6
      refine q_when (b := false) (et_is (et_test (ev_opLL (xs := ((List.range q).map fun _ => (i : Int)).map V.int) (ys := ((List.range q).map fun _ => (i : Int)).map V.int) (el_is (el_lcR1 (n := (q : Int)) (fun _ => true) (fun b => N_ (sE q (sE q i b) (oE q b))) (ea_cons (ev_var rfl) ea_nil) ⟨by omega, by omega⟩ (fun _ => rfl) (fun _ _ _ _ => et_nil) (fun b H7 e7 hb _ => ev_call (ea_cons (ev_var rfl) (ea_cons (ev_op (r := rIxL K) (ev_var rfl) (ev_var rfl) (rv_ixL (v := N_ (sE q i b)) (ex_l e7 sRow6) (atI_nat (by unfold rS; rw [List.getElem?_map, List.getElem?_map, List.getElem?_range (by omega)]; rfl)))) (ea_cons (ev_var rfl) ea_nil))) (sv_element_less hq (t2_of hq hi (by omega)).sL (by omega)))) (by
          rw [Int.toNat_natCast, given_range, List.map_map]
          exact List.map_congr_left fun b hb => congrArg N_ (R.le b (List.mem_range.mp hb)))) (el_is (el_rep (el_lst (ea_cons (ev_var rfl) ea_nil) (by show 1 ≤ 100000; decide)) (ev_var rfl) (by omega) (by show 1 * ((q : Int)).toNat ≤ 100000; omega) (by omega)) (by
          rw [rep_one, Int.toNat_natCast, List.map_map]
          exact (List.eq_replicate_iff.mpr ⟨by rw [List.length_map, List.length_range], fun x hx => by
            obtain ⟨b, _, rfl⟩ := List.mem_map.mp hx
            rfl⟩).symm)) fun u v H7 hu hv _ => rv_neL (sq_of hu) (sq_of hv))) (by
          rw [decide_eq_true rfl]
          rfl)) (fun h => nomatch h) (fun _ H7 e7 => ?_)
      have sMore7 := ex_l e7 sMore6
      have E7 := E6.trans e7
      have iL := (t1_of hq hi).iL
      refine s_when (b := false) (et_is (et_or (et_test (ev_op (ev_call (ea_cons (ev_var rfl) (ea_cons (x := N_ 0) ev_c (ea_cons (ev_var rfl) ea_nil))) (sv_element_less (a := 0) hq (by omega) hi)) (ev_op (r := rIxL K) (ev_dg (ev_var rfl) (E7 _ _ hd) g3) (ev_var rfl) (rv_ixL (v := N_ (oE q i)) (sq_of (E7 _ _ hm)) (atI_nat (by rw [List.getElem?_map, List.getElem?_map, List.getElem?_range hi]; rfl)))) (rv_ne rfl))) fun _ =>
        et_and (et_test (ev_op (ev_var rfl) ev_c rv_I0)) fun hpos => et_test (ev_op (ev_op (r := rIxL K) (ev_var rfl) (ev_call (ea_cons (ev_var rfl) (ea_cons (ev_var rfl) ea_nil)) (sv_element_inverse hq hi (by have := of_decide_eq_true hpos; omega))) (rv_ixL (v := N_ (pE q i (iE q i))) sMore7 (atI_nat (by unfold rP; rw [List.getElem?_map, List.getElem?_map, List.getElem?_range iL]; rfl)))) ev_c (rv_ne rfl))) ?_) (fun h => nomatch h) (fun _ H8 e8 => ⟨_, _, _, _, rfl, E7.trans e8⟩)
      rw [R.ol, decide_eq_true rfl]
      by_cases hz : i = 0
      · subst hz
        rfl
      · rw [R.iv hz]
        exact Bool.and_false _
    · obtain ⟨y2, y3, y4, y5, rfl, e2⟩ := hw
      exact s_ret ev_c fun H3 e3 => k H3 (e2.trans e3)


theorem ok__law_roots_right {P : Program} {w : World} {K : PySem.W.Frag} {mg : Str → Option Value} {base : Heap} (T : Txt K mg) : FnOk P w K mg base CX0 7 T.a__law_roots_right T.d__law_roots_right ["_law_field_here"] (sp__law_roots_right K) := by
  refine T.F__law_roots_right.ok sc__law_roots_right (fun vs H Q E h => ?_) (fun cdv A outer s H vs Q E hr h => ?_)
  · obtain ⟨d, q, rfl, _⟩ := h
    rfl
  · obtain ⟨d, q, rfl, hq, hf, k⟩ := h
    refine ⟨_, (pss_cons (ps_set (i := 1) sc__law_roots_right.nd rfl (Or.inl rfl) (pe_dget (hu_of hr) (pv 0) pe_str (fun _ _ => rfl)))
      (pss_cons (ps_for PassesOwn.never rfl (pi_range1 rfl T.z_range (pa_cons (pv 1) pa_nil)) (pg_name (i := 2) sc__law_roots_right.nd rfl (Or.inl rfl)) (pss_cons (ps_par (i := 3) (j := 4) (by rfl) sc__law_roots_right.nd rfl rfl (by decide) rfl rfl (pa_cons (pe_call (ok_element_root T) (hr.mono (by decide)) (by rfl) T.g_element_root T.F_element_root.kp T.b_element_root .nil pass0 (pa_cons (pv 1) (pa_cons (pv 2) pa_nil))) (pa_cons pe_int pa_nil)) (by rfl))
      (pss_cons (ps_for PassesOwn.never rfl (pi_range1 rfl T.z_range (pa_cons (pe_dget (hu_of hr) (pv 0) pe_str (fun _ _ => rfl)) pa_nil)) (pg_name (i := 5) sc__law_roots_right.nd rfl (Or.inl rfl)) (pss_one (ps_set (i := 4) sc__law_roots_right.nd rfl (Or.inl rfl) (pe_ix (r := rIxL K) ix_list (pe_ix (r := rIxL K) ix_list (pe_dget (hu_of hr) (pv 0) pe_str (fun _ _ => rfl)) (pv 4) (fun _ _ => rfl)) (pv 3) (fun _ _ => rfl)))))
      (pss_one (ps_if (PW.pt (pw_or (pt_not (pt_val (pe_call (ok_is_element T) (hr.mono (by decide)) (by rfl) T.g_is_element T.F_is_element.kp T.b_is_element .nil pass0 (pa_cons (pv 1) (pa_cons (pv 3) pa_nil))))) (pw_or1 (pt_cmpR op_ne (pv 4) (pv 2) (nomark _))))) (pss_one (ps_ret pe_bl)) pss_nil)))))
      (pss_one (ps_ret pe_bl)))), ?_⟩
    obtain ⟨nd, kvs, a1, a2, a3, hd, gq, gp, gf, g1, g2, g3, _, ⟨rs2, _, hs2, hl2, hr2⟩, _, hm⟩ := hf
    have hqb := hq.b
    have len2 : ∀ g, (row2 g q).length = q := fun g => by unfold row2; rw [List.length_map, List.length_range]
    rw [len2] at hl2
    refine q_asg (ev_dg (ev_var rfl) hd gq) fun H1 e1 => ?_
    refine q_forR1 (n := (q : Int)) (ea_cons (ev_var rfl) ea_nil) ⟨by omega, by omega⟩ (fun i σ H' => ∃ y2 y3 y4 y5, σ = [some (.ref d), some (N_ q), y2, y3, y4, y5] ∧ Ex H H') (fun H2 e2 => ⟨none, none, none, none, rfl, e1.trans e2⟩) (fun i σ H' hi hw => ?_) (fun σ H' hw => ?_)
    · obtain ⟨y2, y3, y4, y5, rfl, e2⟩ := hw
      have hi : i < q := by omega
      have R := rt_of hq hi
      have hpb := t0_of hq
      refine q_par (y := N_ 1) (ev_call (ea_cons (ev_var rfl) (ea_cons (ev_var rfl) ea_nil)) (sv_element_root hq hi)) ev_c fun H3 e3 => ?_
      refine q_forR1 (n := (prE q : Int)) (ea_cons (ev_dg (ev_var rfl) ((e2.trans e3) _ _ hd) gp) ea_nil) ⟨by omega, by have := hpb.p7; omega⟩ (fun j σ H' => ∃ y5, σ = [some (.ref d), some (N_ q), some (N_ i), some (N_ (rtE q i)), some (N_ (itW q (rtE q i) j)), y5] ∧ Ex H H') (fun H4 e4 => ⟨y5, rfl, (e2.trans e3).trans e4⟩) (fun j σ H4 hj hw => ?_) (fun σ H4 hw => ?_)
      · obtain ⟨y5, rfl, e4⟩ := hw
        have hwl := itW_lt hq R.rl j
        have hrow2 : (row2 pE q)[itW q (rtE q i) j]? = some ((List.range q).map fun b => pE q (itW q (rtE q i) j) b) := by unfold row2; rw [List.getElem?_map, List.getElem?_range hwl]; rfl
        obtain ⟨r2, hr2'⟩ : ∃ r, rs2[itW q (rtE q i) j]? = some r := ⟨_, List.getElem?_eq_getElem (by omega)⟩
        have hst2 := (hr2 _ r2 _ hr2' hrow2).2
        exact s_asg (v := N_ (itW q (rtE q i) (j + 1))) (ev_op (r := rIxL K) (ev_op (r := rIxL K) (ev_dg (ev_var rfl) (e4 _ _ hd) g2) (ev_var rfl) (rv_ixL (xs := rs2.map V.ref) (v := .ref r2) (sq_of (e4 _ _ hs2)) (atI_nat (by rw [List.getElem?_map, hr2']; rfl)))) (ev_var rfl) (rv_ixL (sq_of (e4 _ _ hst2)) (atI_nat (by rw [List.getElem?_map, List.getElem?_map, List.getElem?_range R.rl]; rfl)))) fun H5 e5 => ⟨_, rfl, e4.trans e5⟩
      · obtain ⟨y5, rfl, e4⟩ := hw
        rw [Int.toNat_natCast, R.rw_]
        refine s_when (b := false) (et_is (et_or (et_not (et_B (ev_call (ea_cons (ev_var rfl) (ea_cons (ev_var rfl) ea_nil)) (sv_is_element hq (btw_a hq R.rl))))) fun _ => et_test (ev_op (ev_var rfl) (ev_var rfl) (rv_ne rfl))) ?_) (fun h => nomatch h) (fun _ H8 e8 => ⟨_, _, _, _, rfl, e4.trans e8⟩)
        rw [decide_eq_true rfl]
        rfl
    · obtain ⟨y2, y3, y4, y5, rfl, e2⟩ := hw
      exact s_ret ev_c fun H3 e3 => k H3 (e2.trans e3)


theorem ok__law_triple_right {P : Program} {w : World} {K : PySem.W.Frag} {mg : Str → Option Value} {base : Heap} (T : Txt K mg) : FnOk P w K mg base CX0 7 T.a__law_triple_right T.d__law_triple_right ["_law_dice_here", "_law_q"] (sp__law_triple_right K) := by
  refine T.F__law_triple_right.ok sc__law_triple_right (fun vs H Q E h => ?_) (fun cdv A outer s H vs Q E hr h => ?_)
  · obtain ⟨p, q, rfl, _⟩ := h
    rfl
  · obtain ⟨p, q, rfl, hq, hd, k⟩ := h
    refine ⟨_, (pss_cons (ps_par3 (i := 2) (j := 3) (l := 4) (by rfl) sc__law_triple_right.nd rfl rfl rfl (by decide) (by decide) (by decide) rfl rfl rfl (pa_cons (pe_call (ok__law_roll T) (hr.mono (by decide)) (by rfl) T.g__law_roll T.F__law_roll.kp T.b__law_roll .nil pass0 (pa_cons (pv 0) (pa_cons (pv 1) pa_nil))) (pa_cons (pe_call (ok__law_roll T) (hr.mono (by decide)) (by rfl) T.g__law_roll T.F__law_roll.kp T.b__law_roll .nil pass0 (pa_cons (pv 0) (pa_cons (pv 1) pa_nil))) (pa_cons (pe_call (ok__law_roll T) (hr.mono (by decide)) (by rfl) T.g__law_roll T.F__law_roll.kp T.b__law_roll .nil pass0 (pa_cons (pv 0) (pa_cons (pv 1) pa_nil))) pa_nil))) (by rfl))
      (pss_cons (ps_set (i := 5) sc__law_triple_right.nd rfl (Or.inl rfl) (pe_call (ok_element_sum T) (hr.mono (by decide)) (by rfl) T.g_element_sum T.F_element_sum.kp T.b_element_sum .nil pass0 (pa_cons (pv 1) (pa_cons (pv 3) (pa_cons (pv 4) pa_nil)))))
      (pss_cons (ps_if (pt_cmpR op_ne (pe_call (ok_element_product T) (hr.mono (by decide)) (by rfl) T.g_element_product T.F_element_product.kp T.b_element_product .nil pass0 (pa_cons (pv 1) (pa_cons (pv 2) (pa_cons (pv 5) pa_nil)))) (pe_call (ok_element_sum T) (hr.mono (by decide)) (by rfl) T.g_element_sum T.F_element_sum.kp T.b_element_sum .nil pass0 (pa_cons (pv 1) (pa_cons (pe_call (ok_element_product T) (hr.mono (by decide)) (by rfl) T.g_element_product T.F_element_product.kp T.b_element_product .nil pass0 (pa_cons (pv 1) (pa_cons (pv 2) (pa_cons (pv 3) pa_nil)))) (pa_cons (pe_call (ok_element_product T) (hr.mono (by decide)) (by rfl) T.g_element_product T.F_element_product.kp T.b_element_product .nil pass0 (pa_cons (pv 1) (pa_cons (pv 2) (pa_cons (pv 4) pa_nil)))) pa_nil)))) (nomark _)) (pss_one (ps_ret pe_bl)) pss_nil)
      (pss_cons (ps_if (pt_cmpR op_ne (pe_call (ok_element_sum T) (hr.mono (by decide)) (by rfl) T.g_element_sum T.F_element_sum.kp T.b_element_sum .nil pass0 (pa_cons (pv 1) (pa_cons (pv 2) (pa_cons (pv 5) pa_nil)))) (pe_call (ok_element_sum T) (hr.mono (by decide)) (by rfl) T.g_element_sum T.F_element_sum.kp T.b_element_sum .nil pass0 (pa_cons (pv 1) (pa_cons (pe_call (ok_element_sum T) (hr.mono (by decide)) (by rfl) T.g_element_sum T.F_element_sum.kp T.b_element_sum .nil pass0 (pa_cons (pv 1) (pa_cons (pv 2) (pa_cons (pv 3) pa_nil)))) (pa_cons (pv 4) pa_nil)))) (nomark _)) (pss_one (ps_ret pe_bl)) pss_nil)
      (pss_cons (ps_if (pt_cmpR op_ne (pe_call (ok_element_product T) (hr.mono (by decide)) (by rfl) T.g_element_product T.F_element_product.kp T.b_element_product .nil pass0 (pa_cons (pv 1) (pa_cons (pv 2) (pa_cons (pe_call (ok_element_product T) (hr.mono (by decide)) (by rfl) T.g_element_product T.F_element_product.kp T.b_element_product .nil pass0 (pa_cons (pv 1) (pa_cons (pv 3) (pa_cons (pv 4) pa_nil)))) pa_nil)))) (pe_call (ok_element_product T) (hr.mono (by decide)) (by rfl) T.g_element_product T.F_element_product.kp T.b_element_product .nil pass0 (pa_cons (pv 1) (pa_cons (pe_call (ok_element_product T) (hr.mono (by decide)) (by rfl) T.g_element_product T.F_element_product.kp T.b_element_product .nil pass0 (pa_cons (pv 1) (pa_cons (pv 2) (pa_cons (pv 3) pa_nil)))) (pa_cons (pv 4) pa_nil)))) (nomark _)) (pss_one (ps_ret pe_bl)) pss_nil)
      (pss_one (ps_ret (pe_cmpR op_eq (pe_call (ok_element_root T) (hr.mono (by decide)) (by rfl) T.g_element_root T.F_element_root.kp T.b_element_root .nil pass0 (pa_cons (pv 1) (pa_cons (pv 5) pa_nil))) (pe_call (ok_element_sum T) (hr.mono (by decide)) (by rfl) T.g_element_sum T.F_element_sum.kp T.b_element_sum .nil pass0 (pa_cons (pv 1) (pa_cons (pe_call (ok_element_root T) (hr.mono (by decide)) (by rfl) T.g_element_root T.F_element_root.kp T.b_element_root .nil pass0 (pa_cons (pv 1) (pa_cons (pv 3) pa_nil))) (pa_cons (pe_call (ok_element_root T) (hr.mono (by decide)) (by rfl) T.g_element_root T.F_element_root.kp T.b_element_root .nil pass0 (pa_cons (pv 1) (pa_cons (pv 4) pa_nil))) pa_nil)))) (nomark _))))))))), ?_⟩
    have hqb := hq.b
    have hq0 : 0 < q := by omega
    have hqB : q < 2 ^ 1000 := Nat.lt_of_le_of_lt hqb.2 (Nat.lt_of_lt_of_le (show 9 < 2 ^ 10 by decide) (Nat.pow_le_pow_right (by decide) (by decide : 10 ≤ 1000)))
    refine ⟨.ref p, rfl, N_ q, rfl, p, q, rfl, hd, hq0, hqB, fun a H1 ha x1 d1 => ⟨.ref p, rfl, N_ q, rfl, p, q, rfl, d1, hq0, hqB, fun b H2 hb x2 d2 => ⟨.ref p, rfl, N_ q, rfl, p, q, rfl, d2, hq0, hqB, fun c H3 hc x3 d3 => ⟨N_ a, N_ b, N_ c, rfl, ?_⟩⟩⟩⟩
    have x := (x1.trans x2).trans x3
    obtain ⟨f1, f2, f3⟩ := three hq ha hb hc
    have sbc := (t2_of hq hb hc).sL
    have sab := (t2_of hq ha hb).sL
    have pbc := (t2_of hq hb hc).pL
    have pab := (t2_of hq ha hb).pL
    have pac := (t2_of hq ha hc).pL
    refine q_asg (ev_call (ea_cons (ev_var rfl) (ea_cons (ev_var rfl) (ea_cons (ev_var rfl) ea_nil))) (sv_element_sum hq hb hc)) fun H4 e4 => ?_
    refine q_when (b := false) (et_is (et_test (ev_op (ev_call (ea_cons (ev_var rfl) (ea_cons (ev_var rfl) (ea_cons (ev_var rfl) ea_nil))) (sv_element_product hq ha sbc)) (ev_call (ea_cons (ev_var rfl) (ea_cons (ev_call (ea_cons (ev_var rfl) (ea_cons (ev_var rfl) (ea_cons (ev_var rfl) ea_nil))) (sv_element_product hq ha hb)) (ea_cons (ev_call (ea_cons (ev_var rfl) (ea_cons (ev_var rfl) (ea_cons (ev_var rfl) ea_nil))) (sv_element_product hq ha hc)) ea_nil))) (sv_element_sum hq pab pac)) (rv_ne rfl))) (by rw [f1, decide_eq_true rfl]; rfl)) (fun h => nomatch h) (fun _ H5 e5 => ?_)
    refine q_when (b := false) (et_is (et_test (ev_op (ev_call (ea_cons (ev_var rfl) (ea_cons (ev_var rfl) (ea_cons (ev_var rfl) ea_nil))) (sv_element_sum hq ha sbc)) (ev_call (ea_cons (ev_var rfl) (ea_cons (ev_call (ea_cons (ev_var rfl) (ea_cons (ev_var rfl) (ea_cons (ev_var rfl) ea_nil))) (sv_element_sum hq ha hb)) (ea_cons (ev_var rfl) ea_nil))) (sv_element_sum hq sab hc)) (rv_ne rfl))) (by rw [f2, decide_eq_true rfl]; rfl)) (fun h => nomatch h) (fun _ H6 e6 => ?_)
    refine q_when (b := false) (et_is (et_test (ev_op (ev_call (ea_cons (ev_var rfl) (ea_cons (ev_var rfl) (ea_cons (ev_call (ea_cons (ev_var rfl) (ea_cons (ev_var rfl) (ea_cons (ev_var rfl) ea_nil))) (sv_element_product hq hb hc)) ea_nil))) (sv_element_product hq ha pbc)) (ev_call (ea_cons (ev_var rfl) (ea_cons (ev_call (ea_cons (ev_var rfl) (ea_cons (ev_var rfl) (ea_cons (ev_var rfl) ea_nil))) (sv_element_product hq ha hb)) (ea_cons (ev_var rfl) ea_nil))) (sv_element_product hq pab hc)) (rv_ne rfl))) (by rw [f3, decide_eq_true rfl]; rfl)) (fun h => nomatch h) (fun _ H7 e7 => ?_)
    have e := ((e4.trans e5).trans e6).trans e7
    refine s_ret (ev_is (w := .bl true) (ev_op (ev_call (ea_cons (ev_var rfl) (ea_cons (ev_var rfl) ea_nil)) (sv_element_root hq sbc)) (ev_call (ea_cons (ev_var rfl) (ea_cons (ev_call (ea_cons (ev_var rfl) (ea_cons (ev_var rfl) ea_nil)) (sv_element_root hq hb)) (ea_cons (ev_call (ea_cons (ev_var rfl) (ea_cons (ev_var rfl) ea_nil)) (sv_element_root hq hc)) ea_nil))) (sv_element_sum hq (rt_of hq hb).rl (rt_of hq hc).rl)) (rv_eq rfl)) (by rw [root_add hq hb hc, decide_eq_true rfl])) fun H8 e8 => k H8 (x.trans (Exd.of (e.trans e8))) ((d3.ex e).ex e8)


end Own
namespace Own
open PySem PySem.Spec PyProof.Rows L2 Evl

def inF (i : Nat) : Bool := decide ((-2 + (i : Int)).natAbs < 10 ^ 60) && decide ((-2 + (i : Int)) ∈ W_FIELDS)
theorem f_given : given ((40 : Int) - (-2)).toNat inF (fun i => V.int (-2 + (i : Int))) = ([2, 3, 4, 5, 7, 8, 9] : List Int).map V.int := by decide +kernel
def inE (q i : Nat) : Bool := decide ((-3 + (i : Int)).natAbs < 10 ^ 60) && (decide (0 ≤ -3 + (i : Int)) && decide (-3 + (i : Int) ≤ (q : Int) - 1))
theorem chk_e : chkAll (fun q => decide (given (((q : Int) + 4) - (-3)).toNat (inE q) (fun i => V.int (-3 + (i : Int))) = (ups q).map V.int) && decide (¬ ((10 : Int) ^ 50 ≤ (q : Int) - 1))) = true := by decide +kernel
theorem e_given {q : Nat} (hq : Fq q) : given (((q : Int) + 4) - (-3)).toNat (inE q) (fun i => V.int (-3 + (i : Int))) = (ups q).map V.int := by
  have h := chk_get chk_e hq
  rw [Bool.and_eq_true] at h
  exact of_decide_eq_true h.1
theorem e_big {q : Nat} (hq : Fq q) : ¬ ((10 : Int) ^ 50 ≤ (q : Int) - 1) := by
  have h := chk_get chk_e hq
  rw [Bool.and_eq_true] at h
  exact of_decide_eq_true h.2
def oddV (K : PySem.W.Frag) (H : Hp) (x : V) : Prop := fld K H x false ∧ ∀ q, Fq q → btw K H x 0 ((q : Int) - 1) false
theorem odd_i {K : PySem.W.Frag} {H : Hp} {x : V} (hx : ∀ i, x ≠ .int i) (h : IntB K H x false) : oddV K H x := ⟨.inr ⟨hx, h, rfl⟩, fun q hq => .inr ⟨hx, h, rfl⟩⟩

theorem ok__law_judged_right {P : Program} {w : World} {K : PySem.W.Frag} {mg : Str → Option Value} {base : Heap} (T : Txt K mg) : FnOk P w K mg base CX0 5 T.a__law_judged_right T.d__law_judged_right ["_law_dice_here", "_law_q"] (sp__law_judged_right K) := by
  refine T.F__law_judged_right.ok sc__law_judged_right (fun vs H Q E h => ?_) (fun cdv A outer s H vs Q E hr h => ?_)
  · obtain ⟨p, q, rfl, _⟩ := h
    rfl
  · obtain ⟨p, q, rfl, hq, hd, k⟩ := h
    refine ⟨_, (pss_cons (ps_if (PW.pt (pw_or (pt_cmpR (op_neD hr.units) (pe_lc (own := [("_law_one", 2)]) (g := gName 2) rfl sc__law_judged_right.nd (pi_range2 rfl T.z_range (pa_cons (pe_un un_neg pe_int) (pa_cons pe_int pa_nil))) (blkOk_by (N := ["_law_dice_here", "_law_q", "_law_one", "_law_odd"]) (sc := defScope s__law_judged_right) (by decide +kernel)) (fun _ _ _ _ _ => pg_name (i := 2) sc__law_judged_right.nd rfl (Or.inl rfl)) (fun _ _ _ _ _ => (pts_one (pt_val (pe_call (ok_is_field T) (hr.mono (by decide)) (by rfl) T.g_is_field T.F_is_field.kp T.b_is_field .nil pass0 (pa_cons (pv 2) pa_nil))))) (fun _ _ _ _ _ => (pv 2))) (pe_lst (pa_cons pe_int (pa_cons pe_int (pa_cons pe_int (pa_cons pe_int (pa_cons pe_int (pa_cons pe_int (pa_cons pe_int pa_nil)))))))) (nomark _)) (pw_or1 (pt_cmpR (op_neD hr.units) (pe_glob (v := .ref T.a_FIELDS) (by rfl) T.g_FIELDS rfl) (pe_tup (pa_cons pe_int (pa_cons pe_int (pa_cons pe_int (pa_cons pe_int (pa_cons pe_int (pa_cons pe_int (pa_cons pe_int pa_nil)))))))) (nomark _))))) (pss_one (ps_ret pe_bl)) pss_nil)
      (pss_cons (ps_if (pt_cmpR (op_neD hr.units) (pe_lc (own := [("_law_one", 2)]) (g := gName 2) rfl sc__law_judged_right.nd (pi_range2 rfl T.z_range (pa_cons (pe_un un_neg pe_int) (pa_cons (pe_op op_add (pv 1) pe_int) pa_nil))) (blkOk_by (N := ["_law_dice_here", "_law_q", "_law_one", "_law_odd"]) (sc := defScope s__law_judged_right) (by decide +kernel)) (fun _ _ _ _ _ => pg_name (i := 2) sc__law_judged_right.nd rfl (Or.inl rfl)) (fun _ _ _ _ _ => (pts_one (pt_val (pe_call (ok_is_element T) (hr.mono (by decide)) (by rfl) T.g_is_element T.F_is_element.kp T.b_is_element .nil pass0 (pa_cons (pv 1) (pa_cons (pv 2) pa_nil)))))) (fun _ _ _ _ _ => (pv 2))) (pe_listRg rfl (by rfl) T.z_list (prg_1 (by rfl) T.z_range (pv 1))) (nomark _)) (pss_one (ps_ret pe_bl)) pss_nil)
      (pss_cons (ps_set (i := 3) sc__law_judged_right.nd rfl (Or.inl rfl) (pe_call (ok__law_one_of T) (hr.mono (by decide)) (by rfl) T.g__law_one_of T.F__law_one_of.kp T.b__law_one_of .nil pass0 (pa_cons (pv 0) (pa_cons (pe_lst (pa_cons pe_non (pa_cons pe_bl (pa_cons pe_str (pa_cons (pe_tup (pa_cons pe_int pa_nil)) (pa_cons (pe_lst (pa_cons pe_int pa_nil)) (pa_cons pe_dnewK (pa_cons (pe_op op_powW pe_int pe_int) (pa_cons (pe_op op_sub pe_int (pe_op op_powW pe_int pe_int)) (pa_cons (pe_tup pa_nil) pa_nil)))))))))) pa_nil))))
      (pss_one (ps_ret (pe_and (pe_not (pe_call (ok_is_field T) (hr.mono (by decide)) (by rfl) T.g_is_field T.F_is_field.kp T.b_is_field .nil pass0 (pa_cons (pv 3) pa_nil))) (pe_one (pe_not (pe_call (ok_is_element T) (hr.mono (by decide)) (by rfl) T.g_is_element T.F_is_element.kp T.b_is_element .nil pass0 (pa_cons (pv 1) (pa_cons (pv 3) pa_nil))))))))))), ?_⟩
    have hqb := hq.b
    refine q_when (b := false) (et_is (et_or (et_test (ev_opLL (el_is (el_lcR2 (lo := -2) (n := 40) inF (fun i => V.int (-2 + (i : Int))) (ea_cons (ev_un ev_c ru_neg) (ea_cons ev_c ea_nil)) (by decide) (fun _ => rfl) (fun i H1 e1 hi => et_B (ev_call (ea_cons (ev_var rfl) ea_nil) (sv_is_field (.inl ⟨_, rfl, rfl⟩)))) (fun i H1 e1 hi _ => ev_var rfl)) f_given) (el_lst (ea_cons ev_c (ea_cons ev_c (ea_cons ev_c (ea_cons ev_c (ea_cons ev_c (ea_cons ev_c (ea_cons ev_c ea_nil))))))) (by show 7 ≤ 100000; decide)) fun u v H1 hu hv _ => rv_neL (ns := [2, 3, 4, 5, 7, 8, 9]) (ms := [2, 3, 4, 5, 7, 8, 9]) (sq_of hu) (sq_of hv))) fun _ =>
      et_test (ev_opU ev_c (eu_tup (ea_cons ev_c (ea_cons ev_c (ea_cons ev_c (ea_cons ev_c (ea_cons ev_c (ea_cons ev_c (ea_cons ev_c ea_nil))))))) (by show 7 ≤ 100000; decide)) fun v H1 hv _ => rv_neT (ns := W_FIELDS) (ms := [2, 3, 4, 5, 7, 8, 9]) (tup_of T.w_FIELDS H1) (st_of hv))) (by decide)) (fun h => nomatch h) (fun _ H1 e1 => ?_)
    refine q_when (b := false) (et_is (et_test (ev_opLL (el_is (el_lcR2 (lo := -3) (n := (q : Int) + 4) (inE q) (fun i => V.int (-3 + (i : Int))) (ea_cons (ev_un ev_c ru_neg) (ea_cons (ev_op (ev_var rfl) ev_c rv_I0) ea_nil)) ⟨by omega, by omega, by omega, by omega, by omega⟩ (fun _ => rfl) (fun i H2 e2 hi => et_B (ev_call (ea_cons (ev_var rfl) (ea_cons (ev_var rfl) ea_nil)) (sv_is_element hq (.inl ⟨_, rfl, rfl⟩)))) (fun i H2 e2 hi _ => ev_var rfl)) (e_given hq)) (el_is (el_listR1 (ev_var rfl) (by omega)) (rg_ups q)) fun u v H2 hu hv _ => rv_neL (sq_of hu) (sq_of hv))) (by
      rw [decide_eq_true rfl]
      rfl)) (fun h => nomatch h) (fun _ H2 e2 => ?_)
    have hcp : CPowW 10 50 := ⟨by decide, by decide, Nat.lt_of_lt_of_le (show (10 : Int).natAbs < 2 ^ 4 by decide) (Nat.pow_le_pow_right (by decide) (by decide : 4 ≤ 1000))⟩
    have d2 : IsDice H2 p := (hd.ex e1).ex e2
    refine ⟨.ref p, rfl, by show 1 ≤ sizeLine; decide, fun t1 n1 => ⟨by show 1 ≤ sizeLine; decide, fun t2 n2 t3 n3 => ⟨10, 50, rfl, rfl, hcp, 10, 50, rfl, rfl, hcp, 0, _, rfl, rfl, by show 0 ≤ sizeLine; decide, fun t4 n4 => ⟨by show 9 ≤ sizeLine; decide, fun l nl => ?_⟩⟩⟩⟩
    have x1 : Ex H2 (upd H2 t1 (.tup [.int 2])) := Ex.new n1
    have x2 := Ex.new (o := HO.lst [.int 2]) n2
    have x3 := Ex.new (o := HO.dK []) n3
    have x4 := Ex.new (o := HO.tup []) n4
    have dL := ((((d2.ex x1).ex x2).ex x3).ex x4)
    refine ⟨p, l, _, rfl, dL.ex (Ex.new nl), sq_of upd_same, new_ne nl dL, by show 0 < 9; decide, by show 9 ≤ 1000; decide, fun x H3 hx xd d3 => ?_⟩
    have xL : Exd p (upd (upd (upd (upd H2 t1 (.tup [.int 2])) t2 (.lst [.int 2])) t3 (.dK [])) t4 (.tup [])) H3 := (Exd.of (Ex.new nl)).trans xd
    have m1 : H3 t1 = some (.tup [.int 2]) := xL _ _ (new_ne n1 d2) (x4 _ _ (x3 _ _ (x2 _ _ upd_same)))
    have m2 : H3 t2 = some (.lst [.int 2]) := xL _ _ (new_ne n2 (d2.ex x1)) (x4 _ _ (x3 _ _ upd_same))
    have m3 : H3 t3 = some (.dK []) := xL _ _ (new_ne n3 ((d2.ex x1).ex x2)) (x4 _ _ upd_same)
    have m4 : H3 t4 = some (.tup []) := xL _ _ (new_ne n4 (((d2.ex x1).ex x2).ex x3)) upd_same
    have ho : oddV K H3 x := by
      simp only [List.mem_cons, List.not_mem_nil, or_false] at hx
      rcases hx with h | h | h | h | h | h | h | h | h <;> subst h
      · exact odd_i (fun _ z => by cases z) (.other "NoneType" (.base .non) (kit_ty (by decide +kernel)))
      · exact odd_i (fun _ z => by cases z) (.bl true)
      · exact odd_i (fun _ z => by cases z) (.other "str" (.base (.str _)) (kit_ty (by decide +kernel)))
      · exact odd_i (fun _ z => by cases z) (.other "tuple" (.base (.tup m1)) (kit_ty (by decide +kernel)))
      · exact odd_i (fun _ z => by cases z) (.other "list" (.base (.lst m2)) (kit_ty (by decide +kernel)))
      · exact odd_i (fun _ z => by cases z) (.other "dict" (.base (.dK m3)) (kit_ty (by decide +kernel)))
      · exact ⟨.inl ⟨_, rfl, by decide +kernel⟩, fun q hq => .inl ⟨_, rfl, by
          rw [show decide ((10 : Int) ^ (50 : Int).toNat ≤ (q : Int) - 1) = false from decide_eq_false (e_big hq), Bool.and_false, Bool.and_false]⟩⟩
      · exact ⟨.inl ⟨_, rfl, by decide +kernel⟩, fun q hq => .inl ⟨_, rfl, by
          rw [show decide (0 ≤ 0 - (10 : Int) ^ (50 : Int).toNat) = false by decide +kernel, Bool.false_and, Bool.and_false]⟩⟩
      · exact odd_i (fun _ z => by cases z) (.other "tuple" (.base (.tup m4)) (kit_ty (by decide +kernel)))
    have xx : Exd p H H3 := (Exd.of ((((e1.trans e2).trans x1).trans x2).trans (x3.trans x4))).trans xL
    exact s_ret (ev_is (w := .bl true) (ev_andV (ev_notV (ev_call (ea_cons (ev_var rfl) ea_nil) (sv_is_field ho.1))) fun _ => ev_notV (ev_call (ea_cons (ev_var rfl) (ea_cons (ev_var rfl) ea_nil)) (sv_is_element hq (ho.2 q hq)))) rfl) fun H4 e4 => k H4 (xx.trans (Exd.of e4)) (d3.ex e4)


end Own
namespace Own
open PySem PySem.Spec PyProof.Rows L2 Evl

theorem q_of {x : V} (h : x ∈ ([.int 2, .int 3, .int 4, .int 5, .int 7, .int 8, .int 9] : List V)) : ∃ q : Nat, Fq q ∧ x = N_ q := by
  simp only [List.mem_cons, List.not_mem_nil, or_false] at h
  rcases h with h | h | h | h | h | h | h <;> subst h
  · exact ⟨2, by unfold Fq FQ; decide, rfl⟩
  · exact ⟨3, by unfold Fq FQ; decide, rfl⟩
  · exact ⟨4, by unfold Fq FQ; decide, rfl⟩
  · exact ⟨5, by unfold Fq FQ; decide, rfl⟩
  · exact ⟨7, by unfold Fq FQ; decide, rfl⟩
  · exact ⟨8, by unfold Fq FQ; decide, rfl⟩
  · exact ⟨9, by unfold Fq FQ; decide, rfl⟩
theorem when_or {t u : TT} {tu tz : TS} {D : Ends} {σ : L2.St} {H : Hp} (h : EvT t σ H false) (k : ∀ H1, Ex H H1 → tSeq (tIfS u tu tNext) tz D σ H1) : tSeq (tIfS (tOr t u) tu tNext) tz D σ H := h H (Ex.refl H) _ fun H1 e => iteF (k H1 e)
def sp__law_right (K : PySem.W.Frag) : Sp := fun vs H Q _ => ∃ (p : Addr), vs = [.ref p] ∧ IsDice H p ∧ ∀ H', Exd p H H' → IsDice H' p → Q (.bl true) H'

theorem ok__law_right {P : Program} {w : World} {K : PySem.W.Frag} {mg : Str → Option Value} {base : Heap} (T : Txt K mg) : FnOk P w K mg base CX0 8 T.a__law_right T.d__law_right ["_law_dice_here"] (sp__law_right K) := by
  refine T.F__law_right.ok sc__law_right (fun vs H Q E h => ?_) (fun cdv A outer s H vs Q E hr h => ?_)
  · obtain ⟨p, rfl, _⟩ := h
    rfl
  · obtain ⟨p, rfl, hd, k⟩ := h
    refine ⟨_, (pss_cons (ps_set (i := 1) sc__law_right.nd rfl (Or.inl rfl) (pe_call (ok__law_one_of T) (hr.mono (by decide)) (by rfl) T.g__law_one_of T.F__law_one_of.kp T.b__law_one_of .nil pass0 (pa_cons (pv 0) (pa_cons (pe_lst (pa_cons pe_int (pa_cons pe_int (pa_cons pe_int (pa_cons pe_int (pa_cons pe_int (pa_cons pe_int (pa_cons pe_int pa_nil)))))))) pa_nil))))
      (pss_cons (ps_set (i := 2) sc__law_right.nd rfl (Or.inl rfl) (pe_call (ok__law_field T) (hr.mono (by decide)) (by rfl) T.g__law_field T.F__law_field.kp T.b__law_field .nil pass0 (pa_cons (pv 1) pa_nil)))
      (pss_cons (ps_if (PW.pt (pw_or (pt_cmpR op_ne (pe_call (ok_prime_of T) (hr.mono (by decide)) (by rfl) T.g_prime_of T.F_prime_of.kp T.b_prime_of .nil pass0 (pa_cons (pv 1) pa_nil)) (pe_dget (hu_of hr) (pv 2) pe_str (fun _ _ => rfl)) (nomark _)) (pw_or (pt_cmpR op_ne (pe_call (ok_power_of T) (hr.mono (by decide)) (by rfl) T.g_power_of T.F_power_of.kp T.b_power_of .nil pass0 (pa_cons (pv 1) pa_nil)) (pe_dget (hu_of hr) (pv 2) pe_str (fun _ _ => rfl)) (nomark _)) (pw_or1 (pt_cmpR op_ne (pe_call (ok__law_raised T) (hr.mono (by decide)) (by rfl) T.g__law_raised T.F__law_raised.kp T.b__law_raised .nil pass0 (pa_cons (pe_dget (hu_of hr) (pv 2) pe_str (fun _ _ => rfl)) (pa_cons (pe_dget (hu_of hr) (pv 2) pe_str (fun _ _ => rfl)) pa_nil))) (pv 1) (nomark _)))))) (pss_one (ps_ret pe_bl)) pss_nil)
      (pss_cons (ps_if (PW.pt (pw_or (pt_not (pt_val (pe_call (ok__law_tables_right T) (hr.mono (by decide)) (by rfl) T.g__law_tables_right T.F__law_tables_right.kp T.b__law_tables_right .nil pass0 (pa_cons (pv 2) pa_nil)))) (pw_or (pt_not (pt_val (pe_call (ok__law_roots_right T) (hr.mono (by decide)) (by rfl) T.g__law_roots_right T.F__law_roots_right.kp T.b__law_roots_right .nil pass0 (pa_cons (pv 2) pa_nil)))) (pw_or1 (pt_not (pt_val (pe_call (ok__law_judged_right T) (hr.mono (by decide)) (by rfl) T.g__law_judged_right T.F__law_judged_right.kp T.b__law_judged_right .nil pass0 (pa_cons (pv 0) (pa_cons (pv 1) pa_nil))))))))) (pss_one (ps_ret pe_bl)) pss_nil)
      (pss_one (ps_ret (pe_and (pe_call (ok__law_triple_right T) (hr.mono (by decide)) (by rfl) T.g__law_triple_right T.F__law_triple_right.kp T.b__law_triple_right .nil pass0 (pa_cons (pv 0) (pa_cons (pv 1) pa_nil))) (pe_one (pe_call (ok__law_triple_right T) (hr.mono (by decide)) (by rfl) T.g__law_triple_right T.F__law_triple_right.kp T.b__law_triple_right .nil pass0 (pa_cons (pv 0) (pa_cons (pv 1) pa_nil))))))))))), ?_⟩
    refine ⟨.ref p, rfl, by show 7 ≤ sizeLine; decide, fun l nl => ⟨p, l, _, rfl, hd.ex (Ex.new nl), sq_of upd_same, new_ne nl hd, by show 0 < 7; decide, by show 7 ≤ 1000; decide, fun x H1 hx x1' d1 => ?_⟩⟩
    obtain ⟨q, hq, rfl⟩ := q_of hx
    have x1 : Exd p H H1 := (Exd.of (Ex.new nl)).trans x1'
    refine ⟨N_ q, rfl, q, rfl, hq, fun d H2 e2 hf => ?_⟩
    have d2 := d1.ex e2
    have hfT : FldAt (fun _ => True) H2 d q := hf.keep fun b o n h => ⟨trivial, h⟩
    have hf' := hfT
    obtain ⟨nd, kvs, a1, a2, a3, hdk, gq, gp, gf, g1, g2, g3, _, _, _, hm⟩ := hf'
    have hpq := pow_q hq
    have T0q := t0_of hq
    refine q_when (b := false) (et_is (et_or (et_test (ev_op (ev_call (ea_cons (ev_var rfl) ea_nil) (sv_prime_of hq)) (ev_dg (ev_var rfl) hdk gp) (rv_ne rfl))) fun _ => et_or (et_test (ev_op (ev_call (ea_cons (ev_var rfl) ea_nil) (sv_power_of hq)) (ev_dg (ev_var rfl) hdk gf) (rv_ne rfl))) fun _ =>
      et_test (ev_op (ev_call (ea_cons (ev_dg (ev_var rfl) hdk gp) (ea_cons (ev_dg (ev_var rfl) hdk gf) ea_nil)) (sv_raised (by have := T0q.p7; omega) (by have := T0q.f3; omega))) (ev_var rfl) (rv_ne rfl))) (by
        rw [hpq, decide_eq_true rfl, decide_eq_true rfl, decide_eq_true rfl]
        rfl)) (fun h => nomatch h) (fun _ H3 e3 => ?_)
    refine when_or (et_not (et_B (ev_call (ea_cons (ev_var rfl) ea_nil) (sv__law_tables_right hq (hfT.ex e3))))) fun H4 e4 => ?_
    refine when_or (et_not (et_B (ev_call (ea_cons (ev_var rfl) ea_nil) (sv__law_roots_right hq ((hfT.ex e3).ex e4))))) fun H5 e5 => ?_
    have d5 := ((d2.ex e3).ex e4).ex e5
    refine ⟨.ref p, rfl, N_ q, rfl, p, q, rfl, hq, d5, fun H6 x6 d6 => ⟨true, rfl, iteF ?_⟩⟩
    refine ⟨.ref p, rfl, N_ q, rfl, p, q, rfl, hq, d6, fun H7 x7 d7 => ⟨true, rfl, iteT ?_⟩⟩
    exact ⟨.ref p, rfl, N_ q, rfl, p, q, rfl, hq, d7, fun H8 x8 d8 => k H8 ((((x1.trans (Exd.of (((e2.trans e3).trans e4).trans e5))).trans x6).trans x7).trans x8) d8⟩


def sp_law (K : PySem.W.Frag) : Sp := fun vs H Q _ => ∃ (a : Addr) (ns : List Int), vs = [.ref a] ∧ SqL K H a (ns.map V.int) ∧ ns.length ≤ 63 ∧ ∀ H', Q (.bl true) H'

theorem ok_law {P : Program} {w : World} {K : PySem.W.Frag} {mg : Str → Option Value} {base : Heap} (T : Txt K mg) : FnOk P w K mg base CX0 9 T.a_law T.d_law ["_law_script"] (sp_law K) := by
  refine T.F_law.ok sc_law (fun vs H Q E h => ?_) (fun cdv A outer s H vs Q E hr h => ?_)
  · obtain ⟨a, ns, rfl, _⟩ := h
    rfl
  · obtain ⟨a, ns, rfl, hx, hlen, k⟩ := h
    refine ⟨_, (pss_cons (ps_for PassesOwn.never rfl (pi_range1 rfl T.z_range (pa_cons (pe_callB (call_max2 rfl) (by rfl) T.z_max (by decide +kernel) (pa_cons pe_int (pa_cons (pe_callB (call_min2 rfl) (by rfl) T.z_min (by decide +kernel) (pa_cons pe_int (pa_cons (pe_callB call_len_seq (by rfl) T.z_len (by decide +kernel) (pa_cons (pv 0) pa_nil)) pa_nil))) pa_nil))) pa_nil)) (pg_name (i := 1) sc_law.nd rfl (Or.inl rfl)) (pss_one (ps_if (pt_not (pt_val (pe_call (ok__law_right T) (hr.mono (by decide)) (by rfl) T.g__law_right T.F__law_right.kp T.b__law_right .nil pass0 (pa_cons (pe_call (ok__law_dice T) (hr.mono (by decide)) (by rfl) T.g__law_dice T.F__law_dice.kp T.b__law_dice .nil pass0 (pa_cons (pv 0) (pa_cons (pv 1) pa_nil))) pa_nil)))) (pss_one (ps_ret pe_bl)) pss_nil)))
      (pss_one (ps_ret pe_bl))), ?_⟩
    have hm := minmax 4 ⟨by decide, by decide⟩ ((ns.map V.int).length)
    obtain ⟨n, hn, en⟩ := hm
    refine q_forR1 (n := (n : Int)) (ea_cons (ev_is (ev_cb (ea_cons ev_c (ea_cons (ev_cb (ea_cons ev_c (ea_cons (ev_cb (ea_cons (ev_var rfl) ea_nil) (rc_lenL hx)) ea_nil)) rc_min2) ea_nil)) rc_max2) (congrArg V.int en)) ea_nil) ⟨by omega, by omega⟩
      (fun i σ H' => ∃ y1 : Option V, σ = [some (.ref a), y1] ∧ SqL K H' a (ns.map V.int)) (fun H1 e1 => ⟨none, rfl, ex_l e1 hx⟩) (fun i σ H2 hi hw => ?_) (fun σ H2 hw => ?_)
    · obtain ⟨y1, rfl, h2⟩ := hw
      refine ⟨.ref a, rfl, N_ i, rfl, a, ns, i, rfl, h2, hlen, by omega, fun p H3 np e3 d3 => ?_⟩
      exact ⟨p, rfl, d3, fun H5 x5 d5 => ⟨true, rfl, iteF ⟨_, rfl, exd_lf np ((Exd.of e3).trans x5) h2⟩⟩⟩
    · obtain ⟨y1, rfl, h2⟩ := hw
      exact s_ret ev_c fun H3 e3 => k H3


end Own
namespace Own
open PySem PySem.Spec PyProof.Rows L2 Evl

theorem all_mk {l : PySem.W.OpenLaw} {w : World} {K : PySem.W.Frag} {h : Heap} {mg : Str → Option Value} {fa : Addr} (X : K.In h) (G : h.Ns mainGlobals mg) (hfa : mg "law" = some (.ref fa))
    {f_is_integer f_is_between f_is_field f_check_field f_prime_of f_power_of f_is_element f_check_element f_check_other_than_zero f_element_sum f_element_less f_element_product f_element_inverse f_repeated_product f_element_root f_root_of f__law_dice f__law_roll f__law_raised f__law_one_of f__law_digits f__law_element_product f__law_element_sum f__law_field f__law_tables_right f__law_roots_right f__law_triple_right f__law_judged_right f__law_right f_law : Addr} {od_is_integer an_is_integer od_is_between an_is_between od_is_field an_is_field od_check_field an_check_field od_prime_of an_prime_of od_power_of an_power_of od_is_element an_is_element od_check_element an_check_element od_check_other_than_zero an_check_other_than_zero od_element_sum an_element_sum od_element_less an_element_less od_element_product an_element_product od_element_inverse an_element_inverse od_repeated_product an_repeated_product od_element_root an_element_root od_root_of an_root_of od__law_dice an__law_dice od__law_roll an__law_roll od__law_raised an__law_raised od__law_one_of an__law_one_of od__law_digits an__law_digits od__law_element_product an__law_element_product od__law_element_sum an__law_element_sum od__law_field an__law_field od__law_tables_right an__law_tables_right od__law_roots_right an__law_roots_right od__law_triple_right an__law_triple_right od__law_judged_right an__law_judged_right od__law_right an__law_right od_law an_law : Option Addr} {sl_is_integer sl_is_between sl_is_field sl_check_field sl_prime_of sl_power_of sl_is_element sl_check_element sl_check_other_than_zero sl_element_sum sl_element_less sl_element_product sl_element_inverse sl_repeated_product sl_element_root sl_root_of sl__law_dice sl__law_roll sl__law_raised sl__law_one_of sl__law_digits sl__law_element_product sl__law_element_sum sl__law_field sl__law_tables_right sl__law_roots_right sl__law_triple_right sl__law_judged_right sl__law_right sl_law : Array (Option Value)} {oc_is_integer kV_is_integer dc_is_integer pm_is_integer cd_is_integer ct_is_integer oc_is_between kV_is_between dc_is_between pm_is_between cd_is_between ct_is_between oc_is_field kV_is_field dc_is_field pm_is_field cd_is_field ct_is_field oc_check_field kV_check_field dc_check_field pm_check_field cd_check_field ct_check_field oc_prime_of kV_prime_of dc_prime_of pm_prime_of cd_prime_of ct_prime_of oc_power_of kV_power_of dc_power_of pm_power_of cd_power_of ct_power_of oc_is_element kV_is_element dc_is_element pm_is_element cd_is_element ct_is_element oc_check_element kV_check_element dc_check_element pm_check_element cd_check_element ct_check_element oc_check_other_than_zero kV_check_other_than_zero dc_check_other_than_zero pm_check_other_than_zero cd_check_other_than_zero ct_check_other_than_zero oc_element_sum kV_element_sum dc_element_sum pm_element_sum cd_element_sum ct_element_sum oc_element_less kV_element_less dc_element_less pm_element_less cd_element_less ct_element_less oc_element_product kV_element_product dc_element_product pm_element_product cd_element_product ct_element_product oc_element_inverse kV_element_inverse dc_element_inverse pm_element_inverse cd_element_inverse ct_element_inverse oc_repeated_product kV_repeated_product dc_repeated_product pm_repeated_product cd_repeated_product ct_repeated_product oc_element_root kV_element_root dc_element_root pm_element_root cd_element_root ct_element_root oc_root_of kV_root_of dc_root_of pm_root_of cd_root_of ct_root_of oc__law_dice kV__law_dice dc__law_dice pm__law_dice cd__law_dice ct__law_dice oc__law_roll kV__law_roll dc__law_roll pm__law_roll cd__law_roll ct__law_roll oc__law_raised kV__law_raised dc__law_raised pm__law_raised cd__law_raised ct__law_raised oc__law_one_of kV__law_one_of dc__law_one_of pm__law_one_of cd__law_one_of ct__law_one_of oc__law_digits kV__law_digits dc__law_digits pm__law_digits cd__law_digits ct__law_digits oc__law_element_product kV__law_element_product dc__law_element_product pm__law_element_product cd__law_element_product ct__law_element_product oc__law_element_sum kV__law_element_sum dc__law_element_sum pm__law_element_sum cd__law_element_sum ct__law_element_sum oc__law_field kV__law_field dc__law_field pm__law_field cd__law_field ct__law_field oc__law_tables_right kV__law_tables_right dc__law_tables_right pm__law_tables_right cd__law_tables_right ct__law_tables_right oc__law_roots_right kV__law_roots_right dc__law_roots_right pm__law_roots_right cd__law_roots_right ct__law_roots_right oc__law_triple_right kV__law_triple_right dc__law_triple_right pm__law_triple_right cd__law_triple_right ct__law_triple_right oc__law_judged_right kV__law_judged_right dc__law_judged_right pm__law_judged_right cd__law_judged_right ct__law_judged_right oc__law_right kV__law_right dc__law_right pm__law_right cd__law_right ct__law_right oc_law kV_law dc_law pm_law cd_law ct_law : Value}
    {t_TOO_LONG : Tok}
    {f_PRIMES f_POWERS f_SUMS f_PRODUCTS f_OPPOSITES f_INVERSES f_FIELDS : Addr}
    (a_is_integer : PySem.W.nsIn K mainGlobals "is_integer" = some (some (.ref f_is_integer))) (l_is_integer : K.lookup f_is_integer = some ⟨oc_is_integer, od_is_integer, .func (PySem.W.fnOf "is_integer" "is_integer" (defArgs s_is_integer) (defBody s_is_integer) (defScope s_is_integer) .none kV_is_integer dc_is_integer pm_is_integer an_is_integer cd_is_integer ct_is_integer), sl_is_integer⟩) (c_is_integer : PySem.W.codeIn K cd_is_integer "is_integer" = true) (k_is_integer : PySem.W.keepIn K (.ref f_is_integer) = true)
    (a_is_between : PySem.W.nsIn K mainGlobals "is_between" = some (some (.ref f_is_between))) (l_is_between : K.lookup f_is_between = some ⟨oc_is_between, od_is_between, .func (PySem.W.fnOf "is_between" "is_between" (defArgs s_is_between) (defBody s_is_between) (defScope s_is_between) .none kV_is_between dc_is_between pm_is_between an_is_between cd_is_between ct_is_between), sl_is_between⟩) (c_is_between : PySem.W.codeIn K cd_is_between "is_between" = true) (k_is_between : PySem.W.keepIn K (.ref f_is_between) = true)
    (a_is_field : PySem.W.nsIn K mainGlobals "is_field" = some (some (.ref f_is_field))) (l_is_field : K.lookup f_is_field = some ⟨oc_is_field, od_is_field, .func (PySem.W.fnOf "is_field" "is_field" (defArgs s_is_field) (defBody s_is_field) (defScope s_is_field) .none kV_is_field dc_is_field pm_is_field an_is_field cd_is_field ct_is_field), sl_is_field⟩) (c_is_field : PySem.W.codeIn K cd_is_field "is_field" = true) (k_is_field : PySem.W.keepIn K (.ref f_is_field) = true)
    (a_check_field : PySem.W.nsIn K mainGlobals "check_field" = some (some (.ref f_check_field))) (l_check_field : K.lookup f_check_field = some ⟨oc_check_field, od_check_field, .func (PySem.W.fnOf "check_field" "check_field" (defArgs s_check_field) (defBody s_check_field) (defScope s_check_field) .none kV_check_field dc_check_field pm_check_field an_check_field cd_check_field ct_check_field), sl_check_field⟩) (c_check_field : PySem.W.codeIn K cd_check_field "check_field" = true) (k_check_field : PySem.W.keepIn K (.ref f_check_field) = true)
    (a_prime_of : PySem.W.nsIn K mainGlobals "prime_of" = some (some (.ref f_prime_of))) (l_prime_of : K.lookup f_prime_of = some ⟨oc_prime_of, od_prime_of, .func (PySem.W.fnOf "prime_of" "prime_of" (defArgs s_prime_of) (defBody s_prime_of) (defScope s_prime_of) .none kV_prime_of dc_prime_of pm_prime_of an_prime_of cd_prime_of ct_prime_of), sl_prime_of⟩) (c_prime_of : PySem.W.codeIn K cd_prime_of "prime_of" = true) (k_prime_of : PySem.W.keepIn K (.ref f_prime_of) = true)
    (a_power_of : PySem.W.nsIn K mainGlobals "power_of" = some (some (.ref f_power_of))) (l_power_of : K.lookup f_power_of = some ⟨oc_power_of, od_power_of, .func (PySem.W.fnOf "power_of" "power_of" (defArgs s_power_of) (defBody s_power_of) (defScope s_power_of) .none kV_power_of dc_power_of pm_power_of an_power_of cd_power_of ct_power_of), sl_power_of⟩) (c_power_of : PySem.W.codeIn K cd_power_of "power_of" = true) (k_power_of : PySem.W.keepIn K (.ref f_power_of) = true)
    (a_is_element : PySem.W.nsIn K mainGlobals "is_element" = some (some (.ref f_is_element))) (l_is_element : K.lookup f_is_element = some ⟨oc_is_element, od_is_element, .func (PySem.W.fnOf "is_element" "is_element" (defArgs s_is_element) (defBody s_is_element) (defScope s_is_element) .none kV_is_element dc_is_element pm_is_element an_is_element cd_is_element ct_is_element), sl_is_element⟩) (c_is_element : PySem.W.codeIn K cd_is_element "is_element" = true) (k_is_element : PySem.W.keepIn K (.ref f_is_element) = true)
    (a_check_element : PySem.W.nsIn K mainGlobals "check_element" = some (some (.ref f_check_element))) (l_check_element : K.lookup f_check_element = some ⟨oc_check_element, od_check_element, .func (PySem.W.fnOf "check_element" "check_element" (defArgs s_check_element) (defBody s_check_element) (defScope s_check_element) .none kV_check_element dc_check_element pm_check_element an_check_element cd_check_element ct_check_element), sl_check_element⟩) (c_check_element : PySem.W.codeIn K cd_check_element "check_element" = true) (k_check_element : PySem.W.keepIn K (.ref f_check_element) = true)
    (a_check_other_than_zero : PySem.W.nsIn K mainGlobals "check_other_than_zero" = some (some (.ref f_check_other_than_zero))) (l_check_other_than_zero : K.lookup f_check_other_than_zero = some ⟨oc_check_other_than_zero, od_check_other_than_zero, .func (PySem.W.fnOf "check_other_than_zero" "check_other_than_zero" (defArgs s_check_other_than_zero) (defBody s_check_other_than_zero) (defScope s_check_other_than_zero) .none kV_check_other_than_zero dc_check_other_than_zero pm_check_other_than_zero an_check_other_than_zero cd_check_other_than_zero ct_check_other_than_zero), sl_check_other_than_zero⟩) (c_check_other_than_zero : PySem.W.codeIn K cd_check_other_than_zero "check_other_than_zero" = true) (k_check_other_than_zero : PySem.W.keepIn K (.ref f_check_other_than_zero) = true)
    (a_element_sum : PySem.W.nsIn K mainGlobals "element_sum" = some (some (.ref f_element_sum))) (l_element_sum : K.lookup f_element_sum = some ⟨oc_element_sum, od_element_sum, .func (PySem.W.fnOf "element_sum" "element_sum" (defArgs s_element_sum) (defBody s_element_sum) (defScope s_element_sum) .none kV_element_sum dc_element_sum pm_element_sum an_element_sum cd_element_sum ct_element_sum), sl_element_sum⟩) (c_element_sum : PySem.W.codeIn K cd_element_sum "element_sum" = true) (k_element_sum : PySem.W.keepIn K (.ref f_element_sum) = true)
    (a_element_less : PySem.W.nsIn K mainGlobals "element_less" = some (some (.ref f_element_less))) (l_element_less : K.lookup f_element_less = some ⟨oc_element_less, od_element_less, .func (PySem.W.fnOf "element_less" "element_less" (defArgs s_element_less) (defBody s_element_less) (defScope s_element_less) .none kV_element_less dc_element_less pm_element_less an_element_less cd_element_less ct_element_less), sl_element_less⟩) (c_element_less : PySem.W.codeIn K cd_element_less "element_less" = true) (k_element_less : PySem.W.keepIn K (.ref f_element_less) = true)
    (a_element_product : PySem.W.nsIn K mainGlobals "element_product" = some (some (.ref f_element_product))) (l_element_product : K.lookup f_element_product = some ⟨oc_element_product, od_element_product, .func (PySem.W.fnOf "element_product" "element_product" (defArgs s_element_product) (defBody s_element_product) (defScope s_element_product) .none kV_element_product dc_element_product pm_element_product an_element_product cd_element_product ct_element_product), sl_element_product⟩) (c_element_product : PySem.W.codeIn K cd_element_product "element_product" = true) (k_element_product : PySem.W.keepIn K (.ref f_element_product) = true)
    (a_element_inverse : PySem.W.nsIn K mainGlobals "element_inverse" = some (some (.ref f_element_inverse))) (l_element_inverse : K.lookup f_element_inverse = some ⟨oc_element_inverse, od_element_inverse, .func (PySem.W.fnOf "element_inverse" "element_inverse" (defArgs s_element_inverse) (defBody s_element_inverse) (defScope s_element_inverse) .none kV_element_inverse dc_element_inverse pm_element_inverse an_element_inverse cd_element_inverse ct_element_inverse), sl_element_inverse⟩) (c_element_inverse : PySem.W.codeIn K cd_element_inverse "element_inverse" = true) (k_element_inverse : PySem.W.keepIn K (.ref f_element_inverse) = true)
    (a_repeated_product : PySem.W.nsIn K mainGlobals "repeated_product" = some (some (.ref f_repeated_product))) (l_repeated_product : K.lookup f_repeated_product = some ⟨oc_repeated_product, od_repeated_product, .func (PySem.W.fnOf "repeated_product" "repeated_product" (defArgs s_repeated_product) (defBody s_repeated_product) (defScope s_repeated_product) .none kV_repeated_product dc_repeated_product pm_repeated_product an_repeated_product cd_repeated_product ct_repeated_product), sl_repeated_product⟩) (c_repeated_product : PySem.W.codeIn K cd_repeated_product "repeated_product" = true) (k_repeated_product : PySem.W.keepIn K (.ref f_repeated_product) = true)
    (a_element_root : PySem.W.nsIn K mainGlobals "element_root" = some (some (.ref f_element_root))) (l_element_root : K.lookup f_element_root = some ⟨oc_element_root, od_element_root, .func (PySem.W.fnOf "element_root" "element_root" (defArgs s_element_root) (defBody s_element_root) (defScope s_element_root) .none kV_element_root dc_element_root pm_element_root an_element_root cd_element_root ct_element_root), sl_element_root⟩) (c_element_root : PySem.W.codeIn K cd_element_root "element_root" = true) (k_element_root : PySem.W.keepIn K (.ref f_element_root) = true)
    (a_root_of : PySem.W.nsIn K mainGlobals "root_of" = some (some (.ref f_root_of))) (l_root_of : K.lookup f_root_of = some ⟨oc_root_of, od_root_of, .func (PySem.W.fnOf "root_of" "root_of" (defArgs s_root_of) (defBody s_root_of) (defScope s_root_of) .none kV_root_of dc_root_of pm_root_of an_root_of cd_root_of ct_root_of), sl_root_of⟩) (c_root_of : PySem.W.codeIn K cd_root_of "root_of" = true) (k_root_of : PySem.W.keepIn K (.ref f_root_of) = true)
    (a__law_dice : PySem.W.nsIn K mainGlobals "_law_dice" = some (some (.ref f__law_dice))) (l__law_dice : K.lookup f__law_dice = some ⟨oc__law_dice, od__law_dice, .func (PySem.W.fnOf "_law_dice" "_law_dice" (defArgs s__law_dice) (defBody s__law_dice) (defScope s__law_dice) .none kV__law_dice dc__law_dice pm__law_dice an__law_dice cd__law_dice ct__law_dice), sl__law_dice⟩) (c__law_dice : PySem.W.codeIn K cd__law_dice "_law_dice" = true) (k__law_dice : PySem.W.keepIn K (.ref f__law_dice) = true)
    (a__law_roll : PySem.W.nsIn K mainGlobals "_law_roll" = some (some (.ref f__law_roll))) (l__law_roll : K.lookup f__law_roll = some ⟨oc__law_roll, od__law_roll, .func (PySem.W.fnOf "_law_roll" "_law_roll" (defArgs s__law_roll) (defBody s__law_roll) (defScope s__law_roll) .none kV__law_roll dc__law_roll pm__law_roll an__law_roll cd__law_roll ct__law_roll), sl__law_roll⟩) (c__law_roll : PySem.W.codeIn K cd__law_roll "_law_roll" = true) (k__law_roll : PySem.W.keepIn K (.ref f__law_roll) = true)
    (a__law_raised : PySem.W.nsIn K mainGlobals "_law_raised" = some (some (.ref f__law_raised))) (l__law_raised : K.lookup f__law_raised = some ⟨oc__law_raised, od__law_raised, .func (PySem.W.fnOf "_law_raised" "_law_raised" (defArgs s__law_raised) (defBody s__law_raised) (defScope s__law_raised) .none kV__law_raised dc__law_raised pm__law_raised an__law_raised cd__law_raised ct__law_raised), sl__law_raised⟩) (c__law_raised : PySem.W.codeIn K cd__law_raised "_law_raised" = true) (k__law_raised : PySem.W.keepIn K (.ref f__law_raised) = true)
    (a__law_one_of : PySem.W.nsIn K mainGlobals "_law_one_of" = some (some (.ref f__law_one_of))) (l__law_one_of : K.lookup f__law_one_of = some ⟨oc__law_one_of, od__law_one_of, .func (PySem.W.fnOf "_law_one_of" "_law_one_of" (defArgs s__law_one_of) (defBody s__law_one_of) (defScope s__law_one_of) .none kV__law_one_of dc__law_one_of pm__law_one_of an__law_one_of cd__law_one_of ct__law_one_of), sl__law_one_of⟩) (c__law_one_of : PySem.W.codeIn K cd__law_one_of "_law_one_of" = true) (k__law_one_of : PySem.W.keepIn K (.ref f__law_one_of) = true)
    (a__law_digits : PySem.W.nsIn K mainGlobals "_law_digits" = some (some (.ref f__law_digits))) (l__law_digits : K.lookup f__law_digits = some ⟨oc__law_digits, od__law_digits, .func (PySem.W.fnOf "_law_digits" "_law_digits" (defArgs s__law_digits) (defBody s__law_digits) (defScope s__law_digits) .none kV__law_digits dc__law_digits pm__law_digits an__law_digits cd__law_digits ct__law_digits), sl__law_digits⟩) (c__law_digits : PySem.W.codeIn K cd__law_digits "_law_digits" = true) (k__law_digits : PySem.W.keepIn K (.ref f__law_digits) = true)
    (a__law_element_product : PySem.W.nsIn K mainGlobals "_law_element_product" = some (some (.ref f__law_element_product))) (l__law_element_product : K.lookup f__law_element_product = some ⟨oc__law_element_product, od__law_element_product, .func (PySem.W.fnOf "_law_element_product" "_law_element_product" (defArgs s__law_element_product) (defBody s__law_element_product) (defScope s__law_element_product) .none kV__law_element_product dc__law_element_product pm__law_element_product an__law_element_product cd__law_element_product ct__law_element_product), sl__law_element_product⟩) (c__law_element_product : PySem.W.codeIn K cd__law_element_product "_law_element_product" = true) (k__law_element_product : PySem.W.keepIn K (.ref f__law_element_product) = true)
    (a__law_element_sum : PySem.W.nsIn K mainGlobals "_law_element_sum" = some (some (.ref f__law_element_sum))) (l__law_element_sum : K.lookup f__law_element_sum = some ⟨oc__law_element_sum, od__law_element_sum, .func (PySem.W.fnOf "_law_element_sum" "_law_element_sum" (defArgs s__law_element_sum) (defBody s__law_element_sum) (defScope s__law_element_sum) .none kV__law_element_sum dc__law_element_sum pm__law_element_sum an__law_element_sum cd__law_element_sum ct__law_element_sum), sl__law_element_sum⟩) (c__law_element_sum : PySem.W.codeIn K cd__law_element_sum "_law_element_sum" = true) (k__law_element_sum : PySem.W.keepIn K (.ref f__law_element_sum) = true)
    (a__law_field : PySem.W.nsIn K mainGlobals "_law_field" = some (some (.ref f__law_field))) (l__law_field : K.lookup f__law_field = some ⟨oc__law_field, od__law_field, .func (PySem.W.fnOf "_law_field" "_law_field" (defArgs s__law_field) (defBody s__law_field) (defScope s__law_field) .none kV__law_field dc__law_field pm__law_field an__law_field cd__law_field ct__law_field), sl__law_field⟩) (c__law_field : PySem.W.codeIn K cd__law_field "_law_field" = true) (k__law_field : PySem.W.keepIn K (.ref f__law_field) = true)
    (a__law_tables_right : PySem.W.nsIn K mainGlobals "_law_tables_right" = some (some (.ref f__law_tables_right))) (l__law_tables_right : K.lookup f__law_tables_right = some ⟨oc__law_tables_right, od__law_tables_right, .func (PySem.W.fnOf "_law_tables_right" "_law_tables_right" (defArgs s__law_tables_right) (defBody s__law_tables_right) (defScope s__law_tables_right) .none kV__law_tables_right dc__law_tables_right pm__law_tables_right an__law_tables_right cd__law_tables_right ct__law_tables_right), sl__law_tables_right⟩) (c__law_tables_right : PySem.W.codeIn K cd__law_tables_right "_law_tables_right" = true) (k__law_tables_right : PySem.W.keepIn K (.ref f__law_tables_right) = true)
    (a__law_roots_right : PySem.W.nsIn K mainGlobals "_law_roots_right" = some (some (.ref f__law_roots_right))) (l__law_roots_right : K.lookup f__law_roots_right = some ⟨oc__law_roots_right, od__law_roots_right, .func (PySem.W.fnOf "_law_roots_right" "_law_roots_right" (defArgs s__law_roots_right) (defBody s__law_roots_right) (defScope s__law_roots_right) .none kV__law_roots_right dc__law_roots_right pm__law_roots_right an__law_roots_right cd__law_roots_right ct__law_roots_right), sl__law_roots_right⟩) (c__law_roots_right : PySem.W.codeIn K cd__law_roots_right "_law_roots_right" = true) (k__law_roots_right : PySem.W.keepIn K (.ref f__law_roots_right) = true)
    (a__law_triple_right : PySem.W.nsIn K mainGlobals "_law_triple_right" = some (some (.ref f__law_triple_right))) (l__law_triple_right : K.lookup f__law_triple_right = some ⟨oc__law_triple_right, od__law_triple_right, .func (PySem.W.fnOf "_law_triple_right" "_law_triple_right" (defArgs s__law_triple_right) (defBody s__law_triple_right) (defScope s__law_triple_right) .none kV__law_triple_right dc__law_triple_right pm__law_triple_right an__law_triple_right cd__law_triple_right ct__law_triple_right), sl__law_triple_right⟩) (c__law_triple_right : PySem.W.codeIn K cd__law_triple_right "_law_triple_right" = true) (k__law_triple_right : PySem.W.keepIn K (.ref f__law_triple_right) = true)
    (a__law_judged_right : PySem.W.nsIn K mainGlobals "_law_judged_right" = some (some (.ref f__law_judged_right))) (l__law_judged_right : K.lookup f__law_judged_right = some ⟨oc__law_judged_right, od__law_judged_right, .func (PySem.W.fnOf "_law_judged_right" "_law_judged_right" (defArgs s__law_judged_right) (defBody s__law_judged_right) (defScope s__law_judged_right) .none kV__law_judged_right dc__law_judged_right pm__law_judged_right an__law_judged_right cd__law_judged_right ct__law_judged_right), sl__law_judged_right⟩) (c__law_judged_right : PySem.W.codeIn K cd__law_judged_right "_law_judged_right" = true) (k__law_judged_right : PySem.W.keepIn K (.ref f__law_judged_right) = true)
    (a__law_right : PySem.W.nsIn K mainGlobals "_law_right" = some (some (.ref f__law_right))) (l__law_right : K.lookup f__law_right = some ⟨oc__law_right, od__law_right, .func (PySem.W.fnOf "_law_right" "_law_right" (defArgs s__law_right) (defBody s__law_right) (defScope s__law_right) .none kV__law_right dc__law_right pm__law_right an__law_right cd__law_right ct__law_right), sl__law_right⟩) (c__law_right : PySem.W.codeIn K cd__law_right "_law_right" = true) (k__law_right : PySem.W.keepIn K (.ref f__law_right) = true)
    (a_law : PySem.W.nsIn K mainGlobals "law" = some (some (.ref f_law))) (l_law : K.lookup f_law = some ⟨oc_law, od_law, .func (PySem.W.fnOf "law" "law" (defArgs s_law) (defBody s_law) (defScope s_law) .none kV_law dc_law pm_law an_law cd_law ct_law), sl_law⟩) (c_law : PySem.W.codeIn K cd_law "law" = true) (k_law : PySem.W.keepIn K (.ref f_law) = true)
    (z_isinstance : PySem.W.nsIn K mainGlobals "isinstance" = some none)
    (z_int : PySem.W.nsIn K mainGlobals "int" = some none)
    (z_bool : PySem.W.nsIn K mainGlobals "bool" = some none)
    (z_range : PySem.W.nsIn K mainGlobals "range" = some none)
    (z_len : PySem.W.nsIn K mainGlobals "len" = some none)
    (z_abs : PySem.W.nsIn K mainGlobals "abs" = some none)
    (z_enumerate : PySem.W.nsIn K mainGlobals "enumerate" = some none)
    (z_sorted : PySem.W.nsIn K mainGlobals "sorted" = some none)
    (z_list : PySem.W.nsIn K mainGlobals "list" = some none)
    (z_max : PySem.W.nsIn K mainGlobals "max" = some none)
    (z_min : PySem.W.nsIn K mainGlobals "min" = some none)
    (a_PRIMES : PySem.W.nsIn K mainGlobals "PRIMES" = some (some (.ref f_PRIMES))) (w_PRIMES : tab0 K f_PRIMES = some W_PRIMES)
    (a_POWERS : PySem.W.nsIn K mainGlobals "POWERS" = some (some (.ref f_POWERS))) (w_POWERS : tab0 K f_POWERS = some W_POWERS)
    (a_SUMS : PySem.W.nsIn K mainGlobals "SUMS" = some (some (.ref f_SUMS))) (w_SUMS : tab2 K f_SUMS = some W_SUMS)
    (a_PRODUCTS : PySem.W.nsIn K mainGlobals "PRODUCTS" = some (some (.ref f_PRODUCTS))) (w_PRODUCTS : tab2 K f_PRODUCTS = some W_PRODUCTS)
    (a_OPPOSITES : PySem.W.nsIn K mainGlobals "OPPOSITES" = some (some (.ref f_OPPOSITES))) (w_OPPOSITES : tab1 K f_OPPOSITES = some W_OPPOSITES)
    (a_INVERSES : PySem.W.nsIn K mainGlobals "INVERSES" = some (some (.ref f_INVERSES))) (w_INVERSES : tab1 K f_INVERSES = some W_INVERSES)
    (a_FIELDS : PySem.W.nsIn K mainGlobals "FIELDS" = some (some (.ref f_FIELDS))) (w_FIELDS : asRow K (.ref f_FIELDS) = some W_FIELDS)
    (q_TOO_LONG : PySem.W.nsIn K mainGlobals "TOO_LONG" = some (some (.int 1000000000000000000000000000000000000000000000000000000000000 t_TOO_LONG)))
    : ∃ fd : FuncData, (∀ (s : Shared) (v : Value), BindsTo s fd ⟨[v], []⟩ [("_law_script", v)]) ∧ ∀ base : Heap, K.In base → base.Ns mainGlobals mg → FnOk l.prog w K mg base CX0 9 fa fd ["_law_script"] (sp_law K) := by
  have e := hfa.symm.trans (PySem.W.mg_of X G a_law)
  cases e
  have F_is_integer := fun_mk (st := s_is_integer) l_is_integer c_is_integer k_is_integer
  have b_is_integer := F_is_integer.binds (ps := ["value"]) fun _ _ _ _ _ _ us hl => match us, hl with | [_], _ => rfl
  have F_is_between := fun_mk (st := s_is_between) l_is_between c_is_between k_is_between
  have b_is_between := F_is_between.binds (ps := ["value", "low", "high"]) fun _ _ _ _ _ _ us hl => match us, hl with | [_, _, _], _ => rfl
  have F_is_field := fun_mk (st := s_is_field) l_is_field c_is_field k_is_field
  have b_is_field := F_is_field.binds (ps := ["value"]) fun _ _ _ _ _ _ us hl => match us, hl with | [_], _ => rfl
  have F_check_field := fun_mk (st := s_check_field) l_check_field c_check_field k_check_field
  have b_check_field := F_check_field.binds (ps := ["q"]) fun _ _ _ _ _ _ us hl => match us, hl with | [_], _ => rfl
  have F_prime_of := fun_mk (st := s_prime_of) l_prime_of c_prime_of k_prime_of
  have b_prime_of := F_prime_of.binds (ps := ["q"]) fun _ _ _ _ _ _ us hl => match us, hl with | [_], _ => rfl
  have F_power_of := fun_mk (st := s_power_of) l_power_of c_power_of k_power_of
  have b_power_of := F_power_of.binds (ps := ["q"]) fun _ _ _ _ _ _ us hl => match us, hl with | [_], _ => rfl
  have F_is_element := fun_mk (st := s_is_element) l_is_element c_is_element k_is_element
  have b_is_element := F_is_element.binds (ps := ["q", "value"]) fun _ _ _ _ _ _ us hl => match us, hl with | [_, _], _ => rfl
  have F_check_element := fun_mk (st := s_check_element) l_check_element c_check_element k_check_element
  have b_check_element := F_check_element.binds (ps := ["q", "value"]) fun _ _ _ _ _ _ us hl => match us, hl with | [_, _], _ => rfl
  have F_check_other_than_zero := fun_mk (st := s_check_other_than_zero) l_check_other_than_zero c_check_other_than_zero k_check_other_than_zero
  have b_check_other_than_zero := F_check_other_than_zero.binds (ps := ["element"]) fun _ _ _ _ _ _ us hl => match us, hl with | [_], _ => rfl
  have F_element_sum := fun_mk (st := s_element_sum) l_element_sum c_element_sum k_element_sum
  have b_element_sum := F_element_sum.binds (ps := ["q", "one", "other"]) fun _ _ _ _ _ _ us hl => match us, hl with | [_, _, _], _ => rfl
  have F_element_less := fun_mk (st := s_element_less) l_element_less c_element_less k_element_less
  have b_element_less := F_element_less.binds (ps := ["q", "one", "other"]) fun _ _ _ _ _ _ us hl => match us, hl with | [_, _, _], _ => rfl
  have F_element_product := fun_mk (st := s_element_product) l_element_product c_element_product k_element_product
  have b_element_product := F_element_product.binds (ps := ["q", "one", "other"]) fun _ _ _ _ _ _ us hl => match us, hl with | [_, _, _], _ => rfl
  have F_element_inverse := fun_mk (st := s_element_inverse) l_element_inverse c_element_inverse k_element_inverse
  have b_element_inverse := F_element_inverse.binds (ps := ["q", "element"]) fun _ _ _ _ _ _ us hl => match us, hl with | [_, _], _ => rfl
  have F_repeated_product := fun_mk (st := s_repeated_product) l_repeated_product c_repeated_product k_repeated_product
  have b_repeated_product := F_repeated_product.binds (ps := ["q", "element", "k"]) fun _ _ _ _ _ _ us hl => match us, hl with | [_, _, _], _ => rfl
  have F_element_root := fun_mk (st := s_element_root) l_element_root c_element_root k_element_root
  have b_element_root := F_element_root.binds (ps := ["q", "element"]) fun _ _ _ _ _ _ us hl => match us, hl with | [_, _], _ => rfl
  have F_root_of := fun_mk (st := s_root_of) l_root_of c_root_of k_root_of
  have b_root_of := F_root_of.binds (ps := ["q", "element"]) fun _ _ _ _ _ _ us hl => match us, hl with | [_, _], _ => rfl
  have F__law_dice := fun_mk (st := s__law_dice) l__law_dice c__law_dice k__law_dice
  have b__law_dice := F__law_dice.binds (ps := ["_law_script", "_law_at"]) fun _ _ _ _ _ _ us hl => match us, hl with | [_, _], _ => rfl
  have F__law_roll := fun_mk (st := s__law_roll) l__law_roll c__law_roll k__law_roll
  have b__law_roll := F__law_roll.binds (ps := ["_law_dice_here", "_law_total"]) fun _ _ _ _ _ _ us hl => match us, hl with | [_, _], _ => rfl
  have F__law_raised := fun_mk (st := s__law_raised) l__law_raised c__law_raised k__law_raised
  have b__law_raised := F__law_raised.binds (ps := ["_law_base", "_law_count"]) fun _ _ _ _ _ _ us hl => match us, hl with | [_, _], _ => rfl
  have F__law_one_of := fun_mk (st := s__law_one_of) l__law_one_of c__law_one_of k__law_one_of
  have b__law_one_of := F__law_one_of.binds (ps := ["_law_dice_here", "_law_items"]) fun _ _ _ _ _ _ us hl => match us, hl with | [_, _], _ => rfl
  have F__law_digits := fun_mk (st := s__law_digits) l__law_digits c__law_digits k__law_digits
  have b__law_digits := F__law_digits.binds (ps := ["_law_base", "_law_number"]) fun _ _ _ _ _ _ us hl => match us, hl with | [_, _], _ => rfl
  have F__law_element_product := fun_mk (st := s__law_element_product) l__law_element_product c__law_element_product k__law_element_product
  have b__law_element_product := F__law_element_product.binds (ps := ["_law_p", "_law_f", "_law_one", "_law_other"]) fun _ _ _ _ _ _ us hl => match us, hl with | [_, _, _, _], _ => rfl
  have F__law_element_sum := fun_mk (st := s__law_element_sum) l__law_element_sum c__law_element_sum k__law_element_sum
  have b__law_element_sum := F__law_element_sum.binds (ps := ["_law_p", "_law_f", "_law_one", "_law_other"]) fun _ _ _ _ _ _ us hl => match us, hl with | [_, _, _, _], _ => rfl
  have F__law_field := fun_mk (st := s__law_field) l__law_field c__law_field k__law_field
  have b__law_field := F__law_field.binds (ps := ["_law_q"]) fun _ _ _ _ _ _ us hl => match us, hl with | [_], _ => rfl
  have F__law_tables_right := fun_mk (st := s__law_tables_right) l__law_tables_right c__law_tables_right k__law_tables_right
  have b__law_tables_right := F__law_tables_right.binds (ps := ["_law_field_here"]) fun _ _ _ _ _ _ us hl => match us, hl with | [_], _ => rfl
  have F__law_roots_right := fun_mk (st := s__law_roots_right) l__law_roots_right c__law_roots_right k__law_roots_right
  have b__law_roots_right := F__law_roots_right.binds (ps := ["_law_field_here"]) fun _ _ _ _ _ _ us hl => match us, hl with | [_], _ => rfl
  have F__law_triple_right := fun_mk (st := s__law_triple_right) l__law_triple_right c__law_triple_right k__law_triple_right
  have b__law_triple_right := F__law_triple_right.binds (ps := ["_law_dice_here", "_law_q"]) fun _ _ _ _ _ _ us hl => match us, hl with | [_, _], _ => rfl
  have F__law_judged_right := fun_mk (st := s__law_judged_right) l__law_judged_right c__law_judged_right k__law_judged_right
  have b__law_judged_right := F__law_judged_right.binds (ps := ["_law_dice_here", "_law_q"]) fun _ _ _ _ _ _ us hl => match us, hl with | [_, _], _ => rfl
  have F__law_right := fun_mk (st := s__law_right) l__law_right c__law_right k__law_right
  have b__law_right := F__law_right.binds (ps := ["_law_dice_here"]) fun _ _ _ _ _ _ us hl => match us, hl with | [_], _ => rfl
  have F_law := fun_mk (st := s_law) l_law c_law k_law
  have b_law := F_law.binds (ps := ["_law_script"]) fun _ _ _ _ _ _ us hl => match us, hl with | [_], _ => rfl
  have T : Txt K mg := { F_is_integer := F_is_integer, g_is_integer := PySem.W.mg_of X G a_is_integer, b_is_integer := b_is_integer, F_is_between := F_is_between, g_is_between := PySem.W.mg_of X G a_is_between, b_is_between := b_is_between, F_is_field := F_is_field, g_is_field := PySem.W.mg_of X G a_is_field, b_is_field := b_is_field, F_check_field := F_check_field, g_check_field := PySem.W.mg_of X G a_check_field, b_check_field := b_check_field, F_prime_of := F_prime_of, g_prime_of := PySem.W.mg_of X G a_prime_of, b_prime_of := b_prime_of, F_power_of := F_power_of, g_power_of := PySem.W.mg_of X G a_power_of, b_power_of := b_power_of, F_is_element := F_is_element, g_is_element := PySem.W.mg_of X G a_is_element, b_is_element := b_is_element, F_check_element := F_check_element, g_check_element := PySem.W.mg_of X G a_check_element, b_check_element := b_check_element, F_check_other_than_zero := F_check_other_than_zero, g_check_other_than_zero := PySem.W.mg_of X G a_check_other_than_zero, b_check_other_than_zero := b_check_other_than_zero, F_element_sum := F_element_sum, g_element_sum := PySem.W.mg_of X G a_element_sum, b_element_sum := b_element_sum, F_element_less := F_element_less, g_element_less := PySem.W.mg_of X G a_element_less, b_element_less := b_element_less, F_element_product := F_element_product, g_element_product := PySem.W.mg_of X G a_element_product, b_element_product := b_element_product, F_element_inverse := F_element_inverse, g_element_inverse := PySem.W.mg_of X G a_element_inverse, b_element_inverse := b_element_inverse, F_repeated_product := F_repeated_product, g_repeated_product := PySem.W.mg_of X G a_repeated_product, b_repeated_product := b_repeated_product, F_element_root := F_element_root, g_element_root := PySem.W.mg_of X G a_element_root, b_element_root := b_element_root, F_root_of := F_root_of, g_root_of := PySem.W.mg_of X G a_root_of, b_root_of := b_root_of, F__law_dice := F__law_dice, g__law_dice := PySem.W.mg_of X G a__law_dice, b__law_dice := b__law_dice, F__law_roll := F__law_roll, g__law_roll := PySem.W.mg_of X G a__law_roll, b__law_roll := b__law_roll, F__law_raised := F__law_raised, g__law_raised := PySem.W.mg_of X G a__law_raised, b__law_raised := b__law_raised, F__law_one_of := F__law_one_of, g__law_one_of := PySem.W.mg_of X G a__law_one_of, b__law_one_of := b__law_one_of, F__law_digits := F__law_digits, g__law_digits := PySem.W.mg_of X G a__law_digits, b__law_digits := b__law_digits, F__law_element_product := F__law_element_product, g__law_element_product := PySem.W.mg_of X G a__law_element_product, b__law_element_product := b__law_element_product, F__law_element_sum := F__law_element_sum, g__law_element_sum := PySem.W.mg_of X G a__law_element_sum, b__law_element_sum := b__law_element_sum, F__law_field := F__law_field, g__law_field := PySem.W.mg_of X G a__law_field, b__law_field := b__law_field, F__law_tables_right := F__law_tables_right, g__law_tables_right := PySem.W.mg_of X G a__law_tables_right, b__law_tables_right := b__law_tables_right, F__law_roots_right := F__law_roots_right, g__law_roots_right := PySem.W.mg_of X G a__law_roots_right, b__law_roots_right := b__law_roots_right, F__law_triple_right := F__law_triple_right, g__law_triple_right := PySem.W.mg_of X G a__law_triple_right, b__law_triple_right := b__law_triple_right, F__law_judged_right := F__law_judged_right, g__law_judged_right := PySem.W.mg_of X G a__law_judged_right, b__law_judged_right := b__law_judged_right, F__law_right := F__law_right, g__law_right := PySem.W.mg_of X G a__law_right, b__law_right := b__law_right, F_law := F_law, g_law := PySem.W.mg_of X G a_law, b_law := b_law, z_isinstance := PySem.W.mg_none_of X G z_isinstance, z_int := PySem.W.mg_none_of X G z_int, z_bool := PySem.W.mg_none_of X G z_bool, z_range := PySem.W.mg_none_of X G z_range, z_len := PySem.W.mg_none_of X G z_len, z_abs := PySem.W.mg_none_of X G z_abs, z_enumerate := PySem.W.mg_none_of X G z_enumerate, z_sorted := PySem.W.mg_none_of X G z_sorted, z_list := PySem.W.mg_none_of X G z_list, z_max := PySem.W.mg_none_of X G z_max, z_min := PySem.W.mg_none_of X G z_min, g_PRIMES := PySem.W.mg_of X G a_PRIMES, w_PRIMES := w_PRIMES, g_POWERS := PySem.W.mg_of X G a_POWERS, w_POWERS := w_POWERS, g_SUMS := PySem.W.mg_of X G a_SUMS, w_SUMS := w_SUMS, g_PRODUCTS := PySem.W.mg_of X G a_PRODUCTS, w_PRODUCTS := w_PRODUCTS, g_OPPOSITES := PySem.W.mg_of X G a_OPPOSITES, w_OPPOSITES := w_OPPOSITES, g_INVERSES := PySem.W.mg_of X G a_INVERSES, w_INVERSES := w_INVERSES, g_FIELDS := PySem.W.mg_of X G a_FIELDS, w_FIELDS := w_FIELDS, c_TOO_LONG := PySem.W.mg_of X G q_TOO_LONG }
  exact ⟨_, fun s v => .of_eq rfl, fun base _ _ => ok_law { F_is_integer := F_is_integer, g_is_integer := PySem.W.mg_of X G a_is_integer, b_is_integer := b_is_integer, F_is_between := F_is_between, g_is_between := PySem.W.mg_of X G a_is_between, b_is_between := b_is_between, F_is_field := F_is_field, g_is_field := PySem.W.mg_of X G a_is_field, b_is_field := b_is_field, F_check_field := F_check_field, g_check_field := PySem.W.mg_of X G a_check_field, b_check_field := b_check_field, F_prime_of := F_prime_of, g_prime_of := PySem.W.mg_of X G a_prime_of, b_prime_of := b_prime_of, F_power_of := F_power_of, g_power_of := PySem.W.mg_of X G a_power_of, b_power_of := b_power_of, F_is_element := F_is_element, g_is_element := PySem.W.mg_of X G a_is_element, b_is_element := b_is_element, F_check_element := F_check_element, g_check_element := PySem.W.mg_of X G a_check_element, b_check_element := b_check_element, F_check_other_than_zero := F_check_other_than_zero, g_check_other_than_zero := PySem.W.mg_of X G a_check_other_than_zero, b_check_other_than_zero := b_check_other_than_zero, F_element_sum := F_element_sum, g_element_sum := PySem.W.mg_of X G a_element_sum, b_element_sum := b_element_sum, F_element_less := F_element_less, g_element_less := PySem.W.mg_of X G a_element_less, b_element_less := b_element_less, F_element_product := F_element_product, g_element_product := PySem.W.mg_of X G a_element_product, b_element_product := b_element_product, F_element_inverse := F_element_inverse, g_element_inverse := PySem.W.mg_of X G a_element_inverse, b_element_inverse := b_element_inverse, F_repeated_product := F_repeated_product, g_repeated_product := PySem.W.mg_of X G a_repeated_product, b_repeated_product := b_repeated_product, F_element_root := F_element_root, g_element_root := PySem.W.mg_of X G a_element_root, b_element_root := b_element_root, F_root_of := F_root_of, g_root_of := PySem.W.mg_of X G a_root_of, b_root_of := b_root_of, F__law_dice := F__law_dice, g__law_dice := PySem.W.mg_of X G a__law_dice, b__law_dice := b__law_dice, F__law_roll := F__law_roll, g__law_roll := PySem.W.mg_of X G a__law_roll, b__law_roll := b__law_roll, F__law_raised := F__law_raised, g__law_raised := PySem.W.mg_of X G a__law_raised, b__law_raised := b__law_raised, F__law_one_of := F__law_one_of, g__law_one_of := PySem.W.mg_of X G a__law_one_of, b__law_one_of := b__law_one_of, F__law_digits := F__law_digits, g__law_digits := PySem.W.mg_of X G a__law_digits, b__law_digits := b__law_digits, F__law_element_product := F__law_element_product, g__law_element_product := PySem.W.mg_of X G a__law_element_product, b__law_element_product := b__law_element_product, F__law_element_sum := F__law_element_sum, g__law_element_sum := PySem.W.mg_of X G a__law_element_sum, b__law_element_sum := b__law_element_sum, F__law_field := F__law_field, g__law_field := PySem.W.mg_of X G a__law_field, b__law_field := b__law_field, F__law_tables_right := F__law_tables_right, g__law_tables_right := PySem.W.mg_of X G a__law_tables_right, b__law_tables_right := b__law_tables_right, F__law_roots_right := F__law_roots_right, g__law_roots_right := PySem.W.mg_of X G a__law_roots_right, b__law_roots_right := b__law_roots_right, F__law_triple_right := F__law_triple_right, g__law_triple_right := PySem.W.mg_of X G a__law_triple_right, b__law_triple_right := b__law_triple_right, F__law_judged_right := F__law_judged_right, g__law_judged_right := PySem.W.mg_of X G a__law_judged_right, b__law_judged_right := b__law_judged_right, F__law_right := F__law_right, g__law_right := PySem.W.mg_of X G a__law_right, b__law_right := b__law_right, F_law := F_law, g_law := PySem.W.mg_of X G a_law, b_law := b_law, z_isinstance := PySem.W.mg_none_of X G z_isinstance, z_int := PySem.W.mg_none_of X G z_int, z_bool := PySem.W.mg_none_of X G z_bool, z_range := PySem.W.mg_none_of X G z_range, z_len := PySem.W.mg_none_of X G z_len, z_abs := PySem.W.mg_none_of X G z_abs, z_enumerate := PySem.W.mg_none_of X G z_enumerate, z_sorted := PySem.W.mg_none_of X G z_sorted, z_list := PySem.W.mg_none_of X G z_list, z_max := PySem.W.mg_none_of X G z_max, z_min := PySem.W.mg_none_of X G z_min, g_PRIMES := PySem.W.mg_of X G a_PRIMES, w_PRIMES := w_PRIMES, g_POWERS := PySem.W.mg_of X G a_POWERS, w_POWERS := w_POWERS, g_SUMS := PySem.W.mg_of X G a_SUMS, w_SUMS := w_SUMS, g_PRODUCTS := PySem.W.mg_of X G a_PRODUCTS, w_PRODUCTS := w_PRODUCTS, g_OPPOSITES := PySem.W.mg_of X G a_OPPOSITES, w_OPPOSITES := w_OPPOSITES, g_INVERSES := PySem.W.mg_of X G a_INVERSES, w_INVERSES := w_INVERSES, g_FIELDS := PySem.W.mg_of X G a_FIELDS, w_FIELDS := w_FIELDS, c_TOO_LONG := PySem.W.mg_of X G q_TOO_LONG }⟩
end Own
open PySem PySem.W PyProof.Rows
set_option maxHeartbeats 0 in
theorem PySem.Challenge.cw_monicsums_k00_whole_fields_by_their_tabl_holds : PySem.Challenge.rw_monicsums_k00_whole_fields_by_their_tabl.Holds := by
  w_on; o_law; k_head; (case hw => w_witness2)
  k_fill
  refine L2.walk_of (l := PySem.Challenge.rw_monicsums_k00_whole_fields_by_their_tabl) (n := 63) (k := 9) (x := "_law_script") (CX := fun _ => L2.CX0) (sp := fun w => Own.sp_law _) rfl (by decide) rfl ⟨rfl, by decide, by decide⟩ (fun w h Y => PySem.W.kIn_of Y) ?F (fun _ _ a ns hl _ hS => ⟨a, ns, rfl, hS, hl, fun _ => rfl⟩) (fun _ _ _ _ _ h => h)
  case F =>
    intro w mg fa h KX G hmg
    refine' Own.all_mk KX G hmg ?a_is_integer ?l_is_integer ?c_is_integer ?k_is_integer ?a_is_between ?l_is_between ?c_is_between ?k_is_between ?a_is_field ?l_is_field ?c_is_field ?k_is_field ?a_check_field ?l_check_field ?c_check_field ?k_check_field ?a_prime_of ?l_prime_of ?c_prime_of ?k_prime_of ?a_power_of ?l_power_of ?c_power_of ?k_power_of ?a_is_element ?l_is_element ?c_is_element ?k_is_element ?a_check_element ?l_check_element ?c_check_element ?k_check_element ?a_check_other_than_zero ?l_check_other_than_zero ?c_check_other_than_zero ?k_check_other_than_zero ?a_element_sum ?l_element_sum ?c_element_sum ?k_element_sum ?a_element_less ?l_element_less ?c_element_less ?k_element_less ?a_element_product ?l_element_product ?c_element_product ?k_element_product ?a_element_inverse ?l_element_inverse ?c_element_inverse ?k_element_inverse ?a_repeated_product ?l_repeated_product ?c_repeated_product ?k_repeated_product ?a_element_root ?l_element_root ?c_element_root ?k_element_root ?a_root_of ?l_root_of ?c_root_of ?k_root_of ?a__law_dice ?l__law_dice ?c__law_dice ?k__law_dice ?a__law_roll ?l__law_roll ?c__law_roll ?k__law_roll ?a__law_raised ?l__law_raised ?c__law_raised ?k__law_raised ?a__law_one_of ?l__law_one_of ?c__law_one_of ?k__law_one_of ?a__law_digits ?l__law_digits ?c__law_digits ?k__law_digits ?a__law_element_product ?l__law_element_product ?c__law_element_product ?k__law_element_product ?a__law_element_sum ?l__law_element_sum ?c__law_element_sum ?k__law_element_sum ?a__law_field ?l__law_field ?c__law_field ?k__law_field ?a__law_tables_right ?l__law_tables_right ?c__law_tables_right ?k__law_tables_right ?a__law_roots_right ?l__law_roots_right ?c__law_roots_right ?k__law_roots_right ?a__law_triple_right ?l__law_triple_right ?c__law_triple_right ?k__law_triple_right ?a__law_judged_right ?l__law_judged_right ?c__law_judged_right ?k__law_judged_right ?a__law_right ?l__law_right ?c__law_right ?k__law_right ?a_law ?l_law ?c_law ?k_law ?z_isinstance ?z_int ?z_bool ?z_range ?z_len ?z_abs ?z_enumerate ?z_sorted ?z_list ?z_max ?z_min ?a_PRIMES ?w_PRIMES ?a_POWERS ?w_POWERS ?a_SUMS ?w_SUMS ?a_PRODUCTS ?w_PRODUCTS ?a_OPPOSITES ?w_OPPOSITES ?a_INVERSES ?w_INVERSES ?a_FIELDS ?w_FIELDS ?q_TOO_LONG
    (case a_is_integer => k_is); (case l_is_integer => k_is); (case c_is_integer => k_is); (case k_is_integer => k_is); (case a_is_between => k_is); (case l_is_between => k_is); (case c_is_between => k_is); (case k_is_between => k_is); (case a_is_field => k_is); (case l_is_field => k_is); (case c_is_field => k_is); (case k_is_field => k_is); (case a_check_field => k_is); (case l_check_field => k_is); (case c_check_field => k_is); (case k_check_field => k_is); (case a_prime_of => k_is); (case l_prime_of => k_is); (case c_prime_of => k_is); (case k_prime_of => k_is); (case a_power_of => k_is); (case l_power_of => k_is); (case c_power_of => k_is); (case k_power_of => k_is); (case a_is_element => k_is); (case l_is_element => k_is); (case c_is_element => k_is); (case k_is_element => k_is); (case a_check_element => k_is); (case l_check_element => k_is); (case c_check_element => k_is); (case k_check_element => k_is); (case a_check_other_than_zero => k_is); (case l_check_other_than_zero => k_is); (case c_check_other_than_zero => k_is); (case k_check_other_than_zero => k_is); (case a_element_sum => k_is); (case l_element_sum => k_is); (case c_element_sum => k_is); (case k_element_sum => k_is); (case a_element_less => k_is); (case l_element_less => k_is); (case c_element_less => k_is); (case k_element_less => k_is); (case a_element_product => k_is); (case l_element_product => k_is); (case c_element_product => k_is); (case k_element_product => k_is); (case a_element_inverse => k_is); (case l_element_inverse => k_is); (case c_element_inverse => k_is); (case k_element_inverse => k_is); (case a_repeated_product => k_is); (case l_repeated_product => k_is); (case c_repeated_product => k_is); (case k_repeated_product => k_is); (case a_element_root => k_is); (case l_element_root => k_is); (case c_element_root => k_is); (case k_element_root => k_is); (case a_root_of => k_is); (case l_root_of => k_is); (case c_root_of => k_is); (case k_root_of => k_is); (case a__law_dice => k_is); (case l__law_dice => k_is); (case c__law_dice => k_is); (case k__law_dice => k_is); (case a__law_roll => k_is); (case l__law_roll => k_is); (case c__law_roll => k_is); (case k__law_roll => k_is); (case a__law_raised => k_is); (case l__law_raised => k_is); (case c__law_raised => k_is); (case k__law_raised => k_is); (case a__law_one_of => k_is); (case l__law_one_of => k_is); (case c__law_one_of => k_is); (case k__law_one_of => k_is); (case a__law_digits => k_is); (case l__law_digits => k_is); (case c__law_digits => k_is); (case k__law_digits => k_is); (case a__law_element_product => k_is); (case l__law_element_product => k_is); (case c__law_element_product => k_is); (case k__law_element_product => k_is); (case a__law_element_sum => k_is); (case l__law_element_sum => k_is); (case c__law_element_sum => k_is); (case k__law_element_sum => k_is); (case a__law_field => k_is); (case l__law_field => k_is); (case c__law_field => k_is); (case k__law_field => k_is); (case a__law_tables_right => k_is); (case l__law_tables_right => k_is); (case c__law_tables_right => k_is); (case k__law_tables_right => k_is); (case a__law_roots_right => k_is); (case l__law_roots_right => k_is); (case c__law_roots_right => k_is); (case k__law_roots_right => k_is); (case a__law_triple_right => k_is); (case l__law_triple_right => k_is); (case c__law_triple_right => k_is); (case k__law_triple_right => k_is); (case a__law_judged_right => k_is); (case l__law_judged_right => k_is); (case c__law_judged_right => k_is); (case k__law_judged_right => k_is); (case a__law_right => k_is); (case l__law_right => k_is); (case c__law_right => k_is); (case k__law_right => k_is); (case a_law => k_is); (case l_law => k_is); (case c_law => k_is); (case k_law => k_is); (case z_isinstance => k_is); (case z_int => k_is); (case z_bool => k_is); (case z_range => k_is); (case z_len => k_is); (case z_abs => k_is); (case z_enumerate => k_is); (case z_sorted => k_is); (case z_list => k_is); (case z_max => k_is); (case z_min => k_is); (case a_PRIMES => k_is); (case w_PRIMES => kernel_rfl); (case a_POWERS => k_is); (case w_POWERS => kernel_rfl); (case a_SUMS => k_is); (case w_SUMS => kernel_rfl); (case a_PRODUCTS => k_is); (case w_PRODUCTS => kernel_rfl); (case a_OPPOSITES => k_is); (case w_OPPOSITES => kernel_rfl); (case a_INVERSES => k_is); (case w_INVERSES => kernel_rfl); (case a_FIELDS => k_is); (case w_FIELDS => kernel_rfl); (case q_TOO_LONG => k_is)
#print axioms PySem.Challenge.cw_monicsums_k00_whole_fields_by_their_tabl_holds
