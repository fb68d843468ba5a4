import PyProof.Rows.All
import Wide.All
import OpenK.AllK
import Wide.FinOn
import HandS.Words
import KE.KStateDown
import HandS.Head3
import HandS.HeadEnd
import HandS.HeadHook1
import HandS.ForMost
import HandS.Wide
import HandS.TupMul
import HandS.TupAny
import HandS.Style
import HandS.Evl
import HandS.IsInst
import HandS.Conv
import HandS.SortInts
import HandS.Zip
import HandS.Walk
import HandS.SortKw
import HandS.DictComp
import HandS.Gcd
import HandS.TupLe
import HandS.SortRule
import HandS.SetFor
import PyProof.EnumMake
import HandS.More
import HandS.WordsDict
import PySem.Challenge.RW_monicsums_k13_whole_products_and_least_m
set_option Elab.async false
set_option linter.all false
set_option maxRecDepth 100000
set_option maxHeartbeats 4000000
set_option autoImplicit true
/-! written tables with integer keys: how they are read off a written part -/
namespace Own
open PySem PySem.Spec PyProof.Rows L2
abbrev Fr_ := PySem.W.Frag
def asInt : Value → Option Int
  | .int i _ => some i
  | _ => none
def asInts : List Value → Option (List Int)
  | [] => some []
  | v :: r => match asInt v, asInts r with
    | some i, some is => some (i :: is)
    | _, _ => none
/-- the items of a written tuple -/
def asTup (K : Fr_) : Value → Option (List Value)
  | .ref a => match K.lookup a with
    | some ⟨.type T, _, .seq its _, _⟩ => if T = "tuple" ∧ its.size ≤ 1000 then some its.toList else none
    | _ => none
  | _ => none
def asRow (K : Fr_) (v : Value) : Option (List Int) := match asTup K v with
  | some l => asInts l
  | none => none
def asRowsL (K : Fr_) : List Value → Option (List (List Int))
  | [] => some []
  | v :: r => match asRow K v, asRowsL K r with
    | some i, some is => some (i :: is)
    | _, _ => none
def asRows (K : Fr_) (v : Value) : Option (List (List Int)) := match asTup K v with
  | some l => asRowsL K l
  | none => none
/-- the entries of a written dict with integer keys -/
def entriesI : List DictEntry → Option (List (Int × Value))
  | [] => some []
  | e :: r => match asInt e.key, entriesI r with
    | some i, some is => if e.hash = hashInt i then some ((i, e.val) :: is) else none
    | _, _ => none
def tabOf (K : Fr_) (d : Addr) : Option (List (Int × Value)) := match K.lookup d with
  | some ⟨.type T, none, .dict es _, sl⟩ => if T = "dict" ∧ sl = #[] then entriesI es.toList else none
  | _ => none
def mapV2 {α β : Type} (f : α → Option β) : List (Int × α) → Option (List (Int × β))
  | [] => some []
  | (i, v) :: r => match f v, mapV2 f r with
    | some w, some is => some ((i, w) :: is)
    | _, _ => none
def tab0 (K : Fr_) (d : Addr) : Option (List (Int × Int)) := (tabOf K d).bind (mapV2 asInt)
def tab1 (K : Fr_) (d : Addr) : Option (List (Int × List Int)) := (tabOf K d).bind (mapV2 (asRow K))
def tab2 (K : Fr_) (d : Addr) : Option (List (Int × List (List Int))) := (tabOf K d).bind (mapV2 (asRows K))
def asRows3L (K : Fr_) : List Value → Option (List (List (List Int)))
  | [] => some []
  | v :: r => match asRows K v, asRows3L K r with
    | some i, some is => some (i :: is)
    | _, _ => none
def asRows3 (K : Fr_) (v : Value) : Option (List (List (List Int))) := match asTup K v with
  | some l => asRows3L K l
  | none => none
def tab3 (K : Fr_) (d : Addr) : Option (List (Int × List (List (List Int)))) := (tabOf K d).bind (mapV2 (asRows3 K))
end Own
/-! the head by runs of the kernel for each answer of the world, the facts of the text read off the heap behind it -/
namespace Hd
open PySem PySem.Spec PyProof.Rows L2 He
def grow (g : Addr → Option Obj) (as : List Addr) : List Addr := as.flatMap fun a => match g a with
  | some o => refsO o
  | none => []
def lev (g : Addr → Option Obj) : Nat → List Addr → List Addr
  | 0, as => as
  | n + 1, as => as ++ lev g n (grow g as)
def kOf (n : Nat) (g : Addr → Option Obj) : PySem.W.Frag := frG g (lev g n [mainGlobals])
/-- a def of the text -/
abbrev dF (n : Str) (st : Stmt) : FnD := ⟨(n, none), n, n, defArgs st, defBody st, defScope st⟩
def defB (K : PySem.W.Frag) (d : FnD) : Bool := match PySem.W.nsIn K mainGlobals d.name with
  | some (some (.ref a)) => (match K.lookup a with
    | some ⟨_, _, .func fd, _⟩ => PySem.W.codeIn K fd.code d.qual
    | _ => false)
  | _ => false
def gloB (K : PySem.W.Frag) (x : Str) : Bool := match PySem.W.nsIn K mainGlobals x with
  | some (some (.ref _)) => true
  | _ => false
def freeB (K : PySem.W.Frag) (x : Str) : Bool := match PySem.W.nsIn K mainGlobals x with
  | some none => true
  | _ => false
def intB (K : PySem.W.Frag) (x : Str × Int) : Bool := match PySem.W.nsIn K mainGlobals x.1 with
  | some (some (.int j _)) => decide (j = x.2)
  | _ => false
def bltB (K : PySem.W.Frag) (x : Str × String) : Bool := match PySem.W.nsIn K mainGlobals x.1 with
  | some (some (.builtin j)) => decide (j = x.2)
  | _ => false
section
variable {K : PySem.W.Frag} {h : Heap} {mg : Str → Option Value}
theorem gloB_ok (X : K.In h) (G : h.Ns mainGlobals mg) {x : Str} (c : gloB K x = true) : mg x = some (.ref (ga K x)) := by
  unfold gloB at c
  split at c
  · rename_i a e
    have e2 : ga K x = a := by
      unfold ga
      rw [e]
    rw [e2]
    exact PySem.W.mg_of X G e
  · cases c
theorem freeB_ok (X : K.In h) (G : h.Ns mainGlobals mg) {x : Str} (c : freeB K x = true) : mg x = none := by
  unfold freeB at c
  split at c
  · rename_i e
    exact PySem.W.mg_none_of X G e
  · cases c
theorem intB_ok (X : K.In h) (G : h.Ns mainGlobals mg) {x : Str × Int} (c : intB K x = true) : ∃ t, mg x.1 = some (.int x.2 t) := by
  unfold intB at c
  split at c
  · rename_i j t e
    have e2 : j = x.2 := of_decide_eq_true c
    rw [← e2]
    exact ⟨t, PySem.W.mg_of X G e⟩
  · cases c
theorem bltB_ok (X : K.In h) (G : h.Ns mainGlobals mg) {x : Str × String} (c : bltB K x = true) : mg x.1 = some (.builtin x.2) := by
  unfold bltB at c
  split at c
  · rename_i j e
    have e2 : j = x.2 := of_decide_eq_true c
    rw [← e2]
    exact PySem.W.mg_of X G e
  · cases c
theorem defB_ok {n : Str} {st : Stmt} (X : K.In h) (G : h.Ns mainGlobals mg) (c : defB K (dF n st) = true) (e : fnObs K (n, none) = (dF n st).val) : mg n = some (.ref (ga K n)) ∧ ∃ d, Fun K n n st (ga K n) d := by
  unfold defB at c
  split at c
  · rename_i a e1
    have e2 : ga K n = a := by
      unfold ga
      rw [e1]
    split at c
    · rename_i oc od fd osl e3
      refine ⟨?_, ?_⟩
      · rw [e2]
        exact PySem.W.mg_of X G e1
      · have ef : fAd K (n, none) = a := e2
        have c2 : (Fa.code (n, none) n).ok K = true := by
          show (match K.lookup (fAd K (n, none)) with
            | some ⟨_, _, .func fd, _⟩ => PySem.W.codeIn K fd.code n
            | _ => false) = true
          rw [ef, e3]
          exact c
        obtain ⟨oc2, od2, osl2, kV, doc, pm, an, cdv, ct, l, cc⟩ := fn_ok (d := dF n st) e c2
        refine ⟨_, fun_mk (st := st) l cc ?_⟩
        show PySem.W.keepIn K (.ref (fAd K (n, none))) = true
        rw [ef]
        show (match K.lookup a with
          | some ⟨_, _, .func _, _⟩ => true
          | some ⟨_, _, .cls _, _⟩ => PySem.W.specialIn K (.ref a) "__call__" == some (some (.builtin "type.__call__"))
          | _ => false) = true
        rw [e3]
    · cases c
  · cases c
end
/-! ### parts of a part -/
def Sub (K1 K : PySem.W.Frag) : Prop := ∀ a o, K1.lookup a = some o → K.lookup a = some o
theorem frG_mem {g : Addr → Option Obj} {a : Addr} : ∀ {as : List Addr}, a ∈ as → (frG g as).lookup a = g a
  | [], h => by cases h
  | b :: r, h => by
    unfold frG
    rw [List.filterMap_cons]
    by_cases e : a = b
    · subst e
      cases hb : g a with
      | none =>
        show (frG g r).lookup a = none
        cases q : (frG g r).lookup a with
        | none => rfl
        | some o =>
          have := frG_at r q
          rw [hb] at this
          cases this
      | some o =>
        show (match a == a with | true => some o | false => (frG g r).lookup a) = some o
        rw [show (a == a) = true from beq_iff_eq.mpr rfl]
    · have hr : a ∈ r := by
        rcases List.mem_cons.mp h with h | h
        · exact absurd h e
        · exact h
      have ih := frG_mem (g := g) hr
      cases hb : g b with
      | none => exact ih
      | some o =>
        show (match a == b with | true => some o | false => (frG g r).lookup a) = g a
        rw [show (a == b) = false from beq_eq_false_iff_ne.mpr e]
        exact ih
theorem lookup_mem {a : Addr} {o : Obj} : ∀ {K : PySem.W.Frag}, K.lookup a = some o → ∃ o2, (a, o2) ∈ K
  | [], h => by cases h
  | (b, o2) :: r, h => by
    have h2 : (match a == b with | true => some o2 | false => List.lookup a r) = some o := h
    cases e : (a == b) with
    | true =>
      have : a = b := beq_iff_eq.mp e
      subst this
      exact ⟨o2, List.mem_cons_self⟩
    | false =>
      rw [e] at h2
      obtain ⟨o3, h3⟩ := lookup_mem (K := r) h2
      exact ⟨o3, List.mem_cons_of_mem _ h3⟩
theorem frG_as {g : Addr → Option Obj} {a : Addr} {o : Obj} {as : List Addr} (h : (frG g as).lookup a = some o) : a ∈ as := by
  obtain ⟨o2, h2⟩ := lookup_mem h
  obtain ⟨b, hb, e⟩ := List.mem_filterMap.mp (show (a, o2) ∈ as.filterMap fun a => (g a).map fun o => (a, o) from h2)
  obtain ⟨o3, _, e3⟩ := Option.map_eq_some_iff.mp e
  cases e3
  exact hb
theorem sub_of {g : Addr → Option Obj} {as bs : List Addr} (h : ∀ a ∈ as, a ∈ bs) : Sub (frG g as) (frG g bs) := fun a o e => by
  rw [frG_mem (h a (frG_as e))]
  exact frG_at as e
theorem sub_in {K1 K : PySem.W.Frag} {h : Heap} (s : Sub K1 K) (X : K.In h) : K1.In h := fun a o e => X a o (s a o e)
theorem sub_code {K1 K : PySem.W.Frag} (s : Sub K1 K) {cd : Value} {q : Str} (h : PySem.W.codeIn K1 cd q = true) : PySem.W.codeIn K cd q = true := by
  cases cd with
  | ref c =>
    have h1 : (match K1.lookup c with
      | some ⟨_, _, .fields vs, _⟩ => (match vs.toList with | _ :: .str n _ :: _ => n == q | _ => false)
      | _ => false) = true := h
    cases e : K1.lookup c with
    | none =>
      rw [e] at h1
      cases h1
    | some o =>
      rw [e] at h1
      show (match K.lookup c with
        | some ⟨_, _, .fields vs, _⟩ => (match vs.toList with | _ :: .str n _ :: _ => n == q | _ => false)
        | _ => false) = true
      rw [s c o e]
      exact h1
  | _ => cases h
theorem sub_fun {K1 K : PySem.W.Frag} (s : Sub K1 K) {n : Str} {st : Stmt} {f : Addr} {d : FuncData} (F : Fun K1 n n st f d) : Fun K n n st f d := by
  obtain ⟨oc, od, kV, doc, pm, an, cdv, ct, osl, e, lk, hcd⟩ := F.ex
  refine ⟨⟨oc, od, kV, doc, pm, an, cdv, ct, osl, e, s _ _ lk, sub_code s hcd⟩, ?_⟩
  show (match K.lookup f with
    | some ⟨_, _, .func _, _⟩ => true
    | some ⟨_, _, .cls _, _⟩ => PySem.W.specialIn K (.ref f) "__call__" == some (some (.builtin "type.__call__"))
    | _ => false) = true
  rw [s _ _ lk]
/-! ### tables -/
open Own in
section
variable {K1 K : PySem.W.Frag}
theorem sub_tup (s : Sub K1 K) {v : Value} {l : List Value} (h : asTup K1 v = some l) : asTup K v = some l := by
  cases v with
  | ref a =>
    have h1 : (match K1.lookup a with
      | some ⟨.type T, _, .seq its _, _⟩ => if T = "tuple" ∧ its.size ≤ 1000 then some its.toList else none
      | _ => none) = some l := h
    cases e : K1.lookup a with
    | none =>
      rw [e] at h1
      cases h1
    | some o =>
      rw [e] at h1
      show (match K.lookup a with
        | some ⟨.type T, _, .seq its _, _⟩ => if T = "tuple" ∧ its.size ≤ 1000 then some its.toList else none
        | _ => none) = some l
      rw [s a o e]
      exact h1
  | _ => cases h
theorem sub_row (s : Sub K1 K) {v : Value} {l : List Int} (h : asRow K1 v = some l) : asRow K v = some l := by
  unfold asRow at h ⊢
  split at h
  · rename_i l2 e
    rw [sub_tup s e]
    exact h
  · cases h
theorem sub_rowsL (s : Sub K1 K) : ∀ {vs : List Value} {l : List (List Int)}, asRowsL K1 vs = some l → asRowsL K vs = some l
  | [], l, h => h
  | v :: vs, l, h => by
    unfold asRowsL at h ⊢
    split at h
    · rename_i i is e1 e2
      rw [sub_row s e1, sub_rowsL s e2]
      exact h
    · cases h
theorem sub_rows (s : Sub K1 K) {v : Value} {l : List (List Int)} (h : asRows K1 v = some l) : asRows K v = some l := by
  unfold asRows at h ⊢
  split at h
  · rename_i l2 e
    rw [sub_tup s e]
    exact sub_rowsL s h
  · cases h
theorem sub_rows3L (s : Sub K1 K) : ∀ {vs : List Value} {l : List (List (List Int))}, asRows3L K1 vs = some l → asRows3L K vs = some l
  | [], l, h => h
  | v :: vs, l, h => by
    unfold asRows3L at h ⊢
    split at h
    · rename_i i is e1 e2
      rw [sub_rows s e1, sub_rows3L s e2]
      exact h
    · cases h
theorem sub_rows3 (s : Sub K1 K) {v : Value} {l : List (List (List Int))} (h : asRows3 K1 v = some l) : asRows3 K v = some l := by
  unfold asRows3 at h ⊢
  split at h
  · rename_i l2 e
    rw [sub_tup s e]
    exact sub_rows3L s h
  · cases h
theorem sub_tabOf (s : Sub K1 K) {d : Addr} {l : List (Int × Value)} (h : tabOf K1 d = some l) : tabOf K d = some l := by
  have h1 : (match K1.lookup d with
    | some ⟨.type T, none, .dict es _, sl⟩ => if T = "dict" ∧ sl = #[] then entriesI es.toList else none
    | _ => none) = some l := h
  cases e : K1.lookup d with
  | none =>
    rw [e] at h1
    cases h1
  | some o =>
    rw [e] at h1
    show (match K.lookup d with
      | some ⟨.type T, none, .dict es _, sl⟩ => if T = "dict" ∧ sl = #[] then entriesI es.toList else none
      | _ => none) = some l
    rw [s d o e]
    exact h1
theorem sub_mapV {α β : Type} {f f2 : α → Option β} (hf : ∀ x y, f x = some y → f2 x = some y) : ∀ {l : List (Int × α)} {m : List (Int × β)}, mapV2 f l = some m → mapV2 f2 l = some m
  | [], m, h => h
  | (i, v) :: r, m, h => by
    unfold mapV2 at h ⊢
    split at h
    · rename_i w is e1 e2
      rw [hf _ _ e1, sub_mapV hf e2]
      exact h
    · cases h
end
/-- what a written name may be read as -/
inductive TabV where
  | r (l : List Int)
  | t0 (l : List (Int × Int))
  | t1 (l : List (Int × List Int))
  | t2 (l : List (Int × List (List Int)))
  | t3 (l : List (Int × List (List (List Int))))
def see (K : PySem.W.Frag) (a : Addr) : TabV → Option TabV
  | .r _ => (Own.asRow K (.ref a)).map .r
  | .t0 _ => (Own.tab0 K a).map .t0
  | .t1 _ => (Own.tab1 K a).map .t1
  | .t2 _ => (Own.tab2 K a).map .t2
  | .t3 _ => (Own.tab3 K a).map .t3
section
variable {K1 K : PySem.W.Frag} {a : Addr}
theorem see_r {l : List Int} (h : see K a (.r l) = some (.r l)) : Own.asRow K (.ref a) = some l := by
  obtain ⟨m, e, q⟩ := Option.map_eq_some_iff.mp (show (Own.asRow K (.ref a)).map TabV.r = _ from h)
  cases q
  exact e
theorem see_t0 {l : List (Int × Int)} (h : see K a (.t0 l) = some (.t0 l)) : Own.tab0 K a = some l := by
  obtain ⟨m, e, q⟩ := Option.map_eq_some_iff.mp (show (Own.tab0 K a).map TabV.t0 = _ from h)
  cases q
  exact e
theorem see_t1 {l : List (Int × List Int)} (h : see K a (.t1 l) = some (.t1 l)) : Own.tab1 K a = some l := by
  obtain ⟨m, e, q⟩ := Option.map_eq_some_iff.mp (show (Own.tab1 K a).map TabV.t1 = _ from h)
  cases q
  exact e
theorem see_t2 {l : List (Int × List (List Int))} (h : see K a (.t2 l) = some (.t2 l)) : Own.tab2 K a = some l := by
  obtain ⟨m, e, q⟩ := Option.map_eq_some_iff.mp (show (Own.tab2 K a).map TabV.t2 = _ from h)
  cases q
  exact e
theorem see_t3 {l : List (Int × List (List (List Int)))} (h : see K a (.t3 l) = some (.t3 l)) : Own.tab3 K a = some l := by
  obtain ⟨m, e, q⟩ := Option.map_eq_some_iff.mp (show (Own.tab3 K a).map TabV.t3 = _ from h)
  cases q
  exact e
theorem sub_tab {β : Type} (s : Sub K1 K) {f f2 : Value → Option β} (hf : ∀ x y, f x = some y → f2 x = some y) {m : List (Int × β)} (h : (Own.tabOf K1 a).bind (Own.mapV2 f) = some m) : (Own.tabOf K a).bind (Own.mapV2 f2) = some m := by
  obtain ⟨l, e1, e2⟩ := Option.bind_eq_some_iff.mp h
  exact Option.bind_eq_some_iff.mpr ⟨l, sub_tabOf s e1, sub_mapV hf e2⟩
theorem sub_see (s : Sub K1 K) {t : TabV} (h : see K1 a t = some t) : see K a t = some t := by
  cases t with
  | r l =>
    show (Own.asRow K (.ref a)).map TabV.r = _
    rw [sub_row s (see_r h)]
    rfl
  | t0 l =>
    show (Own.tab0 K a).map TabV.t0 = _
    rw [show Own.tab0 K a = some l from sub_tab s (fun x y e => e) (show Own.tab0 K1 a = some l from see_t0 h)]
    rfl
  | t1 l =>
    show (Own.tab1 K a).map TabV.t1 = _
    rw [show Own.tab1 K a = some l from sub_tab s (fun x y e => sub_row s e) (show Own.tab1 K1 a = some l from see_t1 h)]
    rfl
  | t2 l =>
    show (Own.tab2 K a).map TabV.t2 = _
    rw [show Own.tab2 K a = some l from sub_tab s (fun x y e => sub_rows s e) (show Own.tab2 K1 a = some l from see_t2 h)]
    rfl
  | t3 l =>
    show (Own.tab3 K a).map TabV.t3 = _
    rw [show Own.tab3 K a = some l from sub_tab s (fun x y e => sub_rows3 s e) (show Own.tab3 K1 a = some l from see_t3 h)]
    rfl
end
/-! ### the Hook: a law's own look at the written part, its value -/
abbrev AlT : Type := Bool × (List FnV × List (Option TabV))
structure Asks where
  fn : List FnD
  glo : List Str
  free : List Str
  int : List (Str × Int)
  blt : List (Str × String)
  tabs : List (Str × TabV)
def Asks.obs1 (A : Asks) (K : PySem.W.Frag) : Bool := A.fn.all (defB K) && (A.glo.all (gloB K) && (A.free.all (freeB K) && (A.int.all (intB K) && A.blt.all (bltB K))))
def Asks.obsG (A : Asks) (g : Addr → Option Obj) : AlT := (A.obs1 (kOf 2 g), A.fn.map (fun d => fnObs (kOf 2 g) d.at_), A.tabs.map fun t => see (frG g (lev g 3 [ga (kOf 2 g) t.1])) (ga (kOf 2 g) t.1) t.2)
def Asks.val (A : Asks) : AlT := (true, A.fn.map FnD.val, A.tabs.map fun t => some t.2)
structure Asks.Says (A : Asks) (K1 K : PySem.W.Frag) : Prop where
  s : Sub K1 K
  b : A.obs1 K1 = true
  f : A.fn.map (fun d => fnObs K1 d.at_) = A.fn.map FnD.val
  t : ∀ t ∈ A.tabs, see K (ga K1 t.1) t.2 = some t.2
def Asks.hook (A : Asks) : PySem.W.Hook where
  α := AlT
  obs := fun s => A.obsG s.heap.get?
  val := fun _ => A.val
  says := fun _ h => ∃ K1 K : PySem.W.Frag, K.In h ∧ A.Says K1 K
  of := fun _ s e => by
    refine ⟨kOf 2 s.heap.get?, frG s.heap.get? (lev s.heap.get? 2 [mainGlobals] ++ A.tabs.flatMap fun t => lev s.heap.get? 3 [ga (kOf 2 s.heap.get?) t.1]), frG_in, sub_of fun a h => List.mem_append_left _ h, congrArg (fun z : AlT => z.1) e, congrArg (fun z : AlT => z.2.1) e, fun t ht => ?_⟩
    have e3 : A.tabs.map (fun t => see (frG s.heap.get? (lev s.heap.get? 3 [ga (kOf 2 s.heap.get?) t.1])) (ga (kOf 2 s.heap.get?) t.1) t.2) = A.tabs.map fun t => some t.2 := congrArg (fun z : AlT => z.2.2) e
    have e4 := List.map_inj_left.mp e3 t ht
    exact sub_see (sub_of fun a h => List.mem_append_right _ (List.mem_flatMap.mpr ⟨t, ht, h⟩)) e4
  keeps := fun _ _ _ ⟨K1, K, hK, c⟩ k => ⟨K1, K, PySem.W.Frag.In.keeps hK k, c⟩
theorem Asks.obsG_eq (A : Asks) {g : Addr → Option Obj} {s : Shared} (h : ∀ a, g a = s.heap.get? a) : A.obsG g = A.hook.obs s := by
  have e : g = s.heap.get? := funext h
  rw [e] <;> rfl
theorem both {a b : Bool} (h : (a && b) = true) : a = true ∧ b = true := Bool.and_eq_true_iff.mp h
section
variable {K1 K : PySem.W.Frag} {h : Heap} {mg : Str → Option Value} {A : Asks}
theorem Asks.Says.bb (c : A.Says K1 K) : A.fn.all (defB K1) = true ∧ A.glo.all (gloB K1) = true ∧ A.free.all (freeB K1) = true ∧ A.int.all (intB K1) = true ∧ A.blt.all (bltB K1) = true := by
  obtain ⟨c1, c⟩ := both (show (A.fn.all (defB K1) && (A.glo.all (gloB K1) && (A.free.all (freeB K1) && (A.int.all (intB K1) && A.blt.all (bltB K1))))) = true from c.b)
  obtain ⟨c2, c⟩ := both c
  obtain ⟨c3, c⟩ := both c
  obtain ⟨c4, c5⟩ := both c
  exact ⟨c1, c2, c3, c4, c5⟩
theorem Asks.Says.tab_ (c : A.Says K1 K) (i : Nat) (n : Str) (t : TabV) (hi : A.tabs[i]? = some (n, t)) : see K (ga K1 n) t = some t := c.t (n, t) (List.mem_of_getElem? hi)
theorem Asks.Says.def_ (c : A.Says K1 K) (X : K.In h) (G : h.Ns mainGlobals mg) (i : Nat) (n : Str) (st : Stmt) (hi : A.fn[i]? = some (dF n st)) : mg n = some (.ref (ga K1 n)) ∧ ∃ d, Fun K n n st (ga K1 n) d := by
  have e2 : (A.fn.map fun d => fnObs K1 d.at_)[i]? = (A.fn.map FnD.val)[i]? := by rw [c.f]
  rw [List.getElem?_map, List.getElem?_map, hi] at e2
  obtain ⟨q1, d, q2⟩ := defB_ok (sub_in c.s X) G (List.all_eq_true.mp c.bb.1 _ (List.mem_of_getElem? hi)) (Option.some.inj e2)
  exact ⟨q1, d, sub_fun c.s q2⟩
theorem Asks.Says.glo_ (c : A.Says K1 K) (X : K.In h) (G : h.Ns mainGlobals mg) (i : Nat) (n : Str) (hi : A.glo[i]? = some n) : mg n = some (.ref (ga K1 n)) := gloB_ok (sub_in c.s X) G (List.all_eq_true.mp c.bb.2.1 _ (List.mem_of_getElem? hi))
theorem Asks.Says.free_ (c : A.Says K1 K) (X : K.In h) (G : h.Ns mainGlobals mg) (i : Nat) (n : Str) (hi : A.free[i]? = some n) : mg n = none := freeB_ok (sub_in c.s X) G (List.all_eq_true.mp c.bb.2.2.1 _ (List.mem_of_getElem? hi))
theorem Asks.Says.int_ (c : A.Says K1 K) (X : K.In h) (G : h.Ns mainGlobals mg) (i : Nat) (n : Str) (z : Int) (hi : A.int[i]? = some (n, z)) : ∃ t, mg n = some (.int z t) := intB_ok (sub_in c.s X) G (x := (n, z)) (List.all_eq_true.mp c.bb.2.2.2.1 _ (List.mem_of_getElem? hi))
theorem Asks.Says.blt_ (c : A.Says K1 K) (X : K.In h) (G : h.Ns mainGlobals mg) (i : Nat) (n : Str) (z : String) (hi : A.blt[i]? = some (n, z)) : mg n = some (.builtin z) := bltB_ok (sub_in c.s X) G (x := (n, z)) (List.all_eq_true.mp c.bb.2.2.2.2 _ (List.mem_of_getElem? hi))
theorem bindsTo_of {n : Str} {st : Stmt} {f : Addr} {d : FuncData} {x : Str} (F : Fun K n n st f d)
    (h : ∀ (kV doc pm : Value) (an : Option Addr) (cdv ct : Value) (s : Shared) (v : Value), BindsTo s (PySem.W.fnOf n n (defArgs st) (defBody st) (defScope st) .none kV doc pm an cdv ct) ⟨[v], []⟩ [(x, v)]) (s : Shared) (v : Value) : BindsTo s d ⟨[v], []⟩ [(x, v)] := by
  obtain ⟨oc, od, kV, doc, pm, an, cdv, ct, osl, rfl, lk, hcd⟩ := F.ex
  exact h kV doc pm an cdv ct s v
end
/-! ### the run in two looks -/
theorem map_two {α β γ δ : Type} {o : Option α} {f : α → β} {f2 : α → γ} {g : α → δ} {b : β} {c : γ} {d : δ} (h1 : o.map (fun x => (f x, f2 x)) = some (b, c)) (h2 : o.map g = some d) : o.map (fun x => (f x, f2 x, g x)) = some (b, c, d) := by
  cases o with
  | none => cases h1
  | some x =>
    have e1 : (f x, f2 x) = (b, c) := Option.some.inj h1
    have e2 : g x = d := Option.some.inj h2
    show some (f x, f2 x, g x) = some (b, c, d)
    cases e1
    cases e2
    rfl
end Hd
namespace Own
open PySem PySem.Spec PyProof.Rows L2
def topS (i : Nat) : Stmt := PySem.Challenge.pw_monicsums_k13_whole_products_and_least_m.main.body.getD i (.Pass ⟨0, 0, 0, 0⟩)
abbrev s_is_integer : Stmt := topS 7
abbrev s_is_between : Stmt := topS 8
abbrev s_check_between : Stmt := topS 9
abbrev s_check_d : Stmt := topS 10
abbrev s_whole_power : Stmt := topS 11
abbrev s_is_field : Stmt := topS 19
abbrev s_check_field : Stmt := topS 20
abbrev s_packed_product : Stmt := topS 38
abbrev s_trimmed : Stmt := topS 44
abbrev s_row_sum : Stmt := topS 45
abbrev s_row_opposite : Stmt := topS 46
abbrev s_row_less : Stmt := topS 47
abbrev s_many_terms : Stmt := topS 48
abbrev s_row_product : Stmt := topS 49
abbrev s_product_by_terms : Stmt := topS 50
abbrev s_check_made : Stmt := topS 53
abbrev s_two_powers : Stmt := topS 55
abbrev s_product_of_all : Stmt := topS 56
abbrev s_all_product : Stmt := topS 57
abbrev s_multiple_degree : Stmt := topS 58
abbrev s_multiple_of_all : Stmt := topS 59
abbrev s_least_multiple : Stmt := topS 60
abbrev s__law_dice : Stmt := topS 62
abbrev s__law_roll : Stmt := topS 63
abbrev s__law_one_of : Stmt := topS 64
abbrev s__law_raised : Stmt := topS 65
abbrev s__law_digits : Stmt := topS 66
abbrev s__law_element_product : Stmt := topS 67
abbrev s__law_element_sum : Stmt := topS 68
abbrev s__law_field : Stmt := topS 69
abbrev s__law_trim : Stmt := topS 70
abbrev s__law_scaled : Stmt := topS 71
abbrev s__law_product : Stmt := topS 72
abbrev s__law_parted : Stmt := topS 73
abbrev s__law_rest : Stmt := topS 74
abbrev s__law_stretched : Stmt := topS 75
abbrev s__law_common : Stmt := topS 76
abbrev s__law_monic_of : Stmt := topS 77
abbrev s__law_lower : Stmt := topS 78
abbrev s__law_monics : Stmt := topS 79
abbrev s__law_q : Stmt := topS 80
abbrev s__law_size : Stmt := topS 81
abbrev s__law_bracket : Stmt := topS 82
abbrev s__law_all_product : Stmt := topS 83
abbrev s__law_least_multiple : Stmt := topS 84
abbrev s__law_right : Stmt := topS 85
abbrev s_law : Stmt := topS 86
def W_PRIMES : List (Int × Int) := [(2, 2), (3, 3), (4, 2), (5, 5), (7, 7), (8, 2), (9, 3)]
def W_POWERS : List (Int × Int) := [(2, 1), (3, 1), (4, 2), (5, 1), (7, 1), (8, 3), (9, 2)]
def W_SUMS : List (Int × List (List Int)) := [(2, [[0, 1], [1, 0]]), (3, [[0, 1, 2], [1, 2, 0], [2, 0, 1]]), (4, [[0, 1, 2, 3], [1, 0, 3, 2], [2, 3, 0, 1], [3, 2, 1, 0]]), (5, [[0, 1, 2, 3, 4], [1, 2, 3, 4, 0], [2, 3, 4, 0, 1], [3, 4, 0, 1, 2], [4, 0, 1, 2, 3]]), (7, [[0, 1, 2, 3, 4, 5, 6], [1, 2, 3, 4, 5, 6, 0], [2, 3, 4, 5, 6, 0, 1], [3, 4, 5, 6, 0, 1, 2], [4, 5, 6, 0, 1, 2, 3], [5, 6, 0, 1, 2, 3, 4], [6, 0, 1, 2, 3, 4, 5]]), (8, [[0, 1, 2, 3, 4, 5, 6, 7], [1, 0, 3, 2, 5, 4, 7, 6], [2, 3, 0, 1, 6, 7, 4, 5], [3, 2, 1, 0, 7, 6, 5, 4], [4, 5, 6, 7, 0, 1, 2, 3], [5, 4, 7, 6, 1, 0, 3, 2], [6, 7, 4, 5, 2, 3, 0, 1], [7, 6, 5, 4, 3, 2, 1, 0]]), (9, [[0, 1, 2, 3, 4, 5, 6, 7, 8], [1, 2, 0, 4, 5, 3, 7, 8, 6], [2, 0, 1, 5, 3, 4, 8, 6, 7], [3, 4, 5, 6, 7, 8, 0, 1, 2], [4, 5, 3, 7, 8, 6, 1, 2, 0], [5, 3, 4, 8, 6, 7, 2, 0, 1], [6, 7, 8, 0, 1, 2, 3, 4, 5], [7, 8, 6, 1, 2, 0, 4, 5, 3], [8, 6, 7, 2, 0, 1, 5, 3, 4]])]
def W_PRODUCTS : List (Int × List (List Int)) := [(2, [[0, 0], [0, 1]]), (3, [[0, 0, 0], [0, 1, 2], [0, 2, 1]]), (4, [[0, 0, 0, 0], [0, 1, 2, 3], [0, 2, 3, 1], [0, 3, 1, 2]]), (5, [[0, 0, 0, 0, 0], [0, 1, 2, 3, 4], [0, 2, 4, 1, 3], [0, 3, 1, 4, 2], [0, 4, 3, 2, 1]]), (7, [[0, 0, 0, 0, 0, 0, 0], [0, 1, 2, 3, 4, 5, 6], [0, 2, 4, 6, 1, 3, 5], [0, 3, 6, 2, 5, 1, 4], [0, 4, 1, 5, 2, 6, 3], [0, 5, 3, 1, 6, 4, 2], [0, 6, 5, 4, 3, 2, 1]]), (8, [[0, 0, 0, 0, 0, 0, 0, 0], [0, 1, 2, 3, 4, 5, 6, 7], [0, 2, 4, 6, 3, 1, 7, 5], [0, 3, 6, 5, 7, 4, 1, 2], [0, 4, 3, 7, 6, 2, 5, 1], [0, 5, 1, 4, 2, 7, 3, 6], [0, 6, 7, 1, 5, 3, 2, 4], [0, 7, 5, 2, 1, 6, 4, 3]]), (9, [[0, 0, 0, 0, 0, 0, 0, 0, 0], [0, 1, 2, 3, 4, 5, 6, 7, 8], [0, 2, 1, 6, 8, 7, 3, 5, 4], [0, 3, 6, 4, 7, 1, 8, 2, 5], [0, 4, 8, 7, 2, 3, 5, 6, 1], [0, 5, 7, 1, 3, 8, 2, 4, 6], [0, 6, 3, 8, 5, 2, 4, 1, 7], [0, 7, 5, 2, 6, 4, 1, 8, 3], [0, 8, 4, 5, 1, 6, 7, 3, 2]])]
def W_OPPOSITES : List (Int × List Int) := [(2, [0, 1]), (3, [0, 2, 1]), (4, [0, 1, 2, 3]), (5, [0, 4, 3, 2, 1]), (7, [0, 6, 5, 4, 3, 2, 1]), (8, [0, 1, 2, 3, 4, 5, 6, 7]), (9, [0, 2, 1, 6, 8, 7, 3, 5, 4])]
def W_FIELDS : List Int := [2, 3, 4, 5, 7, 8, 9]
def hFn0 : List He.FnD := [Hd.dF "is_integer" s_is_integer, Hd.dF "is_between" s_is_between, Hd.dF "check_between" s_check_between, Hd.dF "check_d" s_check_d, Hd.dF "whole_power" s_whole_power, Hd.dF "is_field" s_is_field, Hd.dF "check_field" s_check_field, Hd.dF "packed_product" s_packed_product, Hd.dF "trimmed" s_trimmed, Hd.dF "row_sum" s_row_sum, Hd.dF "row_opposite" s_row_opposite, Hd.dF "row_less" s_row_less, Hd.dF "many_terms" s_many_terms, Hd.dF "row_product" s_row_product, Hd.dF "product_by_terms" s_product_by_terms]
def hFn1 : List He.FnD := [Hd.dF "check_made" s_check_made, Hd.dF "two_powers" s_two_powers, Hd.dF "product_of_all" s_product_of_all, Hd.dF "all_product" s_all_product, Hd.dF "multiple_degree" s_multiple_degree, Hd.dF "multiple_of_all" s_multiple_of_all, Hd.dF "least_multiple" s_least_multiple, Hd.dF "_law_dice" s__law_dice, Hd.dF "_law_roll" s__law_roll, Hd.dF "_law_one_of" s__law_one_of, Hd.dF "_law_raised" s__law_raised, Hd.dF "_law_digits" s__law_digits, Hd.dF "_law_element_product" s__law_element_product, Hd.dF "_law_element_sum" s__law_element_sum, Hd.dF "_law_field" s__law_field]
def hFn2 : List He.FnD := [Hd.dF "_law_trim" s__law_trim, Hd.dF "_law_scaled" s__law_scaled, Hd.dF "_law_product" s__law_product, Hd.dF "_law_parted" s__law_parted, Hd.dF "_law_rest" s__law_rest, Hd.dF "_law_stretched" s__law_stretched, Hd.dF "_law_common" s__law_common, Hd.dF "_law_monic_of" s__law_monic_of, Hd.dF "_law_lower" s__law_lower, Hd.dF "_law_monics" s__law_monics, Hd.dF "_law_q" s__law_q, Hd.dF "_law_size" s__law_size, Hd.dF "_law_bracket" s__law_bracket, Hd.dF "_law_all_product" s__law_all_product, Hd.dF "_law_least_multiple" s__law_least_multiple]
def hFn3 : List He.FnD := [Hd.dF "_law_right" s__law_right, Hd.dF "law" s_law]
def hFn : List He.FnD := hFn0 ++ hFn1 ++ hFn2 ++ hFn3
def hGlo0 : List PySem.Str := ["PRIMES", "POWERS", "SUMS", "PRODUCTS", "OPPOSITES", "FIELDS"]
def hGlo : List PySem.Str := hGlo0
def hFree0 : List PySem.Str := ["isinstance", "int", "bool", "range", "min", "len", "tuple", "zip", "list", "enumerate", "sum", "abs", "max"]
def hFree : List PySem.Str := hFree0
def hInt0 : List (PySem.Str × Int) := [("TOO_LONG", 1000000000000000000000000000000000000000000000000000000000000), ("FEW", 8), ("MAX_MADE", 2000)]
def hInt : List (PySem.Str × Int) := hInt0
def hBlt0 : List (PySem.Str × String) := []
def hBlt : List (PySem.Str × String) := hBlt0
def hTabs0 : List (PySem.Str × Hd.TabV) := [("PRIMES", .t0 W_PRIMES), ("POWERS", .t0 W_POWERS), ("SUMS", .t2 W_SUMS), ("PRODUCTS", .t2 W_PRODUCTS), ("OPPOSITES", .t1 W_OPPOSITES), ("FIELDS", .r W_FIELDS)]
def hTabs : List (PySem.Str × Hd.TabV) := hTabs0
def hA : Hd.Asks := ⟨hFn, hGlo, hFree, hInt, hBlt, hTabs⟩
def hNames0 : List PySem.Str := ["__name__", "MonicError", "InvalidField", "InvalidNumber", "TooMany", "TOO_LONG", "is_integer", "is_between", "check_between", "check_d", "whole_power", "PRIMES", "POWERS", "SUMS", "PRODUCTS"]
def hNames1 : List PySem.Str := ["OPPOSITES", "FIELDS", "is_field", "check_field", "BITS", "WIDTH", "SMALL", "FOLDS", "SLOTS", "PLANES", "DIGITS", "slots_of", "packed", "repeated", "folded_powers"]
def hNames2 : List PySem.Str := ["folded_slots", "reduced_slots", "reduced", "unpacked", "most_in_slots", "packed_product", "planes_of", "planes_product", "told_planes", "FEW", "trimmed", "row_sum", "row_opposite", "row_less", "many_terms"]
def hNames3 : List PySem.Str := ["row_product", "product_by_terms", "MAX_MADE", "check_made", "two_powers", "product_of_all", "all_product", "multiple_degree", "multiple_of_all", "least_multiple", "_law_dice", "_law_roll", "_law_one_of", "_law_raised", "_law_digits"]
def hNames4 : List PySem.Str := ["_law_element_product", "_law_element_sum", "_law_field", "_law_trim", "_law_scaled", "_law_product", "_law_parted", "_law_rest", "_law_stretched", "_law_common", "_law_monic_of", "_law_lower", "_law_monics", "_law_q", "_law_size"]
def hNames5 : List PySem.Str := ["_law_bracket", "_law_all_product", "_law_least_multiple", "_law_right"]
def hNames : List PySem.Str := hNames0 ++ hNames1 ++ hNames2 ++ hNames3 ++ hNames4 ++ hNames5
abbrev hR : PySem.W.OpenRow := PySem.W.OpenLaw.row PySem.Challenge.rw_monicsums_k13_whole_products_and_least_m
abbrev hQ : Program := PySem.W.view hR.prog [86]
def hSteps : Nat := 12000
def hOb (s : PySem.W.SharedT) : Hd.AlT := hA.obsG (HandSHeadRun.getT s)
theorem hOb_eq (s : PySem.W.SharedT) : hOb s = hA.hook.obs s.abs := hA.obsG_eq (HandSHeadRun.getT_eq s)
open PySem.W PySem.Calls
theorem hLook_false (w : World) (os : OsState) : (HandSHeadRun.endF (HandSHeadRun.stepQ (HandSHeadRun.denQ HandSHeadRun.tabQ) hR.prog (w.withFollow "special-get-raises" false)) hSteps hR.prog (w.withFollow "special-get-raises" false) os).map (fun s => (HandSHeadRun.looksF hR.prog (boot_heap (World.params (w.withFollow "special-get-raises" false))) s.abs, HandSHeadRun.seenQ hQ hNames (importedModules hR.prog.main.body) (fun s => PySem.W.xlAt hQ [] s && PySem.W.recOk hR.toRowW.records s) s.abs)) = some (true, PySem.W.openGood hQ hNames) := by
  kernel_rfl
theorem hSee_false (w : World) (os : OsState) : (HandSHeadRun.endF (HandSHeadRun.stepQ (HandSHeadRun.denQ HandSHeadRun.tabQ) hR.prog (w.withFollow "special-get-raises" false)) hSteps hR.prog (w.withFollow "special-get-raises" false) os).map hOb = some hA.val := by
  kernel_rfl
theorem hLook_true (w : World) (os : OsState) : (HandSHeadRun.endF (HandSHeadRun.stepQ (HandSHeadRun.denQ HandSHeadRun.tabQ) hR.prog (w.withFollow "special-get-raises" true)) hSteps hR.prog (w.withFollow "special-get-raises" true) os).map (fun s => (HandSHeadRun.looksF hR.prog (boot_heap (World.params (w.withFollow "special-get-raises" true))) s.abs, HandSHeadRun.seenQ hQ hNames (importedModules hR.prog.main.body) (fun s => PySem.W.xlAt hQ [] s && PySem.W.recOk hR.toRowW.records s) s.abs)) = some (true, PySem.W.openGood hQ hNames) := by
  kernel_rfl
theorem hSee_true (w : World) (os : OsState) : (HandSHeadRun.endF (HandSHeadRun.stepQ (HandSHeadRun.denQ HandSHeadRun.tabQ) hR.prog (w.withFollow "special-get-raises" true)) hSteps hR.prog (w.withFollow "special-get-raises" true) os).map hOb = some hA.val := by
  kernel_rfl
theorem hRun (w : World) : HandSHeadRun.RunEq hR hQ hA.hook hOb hSteps hNames w := PySem.W.byRow2 "special-get-raises" (P := fun w => HandSHeadRun.RunEq hR hQ hA.hook hOb hSteps hNames w) (fun w os => Hd.map_two (hLook_false w os) (hSee_false w os)) (fun w os => Hd.map_two (hLook_true w os) (hSee_true w os)) w
end Own
/-! own rules: powers of wide bases, sum of a tuple, tuple * 0 and * 1, tuple[::-1] -/
namespace Own
open PySem PySem.Spec PyProof.Rows L2

def CPowW (i j : Int) : Prop := 0 ≤ j ∧ j ≤ 1000 ∧ i.natAbs < 2 ^ 1000
section
variable {X : Cx}
theorem op_powW : OpR X (binaryOp .Pow) (rI CPowW fun i j => .int (i ^ j.toNat)) := opI fun i j _ _ _ _ _ hc q => by
  refine pow_int hc.1 ?_ q
  have h1 := PySem.Flt.log2_lt_of (by decide : 0 < 1000) hc.2.2
  have b : Builtin.Int.intBits i ≤ i.natAbs.log2 + 1 := by
    unfold Builtin.Int.intBits
    split <;> omega
  have h2 := hc.2.1
  have h0 := hc.1
  have h3 : ((Builtin.Int.intBits i : Nat) : Int) ≤ 1001 := by omega
  have h4 : ((Builtin.Int.intBits i : Nat) : Int) * j ≤ 1001 * j := Int.mul_le_mul_of_nonneg_right h3 h0
  omega

/-! sum of a tuple of ints -/
def rSumT (K : PySem.W.Frag) : List V → Hp → VK → Prop := fun vs H Q => ∃ (a : Addr) (ns : List Int), vs = [V.ref a] ∧ SqT K H a (ns.map V.int) ∧ Q (.int ns.sum) H
end
section
variable {prog : Program} {w : World} {A : Around} {E : Value → Shared → Prop} {s : Shared} {l : Addr} {its : List Value} {ns : List Int} {Q : Value → Shared → Prop}
theorem iter_intTup {xs : Array (Int × Tok)} {Q : Value → Shared → Prop} (hl : s.heap.IsTuple l (intItems xs))
    (h : ∀ s₂ : Shared, s₂ = { s with heap := s.heap.push { cls := .type "tuple_iterator", data := .fields #[.ref l, .int 0 0] } } →
      (s₂.heap.IsTupleIter s.heap.objs.size l 0 ∧ s₂.heap.IsTuple l (intItems xs)) → (∀ b ∈ [s.heap.objs.size, l], b < s₂.heap.objs.size) → l ≠ s.heap.objs.size → Q (.ref s.heap.objs.size) s₂) :
    wpAny (model prog w) A (pyIter (.ref l)) Q E s := by
  have hlt : l < s.heap.objs.size := by obtain ⟨_, e, _⟩ := hl; exact Heap.lt_size e
  refine wpAny_pyIter_tuple hl (h _ rfl ⟨⟨_, Heap.get?_push_size _ rfl, rfl, rfl⟩, hl.push _⟩ (fun b hb => ?_) (Nat.ne_of_lt hlt))
  show b < (s.heap.push _).objs.size
  rw [Heap.size_push]
  rcases List.mem_cons.mp hb with rfl | hb
  · exact Nat.lt_succ_self _
  · rcases List.mem_cons.mp hb with rfl | hb
    · exact Nat.lt_succ_of_lt hlt
    · cases hb
theorem old_keptT {h' : Heap} (hk : ∀ b o, b ∉ [s.heap.objs.size] → (s.heap.push { cls := .type "tuple_iterator", data := .fields #[.ref l, .int 0 0] }).get? b = some o → h'.get? b = some o) :
    ∀ b o, s.heap.get? b = some o → h'.get? b = some o := fun b o e => by
  refine hk b o (fun hm => ?_) (Heap.get?_push_of_some _ e)
  rcases List.mem_cons.mp hm with e1 | hm
  · exact absurd (e1 ▸ Heap.lt_size e) (Nat.lt_irrefl _)
  · cases hm
theorem sum_intTup {xs : Array (Int × Tok)} {Q : Value → Shared → Prop} (hh : A.handled = none) (hl : s.heap.IsTuple l (intItems xs))
    (h : ∀ h' tk t', (∀ b o, s.heap.get? b = some o → h'.get? b = some o) → Q (.int (preSum (numAt xs) xs.size) t') { s with heap := h', toks := tk }) :
    wpAny (model prog w) A (call (.builtin "sum") [.ref l]) Q E s := by
  refine call_sum_walkG (iter_intTup hl fun s₂ e st hfp hlI => ?_)
  subst e
  refine ⟨_, _, _, _, _, _, numAt xs, rfl, Walks.tuple (A := A.in1) hh _ l hlI (intItems xs), st, hfp, (fun _ _ => intItems_at), fun h' tk t' hk => ?_⟩
  have := h h' tk t' (old_keptT hk)
  simpa [intItems] using this
theorem sum_rawT (hh : A.handled = none) (hl : s.heap.IsTuple l its.toArray) (hi : IntsAre its ns)
    (h : ∀ h' tk t', (∀ b o, s.heap.get? b = some o → h'.get? b = some o) → Q (.int ns.sum t') { s with heap := h', toks := tk }) : wpAny (model prog w) A (call (.builtin "sum") [.ref l]) Q E s := by
  obtain ⟨xs, e⟩ := hi.allInts.items
  have hn : numsOf (intItems xs).toList = ns := by rw [← e]; exact hi.numsOf
  rw [nums_intItems] at hn
  rw [e] at hl
  refine sum_intTup hh hl fun h' tk t' hk => ?_
  have := h h' tk t' hk
  rw [preSum_eq, List.take_of_length_le (by simp), hn]; exact this
end
section
variable {X : Cx}
theorem cr_sumT (hc : X.calm = true) : CallR X (.builtin "sum") (rSumT X.K) := by
  intro pins s σ H vs us Q I r h
  obtain ⟨a, ns, rfl, hs, q⟩ := h
  obtain ⟨its, rv, hl, _⟩ := I.tuple hs
  rw [Vals.ref1 r]
  exact sum_rawT (I.ok.hd hc) hl rv.ints fun h' tk t' hk => ⟨.int _, H, I.kept hk, ⟨_, rfl⟩, q⟩
end

/-! tuple * k for k = 0 and k = 1 -/
theorem tuple_mul1 (l : Addr) (items : Array Value) (n : Nat) (dd : Option Addr) (sl : Array (Option Value)) (u : Tok) :
    Meets (Builtin.«tuple.__mul__» ⟨[.ref l, .int 1 u], []⟩) (fun _ R s => s.heap.get? l = some { cls := .type "tuple", dict := dd, data := .seq items n, slots := sl } ∧
      R (.ok (.ret (Value.ref l))) s) :=
  .of_wp fun prog w A R s h => by
    obtain ⟨hp, g, d, tk, os⟩ := s
    obtain ⟨hl, h⟩ := h
    have f1 := AutoSeq1.idx_int
    wp_walk using wpAny_loadPart' hl
    repeat (first
      | (refine wpAny_ite_false (by decide) ?_; wp_walk using wpAny_loadPart' hl)
      | (refine wpAny_ite_true (by rw [Bool.or_eq_true]; exact Or.inr rfl) ?_; wp_walk using wpAny_loadPart' hl)
      | (refine wpAny_ite_true (by simp) ?_; wp_walk using wpAny_loadPart' hl))
    exact ⟨_, rfl, h⟩
theorem tuple_mul0 (l : Addr) (items : Array Value) (n : Nat) (dd : Option Addr) (sl : Array (Option Value)) (u : Tok) (hn : items.isEmpty = false) :
    Meets (Builtin.«tuple.__mul__» ⟨[.ref l, .int 0 u], []⟩) (fun _ R s => s.heap.get? l = some { cls := .type "tuple", dict := dd, data := .seq items n, slots := sl } ∧
      R (.ok (.ret (Value.ref s.heap.objs.size))) { s with heap := s.heap.push { cls := Value.type "tuple", data := Data.seq #[] }, toks := s.toks }) :=
  .of_wp fun prog w A R s h => by
    obtain ⟨hp, g, d, tk, os⟩ := s
    obtain ⟨hl, h⟩ := h
    have f1 := AutoSeq1.idx_int
    wp_walk using wpAny_loadPart' hl
    repeat (first
      | (refine wpAny_ite_false (by decide) ?_; wp_walk using wpAny_loadPart' hl)
      | (refine wpAny_ite_false (by rw [hn]; decide) ?_; wp_walk using wpAny_loadPart' hl)
      | (refine wpAny_ite_true (by decide) ?_; wp_walk using wpAny_loadPart' hl)
      | (refine wpAny_ite_true (by rw [Bool.or_eq_true]; exact Or.inl rfl) ?_; wp_walk using wpAny_loadPart' hl)
      | (refine wpAny_ite_false (decide_eq_false (Nat.not_lt.mpr (Nat.zero_le _))) ?_; wp_walk using wpAny_loadPart' hl))
    exact ⟨_, rfl, h⟩
def rRepU (K : PySem.W.Frag) : R2 := fun x y H Q => ∃ l k xs, x = .ref l ∧ y = .int k ∧ SqT K H l xs ∧ xs ≠ [] ∧ 0 ≤ k ∧ k ≤ 1000 ∧ xs.length ≤ 1000 ∧ ∀ p H', Evl.Ex H H' → SqT K H' p (List.replicate k.toNat xs).flatten → Q (.ref p) H'
section
variable {X : Cx}
theorem op_repU : OpR X (binaryOp .Mult) (rRepU X.K) := by
  intro pins s σ H x y v u Q I rx ry h
  obtain ⟨l, k, xs, ex, ey, hT, hne, h1, h2, hz, q⟩ := h
  by_cases h22 : 2 ≤ k
  · exact op_repT pins s σ H x y v u Q I rx ry ⟨l, k, xs, ex, ey, hT, hne, h22, h2, hz, fun p hp => q p _ (Evl.Ex.new hp) (SqT.of upd_same)⟩
  · subst ex ey
    cases rx
    obtain ⟨t, rfl⟩ := ry
    obtain ⟨its, r, ⟨⟨cls, dd, data, sl⟩, ho, hc, n, hd⟩, hs⟩ := I.tuple hT
    simp only at hc hd
    subst hc hd
    have hle : its.length = xs.length := r.length.symm
    have hi : its.toArray.isEmpty = false := by
      cases its with
      | nil => exact absurd (List.eq_nil_of_length_eq_zero hle.symm) hne
      | cons a b => rfl
    by_cases h1k : k = 1
    · subst h1k
      refine wpAny_binaryOp_repeat_ref (T := "tuple") (U := "int") (by decide) ⟨_, ho, rfl⟩ (fun s' => typeIs_int s' 1 t) noFill_tuple_mul F.fills_int_mul F.slot_int_rmul repeat_tuple F.slot_int_index.lookup
        (call_meets F.slot_int_rmul (typeIs_int s 1 t) F.entry_int_rmul (F.args_int_rmul_2 _ _) (int_rmul_tuple 1 t l its.toArray n dd sl)
          ⟨ho, rfl, ⟨_, ho, rfl⟩, call_meets F.slot_tuple_mul ⟨_, ho, rfl⟩ F.entry_tuple_mul (F.args_tuple_mul_2 _ _) (tuple_mul1 l its.toArray n dd sl t) ⟨ho, ?_⟩⟩)
      refine ⟨.ref l, H, I.tok _, rfl, q l H (Evl.Ex.refl H) ?_⟩
      show SqT X.K H l (List.replicate 1 xs).flatten
      rw [List.replicate_one, List.flatten_singleton]
      exact hT
    · have h0k : k = 0 := by omega
      subst h0k
      refine wpAny_binaryOp_repeat_ref (T := "tuple") (U := "int") (by decide) ⟨_, ho, rfl⟩ (fun s' => typeIs_int s' 0 t) noFill_tuple_mul F.fills_int_mul F.slot_int_rmul repeat_tuple F.slot_int_index.lookup
        (call_meets F.slot_int_rmul (typeIs_int s 0 t) F.entry_int_rmul (F.args_int_rmul_2 _ _) (int_rmul_tuple 0 t l its.toArray n dd sl)
          ⟨ho, rfl, ⟨_, ho, rfl⟩, call_meets F.slot_tuple_mul ⟨_, ho, rfl⟩ F.entry_tuple_mul (F.args_tuple_mul_2 _ _) (tuple_mul0 l its.toArray n dd sl t hi) ⟨ho, ?_⟩⟩)
      have hf := I.hok.fresh (Nat.le_refl s.heap.objs.size)
      refine ⟨.ref s.heap.objs.size, _, I.laid (t' := s.toks) (o := .tup []) (fun b ob q => Heap.get?_push_of_some _ q) (Nat.le_refl _) ?_, rfl, q _ _ (Evl.Ex.new hf) (SqT.of upd_same)⟩
      exact ⟨Nat.zero_le _, [], .nil, IsTup.new _ _⟩

/-! tuple[::-1] -/
def tRevT (K : PySem.W.Frag) (te : TE) : TE := fun σ H Q => te σ H fun x H1 => ∃ a xs, x = .ref a ∧ SqT K H1 a xs ∧ ∀ p, H1 p = none → Q (.ref p) (upd H1 p (.tup xs.reverse))
end
theorem rev_adjust (n : Nat) : Builtin.Slice.sliceAdjust none none (-1) (n : Int) = ((n : Int) - 1, -1) := by
  first
  | rfl
  | simp [Builtin.Slice.sliceAdjust]
theorem rev_places (n : Nat) : Builtin.Slice.slicePlaces ((n : Int) - 1) (-1) (-1) = n := by
  unfold Builtin.Slice.slicePlaces
  have h1 : ¬ ((-1 : Int) > 0) := by decide
  have h2 : (- -1 : Int) = 1 := by decide
  simp only [h1, if_false, h2, Int.ediv_one]
  split <;> omega
theorem rev_pick (xs : Array Value) : ((List.range xs.size).filterMap fun (m : Nat) => xs[(((xs.size : Int) - 1) + (m : Int) * (-1)).toNat]?).toArray = xs.toList.reverse.toArray := by
  have e : (fun (m : Nat) => xs[(((xs.size : Int) - 1) + (m : Int) * (-1)).toNat]?) = fun m => xs[xs.size - 1 - m]? := by
    funext m
    have : (((xs.size : Int) - 1) + (m : Int) * (-1)).toNat = xs.size - 1 - m := by omega
    rw [this]
  rw [e]
  have h := PySem.W.krv_all xs
  have h2 : (List.range xs.size).filterMap (fun m => xs[xs.size - 1 - m]?) = ((List.range xs.size).map fun k => xs.size - 1 - k).filterMap (xs[·]?) := by
    rw [List.filterMap_map]
    rfl
  rw [h2, PySem.W.krv_range, List.filterMap_reverse, h]
section
variable {prog : Program} {w : World} {A : Around} {E : Value → Shared → Prop} {s : Shared}
theorem sliceApplied_rev {sl : Addr} {vl vu vs : Value} {n : Nat} {Q : Int × Int × Nat → Shared → Prop} (hs : s.heap.IsSliceOf sl vl vu vs) (pl : IsPart vl none) (pu : IsPart vu none) (ps : IsPart vs (some (-1)))
    (h : Q ((n : Int) - 1, -1, n) s) : wpAny (model prog w) A (Builtin.Slice.sliceApplied (.ref sl) (pure (n : Int))) Q E s := by
  obtain ⟨os, hos, hcs, hds⟩ := id hs
  unfold Builtin.Slice.sliceApplied Builtin.Slice.sliceFields
  refine wpAny_bind (wpAny_bind (wpAny_field hos hds (x := vl) rfl (wpAny_bind (wpAny_field hos hds (x := vu) rfl (wpAny_bind (wpAny_field hos hds (x := vs) rfl (wpAny_pure ?_)))))))
  refine wpAny_bind (HT.slicePart_ ps ?_)
  show wpAny _ _ (if ((-1 : Int) == 0) = true then _ else _) _ _ s
  rw [if_neg (by decide)]
  refine wpAny_bind (HT.slicePart_ pl (wpAny_bind (HT.slicePart_ pu (wpAny_bind (wpAny_pure ?_)))))
  show wpAny _ _ (match Builtin.Slice.sliceAdjust none none (-1) (n : Int) with | (lo, hi) => pure (lo, (-1 : Int), Builtin.Slice.slicePlaces lo hi (-1))) _ _ s
  rw [rev_adjust n]
  show wpAny _ _ (pure ((n : Int) - 1, (-1 : Int), Builtin.Slice.slicePlaces ((n : Int) - 1) (-1) (-1))) _ _ s
  rw [rev_places]
  exact wpAny_pure h
theorem getItem_tuple_rev {t sl : Addr} {items : Array Value} {vl vu vs : Value} {Q : Value → Shared → Prop} (ht : IsTup s.heap t items) (hs : s.heap.IsSliceOf sl vl vu vs) (pl : IsPart vl none) (pu : IsPart vu none) (ps : IsPart vs (some (-1)))
    (h : Q (.ref s.heap.objs.size) { s with heap := s.heap.push { cls := .type "tuple", data := .seq items.toList.reverse.toArray } })
    (hsz : items.size ≤ sizeLine) : wpAny (model prog w) A (getItem (.ref t) (.ref sl)) Q E s := by
  have htake : sizeOk (.seq items.toList.reverse.toArray) := by
    show items.toList.reverse.toArray.size ≤ sizeLine
    rw [List.size_toArray, List.length_reverse, Array.length_toList]
    exact hsz
  obtain ⟨os, hos, hcs, hds⟩ := id hs
  have hTs : s.TypeIs (.ref sl) "slice" := ⟨os, hos, hcs⟩
  unfold getItem
  try with_reducible refine wpAny_holding ?_
  first | refine wpAny_bind (wpAny_pure ?_) | skip
  refine wpAny_bind (wpAny_sequenceKey ht.typeIs (by decide) ?_)
  refine wpAny_bind (wpAny_callSpecial?_slot (name := Str.ofString "__getitem__") ht.typeIs PyProof.Rows.slot_tuple_getitem
    (wpAny_call_entry PyProof.Rows.slot_tuple_getitem ht.typeIs entry_tuple_getitem ?_ (args_tuple_getitem _ _)))
  show wpAny _ _ (Builtin.Tuple.tupleItemsOf (.ref t) >>= _) _ _ s
  refine wpAny_bind (tupleItemsOf_ ht ?_)
  refine wpAny_bind (wpAny_typeOf hTs ?_)
  rw [if_pos (by decide)]
  refine wpAny_bind (sliceApplied_rev hs pl pu ps ?_)
  have hno : ¬ ((((items.size : Int) - 1) == 0 && (-1 : Int) == 1 && items.size == items.size) = true) := by
    rw [show ((-1 : Int) == 1) = false from rfl, Bool.and_false, Bool.false_and]
    decide
  show wpAny _ _ (if ((((items.size : Int) - 1) == 0 && (-1 : Int) == 1 && items.size == items.size) = true) then _ else _) _ _ s
  rw [if_neg hno, rev_pick]
  first
    | exact wpAny_bind (m := Builtin.Tuple.tupleExact _) (wpAny_newObj_type (wpAny_pure ⟨_, rfl, wpAny_pure h⟩) htake)
    | exact wpAny_bind (m := Builtin.Tuple.tupleExact _) (wpAny_newObj_type (wpAny_bind (wpAny_pure (wpAny_pure ⟨_, rfl, wpAny_pure h⟩))) htake)
    | exact wpAny_bind (wpAny_bind (m := Builtin.Tuple.tupleExact _) (wpAny_newObj_type (wpAny_pure (wpAny_pure ⟨_, rfl, wpAny_pure h⟩)) htake))
    | exact wpAny_bind (wpAny_bind (m := Builtin.Tuple.tupleExact _) (wpAny_newObj_type (wpAny_pure ⟨_, rfl, wpAny_pure h⟩) htake))
end
section
variable {X : Cx}
theorem pe_revT {e : Expr} {te : TE} {k : Nat} {p1 p2 p3 pos : Pos} (he : PE X e te) : PE X (.Subscript e (.Slice none none (some (.UnaryOp .USub (.Constant (.int 1) k p1) p2)) p3) pos) (tRevT X.K te) := by
  refine ⟨fun pins s σ H Q I h => ?_⟩
  refine Subscript_ (thn (he.run pins s σ H _ I h) fun v s1 ⟨x, H1, I1, r1, q1⟩ => ?_)
  obtain ⟨a, xs, ex, hx, q⟩ := q1
  subst ex
  cases r1
  have hst : PO X (some (.UnaryOp .USub (.Constant (.int 1) k p1) p2)) (tPart (tUn (rU fun i => .int (-i)) (tC (.int 1)))) := po_some (pe_un un_neg pe_int)
  refine wpAny_Slice (thn (po_none.run pins s1 σ H1 (fun o H2 => o = none ∧ H2 = H1) I1 ⟨rfl, rfl⟩) fun vl s2 ⟨l, H2, I2, pl, el, e2⟩ => ?_)
  subst el e2
  refine thn (po_none.run pins s2 σ H2 (fun o H3 => o = none ∧ H3 = H2) I2 ⟨rfl, rfl⟩) fun vu s3 ⟨u, H3, I3, pu, eu, e3⟩ => ?_
  subst eu e3
  refine thn (hst.run pins s3 σ H3 (fun o H4 => o = some (-1) ∧ H4 = H3) I3 ⟨1, rfl, -1, rfl, rfl, rfl⟩) fun vs s4 ⟨o, H4, I4, ps, eo, e4⟩ => ?_
  subst eo e4
  have I5 : Inv X pins σ H4 { s4 with heap := s4.heap.push { cls := .type "slice", data := .fields #[vl, vu, vs] } } := I4.kept (t' := s4.toks) fun b ob q => Heap.get?_push_of_some _ q
  obtain ⟨its, r, ht, hz⟩ := I5.tuple hx
  have hlen := r.length
  show wpAny (model X.prog X.w) X.A (subscriptTail e (.Slice none none (some (.UnaryOp .USub (.Constant (.int 1) k p1) p2)) p3) (.ref a) (.ref s4.heap.objs.size)) (EP X pins σ Q) X.xe { s4 with heap := s4.heap.push { cls := .type "slice", data := .fields #[vl, vu, vs] } }
  refine tail_any (ops := [.ref a, .ref s4.heap.objs.size]) ht.typeIs PyProof.Rows.slot_tuple_getitem.lookup ?_ (by with_unfolding_all rfl)
  refine getItem_tuple_rev ht (Heap.IsSliceOf.new _ vl vu vs) pl pu ps ?_ (by rw [List.size_toArray]; omega)
  refine ⟨.ref _, _, I5.laid (t' := s4.toks) (o := .tup xs.reverse) (fun b ob q => Heap.get?_push_of_some _ q) (Nat.le_refl _) ?_, rfl, q _ (I5.hok.fresh (Nat.le_refl _))⟩
  exact ⟨by rw [List.length_reverse]; exact hz, _, r.reverse, IsTup.new _ _⟩
end
end Own
/-! own words over HandS.Evl: built-in calls, tuples walked, chains, promises of new tuples -/
namespace Own
open PySem PySem.Spec PyProof.Rows L2 Evl
section
variable {K : PySem.W.Frag} {σ : L2.St} {H H' : Hp} {ta tb te tx : TE} {t u : TT} {x y z v : V}
theorem rc_abs {i : Int} : RC (fun xs H Q => ∃ i, xs = [V.int i] ∧ Q (.int (if i < 0 then -i else i)) H) [.int i] H (.int (if i < 0 then -i else i)) := fun H1 _ _ q => ⟨i, rfl, q H1 (Ex.refl H1)⟩
theorem rc_int {i : Int} : RC (fun xs H Q => (∃ i, xs = [V.int i] ∧ Q (.int i) H) ∨ ∃ k, xs = [V.bl k] ∧ Q (.int (if k then 1 else 0)) H) [.int i] H (.int i) := fun H1 _ _ q => .inl ⟨i, rfl, q H1 (Ex.refl H1)⟩
theorem rc_intB {k : Bool} : RC (fun xs H Q => (∃ i, xs = [V.int i] ∧ Q (.int i) H) ∨ ∃ k, xs = [V.bl k] ∧ Q (.int (if k then 1 else 0)) H) [.bl k] H (.int (if k then 1 else 0)) := fun H1 _ _ q => .inr ⟨k, rfl, q H1 (Ex.refl H1)⟩
theorem rc_max2 {i j : Int} : RC (fun xs H Q => ∃ i j, xs = [V.int i, V.int j] ∧ Q (.int (if j > i then j else i)) H) [.int i, .int j] H (.int (if j > i then j else i)) := fun H1 _ _ q => ⟨i, j, rfl, q H1 (Ex.refl H1)⟩
theorem rc_min2 {i j : Int} : RC (fun xs H Q => ∃ i j, xs = [V.int i, V.int j] ∧ Q (.int (if j < i then j else i)) H) [.int i, .int j] H (.int (if j < i then j else i)) := fun H1 _ _ q => ⟨i, j, rfl, q H1 (Ex.refl H1)⟩
abbrev rLenQ (K : PySem.W.Frag) : List V → Hp → VK → Prop := fun xs H Q => ∃ p ys, xs = [.ref p] ∧ (SqL K H p ys ∨ SqT K H p ys) ∧ Q (.int ys.length) H
theorem rc_lenL {a : Addr} {xs : List V} (h : SqL K H a xs) : RC (rLenQ K) [.ref a] H (.int xs.length) := fun H1 e _ q => ⟨a, xs, rfl, .inl (ex_l e h), q H1 (Ex.refl H1)⟩
theorem rc_lenT {a : Addr} {xs : List V} (h : SqT K H a xs) : RC (rLenQ K) [.ref a] H (.int xs.length) := fun H1 e _ q => ⟨a, xs, rfl, .inr (ex_t e h), q H1 (Ex.refl H1)⟩
theorem rc_sumL {a : Addr} {ns : List Int} (h : SqL K H a (ns.map V.int)) : RC (rSum K) [.ref a] H (.int ns.sum) := fun H1 e _ q => ⟨a, ns, rfl, ex_l e h, q H1 (Ex.refl H1)⟩
theorem rc_sumT {a : Addr} {ns : List Int} (h : SqT K H a (ns.map V.int)) : RC (rSumT K) [.ref a] H (.int ns.sum) := fun H1 e _ q => ⟨a, ns, rfl, ex_t e h, q H1 (Ex.refl H1)⟩
theorem ev_sumN {ns : List Int} (h : EvL ta σ H (ns.map V.int)) : Ev (tCB (rSum K) (tCons ta tNil)) σ H (.int ns.sum) := fun H1 e _ q =>
  h H1 e _ fun p H2 _ e2 h2 => ⟨p, ns, rfl, sq_of h2, q H2 e2⟩
theorem ev_allN {bs : List Bool} (h : EvL ta σ H (bs.map V.bl)) : Ev (tCB (rAll K) (tCons ta tNil)) σ H (.bl (bs.all id)) := fun H1 e _ q =>
  h H1 e _ fun p H2 _ e2 h2 => ⟨p, bs, rfl, sq_of h2, q H2 e2⟩
theorem tyx_tup {a : Addr} {xs : List V} (h : SqT K H a xs) : TyX K H (.ref a) (.type "tuple") := by
  rcases h with (h | ⟨o, h⟩) | ⟨o, its, n, e, c, _⟩
  · exact .base (.tup h)
  · exact .fTuple h
  · exact .kTuple e c
theorem tyx_ex {x : V} {t : Value} (e : Ex H H') (h : TyX K H x t) : TyX K H' x t := by
  cases h with
  | base h =>
    refine .base ?_
    cases h with
    | non => exact .non
    | bl x => exact .bl x
    | int i => exact .int i
    | str x => exact .str x
    | flt x => exact .flt x
    | lst q => exact .lst (e _ _ q)
    | frz q => exact .frz (e _ _ q)
    | tup q => exact .tup (e _ _ q)
    | dK q => exact .dK (e _ _ q)
    | dT q => exact .dT (e _ _ q)
    | ins q a b c d f => exact .ins (e _ _ q) a b c d f
  | byt b => exact .byt b
  | set q => exact .set (e _ _ q)
  | kList a b => exact .kList a b
  | kTuple a b => exact .kTuple a b
  | kDict a b => exact .kDict a b
  | fTuple q => exact .fTuple (e _ _ q)
  | fDict q => exact .fDict (e _ _ q)
theorem rc_isi {x : V} {t : Value} {n : String} {b : Bool} (h : TyX K H x t) (hk : PySem.W.kitOne K t (.type n) = some b) : RC (rIsi K) [x, .ty n] H (.bl b) := fun H1 e _ q =>
  ⟨x, .ty n, t, .type n, b, rfl, .ty n, tyx_ex e h, hk, q H1 (Ex.refl H1)⟩
theorem ev_chain {r r' : R2} {a b : Bool} {tc : TE} (ha : Ev ta σ H x) (hb : Ev tb σ H y) (hr : RV r x y H (.bl a)) (hc : a = true → Ev tc σ H z) (hr' : a = true → RV r' y z H (.bl b)) : Ev (tChain r r' ta tb tc) σ H (.bl (a && b)) := fun H1 e Q q =>
  ha H1 e _ fun H2 e2 => hb H2 (e.trans e2) _ fun H3 e3 => hr H3 ((e.trans e2).trans e3) _ fun H4 e4 => ⟨a, rfl, by
    cases a with
    | true => exact iteT (hc rfl H4 (((e.trans e2).trans e3).trans e4) _ fun H5 e5 => hr' rfl H5 ((((e.trans e2).trans e3).trans e4).trans e5) Q fun H6 e6 => q H6 ((((e2.trans e3).trans e4).trans e5).trans e6))
    | false => exact iteF (q H4 ((e2.trans e3).trans e4))⟩
/-- tuple(..) of a new list -/
abbrev rTupQ (K : PySem.W.Frag) : List V → Hp → VK → Prop := fun xs H Q => ∃ p ys, xs = [.ref p] ∧ ((SqL K H p ys ∧ ∀ l, H l = none → Q (.ref l) (upd H l (.tup ys))) ∨ (SqT K H p ys ∧ Q (.ref p) H))
theorem eu_tupleN {xs : List V} (h : EvL ta σ H xs) : EvU (tCB (rTupQ K) (tCons ta tNil)) σ H xs := fun H1 e Q q =>
  h H1 e _ fun p H2 _ e2 h2 => ⟨p, xs, rfl, .inl ⟨sq_of h2, fun l hl => q l _ (fresh_back e2 hl) (e2.trans (Ex.new hl)) upd_same⟩⟩
theorem eu_tupleL {a : Addr} {xs : List V} (h : Ev ta σ H (.ref a)) (hx : SqL K H a xs) : EvU (tCB (rTupQ K) (tCons ta tNil)) σ H xs := fun H1 e Q q =>
  h H1 e _ fun H2 e2 => ⟨a, xs, rfl, .inl ⟨ex_l (e.trans e2) hx, fun l hl => q l _ (fresh_back e2 hl) (e2.trans (Ex.new hl)) upd_same⟩⟩
abbrev rLstQ (K : PySem.W.Frag) : List V → Hp → VK → Prop := fun xs H Q => ∃ p ys, xs = [.ref p] ∧ (SqL K H p ys ∨ SqT K H p ys) ∧ ∀ l, H l = none → Q (.ref l) (upd H l (.lst ys))
theorem el_listT {a : Addr} {xs : List V} (h : Ev ta σ H (.ref a)) (hx : SqT K H a xs) : EvL (tCB (rLstQ K) (tCons ta tNil)) σ H xs := fun H1 e Q q =>
  h H1 e _ fun H2 e2 => ⟨a, xs, rfl, .inr (ex_t (e.trans e2) hx), fun l hl => q l _ (fresh_back e2 hl) (e2.trans (Ex.new hl)) upd_same⟩
theorem eu_revT {a : Addr} {xs : List V} (h : Ev ta σ H (.ref a)) (hx : SqT K H a xs) : EvU (tRevT K ta) σ H xs.reverse := fun H1 e Q q =>
  h H1 e _ fun H2 e2 => ⟨a, xs, rfl, ex_t (e.trans e2) hx, fun l hl => q l _ (fresh_back e2 hl) (e2.trans (Ex.new hl)) upd_same⟩
/-- a comprehension over a tuple -/
theorem el_lcT {a : Addr} {xs : List V} {tl : TE} {j : Nat} {vs : List Nat} (f : Nat → Bool) (v : Nat → V) (h : Ev tl σ H (.ref a)) (hx : SqT K H a xs) (hz : xs.length ≤ 40000) (hw : ∀ x, wipe ((wipe σ vs).set j (some x)) vs = wipe σ vs)
    (ht : ∀ (i : Nat) (x : V) H1, Ex H H1 → xs[i]? = some x → EvT t ((wipe σ vs).set j (some x)) H1 (f i)) (he : ∀ (i : Nat) (x : V) H1, Ex H H1 → xs[i]? = some x → f i = true → Ev te ((wipe σ vs).set j (some x)) H1 (v i)) :
    EvL (tLc (iTup K tl) (gName j) t te vs) σ H (given xs.length f v) := fun H0 e Q q => h H0 e _ fun H1 e1 => ⟨a, rfl, ⟨xs, ex_t (e.trans e1) hx⟩, fun Dl hD =>
  lc_tup (xs := xs) (Cw H1 f v Dl) ⟨hD, Ex.new hD, upd_same⟩ (fun i H' _ p => ex_t ((e.trans e1).trans p.2.1) hx) (fun i x H' hi p => ⟨hw x, cw_turn p (by have := (List.getElem?_eq_some_iff.mp hi).1; omega) (ht i x H1 (e.trans e1) hi) (fun hf => he i x H1 (e.trans e1) hi hf)⟩)
    (fun H' p => q Dl H' (fresh_back e1 p.1) (e1.trans p.2.1) p.2.2)⟩
theorem et_nil : EvT tYes σ H true := fun H1 _ _ q => q H1 (Ex.refl H1)
theorem el_is {xs ys : List V} (h : EvL te σ H xs) (e : xs = ys) : EvL te σ H ys := e ▸ h
theorem eu_is {xs ys : List V} (h : EvU te σ H xs) (e : xs = ys) : EvU te σ H ys := e ▸ h
/-- all are kept: the list is a map -/
theorem given_all {α : Type} (ys : List α) (g : α → V) (v : Nat → V) (hv : ∀ (i : Nat) (y : α), ys[i]? = some y → v i = g y) : given ys.length (fun _ => true) v = ys.map g := by
  unfold given
  rw [List.filter_eq_self.mpr (fun _ _ => rfl)]
  refine List.ext_getElem? fun i => ?_
  rw [List.getElem?_map, List.getElem?_map]
  by_cases hi : i < ys.length
  · rw [List.getElem?_range hi, List.getElem?_eq_getElem hi]
    exact congrArg some (hv i _ (List.getElem?_eq_getElem hi))
  · rw [List.getElem?_eq_none (by rw [List.length_range]; omega), List.getElem?_eq_none (by omega)]
    rfl
variable {D : Ends} {tu tw tz : TS}
/-- for x in a new tuple; the target is a name -/
theorem s_forNT {xs : List V} {tl : TE} {j : Nat} (h : EvU tl σ H xs) (Pv : Addr → Nat → L2.St → Hp → Prop) (h0 : ∀ p H1, H p = none → Ex H H1 → H1 p = some (.tup xs) → Pv p 0 σ H1) (hl : ∀ p i σ' H', i ≤ xs.length → Pv p i σ' H' → SqT K H' p xs)
    (hs : ∀ p i x σ' H', xs[i]? = some x → Pv p i σ' H' → tu { D with nx := Pv p (i + 1), ct := Pv p (i + 1), bk := D.nx } (σ'.set j (some x)) H') (hd : ∀ p σ' H', Pv p xs.length σ' H' → D.nx σ' H') : tFor (iTup K tl) (gName j) tu D σ H :=
  h H (Ex.refl H) _ fun p H1 hp e h1 => ⟨p, rfl, ⟨xs, st_of h1⟩, for_tup (Pv p) (h0 p H1 hp e h1) (hl p) (hs p) (hd p)⟩
theorem q_forNT {xs : List V} {tl : TE} {j : Nat} (h : EvU tl σ H xs) (Pv : Addr → Nat → L2.St → Hp → Prop) (h0 : ∀ p H1, H p = none → Ex H H1 → H1 p = some (.tup xs) → Pv p 0 σ H1) (hl : ∀ p i σ' H', i ≤ xs.length → Pv p i σ' H' → SqT K H' p xs)
    (hs : ∀ p i x σ' H', xs[i]? = some x → Pv p i σ' H' → tu { D with nx := Pv p (i + 1), ct := Pv p (i + 1), bk := tz D } (σ'.set j (some x)) H') (hd : ∀ p σ' H', Pv p xs.length σ' H' → tz D σ' H') : tSeq (tFor (iTup K tl) (gName j) tu) tz D σ H :=
  s_forNT (D := { D with nx := tz D }) h Pv h0 hl hs hd
theorem q_par {i j : Nat} (h : Ev ta σ H x) (h2 : Ev tb σ H y) (k : ∀ H1, Ex H H1 → tz D ((σ.set i (some x)).set j (some y)) H1) : tSeq (tPar i j (tCons ta (tCons tb tNil))) tz D σ H :=
  h H (Ex.refl H) _ fun H1 e1 => h2 H1 e1 _ fun H2 e2 => ⟨x, y, rfl, k H2 (e1.trans e2)⟩
theorem q_parL {i j : Nat} {xs : List V} (h : EvL ta σ H xs) (h2 : ∀ p H1, H p = none → Ex H H1 → H1 p = some (.lst xs) → Ev tb σ H1 y) (k : ∀ p H1, H p = none → Ex H H1 → H1 p = some (.lst xs) → tz D ((σ.set i (some (.ref p))).set j (some y)) H1) : tSeq (tPar i j (tCons ta (tCons tb tNil))) tz D σ H :=
  h H (Ex.refl H) _ fun p H1 hp e1 hx => h2 p H1 hp e1 hx H1 (Ex.refl H1) _ fun H2 e2 => ⟨.ref p, y, rfl, k p H2 hp (e1.trans e2) (e2 _ _ hx)⟩
theorem q_par3 {i j l : Nat} {tc : TE} (h : Ev ta σ H x) (h2 : Ev tb σ H y) (h3 : Ev tc σ H z) (k : ∀ H1, Ex H H1 → tz D (((σ.set i (some x)).set j (some y)).set l (some z)) H1) : tSeq (tPar3 i j l (tCons ta (tCons tb (tCons tc tNil)))) tz D σ H :=
  h H (Ex.refl H) _ fun H1 e1 => h2 H1 e1 _ fun H2 e2 => h3 H2 (e1.trans e2) _ fun H3 e3 => ⟨x, y, z, rfl, k H3 ((e1.trans e2).trans e3)⟩
theorem s_par3 {i j l : Nat} {tc : TE} (h : Ev ta σ H x) (h2 : Ev tb σ H y) (h3 : Ev tc σ H z) (k : ∀ H1, Ex H H1 → D.nx (((σ.set i (some x)).set j (some y)).set l (some z)) H1) : tPar3 i j l (tCons ta (tCons tb (tCons tc tNil))) D σ H :=
  h H (Ex.refl H) _ fun H1 e1 => h2 H1 e1 _ fun H2 e2 => h3 H2 (e1.trans e2) _ fun H3 e3 => ⟨x, y, z, rfl, k H3 ((e1.trans e2).trans e3)⟩
/-- a, b = (e1, e2) where the tuple is made: two names; a name and an item of a list -/
theorem q_tupNN {i j : Nat} (h : Ev ta σ H x) (h2 : Ev tb σ H y) (k : ∀ H1, Ex H H1 → tz D ((σ.set i (some x)).set j (some y)) H1) : tSeq (tAsg (tTup (tCons ta (tCons tb tNil))) (gTup K 2 (gCons (gName i) (gCons (gName j) gNil)))) tz D σ H :=
  h H (Ex.refl H) _ fun H1 e1 => h2 H1 e1 _ fun H2 e2 => ⟨by show 2 ≤ sizeLine; decide, fun p hp => ⟨p, [x, y], rfl, st_of upd_same, rfl, x, [y], rfl, y, [], rfl, rfl, k _ ((e1.trans e2).trans (Ex.new hp))⟩⟩
theorem s_tupNS {i j : Nat} {to ti : TE} {l : Addr} {xs : List V} (h : Ev ta σ H x) (h2 : Ev tb σ H y) (hl : H l = some (.lst xs)) (ho : Ev to (σ.set i (some x)) H (.ref l)) (hi : Ev ti (σ.set i (some x)) H (.int (j : Int))) (hj : j < xs.length)
    (k : ∀ H1, Ex H H1 → D.nx (σ.set i (some x)) (upd H1 l (.lst (xs.set j y)))) : tAsg (tTup (tCons ta (tCons tb tNil))) (gTup K 2 (gCons (gName i) (gCons (gSub to ti rSetL) gNil))) D σ H :=
  h H (Ex.refl H) _ fun H1 e1 => h2 H1 e1 _ fun H2 e2 => ⟨by show 2 ≤ sizeLine; decide, fun p hp => ⟨p, [x, y], rfl, st_of upd_same, rfl, x, [y], rfl, y, [], rfl,
    ho _ ((e1.trans e2).trans (Ex.new hp)) _ fun H3 e3 => hi H3 (((e1.trans e2).trans (Ex.new hp)).trans e3) _ fun H4 e4 => ⟨l, xs, (j : Int), j, rfl, rfl, ((((e1.trans e2).trans (Ex.new hp)).trans e3).trans e4) l _ hl, ixN_nat hj, rfl, k H4 ((((e1.trans e2).trans (Ex.new hp)).trans e3).trans e4)⟩⟩⟩
def SpU (sp : Sp) (vs : List V) (H : Hp) (xs : List V) : Prop := ∀ H1, Ex H H1 → ∀ Q : VK, (∀ p H2, H1 p = none → Ex H1 H2 → H2 p = some (.tup xs) → Q (.ref p) H2) → ∀ E : XK, sp vs H1 Q E
theorem eu_call {sp : Sp} {dvs vs xs : List V} {E : XK} {ta : TA} (h : EvA ta σ H vs) (hs : SpU sp (vs ++ dvs) H xs) : EvU (tCall sp dvs E ta) σ H xs := fun H1 e Q q =>
  h H1 e _ fun H2 e2 => hs H2 (e.trans e2) Q (fun p H3 hp e3 h3 => q p H3 (fresh_back e2 hp) (e2.trans e3) h3) E
def RetU (xs : List V) (H : Hp) (Q : VK) : Prop := ∀ p H2, H p = none → Ex H H2 → H2 p = some (.tup xs) → Q (.ref p) H2
theorem RetU.go {xs : List V} {Q : VK} (k : RetU xs H Q) (e : Ex H H') {p : Addr} {H2 : Hp} (hp : H' p = none) (e2 : Ex H' H2) (h : H2 p = some (.tup xs)) : Q (.ref p) H2 := k p H2 (fresh_back e hp) (e.trans e2) h
end
end Own
/-! mathematics of digits; core Lean alone -/
namespace Own
def dg (b : Nat) (k : Nat) : List Nat := if h : 1 < b ∧ 0 < k then (k % b) :: dg b (k / b) else []
termination_by k
decreasing_by exact Nat.div_lt_self h.2 h.1
theorem dg_zero (b : Nat) : dg b 0 = [] := by
  rw [dg]
  simp
theorem dg_pos {b k : Nat} (hb : 1 < b) (hk : 0 < k) : dg b k = (k % b) :: dg b (k / b) := by
  rw [dg, dif_pos ⟨hb, hk⟩]
theorem dg_lt {b : Nat} (hb : 1 < b) (k : Nat) : ∀ d ∈ dg b k, d < b := by
  induction k using Nat.strongRecOn with
  | ind k ih =>
    by_cases hk : 0 < k
    · rw [dg_pos hb hk]
      intro d hd
      rcases List.mem_cons.mp hd with rfl | hd
      · exact Nat.mod_lt _ (by omega)
      · exact ih _ (Nat.div_lt_self hk hb) d hd
    · have : k = 0 := by omega
      subst this
      rw [dg_zero]
      intro d hd
      cases hd
theorem dg_len {b : Nat} (hb : 1 < b) : ∀ (n k : Nat), k < 2 ^ n → (dg b k).length ≤ n := by
  intro n
  induction n with
  | zero =>
    intro k h
    have : k = 0 := by
      have : (2 : Nat) ^ 0 = 1 := rfl
      omega
    subst this
    rw [dg_zero]
    exact Nat.le_refl _
  | succ n ih =>
    intro k h
    by_cases hk : 0 < k
    · rw [dg_pos hb hk, List.length_cons]
      have : k / b < 2 ^ n := by
        have h1 : k / b ≤ k / 2 := Nat.div_le_div_left hb (by decide)
        rw [Nat.pow_succ] at h
        omega
      have := ih _ this
      omega
    · have : k = 0 := by omega
      subst this
      rw [dg_zero]
      exact Nat.zero_le _
/-- the integer of a row of digits -/
def od (b : Nat) : List Nat → Nat
  | [] => 0
  | d :: r => d + b * od b r
theorem od_dg {b : Nat} (hb : 1 < b) (k : Nat) : od b (dg b k) = k := by
  induction k using Nat.strongRecOn with
  | ind k ih =>
    by_cases hk : 0 < k
    · rw [dg_pos hb hk, od, ih _ (Nat.div_lt_self hk hb)]
      exact Nat.mod_add_div k b
    · have : k = 0 := by omega
      subst this
      rw [dg_zero]
      rfl
theorem od_zeros (b : Nat) : ∀ n, od b (List.replicate n 0) = 0
  | 0 => rfl
  | n + 1 => by
    rw [List.replicate_succ, od, od_zeros b n]
    omega
theorem od_app (b : Nat) : ∀ (xs : List Nat) (n : Nat), od b (xs ++ List.replicate n 0) = od b xs
  | [], n => by
    rw [List.nil_append, od_zeros]
    rfl
  | d :: r, n => by
    rw [List.cons_append, od, od, od_app b r n]
theorem od_lt {b : Nat} (hb : b ≤ 1000) : ∀ (xs : List Nat), (∀ d ∈ xs, d < b) → od b xs < 2 ^ (10 * xs.length)
  | [], _ => by
    show 0 < 2 ^ 0
    decide
  | d :: r, h => by
    have ih := od_lt hb r fun x hx => h x (List.mem_cons_of_mem _ hx)
    have hd := h d (List.mem_cons_self ..)
    rw [od, List.length_cons, Nat.mul_add, Nat.pow_add]
    have h1 : b * od b r ≤ 1000 * od b r := Nat.mul_le_mul_right _ hb
    have h2 : (2 : Nat) ^ (10 * 1) = 1024 := rfl
    rw [h2]
    omega
/-- the sum of the digits -/
def ds (b k : Nat) : Nat := (dg b k).sum
theorem ds_zero (b : Nat) : ds b 0 = 0 := by
  unfold ds
  rw [dg_zero]
  rfl
theorem ds_pos {b k : Nat} (hb : 1 < b) (hk : 0 < k) : ds b k = k % b + ds b (k / b) := by
  unfold ds
  rw [dg_pos hb hk, List.sum_cons]
theorem ds_eq {b : Nat} (hb : 1 < b) (k : Nat) : ds b k = k % b + ds b (k / b) := by
  by_cases hk : 0 < k
  · exact ds_pos hb hk
  · have : k = 0 := by omega
    subst this
    rw [Nat.zero_mod, Nat.zero_div, ds_zero]
theorem ds_le {b : Nat} (hb : 1 < b) (k : Nat) : ds b k ≤ k := by
  induction k using Nat.strongRecOn with
  | ind k ih =>
    by_cases hk : 0 < k
    · rw [ds_pos hb hk]
      have h1 := ih _ (Nat.div_lt_self hk hb)
      have h2 := Nat.mod_add_div k b
      have h3 : 1 * (k / b) ≤ b * (k / b) := Nat.mul_le_mul_right _ (by omega)
      omega
    · have : k = 0 := by omega
      subst this
      rw [ds_zero]
      exact Nat.le_refl _
/-- carries where a carry comes in; with fuel by the size -/
def cc (b : Nat) (c x y : Nat) : Nat := if h : 1 < b ∧ (0 < x ∨ 0 < y) then
    (if b ≤ x % b + y % b + c then 1 else 0) + cc b (if b ≤ x % b + y % b + c then 1 else 0) (x / b) (y / b) else 0
termination_by x + y
decreasing_by
  rcases h.2 with hx | hy
  · have h1 := Nat.div_lt_self hx h.1
    have h2 := Nat.div_le_self y b
    omega
  · have h1 := Nat.div_lt_self hy h.1
    have h2 := Nat.div_le_self x b
    omega
/-- the rule by sums of digits, with a carry c coming in -/
theorem ds_add {b : Nat} (hb : 1 < b) : ∀ (n x y c : Nat), x + y ≤ n → c ≤ 1 → ds b x + ds b y + c = ds b (x + y + c) + (b - 1) * cc b c x y := by
  intro n
  induction n using Nat.strongRecOn with
  | ind n ih =>
    intro x y c hn hc
    by_cases hxy : 0 < x ∨ 0 < y
    · rw [cc, dif_pos ⟨hb, hxy⟩]
      have hlt : x / b + y / b < n := by
        rcases hxy with hx | hy
        · have h1 := Nat.div_lt_self hx hb
          have h2 := Nat.div_le_self y b
          omega
        · have h1 := Nat.div_lt_self hy hb
          have h2 := Nat.div_le_self x b
          omega
      have hx := Nat.mod_add_div x b
      have hy := Nat.mod_add_div y b
      have mx := Nat.mod_lt x (show 0 < b by omega)
      have my := Nat.mod_lt y (show 0 < b by omega)
      rw [ds_eq hb x, ds_eq hb y, ds_eq hb (x + y + c)]
      have hs : x + y + c = (x % b + y % b + c) + b * (x / b + y / b) := by
        rw [Nat.mul_add]
        omega
      by_cases hcar : b ≤ x % b + y % b + c
      · rw [if_pos hcar]
        have e : x + y + c = (x % b + y % b + c - b) + b * (x / b + y / b + 1) := by
          rw [Nat.mul_add b _ 1]
          omega
        have e1 : (x + y + c) % b = x % b + y % b + c - b := by
          rw [e, Nat.add_mul_mod_self_left, Nat.mod_eq_of_lt (by omega)]
        have e2 : (x + y + c) / b = x / b + y / b + 1 := by
          rw [e, Nat.add_mul_div_left _ _ (by omega), Nat.div_eq_of_lt (by omega)]
          omega
        rw [e1, e2]
        have := ih _ hlt (x / b) (y / b) 1 (Nat.le_refl _) (Nat.le_refl _)
        rw [Nat.mul_add]
        omega
      · rw [if_neg hcar]
        have e1 : (x + y + c) % b = x % b + y % b + c := by
          rw [hs, Nat.add_mul_mod_self_left, Nat.mod_eq_of_lt (by omega)]
        have e2 : (x + y + c) / b = x / b + y / b := by
          rw [hs, Nat.add_mul_div_left _ _ (by omega), Nat.div_eq_of_lt (by omega)]
          omega
        rw [e1, e2]
        have := ih _ hlt (x / b) (y / b) 0 (Nat.le_refl _) (Nat.zero_le _)
        simp only [Nat.add_zero] at this
        rw [Nat.mul_add]
        omega
    · have hx : x = 0 := by omega
      have hy : y = 0 := by omega
      subst hx hy
      rw [cc, dif_neg (by simp), ds_zero]
      have : ds b (0 + 0 + c) = c := by
        rw [Nat.zero_add]
        rcases Nat.le_one_iff_eq_zero_or_eq_one.mp hc with rfl | rfl
        · exact ds_zero b
        · rw [ds_pos hb (by decide), Nat.mod_eq_of_lt hb, Nat.div_eq_of_lt hb, ds_zero]
      omega
theorem ds_plus {b : Nat} (hb : 1 < b) (x y : Nat) : ds b x + ds b y = ds b (x + y) + (b - 1) * cc b 0 x y := by
  have := ds_add hb (x + y) x y 0 (Nat.le_refl _) (Nat.zero_le _)
  simpa using this
/-- place by place: no sum of digits reaches the base -/
def nc (b : Nat) : Nat → List Nat → Bool
  | 0, _ => true
  | n + 1, xs => decide ((xs.map (· % b)).sum < b) && nc b n (xs.map (· / b))
theorem le_sum : ∀ (xs : List Nat) (x : Nat), x ∈ xs → x ≤ xs.sum
  | [], _, h => by cases h
  | a :: r, x, h => by
    rw [List.sum_cons]
    rcases List.mem_cons.mp h with rfl | h
    · omega
    · have := le_sum r x h
      omega
/-- the same by sums of digits -/
theorem sum_split {b : Nat} (hb : 1 < b) : ∀ xs : List Nat, xs.sum = (xs.map (· % b)).sum + b * (xs.map (· / b)).sum
  | [] => rfl
  | x :: r => by
    rw [List.sum_cons, List.map_cons, List.map_cons, List.sum_cons, List.sum_cons, Nat.mul_add, sum_split hb r]
    have := Nat.mod_add_div x b
    omega
theorem sumds_split {b : Nat} (hb : 1 < b) : ∀ xs : List Nat, (xs.map (ds b)).sum = (xs.map (· % b)).sum + ((xs.map (· / b)).map (ds b)).sum
  | [] => rfl
  | x :: r => by
    simp only [List.map_cons, List.sum_cons]
    rw [sumds_split hb r, ds_eq hb x]
    omega
theorem ds_sum_le {b : Nat} (hb : 1 < b) : ∀ xs : List Nat, ds b xs.sum ≤ (xs.map (ds b)).sum
  | [] => by
    rw [List.sum_nil, ds_zero]
    exact Nat.zero_le _
  | x :: r => by
    rw [List.map_cons, List.sum_cons, List.sum_cons]
    have h1 := ds_plus hb x r.sum
    have h2 := ds_sum_le hb r
    omega
theorem ds_add_le {b : Nat} (hb : 1 < b) (x y : Nat) : ds b (x + y) ≤ ds b x + ds b y := by
  have := ds_plus hb x y
  omega
theorem nc_iff {b : Nat} (hb : 1 < b) : ∀ (n : Nat) (xs : List Nat), xs.sum ≤ n → (nc b n xs = true ↔ (xs.map (ds b)).sum = ds b xs.sum) := by
  intro n
  induction n with
  | zero =>
    intro xs h
    have hz : ∀ x ∈ xs, x = 0 := fun x hx => by
      have := le_sum xs x hx
      omega
    have e1 : (xs.map (ds b)).sum = 0 := by
      have : xs.map (ds b) = xs.map (fun _ => 0) := List.map_congr_left fun x hx => by rw [hz x hx, ds_zero]
      rw [this]
      clear this hz h
      induction xs with
      | nil => rfl
      | cons a r ih => simpa using ih
    have e2 : xs.sum = 0 := by omega
    rw [e1, e2, ds_zero]
    exact ⟨fun _ => rfl, fun _ => rfl⟩
  | succ n ih =>
    intro xs h
    unfold nc
    rw [Bool.and_eq_true, decide_eq_true_eq]
    have hs := sum_split hb xs
    have hd := sumds_split hb xs
    generalize hm : (xs.map (· % b)).sum = m at hs hd ⊢
    generalize hq : xs.map (· / b) = q at hs hd ⊢
    have hqn : q.sum ≤ n := by
      by_cases h0 : q.sum = 0
      · omega
      · have : 2 * q.sum ≤ b * q.sum := Nat.mul_le_mul_right _ hb
        omega
    have ihq := ih q hqn
    by_cases hlt : m < b
    · have e1 : xs.sum % b = m := by
        rw [hs, Nat.add_mul_mod_self_left, Nat.mod_eq_of_lt hlt]
      have e2 : xs.sum / b = q.sum := by
        rw [hs, Nat.add_mul_div_left _ _ (by omega), Nat.div_eq_of_lt hlt]
        omega
      rw [hd, ds_eq hb xs.sum, e1, e2, ihq]
      constructor
      · intro ⟨_, h2⟩
        omega
      · intro h2
        exact ⟨hlt, by omega⟩
    · constructor
      · intro ⟨h1, _⟩
        exact absurd h1 hlt
      · intro h2
        exfalso
        -- the sum of digits falls by a carry
        have e1 : ds b xs.sum = ds b (m + b * q.sum) := by rw [← hs]
        have e3 : ds b (m + b * q.sum) = m % b + ds b (m / b + q.sum) := by
          rw [ds_eq hb, Nat.add_mul_mod_self_left, Nat.add_mul_div_left _ _ (by omega)]
        have e4 := ds_add_le hb (m / b) q.sum
        have e5 := ds_sum_le hb q
        have e6 := ds_le hb (m / b)
        have e7 := Nat.mod_add_div m b
        have e8 : 2 * (m / b) ≤ b * (m / b) := Nat.mul_le_mul_right _ hb
        have e9 : 1 ≤ m / b := Nat.div_pos (by omega) (by omega)
        omega
end Own
/-! own words for the laws' dice: a list of three ints that draws change -/
namespace Own
open PySem PySem.Spec PyProof.Rows L2 Evl
abbrev N_ (n : Nat) : V := .int (n : Int)
def Exd (p : Addr) (H H' : Hp) : Prop := ∀ a o, a ≠ p → H a = some o → H' a = some o
def IsDice (H : Hp) (p : Addr) : Prop := ∃ a b c : Int, H p = some (.lst [.int a, .int b, .int c])
section
variable {K : PySem.W.Frag} {H H1 H2 H' : Hp} {p a : Addr} {xs : List V}
theorem Exd.refl : Exd p H H := fun _ _ _ h => h
theorem Exd.of (e : Ex H H') : Exd p H H' := fun a o _ h => e a o h
theorem Exd.trans (x : Exd p H H1) (y : Exd p H1 H2) : Exd p H H2 := fun a o n h => y a o n (x a o n h)
theorem Exd.put {o : HO} : Exd p H (upd H p o) := fun a u n h => by rw [upd_ne n]; exact h
theorem IsDice.ex (d : IsDice H p) (e : Ex H H') : IsDice H' p := by
  obtain ⟨a, b, c, h⟩ := d
  exact ⟨a, b, c, e _ _ h⟩
theorem IsDice.seq (d : IsDice H p) : ∃ a b c : Int, SqL K H p [.int a, .int b, .int c] := by
  obtain ⟨a, b, c, h⟩ := d
  exact ⟨a, b, c, sq_of h⟩
theorem exd_t (d : IsDice H p) (e : Exd p H H') (h : SqT K H a xs) : SqT K H' a xs := by
  obtain ⟨x, y, z, hd⟩ := d
  rcases h with (h | ⟨o, h⟩) | h
  · exact .inl (.inl (e a _ (fun z => by rw [z, hd] at h; cases h) h))
  · exact .inl (.inr ⟨o, e a _ (fun z => by rw [z, hd] at h; cases h) h⟩)
  · exact .inr h
theorem exd_l (n : a ≠ p) (e : Exd p H H') (h : SqL K H a xs) : SqL K H' a xs := by
  rcases h with (h | ⟨o, h⟩) | h
  · exact .inl (.inl (e a _ n h))
  · exact .inl (.inr ⟨o, e a _ n h⟩)
  · exact .inr h
theorem new_ne (n : H a = none) (d : IsDice H p) : a ≠ p := fun z => by
  obtain ⟨x, y, w, h⟩ := d
  rw [z, h] at n
  cases n
theorem Exd.free (e : Exd p H H') (n : H' a = none) (hn : a ≠ p) : H a = none := by
  cases q : H a with
  | none => rfl
  | some o =>
    rw [e a o hn q] at n
    cases n
theorem Exd.newI {H0 : Hp} {l : Addr} {o : HO} (e : Exd p H0 H) (n : H0 l = none) : Exd p H0 (upd H l o) := fun b u hb h => by
  rw [upd_ne (ne_of_none h n)]
  exact e b u hb h
end
theorem mod_lt64 {x m : Int} (h0 : 0 < m) (h : m < 2 ^ 64) : -(2 ^ 64) < x % m ∧ x % m < 2 ^ 64 := by
  have h1 := Int.emod_nonneg x (by omega : m ≠ 0)
  have h2 := Int.emod_lt_of_pos x h0
  omega
theorem mod_abs {x m : Int} {n : Nat} (h0 : 0 < m) (h : m.toNat ≤ 2 ^ n) : (x % m).natAbs < 2 ^ n := by
  have h1 := Int.emod_nonneg x (by omega : m ≠ 0)
  have h2 := Int.emod_lt_of_pos x h0
  omega
end Own
/-! own words: == of tuples and lists of ints -/
namespace Own
open PySem PySem.Spec PyProof.Rows L2 Evl
def pdI (ns : List Int) : List PyData := ns.map PyData.int
theorem dp_ints {K : PySem.W.Frag} {H : Hp} : ∀ ns : List Int, DpAll K H (ns.map V.int) (pdI ns)
  | [] => .nil
  | n :: r => .cons (.int n) (dp_ints r)
theorem canI : ∀ ns : List Int, PyData.canLayAll0 (pdI ns) = true
  | [] => rfl
  | n :: r => by
    show (PyData.canLay0 (.int n) && PyData.canLayAll0 (pdI r)) = true
    rw [canI r]
    rfl
theorem depthI : ∀ ns : List Int, PyData.depthAll (pdI ns) = 0
  | [] => rfl
  | n :: r => by
    show max (PyData.depth (.int n)) (PyData.depthAll (pdI r)) = 0
    rw [depthI r]
    rfl
theorem shapedT (ns : List Int) : SeqAt.shaped (.tuple (pdI ns)) = true := by
  show (PyData.canLayAll0 (pdI ns) && decide (PyData.depthAll (pdI ns) + 1 ≤ 64)) = true
  rw [canI, depthI]
  rfl
theorem shapedL (ns : List Int) : SeqAt.shaped (.list (pdI ns)) = true := by
  show (PyData.canLayAll0 (pdI ns) && decide (PyData.depthAll (pdI ns) + 1 ≤ 64)) = true
  rw [canI, depthI]
  rfl
theorem eqvI : ∀ ns ms : List Int, PyData.eqvAll (pdI ns) (pdI ms) = decide (ns = ms)
  | [], [] => rfl
  | [], m :: s => by
    rw [decide_eq_false (by simp)]
    rfl
  | n :: r, [] => by
    rw [decide_eq_false (by simp)]
    rfl
  | n :: r, m :: s => by
    show (PyData.eqv (.int n) (.int m) && PyData.eqvAll (pdI r) (pdI s)) = _
    rw [eqvI r s]
    show ((n == m) && decide (r = s)) = decide (n :: r = m :: s)
    by_cases h : n = m
    · subst h
      by_cases h2 : r = s
      · subst h2
        rw [decide_eq_true rfl, decide_eq_true rfl]
        simp
      · rw [decide_eq_false h2, decide_eq_false (fun z => h2 (List.cons.inj z).2), Bool.and_false]
    · rw [decide_eq_false (fun z => h (List.cons.inj z).1), show (n == m) = false from beq_eq_false_iff_ne.mpr h, Bool.false_and]
theorem eqvT (ns ms : List Int) : PyData.eqv (.tuple (pdI ns)) (.tuple (pdI ms)) = decide (ns = ms) := eqvI ns ms
theorem eqvL (ns ms : List Int) : PyData.eqv (.list (pdI ns)) (.list (pdI ms)) = decide (ns = ms) := eqvI ns ms
section
variable {K : PySem.W.Frag} {σ : L2.St} {H H' : Hp} {ta tb : TE}
theorem rv_neT {a b : Addr} {ns ms : List Int} (h1 : SqT K H a (ns.map V.int)) (h2 : SqT K H b (ms.map V.int)) : RV (rNeD K) (.ref a) (.ref b) H (.bl (!decide (ns = ms))) := fun H1 e _ q =>
  ⟨_, _, .tup (ex_t e h1) (dp_ints ns), .tup (ex_t e h2) (dp_ints ms), shapedT _, shapedT _, by rw [eqvT]; exact q H1 (Ex.refl H1)⟩
theorem rv_eqT {a b : Addr} {ns ms : List Int} (h1 : SqT K H a (ns.map V.int)) (h2 : SqT K H b (ms.map V.int)) : RV (rEqD K) (.ref a) (.ref b) H (.bl (decide (ns = ms))) := fun H1 e _ q =>
  ⟨_, _, .tup (ex_t e h1) (dp_ints ns), .tup (ex_t e h2) (dp_ints ms), shapedT _, shapedT _, by rw [eqvT]; exact q H1 (Ex.refl H1)⟩
theorem rv_neL {a b : Addr} {ns ms : List Int} (h1 : SqL K H a (ns.map V.int)) (h2 : SqL K H b (ms.map V.int)) : RV (rNeD K) (.ref a) (.ref b) H (.bl (!decide (ns = ms))) := fun H1 e _ q =>
  ⟨_, _, .lst (ex_l e h1) (dp_ints ns), .lst (ex_l e h2) (dp_ints ms), shapedL _, shapedL _, by rw [eqvL]; exact q H1 (Ex.refl H1)⟩
theorem rv_eqL {a b : Addr} {ns ms : List Int} (h1 : SqL K H a (ns.map V.int)) (h2 : SqL K H b (ms.map V.int)) : RV (rEqD K) (.ref a) (.ref b) H (.bl (decide (ns = ms))) := fun H1 e _ q =>
  ⟨_, _, .lst (ex_l e h1) (dp_ints ns), .lst (ex_l e h2) (dp_ints ms), shapedL _, shapedL _, by rw [eqvL]; exact q H1 (Ex.refl H1)⟩
/-- the first operand a new tuple -/
theorem ev_opU1 {r : R2} {xs : List V} {y z : V} (ha : EvU ta σ H xs) (hb : ∀ H1, Ex H H1 → Ev tb σ H1 y) (hr : ∀ p H1, H1 p = some (.tup xs) → Ex H H1 → RV r (.ref p) y H1 z) : Ev (tOp r ta tb) σ H z := fun H1 e Q q =>
  ha H1 e _ fun p H2 _ e2 hp => hb H2 (e.trans e2) H2 (Ex.refl H2) _ fun H3 e3 => hr p H3 (e3 p _ hp) ((e.trans e2).trans e3) H3 (Ex.refl H3) Q fun H4 e4 => q H4 ((e2.trans e3).trans e4)
/-- t + u of tuples, whatever object comes out -/
theorem catA_go {row q : Addr} {xs ys : List V} {Q : VK} (h1 : SqT K H row xs) (h2 : SqT K H q ys) (hl : xs.length + ys.length ≤ 100000) (k : ∀ a H', Ex H H' → SqT K H' a (xs ++ ys) → Q (.ref a) H') : rCatA K (.ref row) (.ref q) H Q :=
  ⟨row, q, xs, ys, rfl, rfl, h1, h2, sz_of hl, fun e => k q H (Ex.refl H) (by rw [e]; exact h2), fun _ e => k row H (Ex.refl H) (by rw [e, List.append_nil]; exact h1), fun _ _ p hp => k p _ (Ex.new hp) (st_of upd_same)⟩
/-- t[1:] of a tuple with an item -/
theorem eu_sl1 {a : Addr} {xs : List V} (h : Ev ta σ H (.ref a)) (hx : SqT K H a xs) (hl : 0 < xs.length) (hcut : cutV xs (some 1) none = xs.drop 1) : EvU (tSl (rSlT K) ta (tPart (tC (.int 1))) tNoPart) σ H (xs.drop 1) := fun H1 e Q q =>
  h H1 e _ fun H2 e2 => ⟨1, rfl, a, xs, rfl, ex_t (e.trans e2) hx, fun z => by
    have h1 := z.1
    rw [show HT.sIx xs.length 0 (some 1) = min 1 xs.length from HT.sIx_nat xs.length 0 1] at h1
    omega, fun p hp => q p _ (fresh_back e2 hp) (e2.trans (Ex.new hp)) (by rw [hcut]; exact upd_same)⟩
theorem ev_sumU {ns : List Int} (h : EvU ta σ H (ns.map V.int)) : Ev (tCB (rSumT K) (tCons ta tNil)) σ H (.int ns.sum) := fun H1 e _ q =>
  h H1 e _ fun p H2 _ e2 h2 => ⟨p, ns, rfl, st_of h2, q H2 e2⟩
/-- [..] * k -/
theorem el_rep {xs : List V} {k : Int} (h : EvL ta σ H xs) (h2 : Ev tb σ H (.int k)) (h0 : 0 ≤ k) (hk : xs.length * k.toNat ≤ 100000) (hk2 : k ≤ 100000) : EvL (tOp rRep ta tb) σ H (List.replicate k.toNat xs).flatten := fun H1 e Q q =>
  h H1 e _ fun p H2 hp e2 hx => h2 H2 (e.trans e2) _ fun H3 e3 => ⟨p, k, xs, rfl, rfl, e3 _ _ hx, by omega, by omega, sz_of hk, fun l hl => q l _ (fresh_back (e2.trans e3) hl) ((e2.trans e3).trans (Ex.new hl)) upd_same⟩
end
end Own
/-! own words: written tables with integer keys; their values integers, tuples of integers, tuples of those -/
namespace Own
open PySem PySem.Spec PyProof.Rows L2 Evl
theorem asInt_eq {v : Value} {i : Int} (h : asInt v = some i) : ∃ t, v = .int i t := by
  cases v <;> simp [asInt] at h
  subst h
  exact ⟨_, rfl⟩
theorem asInts_vals : ∀ {l : List Value} {ns : List Int}, asInts l = some ns → Vals (ns.map V.int) l
  | [], ns, h => by
    cases (Option.some.inj h : [] = ns)
    exact .nil
  | v :: r, ns, h => by
    unfold asInts at h
    split at h
    · rename_i i is h1 h2
      cases (Option.some.inj h : (i :: is) = ns)
      obtain ⟨t, rfl⟩ := asInt_eq h1
      exact .cons ⟨t, rfl⟩ (asInts_vals h2)
    · cases h
theorem asTup_eq {K : Fr_} {v : Value} {l : List Value} (h : asTup K v = some l) : ∃ (a : Addr) (o : Obj) (its : Array Value) (n : Nat), v = .ref a ∧ K.lookup a = some o ∧ o.cls = .type "tuple" ∧ o.data = .seq its n ∧ its.size ≤ 1000 ∧ its.toList = l := by
  unfold asTup at h
  split at h
  · split at h
    · rename_i a _ T dd its n sl e
      split at h
      · rename_i hc
        refine ⟨a, _, its, n, rfl, e, ?_, rfl, hc.2, Option.some.inj h⟩
        rw [hc.1]
      · cases h
    · cases h
  · cases h
theorem asRow_eq {K : Fr_} {v : Value} {ns : List Int} (h : asRow K v = some ns) : ∃ a : Addr, v = .ref a ∧ ∀ H, SqT K H a (ns.map V.int) := by
  unfold asRow at h
  split at h
  · rename_i l e
    obtain ⟨a, o, its, n, rfl, hl, hc, hd, hz, rfl⟩ := asTup_eq e
    exact ⟨a, rfl, fun H => .inr ⟨o, its, n, hl, hc, hd, Nat.le_trans hz (by decide), asInts_vals h⟩⟩
  · cases h
/-- a row of rows -/
def Rws (K : Fr_) (H : Hp) (rs : List Addr) (xss : List (List Int)) : Prop := rs.length = xss.length ∧ ∀ (i : Nat) (r : Addr) (xs : List Int), rs[i]? = some r → xss[i]? = some xs → SqT K H r (xs.map V.int)
theorem asRowsL_eq {K : Fr_} : ∀ {l : List Value} {xss : List (List Int)}, asRowsL K l = some xss → ∃ rs : List Addr, Vals (rs.map V.ref) l ∧ ∀ H, Rws K H rs xss
  | [], xss, h => by
    cases (Option.some.inj h : [] = xss)
    exact ⟨[], .nil, fun H => ⟨rfl, fun i r xs h => by simp at h⟩⟩
  | v :: l, xss, h => by
    unfold asRowsL at h
    split at h
    · rename_i i is h1 h2
      cases (Option.some.inj h : (i :: is) = xss)
      obtain ⟨a, rfl, hs⟩ := asRow_eq h1
      obtain ⟨rs, hv, hr⟩ := asRowsL_eq h2
      refine ⟨a :: rs, .cons rfl hv, fun H => ⟨by rw [List.length_cons, List.length_cons, (hr H).1], fun j r xs e1 e2 => ?_⟩⟩
      cases j with
      | zero =>
        cases (Option.some.inj e1 : a = r)
        cases (Option.some.inj e2 : i = xs)
        exact hs H
      | succ j => exact (hr H).2 j r xs e1 e2
    · cases h
theorem asRows_eq {K : Fr_} {v : Value} {xss : List (List Int)} (h : asRows K v = some xss) : ∃ (a : Addr) (rs : List Addr), v = .ref a ∧ ∀ H, SqT K H a (rs.map V.ref) ∧ Rws K H rs xss := by
  unfold asRows at h
  split at h
  · rename_i l e
    obtain ⟨a, o, its, n, rfl, hl, hc, hd, hz, rfl⟩ := asTup_eq e
    obtain ⟨rs, hv, hr⟩ := asRowsL_eq h
    exact ⟨a, rs, rfl, fun H => ⟨.inr ⟨o, its, n, hl, hc, hd, Nat.le_trans hz (by decide), hv⟩, hr H⟩⟩
  · cases h
theorem entriesI_find : ∀ {es : List DictEntry} {t : List (Int × Value)}, entriesI es = some t → (∀ e ∈ es, ∃ i tk, e.key = .int i tk ∧ e.hash = hashInt i) ∧ ∀ i, (es.find? fun e => Value.isInt i e.key).map (·.val) = t.lookup i
  | [], t, h => by
    cases (Option.some.inj h : [] = t)
    exact ⟨fun e he => (List.not_mem_nil he).elim, fun i => rfl⟩
  | e :: r, t, h => by
    unfold entriesI at h
    split at h
    · rename_i i is h1 h2
      split at h
      · rename_i hh
        cases (Option.some.inj h : ((i, e.val) :: is) = t)
        obtain ⟨tk, hk⟩ := asInt_eq h1
        obtain ⟨a1, a2⟩ := entriesI_find h2
        refine ⟨fun e' he => ?_, fun j => ?_⟩
        · rcases List.mem_cons.mp he with rfl | he
          · exact ⟨i, tk, hk, hh⟩
          · exact a1 e' he
        · rw [List.find?_cons, List.lookup_cons]
          have : Value.isInt j e.key = (i == j) := by rw [hk]; rfl
          rw [this]
          by_cases hij : i = j
          · subst hij
            rw [show (i == i) = true from beq_self_eq_true i]
            rfl
          · rw [show (i == j) = false from beq_eq_false_iff_ne.mpr hij, show (j == i) = false from beq_eq_false_iff_ne.mpr (Ne.symm hij)]
            exact a2 j
      · cases h
    · cases h
section
variable {X : Cx}
/-- d[i] of a written dict -/
def rIxW (K : Fr_) : R2 := fun x y H Q => ∃ (d : Addr) (i : Int) (t : List (Int × Value)) (u0 : Value) (v0 : V), x = .ref d ∧ y = .int i ∧ tabOf K d = some t ∧ t.lookup i = some u0 ∧ RelV v0 u0 ∧ Q v0 H
theorem ix_tab : IxR X (rIxW X.K) := by
  intro value slice pins s σ H x y v u Q I rx ry h hs
  obtain ⟨d, i, t, u0, v0, rfl, rfl, ht, hl, hr, q⟩ := h
  cases rx
  obtain ⟨tk, rfl⟩ := ry
  unfold tabOf at ht
  split at ht
  · rename_i T es n sl hk
    split at ht
    · rename_i hc
      obtain ⟨hT, hsl⟩ := hc
      subst hT hsl
      obtain ⟨a1, a2⟩ := entriesI_find ht
      have hm : s.heap.MapOf (intKind X.prog X.w) d (fun k => findBy Value.isInt es k) :=
        ⟨_, es, n, I.kIn d _ hk, ⟨rfl, rfl, rfl⟩, rfl, fun e he => by
          obtain ⟨j, tk, e1, e2⟩ := a1 e (Array.mem_toList_iff.mpr he)
          exact ⟨j, by rw [e1]; exact intKind_is X.prog X.w j tk, e2⟩, fun _ => rfl⟩
      have hf : (fun k => findBy Value.isInt es k) i = some u0 := by
        show findBy Value.isInt es i = some u0
        unfold findBy
        rw [← Array.find?_toList, a2 i]
        exact hl
      exact tail_any hm.typeIs slot_dict_getitem.lookup (wpAny_getItem_of (intKind_is X.prog X.w i tk) hm hf ⟨v0, H, I.tok _, hr, q⟩) hs
    · cases ht
  · cases ht
end
theorem mapV2_lookup {α β : Type} {f : α → Option β} : ∀ {t : List (Int × α)} {u : List (Int × β)}, mapV2 f t = some u → ∀ i w, u.lookup i = some w → ∃ v, t.lookup i = some v ∧ f v = some w
  | [], u, h, i, w, e => by
    cases (Option.some.inj h : [] = u)
    cases e
  | (j, v) :: r, u, h, i, w, e => by
    unfold mapV2 at h
    split at h
    · rename_i w' is h1 h2
      cases (Option.some.inj h : ((j, w') :: is) = u)
      rw [List.lookup_cons] at e ⊢
      by_cases hij : (i == j) = true
      · rw [hij] at e ⊢
        cases (Option.some.inj e : w' = w)
        exact ⟨v, rfl, h1⟩
      · rw [Bool.not_eq_true] at hij
        rw [hij] at e ⊢
        exact mapV2_lookup h2 i w e
    · cases h
section
variable {K : Fr_} {σ : L2.St} {H H' : Hp} {ta tb : TE}
theorem rv_tab0 {d : Addr} {t : List (Int × Int)} {i w : Int} (h : tab0 K d = some t) (hl : t.lookup i = some w) : RV (rIxW K) (.ref d) (.int i) H (.int w) := fun H1 _ _ q => by
  obtain ⟨t0, h1, h2⟩ := Option.bind_eq_some_iff.mp h
  obtain ⟨v, h3, h4⟩ := mapV2_lookup h2 i w hl
  obtain ⟨tk, rfl⟩ := asInt_eq h4
  exact ⟨d, i, t0, _, .int w, rfl, rfl, h1, h3, ⟨tk, rfl⟩, q H1 (Ex.refl H1)⟩
theorem tab1_get {d : Addr} {t : List (Int × List Int)} {i : Int} {w : List Int} (h : tab1 K d = some t) (hl : t.lookup i = some w) : ∃ a : Addr, (∀ H, SqT K H a (w.map V.int)) ∧ ∀ H, RV (rIxW K) (.ref d) (.int i) H (.ref a) := by
  obtain ⟨t0, h1, h2⟩ := Option.bind_eq_some_iff.mp h
  obtain ⟨v, h3, h4⟩ := mapV2_lookup h2 i w hl
  obtain ⟨a, rfl, hs⟩ := asRow_eq h4
  exact ⟨a, hs, fun H H1 _ _ q => ⟨d, i, t0, _, .ref a, rfl, rfl, h1, h3, rfl, q H1 (Ex.refl H1)⟩⟩
theorem tab2_get {d : Addr} {t : List (Int × List (List Int))} {i : Int} {w : List (List Int)} (h : tab2 K d = some t) (hl : t.lookup i = some w) : ∃ (a : Addr) (rs : List Addr), (∀ H, SqT K H a (rs.map V.ref) ∧ Rws K H rs w) ∧ ∀ H, RV (rIxW K) (.ref d) (.int i) H (.ref a) := by
  obtain ⟨t0, h1, h2⟩ := Option.bind_eq_some_iff.mp h
  obtain ⟨v, h3, h4⟩ := mapV2_lookup h2 i w hl
  obtain ⟨a, rs, rfl, hs⟩ := asRows_eq h4
  exact ⟨a, rs, hs, fun H H1 _ _ q => ⟨d, i, t0, _, .ref a, rfl, rfl, h1, h3, rfl, q H1 (Ex.refl H1)⟩⟩
/-- TAB[i][j], TAB[i][j][k] of written tables -/
theorem ev_tab0 {d : Addr} {t : List (Int × Int)} {i w : Int} (h : tab0 K d = some t) (hl : t.lookup i = some w) (ha : Ev ta σ H (.int i)) : Ev (tOp (rIxW K) (tC (.ref d)) ta) σ H (.int w) := ev_op ev_c ha (rv_tab0 h hl)
theorem ev_tab1 {d : Addr} {t : List (Int × List Int)} {i : Int} {j : Nat} {w : List Int} {x : Int} (h : tab1 K d = some t) (hl : t.lookup i = some w) (hx : w[j]? = some x) (ha : Ev ta σ H (.int i)) (hb : Ev tb σ H (.int (j : Int))) :
    Ev (tOp (rIxT K) (tOp (rIxW K) (tC (.ref d)) ta) tb) σ H (.int x) := by
  obtain ⟨a, hs, hr⟩ := tab1_get h hl
  exact ev_op (ev_op ev_c ha (hr H)) hb (rv_ixT (hs H) (atI_nat (by rw [List.getElem?_map, hx]; rfl)))
theorem ev_tab2 {d : Addr} {t : List (Int × List (List Int))} {i : Int} {j k : Nat} {w : List (List Int)} {xs : List Int} {x : Int} {tc : TE} (h : tab2 K d = some t) (hl : t.lookup i = some w) (hx : w[j]? = some xs) (hy : xs[k]? = some x) (ha : Ev ta σ H (.int i)) (hb : Ev tb σ H (.int (j : Int))) (hc : Ev tc σ H (.int (k : Int))) :
    Ev (tOp (rIxT K) (tOp (rIxT K) (tOp (rIxW K) (tC (.ref d)) ta) tb) tc) σ H (.int x) := by
  obtain ⟨a, rs, hs, hr⟩ := tab2_get h hl
  obtain ⟨h1, h2, h3⟩ := hs H
  have hj : j < rs.length := by rw [h2]; exact (List.getElem?_eq_some_iff.mp hx).1
  exact ev_op (ev_op (ev_op ev_c ha (hr H)) hb (rv_ixT (v := .ref rs[j]) h1 (atI_nat (by rw [List.getElem?_map, List.getElem?_eq_getElem hj]; rfl)))) hc (rv_ixT (h3 j _ xs (List.getElem?_eq_getElem hj) hx) (atI_nat (by rw [List.getElem?_map, hy]; rfl)))
end
end Own
/-! own words: enumerate, ranges by steps and from a place, lists of lists, sorted lists, values that are no integers -/
namespace Own
open PySem PySem.Spec PyProof.Rows L2 Evl
section
variable {K : PySem.W.Frag} {σ : L2.St} {H H' : Hp} {ta tb te : TE} {t : TT} {D : Ends} {tu tz : TS}
theorem for_enum {a : Addr} {xs : List V} {g : TG} {tb : TS} {D : Ends} {σ : L2.St} {H : Hp} (Pv : Nat → L2.St → Hp → Prop) (h0 : Pv 0 σ H) (hl : ∀ i σ H, i ≤ xs.length → Pv i σ H → SqL K H a xs)
    (hs : ∀ i x T σ H, xs[i]? = some x → Pv i σ H → H T = none → g (.ref T) σ (upd H T (.tup [.int (i : Nat), x])) fun σ2 H2 => tb { D with nx := Pv (i + 1), ct := Pv (i + 1), bk := D.nx } σ2 H2) (hd : ∀ σ H, Pv xs.length σ H → D.nx σ H) :
    ∃ W : Nat → Nat → L2.St → Hp → Prop, (∃ m, W 0 m σ H) ∧ ∀ i m σ H, W i m σ H →
      ((Ite K a).stop i H ∧ D.nx σ H) ∨ ((Ite K a).go i H ∧ ∃ N : L2.St → Hp → Prop, (∀ σ' H', N σ' H' → ∃ m', m' < m ∧ W (i + 1) m' σ' H') ∧ ∀ x H', (Ite K a).yld i H x H' → g x σ H' fun σ2 H2 => tb { D with nx := N, ct := N, bk := D.nx } σ2 H2) := by
  refine ⟨fun i m σ H => m = xs.length - i ∧ i ≤ xs.length ∧ Pv i σ H, ⟨xs.length, by simp, Nat.zero_le _, h0⟩, ?_⟩
  rintro i m σ H ⟨rfl, hi, p⟩
  have q := hl i σ H hi p
  by_cases hlt : i < xs.length
  · refine .inr ⟨⟨xs, xs[i], q, by simp [hlt]⟩, Pv (i + 1), fun σ' H' p' => ⟨xs.length - (i + 1), by omega, rfl, hlt, p'⟩, fun x H' y => ?_⟩
    obtain ⟨T, z, rfl, nT, rfl, f⟩ := y
    have hz := f xs q
    exact hs i z T σ H hz p nT
  · exact .inl ⟨⟨xs, q, by omega⟩, by
      have : i = xs.length := by omega
      subst this
      exact hd σ H p⟩
/-- for i, x in enumerate(new list), two names -/
theorem s_forEN {xs : List V} {ta : TE} {i1 i2 : Nat} (h : EvL ta σ H xs) (Pv : Addr → Nat → L2.St → Hp → Prop) (h0 : ∀ p H1, H p = none → Ex H H1 → H1 p = some (.lst xs) → Pv p 0 σ H1) (hl : ∀ p i σ' H', i ≤ xs.length → Pv p i σ' H' → SqL K H' p xs)
    (hs : ∀ p i x σ' H' H2, xs[i]? = some x → Pv p i σ' H' → Ex H' H2 → tu { D with nx := Pv p (i + 1), ct := Pv p (i + 1), bk := D.nx } ((σ'.set i1 (some (.int (i : Nat)))).set i2 (some x)) H2) (hd : ∀ p σ' H', Pv p xs.length σ' H' → D.nx σ' H') :
    tFor (iEnum K (tCons ta tNil)) (gTup K 2 (gCons (gName i1) (gCons (gName i2) gNil))) tu D σ H :=
  h H (Ex.refl H) _ fun p H1 hp e h1 => ⟨p, xs, rfl, sq_of h1, for_enum (xs := xs) (Pv p) (h0 p H1 hp e h1) (hl p) (fun i x T σ' H' hx hp nT => ⟨T, [.int (i : Nat), x], rfl, st_of upd_same, rfl, .int (i : Nat), [x], rfl, x, [], rfl, rfl, hs p i x σ' H' _ hx hp (Ex.new nT)⟩) (hd p)⟩
theorem q_forEN {xs : List V} {ta : TE} {i1 i2 : Nat} (h : EvL ta σ H xs) (Pv : Addr → Nat → L2.St → Hp → Prop) (h0 : ∀ p H1, H p = none → Ex H H1 → H1 p = some (.lst xs) → Pv p 0 σ H1) (hl : ∀ p i σ' H', i ≤ xs.length → Pv p i σ' H' → SqL K H' p xs)
    (hs : ∀ p i x σ' H' H2, xs[i]? = some x → Pv p i σ' H' → Ex H' H2 → tu { D with nx := Pv p (i + 1), ct := Pv p (i + 1), bk := tz D } ((σ'.set i1 (some (.int (i : Nat)))).set i2 (some x)) H2) (hd : ∀ p σ' H', Pv p xs.length σ' H' → tz D σ' H') :
    tSeq (tFor (iEnum K (tCons ta tNil)) (gTup K 2 (gCons (gName i1) (gCons (gName i2) gNil))) tu) tz D σ H := s_forEN (D := { D with nx := tz D }) h Pv h0 hl hs hd
/-- for i in range(a, b, -1) -/
theorem q_forRd {j : Nat} {lo n : Int} {ta : TA} (h : EvA ta σ H [.int lo, .int n, .int (-1)]) (hn : -100000 ≤ lo ∧ lo ≤ 100000 ∧ -100000 ≤ n ∧ n ≤ 100000) (Pv : Nat → L2.St → Hp → Prop) (h0 : ∀ H1, Ex H H1 → Pv 0 σ H1)
    (hs : ∀ (i : Nat) σ' H', (i : Int) < lo - n → Pv i σ' H' → tu { D with nx := Pv (i + 1), ct := Pv (i + 1), bk := tz D } (σ'.set j (some (.int (lo - (i : Int))))) H') (hd : ∀ σ' H', Pv (lo - n).toNat σ' H' → tz D σ' H') : tSeq (tFor (iRng3 ta) (gName j) tu) tz D σ H :=
  h H (Ex.refl H) _ fun H1 e => ⟨lo, n, -1, (lo - n).toNat, rfl, RgC.neg (by omega) (by omega) (by omega) (by omega), for_rangeC (lo := lo) (c := -1) (n := (lo - n).toNat) (D := { D with nx := tz D }) Pv (h0 H1 e) (fun i σ' H' hi p => by
    have e0 : lo + (i : Int) * -1 = lo - (i : Int) := by omega
    show tu { D with nx := Pv (i + 1), ct := Pv (i + 1), bk := tz D } (σ'.set j (some (.int (lo + (i : Int) * -1)))) H'
    rw [e0]
    exact hs i σ' H' (by omega) p) hd⟩
/-- [.. for i in range(lo, n) ..] -/
theorem el_lcR2 {ta : TA} {j : Nat} {vs : List Nat} {lo n : Int} (f : Nat → Bool) (v : Nat → V) (h : EvA ta σ H [.int lo, .int n]) (hn : -100000 ≤ lo ∧ lo ≤ 100000 ∧ n - lo ≤ 40000 ∧ -100000 ≤ n ∧ n ≤ 100000) (hw : ∀ x, wipe ((wipe σ vs).set j (some x)) vs = wipe σ vs)
    (ht : ∀ (i : Nat) H1, Ex H H1 → lo + (i : Int) < n → EvT t ((wipe σ vs).set j (some (.int (lo + (i : Int))))) H1 (f i)) (he : ∀ (i : Nat) H1, Ex H H1 → lo + (i : Int) < n → f i = true → Ev te ((wipe σ vs).set j (some (.int (lo + (i : Int))))) H1 (v i)) :
    EvL (tLc (iRng2 ta) (gName j) t te vs) σ H (given (n - lo).toNat f v) := fun H0 e Q q => h H0 e _ fun H1 e1 => ⟨lo, n, rfl, ⟨by omega, by omega, by omega, by omega⟩, fun Dl hD =>
  lc_range (lo := lo) (n := (n - lo).toNat) (Cw H1 f v Dl) ⟨hD, Ex.new hD, upd_same⟩ (fun i H' hi p => ⟨hw _, cw_turn p (by omega) (ht i H1 (e.trans e1) (by omega)) (fun hf => he i H1 (e.trans e1) (by omega) hf)⟩) (fun H' p => q Dl H' (fresh_back e1 p.1) (e1.trans p.2.1) p.2.2)⟩
/-- a new list of new lists -/
def EvLL (te : TE) (σ : L2.St) (H : Hp) (xss : List (List V)) : Prop := ∀ H1, Ex H H1 → ∀ Q : VK, (∀ (p : Addr) (rs : List Addr) H2, H1 p = none → Ex H1 H2 → H2 p = some (.lst (rs.map V.ref)) → rs.length = xss.length → (∀ (i : Nat) (r : Addr) (xs : List V), rs[i]? = some r → xss[i]? = some xs → H1 r = none ∧ H2 r = some (.lst xs)) → Q (.ref p) H2) → te σ H1 Q
theorem ell_is {xs ys : List (List V)} (h : EvLL te σ H xs) (e : xs = ys) : EvLL te σ H ys := e ▸ h
def LLw (H : Hp) (xss : List (List V)) (Dl : Addr) (i : Nat) (H' : Hp) : Prop := H Dl = none ∧ Ex H H' ∧ ∃ rs : List Addr, rs.length = i ∧ H' Dl = some (.lst (rs.map V.ref)) ∧ ∀ (k : Nat) (r : Addr) (xs : List V), rs[k]? = some r → xss[k]? = some xs → H r = none ∧ H' r = some (.lst xs) ∧ r ≠ Dl
theorem llw_turn {σ2 : L2.St} {xss : List (List V)} {Dl : Addr} {i : Nat} {xs : List V} (p : LLw H xss Dl i H') (hi : i < 50000) (hx : xss[i]? = some xs) (he : EvL te σ2 H xs) :
    tYes σ2 H' fun b H3 => if b = true then te σ2 H3 fun y H4 => ∃ acc, H4 Dl = some (.lst acc) ∧ acc.length < sizeLine ∧ LLw H xss Dl (i + 1) (upd H4 Dl (.lst (acc ++ [y]))) else LLw H xss Dl (i + 1) H3 := by
  obtain ⟨p1, p2, rs, p3, p4, p5⟩ := p
  show (if true = true then _ else LLw H xss Dl (i + 1) H')
  rw [if_pos rfl]
  refine (he H' p2 _ fun q H4 hq e4 h4 => ⟨rs.map V.ref, e4 _ _ p4, by rw [List.length_map]; exact sz_lt (by omega), p1, Ex.mut (p2.trans e4) p1, rs ++ [q], by rw [List.length_append, p3]; rfl, ?_, fun k r xs' hk hxk => ?_⟩)
  · rw [upd_same, List.map_append]
    rfl
  · by_cases hkr : k < rs.length
    · rw [List.getElem?_append_left hkr] at hk
      obtain ⟨a1, a2, a3⟩ := p5 k r xs' hk hxk
      exact ⟨a1, by rw [upd_ne a3]; exact e4 _ _ a2, a3⟩
    · rw [List.getElem?_append_right (by omega)] at hk
      have hk0 : k - rs.length = 0 := by
        have := (List.getElem?_eq_some_iff.mp hk).1
        rw [List.length_singleton] at this
        omega
      rw [hk0] at hk
      cases (Option.some.inj hk : q = r)
      have hki : k = i := by omega
      subst hki
      cases (Option.some.inj (hx.symm.trans hxk) : xs = xs')
      have hqD : q ≠ Dl := fun z => by
        subst z
        rw [hq] at p4
        cases p4
      exact ⟨fresh_back p2 hq, by rw [upd_ne hqD]; exact h4, hqD⟩
theorem ell_lcR1 {ta : TA} {j : Nat} {vs : List Nat} {n : Nat} {xss : List (List V)} (h : EvA ta σ H [.int (n : Int)]) (hn : n ≤ 40000) (hl : xss.length = n) (hw : ∀ x, wipe ((wipe σ vs).set j (some x)) vs = wipe σ vs)
    (he : ∀ (i : Nat) (xs : List V) H1, Ex H H1 → i < n → xss[i]? = some xs → EvL te ((wipe σ vs).set j (some (.int (i : Int)))) H1 xs) :
    EvLL (tLc (iRng1 ta) (gName j) tYes te vs) σ H xss := fun H0 e Q q => h H0 e _ fun H1 e1 => ⟨(n : Int), rfl, by omega, by omega, fun Dl hD => by
  rw [Int.toNat_natCast]
  refine lc_range (lo := 0) (n := n) (LLw H1 xss Dl) ⟨hD, Ex.new hD, [], rfl, upd_same, fun k r xs hk => by simp at hk⟩ (fun i H' hi p => ?_) (fun H' p => ?_)
  · have e0 : (0 : Int) + (i : Int) = (i : Int) := Int.zero_add _
    show wipe ((wipe σ vs).set j (some (.int ((0 : Int) + (i : Int))))) vs = wipe σ vs ∧ tYes ((wipe σ vs).set j (some (.int ((0 : Int) + (i : Int))))) H' fun b H3 => if b = true then te ((wipe σ vs).set j (some (.int ((0 : Int) + (i : Int))))) H3 fun y H4 => ∃ acc, H4 Dl = some (.lst acc) ∧ acc.length < sizeLine ∧ LLw H1 xss Dl (i + 1) (upd H4 Dl (.lst (acc ++ [y]))) else LLw H1 xss Dl (i + 1) H3
    rw [e0]
    have hx : xss[i]? = some xss[i] := List.getElem?_eq_getElem (by omega)
    exact ⟨hw _, llw_turn p (by omega) hx (he i _ H1 (e.trans e1) hi hx)⟩
  · obtain ⟨p1, p2, rs, p3, p4, p5⟩ := p
    exact q Dl rs H' (fresh_back e1 p1) (e1.trans p2) p4 (by omega) fun i r xs hr hx => ⟨fresh_back e1 (p5 i r xs hr hx).1, (p5 i r xs hr hx).2.1⟩⟩
/-- list(range(lo, n)) -/
theorem el_listR1 {n : Nat} (h : Ev ta σ H (.int (n : Int))) (hn : n ≤ 100000) : EvL (tLstRg (tRg1 ta)) σ H (rgV 0 (n : Int)) := fun H1 e Q q =>
  h H1 e _ fun H2 e2 => ⟨(n : Int), rfl, RgOk.of_le (by omega) (by omega) (by omega) (by omega), fun l hl => q l _ (fresh_back e2 hl) (e2.trans (Ex.new hl)) upd_same⟩
theorem el_listR2 {lo n : Nat} (h : Ev ta σ H (.int (lo : Int))) (h2 : Ev tb σ H (.int (n : Int))) (hn : n ≤ 100000) (hlo : lo ≤ 100000) : EvL (tLstRg (tRg2 ta tb)) σ H (rgV (lo : Int) (n : Int)) := fun H1 e Q q =>
  h H1 e _ fun H2 e2 => h2 H2 (e.trans e2) _ fun H3 e3 => ⟨(lo : Int), (n : Int), rfl, rfl, RgOk.of_le (by omega) (by omega) (by omega) (by omega), fun l hl => q l _ (fresh_back (e2.trans e3) hl) ((e2.trans e3).trans (Ex.new hl)) upd_same⟩
/-- sorted(..) of a list whose order is known -/
theorem el_sorted {a : Addr} {ns ts : List Int} (h : Ev ta σ H (.ref a)) (hx : SqL K H a (ns.map V.int)) (hp : ts.Perm ns) (hs : ts.Pairwise (· ≤ ·)) : EvL (tCB (rSortedI K) (tCons ta tNil)) σ H (ts.map V.int) := fun H1 e Q q =>
  h H1 e _ fun H2 e2 => ⟨a, ns, rfl, ex_l (e.trans e2) hx, fun ns' p p1 p2 hp' => by
    have : ns' = ts := PySem.W.ksm_same (p1.trans hp.symm) p2 hs
    subst this
    exact q p _ (fresh_back e2 hp') (e2.trans (Ex.new hp')) upd_same⟩
/-- what isinstance(.., int) and the rest of is_integer say of a value -/
inductive IntB (K : PySem.W.Frag) (H : Hp) : V → Bool → Prop
  | int (i : Int) : IntB K H (.int i) (decide (i.natAbs < 10 ^ 60))
  | bl (b : Bool) : IntB K H (.bl b) false
  | other {v : V} (n : String) (h : TyX K H v (.type n)) (hk : PySem.W.kitOne K (.type n) (.type "int") = some false) : IntB K H v false
theorem IntB.ex {v : V} {b : Bool} (e : Ex H H') (h : IntB K H v b) : IntB K H' v b := by
  cases h with
  | int i => exact .int i
  | bl b => exact .bl b
  | other n h hk => exact .other n (tyx_ex e h) hk
end
end Own
/-! own words that the laws share -/
namespace Own
open PySem PySem.Spec PyProof.Rows L2 Evl
theorem mapN (xs : List Nat) : xs.map N_ = (xs.map Int.ofNat).map V.int := by
  rw [List.map_map]
  rfl
theorem sumN : ∀ (xs : List Nat), (xs.map Int.ofNat).sum = ((xs.sum : Nat) : Int)
  | [] => rfl
  | x :: r => by
    rw [List.map_cons, List.sum_cons, List.sum_cons, sumN r]
    show (x : Int) + _ = _
    omega
theorem divW {x : Nat} {b : Nat} (h0 : 0 < b) (hb : b ≤ 1000) : CDivW (x : Int) (b : Int) := wide_div (b := 10) (by omega) (by show (Int.natAbs (b : Int)) < 1024; omega) (by decide) (by decide)
theorem int_div (x b : Nat) : (x : Int) / (b : Int) = ((x / b : Nat) : Int) := rfl
theorem int_mod (x b : Nat) : (x : Int) % (b : Int) = ((x % b : Nat) : Int) := rfl
def Bs (b : Nat) : Prop := 2 ≤ b ∧ b ≤ 1000
abbrev Gt (n : Nat) : Prop := n < 2 ^ 400
theorem dec_int {x y : Nat} : decide (V.int (x : Int) = V.int (y : Int)) = decide (x = y) := by
  by_cases h : x = y
  · subst h
    rw [decide_eq_true rfl, decide_eq_true rfl]
  · rw [decide_eq_false h, decide_eq_false (fun z => h (by have := V.int.inj z; omega))]
theorem minmax (M : Nat) (hM : 1 ≤ M ∧ M ≤ 60) (L : Nat) : ∃ n : Nat, n ≤ 100 ∧ (if (if (L : Int) < (M : Int) then (L : Int) else (M : Int)) > 1 then (if (L : Int) < (M : Int) then (L : Int) else (M : Int)) else 1) = (n : Int) := by
  have hz : ∀ z : Int, 0 ≤ z → z ≤ 60 → ∃ n : Nat, n ≤ 100 ∧ (if z > 1 then z else 1) = (n : Int) := fun z h0 h6 => by
    by_cases h : z > 1
    · exact ⟨z.toNat, by omega, by rw [if_pos h]; omega⟩
    · exact ⟨1, by omega, by rw [if_neg h]; rfl⟩
  refine hz _ ?_ ?_
  · split <;> omega
  · split <;> omega
theorem exd_lf {K : PySem.W.Frag} {H H' : Hp} {p a : Addr} {xs : List V} (n : H p = none) (e : Exd p H H') (h : SqL K H a xs) : SqL K H' a xs := by
  rcases h with (h | ⟨o, h⟩) | h
  · exact .inl (.inl (e a _ (ne_of_none h n) h))
  · exact .inl (.inr ⟨o, e a _ (ne_of_none h n) h⟩)
  · exact .inr h
theorem rep_zero (c : Nat) : (List.replicate c [V.int 0]).flatten = (List.replicate c 0).map N_ := by
  induction c with
  | zero => rfl
  | succ c ih =>
    rw [List.replicate_succ, List.flatten_cons, ih, List.replicate_succ, List.map_cons]
    rfl
theorem od_drop {b : Nat} {xs : List Nat} {i d : Nat} (hi : i < xs.length) (hd : xs.reverse[i]? = some d) : od b (xs.drop (xs.length - (i + 1))) = d + b * od b (xs.drop (xs.length - i)) := by
  have h1 : xs.reverse[i]? = xs[xs.length - 1 - i]? := List.getElem?_reverse hi
  rw [h1] at hd
  have h2 : xs.length - (i + 1) = xs.length - 1 - i := by omega
  have h3 : xs.length - 1 - i < xs.length := by omega
  rw [h2, List.drop_eq_getElem_cons h3, od]
  rw [List.getElem?_eq_getElem h3] at hd
  rw [Option.some.inj hd, show xs.length - 1 - i + 1 = xs.length - i by omega]
theorem cutTake (xs : List V) (f : Nat) : cutV xs none (some (f : Int)) = xs.take f := by
  unfold cutV
  rw [HT.sIx_none, show HT.sIx xs.length xs.length (some (f : Int)) = min f xs.length from HT.sIx_nat xs.length xs.length f, List.drop_zero, Nat.sub_zero]
  by_cases h : f ≤ xs.length
  · rw [Nat.min_eq_left h]
  · rw [Nat.min_eq_right (by omega), List.take_length, List.take_of_length_le (by omega)]
section
variable {K : PySem.W.Frag} {σ : L2.St} {H H' : Hp} {ta tb te : TE}
theorem el_revN {xs : List V} (h : EvL ta σ H xs) : EvL (tRevL K ta) σ H xs.reverse := fun H1 e Q q =>
  h H1 e _ fun a H2 na e2 h2 => ⟨a, xs, rfl, sq_of h2, fun l hl => q l _ (fresh_back e2 hl) (e2.trans (Ex.new hl)) upd_same⟩
end
theorem small_k {n : Nat} (h : n ≤ 1000) : n < 2 ^ 1000 := Nat.lt_of_le_of_lt h (Nat.lt_of_lt_of_le (show 1000 < 2 ^ 10 by decide) (Nat.pow_le_pow_right (by decide) (by decide : 10 ≤ 1000)))
end Own
/-! mathematics of digits, more: no carries by rests, blocks of digits, shifts; core Lean alone -/
namespace Own
/-- numbers without carries in base b -/
def CF (b : Nat) (xs : List Nat) : Prop := (xs.map (ds b)).sum = ds b xs.sum
def rsum (m : Nat) (xs : List Nat) : Nat := (xs.map (· % m)).sum
theorem mod_split {b : Nat} (hb : 1 < b) (x i : Nat) : x % b ^ (i + 1) = x % b + b * ((x / b) % b ^ i) := by
  rw [Nat.pow_succ, Nat.mul_comm, Nat.mod_mul]
theorem rsum_split {b : Nat} (hb : 1 < b) (i : Nat) : ∀ xs : List Nat, rsum (b ^ (i + 1)) xs = rsum b xs + b * rsum (b ^ i) (xs.map (· / b))
  | [] => rfl
  | x :: r => by
    have ih := rsum_split hb i r
    unfold rsum at ih ⊢
    simp only [List.map_cons, List.sum_cons]
    rw [ih, mod_split hb x i, Nat.mul_add]
    omega
theorem rsum_one (xs : List Nat) : rsum 1 xs = 0 := by
  unfold rsum
  induction xs with
  | nil => rfl
  | cons a r ih => rw [List.map_cons, List.sum_cons, ih, Nat.mod_one]
theorem sum_div_le {b : Nat} (hb : 1 < b) (xs : List Nat) : 2 * (xs.map (· / b)).sum ≤ xs.sum := by
  have h := sum_split hb xs
  have : 2 * (xs.map (· / b)).sum ≤ b * (xs.map (· / b)).sum := Nat.mul_le_mul_right _ hb
  omega
theorem rsum_zero {m : Nat} : ∀ xs : List Nat, xs.sum = 0 → rsum m xs = 0
  | [], _ => rfl
  | x :: r, h => by
    rw [List.sum_cons] at h
    have hx : x = 0 := by omega
    have := rsum_zero (m := m) r (by omega)
    unfold rsum at this ⊢
    rw [List.map_cons, List.sum_cons, this, hx, Nat.zero_mod]
theorem nc_rsum {b : Nat} (hb : 1 < b) : ∀ (n : Nat) (xs : List Nat), xs.sum ≤ n → (nc b n xs = true ↔ ∀ i, rsum (b ^ i) xs < b ^ i)
  | 0, xs, h => by
    refine ⟨fun _ i => ?_, fun _ => rfl⟩
    rw [rsum_zero xs (by omega)]
    exact Nat.pow_pos (by omega)
  | n + 1, xs, h => by
    have hq : (xs.map (· / b)).sum ≤ n := by
      have := sum_div_le hb xs
      omega
    have ih := nc_rsum hb n (xs.map (· / b)) hq
    unfold nc
    rw [Bool.and_eq_true, decide_eq_true_eq, ih]
    constructor
    · intro ⟨h1, h2⟩ i
      cases i with
      | zero =>
        rw [Nat.pow_zero, rsum_one]
        exact Nat.zero_lt_one
      | succ i =>
        rw [rsum_split hb i xs, Nat.pow_succ]
        have h3 := h2 i
        have h4 : b * (rsum (b ^ i) (xs.map (· / b)) + 1) ≤ b * b ^ i := Nat.mul_le_mul_left b h3
        have h5 : rsum b xs < b := h1
        rw [Nat.mul_add] at h4
        rw [Nat.mul_comm (b ^ i) b]
        omega
    · intro h2
      refine ⟨?_, fun i => ?_⟩
      · have := h2 1
        rw [Nat.pow_one] at this
        exact this
      · have h3 := h2 (i + 1)
        rw [rsum_split hb i xs, Nat.pow_succ, Nat.mul_comm (b ^ i) b] at h3
        exact Nat.lt_of_mul_lt_mul_left (show b * rsum (b ^ i) (xs.map (· / b)) < b * b ^ i by omega)
/-- no carries: the rests modulo each power of the base add up to less than this power -/
theorem cf_rsum {b : Nat} (hb : 1 < b) (xs : List Nat) : CF b xs ↔ ∀ i, rsum (b ^ i) xs < b ^ i := (nc_iff hb xs.sum xs (Nat.le_refl _)).symm.trans (nc_rsum hb xs.sum xs (Nat.le_refl _))
/-- blocks of f digits -/
theorem cf_block {p f : Nat} (hp : 1 < p) (hf : 1 ≤ f) {xs : List Nat} (h : CF p xs) : CF (p ^ f) xs := by
  have hq : 1 < p ^ f := Nat.lt_of_lt_of_le hp (by
    have := Nat.pow_le_pow_right (show 0 < p by omega) hf
    rwa [Nat.pow_one] at this)
  refine (cf_rsum hq xs).mpr fun i => ?_
  rw [← Nat.pow_mul]
  exact (cf_rsum hp xs).mp h (f * i)
theorem ds_mulb {b : Nat} (hb : 1 < b) (x : Nat) : ds b (b * x) = ds b x := by
  rw [ds_eq hb (b * x), Nat.mul_mod_right, Nat.mul_div_cancel_left _ (by omega), Nat.zero_add]
theorem ds_mulp {b : Nat} (hb : 1 < b) (x : Nat) : ∀ j, ds b (b ^ j * x) = ds b x
  | 0 => by rw [Nat.pow_zero, Nat.one_mul]
  | j + 1 => by rw [Nat.pow_succ, Nat.mul_comm (b ^ j) b, Nat.mul_assoc, ds_mulb hb, ds_mulp hb x j]
theorem sum_mul (c : Nat) : ∀ xs : List Nat, (xs.map (c * ·)).sum = c * xs.sum
  | [] => rfl
  | x :: r => by rw [List.map_cons, List.sum_cons, List.sum_cons, sum_mul c r, Nat.mul_add]
theorem cf_shift {p : Nat} (hp : 1 < p) (j : Nat) {xs : List Nat} (h : CF p xs) : CF p (xs.map (p ^ j * ·)) := by
  unfold CF at h ⊢
  rw [sum_mul, ds_mulp hp, ← h, List.map_map]
  exact congrArg List.sum (List.map_congr_left fun x _ => ds_mulp hp x j)
/-- shift sums add up -/
theorem ss_add {p f : Nat} (hp : 1 < p) (hf : 1 ≤ f) (j : Nat) {xs : List Nat} (h : CF p xs) : (xs.map fun x => ds (p ^ f) (p ^ j * x)).sum = ds (p ^ f) (p ^ j * xs.sum) := by
  have h1 := cf_block hp hf (cf_shift hp j h)
  unfold CF at h1
  rw [sum_mul, List.map_map] at h1
  exact h1
/-- a sum of digits and its number leave equal rests -/
theorem ds_mod {b : Nat} (hb : 1 < b) (n : Nat) : ds b n % (b - 1) = n % (b - 1) := by
  induction n using Nat.strongRecOn with
  | ind n ih =>
    by_cases hn : 0 < n
    · have h1 := ih _ (Nat.div_lt_self hn hb)
      rw [ds_eq hb n, Nat.add_mod, h1, ← Nat.add_mod]
      have e : n = n % b + n / b + (b - 1) * (n / b) := by
        have h2 := Nat.mod_add_div n b
        have h3 : b * (n / b) = (b - 1) * (n / b) + n / b := by
          have : b = (b - 1) + 1 := by omega
          rw [this, Nat.add_mul, Nat.one_mul, Nat.add_sub_cancel]
        omega
      have h4 : (n % b + n / b + (b - 1) * (n / b)) % (b - 1) = (n % b + n / b) % (b - 1) := Nat.add_mul_mod_self_left _ _ _
      rw [← e] at h4
      exact h4.symm
    · have : n = 0 := by omega
      subst this
      rw [ds_zero]
theorem ds_ne {b : Nat} (hb : 1 < b) {n : Nat} (hn : 0 < n) : 0 < ds b n := by
  induction n using Nat.strongRecOn with
  | ind n ih =>
    rw [ds_eq hb n]
    by_cases h : n % b = 0
    · have h1 := Nat.mod_add_div n b
      have h2 : 0 < n / b := by
        rcases Nat.eq_zero_or_pos (n / b) with h0 | h0
        · rw [h0, h] at h1
          omega
        · exact h0
      have := ih _ (Nat.div_lt_self hn hb) h2
      omega
    · omega
/-- a multiple of b - 1 above 0 has a sum of digits of at least b - 1 -/
theorem ds_ge {b : Nat} (hb : 1 < b) {n : Nat} (hn : 0 < n) (h : n % (b - 1) = 0) : b - 1 ≤ ds b n := by
  have h1 := ds_mod hb n
  rw [h] at h1
  have h2 := ds_ne hb hn
  exact Nat.le_of_dvd h2 (Nat.dvd_of_mod_eq_zero h1)
/-- rows of digits -/
theorem ds_od {b : Nat} (hb : 1 < b) : ∀ es : List Nat, (∀ e ∈ es, e < b) → ds b (od b es) = es.sum
  | [], _ => ds_zero b
  | e :: r, h => by
    have he := h e (List.mem_cons_self ..)
    rw [od, ds_eq hb, Nat.add_mul_mod_self_left, Nat.mod_eq_of_lt he, Nat.add_mul_div_left _ _ (by omega), Nat.div_eq_of_lt he, Nat.zero_add, ds_od hb r fun x hx => h x (List.mem_cons_of_mem _ hx), List.sum_cons]
/-- a row within another one, place by place -/
inductive Le2 : List Nat → List Nat → Prop
  | nil : Le2 [] []
  | cons {e d : Nat} {es ds_ : List Nat} (h : e ≤ d) (r : Le2 es ds_) : Le2 (e :: es) (d :: ds_)
theorem Le2.snoc {e d : Nat} : ∀ {es xs : List Nat}, Le2 es xs → e ≤ d → Le2 (es ++ [e]) (xs ++ [d])
  | _, _, .nil, h => .cons h .nil
  | _, _, .cons h1 r, h => .cons h1 (r.snoc h)
theorem le2_parts {b : Nat} (hb : 1 < b) : ∀ {es xs : List Nat}, Le2 es xs → (∀ d ∈ xs, d < b) → od b es ≤ od b xs ∧ ds b (od b es) + ds b (od b xs - od b es) = ds b (od b xs)
  | _, _, .nil, _ => ⟨Nat.le_refl _, by rw [show od b [] = 0 from rfl, Nat.sub_zero, ds_zero]⟩
  | e :: es, d :: xs, .cons h r, hx => by
    have hd := hx d (List.mem_cons_self ..)
    obtain ⟨h1, h2⟩ := le2_parts hb r fun z hz => hx z (List.mem_cons_of_mem _ hz)
    have h3 : b * od b es ≤ b * od b xs := Nat.mul_le_mul_left b h1
    refine ⟨by rw [od, od]; omega, ?_⟩
    have e1 : od b (d :: xs) - od b (e :: es) = (d - e) + b * (od b xs - od b es) := by
      rw [od, od, Nat.mul_sub]
      omega
    rw [e1, od, od]
    have step : ∀ (u v : Nat), u < b → ds b (u + b * v) = u + ds b v := fun u v hu => by
      rw [ds_eq hb, Nat.add_mul_mod_self_left, Nat.mod_eq_of_lt hu, Nat.add_mul_div_left _ _ (by omega), Nat.div_eq_of_lt hu, Nat.zero_add]
    rw [step e _ (by omega), step (d - e) _ (by omega), step d _ hd]
    omega
/-- the last one of numbers without carries may be parted once more -/
theorem cf_part {b : Nat} (hb : 1 < b) {xs : List Nat} {y z : Nat} (h : CF b (xs ++ [y])) (hz : z ≤ y) (hd : ds b z + ds b (y - z) = ds b y) : CF b (xs ++ [z] ++ [y - z]) := by
  unfold CF at h ⊢
  simp only [List.map_append, List.sum_append, List.map_cons, List.map_nil, List.sum_cons, List.sum_nil, Nat.add_zero] at h ⊢
  rw [show xs.sum + z + (y - z) = xs.sum + y by omega]
  omega
theorem cf_single (b x : Nat) : CF b [x] := by
  unfold CF
  simp
end Own
/-! mathematics of partings: digits at places, taken away from above as far as the shift sums let; core Lean alone -/
namespace Own
abbrev PL := List (Nat × Nat)
/-- the weight of a digit at place a in the shift sum j -/
def wt (p f j a : Nat) : Nat := p ^ ((a + j) % f)
def sj (p f j : Nat) (L : PL) : Nat := (L.map fun x => x.1 * wt p f j x.2).sum
def nl (p : Nat) (L : PL) : Nat := (L.map fun x => x.1 * p ^ x.2).sum
def cl (L : PL) : Nat := (L.map (·.1)).sum
/-- places fall, digits below p -/
inductive Vd (p : Nat) : PL → Prop
  | nil : Vd p []
  | cons {c a : Nat} {L : PL} (h : c < p) (hL : ∀ x ∈ L, x.2 < a) (r : Vd p L) : Vd p ((c, a) :: L)
theorem sj_cons (p f j c a : Nat) (L : PL) : sj p f j ((c, a) :: L) = c * wt p f j a + sj p f j L := by
  unfold sj
  rw [List.map_cons, List.sum_cons]
theorem nl_cons (p c a : Nat) (L : PL) : nl p ((c, a) :: L) = c * p ^ a + nl p L := by
  unfold nl
  rw [List.map_cons, List.sum_cons]
theorem cl_cons (c a : Nat) (L : PL) : cl ((c, a) :: L) = c + cl L := by
  unfold cl
  rw [List.map_cons, List.sum_cons]
theorem nl_lt {p : Nat} (hp : 1 < p) {L : PL} (h : Vd p L) : ∀ m, (∀ x ∈ L, x.2 < m) → nl p L < p ^ m := by
  induction h with
  | nil =>
    intro m _
    show 0 < _
    exact Nat.pow_pos (by omega)
  | @cons c a L hc hL r ih =>
    intro m hm
    have h1 := ih a hL
    have h2 : a < m := hm _ (List.mem_cons_self ..)
    rw [nl_cons]
    have h3 : c * p ^ a + p ^ a ≤ p ^ (a + 1) := by
      rw [Nat.pow_succ, Nat.mul_comm (p ^ a) p, ← Nat.succ_mul]
      exact Nat.mul_le_mul_right _ hc
    have h4 : p ^ (a + 1) ≤ p ^ m := Nat.pow_le_pow_right (by omega) h2
    omega
/-- digits above and below a place -/
theorem ds_high {b : Nat} (hb : 1 < b) (c : Nat) : ∀ (m r : Nat), r < b ^ m → ds b (c * b ^ m + r) = ds b c + ds b r
  | 0, r, h => by
    have : r = 0 := by rw [Nat.pow_zero] at h; omega
    subst this
    rw [Nat.pow_zero, Nat.mul_one, Nat.add_zero, ds_zero, Nat.add_zero]
  | m + 1, r, h => by
    have h1 : r / b < b ^ m := by
      rw [Nat.pow_succ] at h
      exact Nat.div_lt_of_lt_mul (by rw [Nat.mul_comm]; exact h)
    have ih := ds_high hb c m (r / b) h1
    have e : c * b ^ (m + 1) + r = r % b + b * (c * b ^ m + r / b) := by
      have h2 := Nat.mod_add_div r b
      rw [Nat.mul_add, Nat.pow_succ]
      have : c * (b ^ m * b) = b * (c * b ^ m) := by
        rw [← Nat.mul_assoc, Nat.mul_comm]
      omega
    have hm := Nat.mod_lt r (show 0 < b by omega)
    rw [e, ds_eq hb, Nat.add_mul_mod_self_left, Nat.mod_eq_of_lt hm, Nat.add_mul_div_left _ _ (by omega), Nat.div_eq_of_lt hm, Nat.zero_add, ih, ds_eq hb r]
    omega
theorem ds_small {b : Nat} (hb : 1 < b) {x : Nat} (h : x < b) : ds b x = x := by
  rw [ds_eq hb, Nat.mod_eq_of_lt h, Nat.div_eq_of_lt h, ds_zero, Nat.add_zero]
theorem ds_term {b : Nat} (hb : 1 < b) {c : Nat} (h : c < b) (a : Nat) : ds b (c * b ^ a) = c := by
  rw [Nat.mul_comm, ds_mulp hb, ds_small hb h]
theorem ds_nl {p : Nat} (hp : 1 < p) {L : PL} (h : Vd p L) : ds p (nl p L) = cl L := by
  induction h with
  | nil => exact ds_zero p
  | @cons c a L hc hL r ih => rw [nl_cons, cl_cons, ds_high hp c a _ (nl_lt hp r a hL), ih, ds_small hp hc]
theorem cf_two {b x y : Nat} (h : ds b x + ds b y = ds b (x + y)) : CF b [x, y] := by
  unfold CF
  simp only [List.map_cons, List.map_nil, List.sum_cons, List.sum_nil, Nat.add_zero]
  exact h
theorem ss_two {p f : Nat} (hp : 1 < p) (hf : 1 ≤ f) (j : Nat) {x y : Nat} (h : ds p x + ds p y = ds p (x + y)) : ds (p ^ f) (p ^ j * x) + ds (p ^ f) (p ^ j * y) = ds (p ^ f) (p ^ j * (x + y)) := by
  have h1 := ss_add hp hf j (cf_two h)
  simp only [List.map_cons, List.map_nil, List.sum_cons, List.sum_nil, Nat.add_zero] at h1
  exact h1
theorem q_gt {p f : Nat} (hp : 1 < p) (hf : 1 ≤ f) : 1 < p ^ f := Nat.lt_of_lt_of_le hp (by
  have := Nat.pow_le_pow_right (show 0 < p by omega) hf
  rwa [Nat.pow_one] at this)
theorem ds_wt {p f : Nat} (hp : 1 < p) (hf : 1 ≤ f) (j : Nat) {c : Nat} (hc : c < p) (a : Nat) : ds (p ^ f) (p ^ j * (c * p ^ a)) = c * wt p f j a := by
  have hq := q_gt hp hf
  have e : p ^ j * (c * p ^ a) = (p ^ f) ^ ((a + j) / f) * (c * p ^ ((a + j) % f)) := by
    have h1 := Nat.div_add_mod (a + j) f
    have h2 : p ^ j * (c * p ^ a) = c * p ^ (a + j) := by
      rw [Nat.pow_add]
      simp only [Nat.mul_comm, Nat.mul_left_comm]
    rw [h2, ← Nat.pow_mul, Nat.mul_left_comm, ← Nat.pow_add, h1]
  rw [e, ds_mulp hq]
  refine ds_small hq ?_
  have h3 : (a + j) % f < f := Nat.mod_lt _ (by omega)
  have h4 : p ^ ((a + j) % f + 1) ≤ p ^ f := Nat.pow_le_pow_right (by omega) h3
  have h5 : 0 < p ^ ((a + j) % f) := Nat.pow_pos (by omega)
  have h6 : c * p ^ ((a + j) % f) < p * p ^ ((a + j) % f) := Nat.mul_lt_mul_of_pos_right hc h5
  rw [Nat.pow_succ, Nat.mul_comm (p ^ ((a + j) % f)) p] at h4
  omega
/-- the shift sums of a number, by its digits -/
theorem sj_ds {p f : Nat} (hp : 1 < p) (hf : 1 ≤ f) (j : Nat) {L : PL} (h : Vd p L) : sj p f j L = ds (p ^ f) (p ^ j * nl p L) := by
  induction h with
  | nil =>
    show 0 = ds (p ^ f) (p ^ j * 0)
    rw [Nat.mul_zero, ds_zero]
  | @cons c a L hc hL r ih =>
    rw [sj_cons, nl_cons, ← ss_two hp hf j, ds_wt hp hf j hc, ih]
    rw [ds_high hp c a _ (nl_lt hp r a hL), ds_term hp hc, ds_small hp hc]
/-! taking away -/
def minN : List Nat → Nat
  | [] => 0
  | [x] => x
  | x :: y :: r => min x (minN (y :: r))
theorem minN_mem : ∀ xs : List Nat, xs ≠ [] → minN xs ∈ xs
  | [], h => absurd rfl h
  | [x], _ => List.mem_cons_self ..
  | x :: y :: r, _ => by
    have ih := minN_mem (y :: r) (by simp)
    show min x (minN (y :: r)) ∈ x :: y :: r
    rcases Nat.le_total x (minN (y :: r)) with h | h
    · rw [Nat.min_eq_left h]
      exact List.mem_cons_self ..
    · rw [Nat.min_eq_right h]
      exact List.mem_cons_of_mem _ ih
theorem minN_le : ∀ (xs : List Nat) (y : Nat), y ∈ xs → minN xs ≤ y
  | [], y, h => by simp at h
  | [x], y, h => by
    rw [List.mem_singleton.mp h]
    exact Nat.le_refl _
  | x :: z :: r, y, h => by
    show min x (minN (z :: r)) ≤ y
    rcases List.mem_cons.mp h with h | h
    · rw [h]
      exact Nat.min_le_left _ _
    · exact Nat.le_trans (Nat.min_le_right _ _) (minN_le (z :: r) y h)
def wl (p f a : Nat) : List Nat := (List.range f).map fun j => wt p f j a
/-- as much of the digit c at place a as the spare sums let -/
def cutN (p f c a : Nat) (sp : List Nat) : Nat := minN (c :: (List.range f).map fun j => sp.getD j 0 / wt p f j a)
def lessN (p f n a : Nat) (sp : List Nat) : List Nat := (List.range f).map fun j => sp.getD j 0 - n * wt p f j a
structure Lw where
  L : PL
  sp : List Nat
  tk : Nat
  mn : Nat
def chooseN : Nat → Nat → Nat
  | _, 0 => 1
  | 0, _ + 1 => 0
  | n + 1, k + 1 => chooseN n k + chooseN n (k + 1)
def low (p f : Nat) : PL → List Nat → Lw
  | [], sp => ⟨[], sp, 0, 1⟩
  | (c, a) :: L, sp =>
    if minN sp = 0 then ⟨(c, a) :: L, sp, 0, 1⟩ else
      let n := cutN p f c a sp
      let r := low p f L (lessN p f n a sp)
      ⟨if n < c then (c - n, a) :: r.L else r.L, r.sp, n * p ^ a + r.tk, (if n < c then chooseN c n else 1) * r.mn⟩
theorem cut_le (p f c a : Nat) (sp : List Nat) : cutN p f c a sp ≤ c := minN_le _ _ (List.mem_cons_self ..)
theorem wt_pos {p f j a : Nat} (hp : 1 < p) : 0 < wt p f j a := Nat.pow_pos (by omega)
theorem cut_mul {p f c a : Nat} {sp : List Nat} (hp : 1 < p) {j : Nat} (hj : j < f) : cutN p f c a sp * wt p f j a ≤ sp.getD j 0 := by
  have h : cutN p f c a sp ≤ sp.getD j 0 / wt p f j a := minN_le _ _ (List.mem_cons_of_mem _ (List.mem_map.mpr ⟨j, List.mem_range.mpr hj, rfl⟩))
  exact (Nat.le_div_iff_mul_le (wt_pos hp)).mp h
theorem cut_lt {p f c a : Nat} {sp : List Nat} (hp : 1 < p) (h : cutN p f c a sp < c) : ∃ j, j < f ∧ sp.getD j 0 < cutN p f c a sp * wt p f j a + wt p f j a := by
  have hm := minN_mem (c :: (List.range f).map fun j => sp.getD j 0 / wt p f j a) (by simp)
  rcases List.mem_cons.mp hm with e | e
  · have : cutN p f c a sp = c := e
    omega
  · obtain ⟨j, hj, e2⟩ := List.mem_map.mp e
    refine ⟨j, List.mem_range.mp hj, ?_⟩
    have e3 : sp.getD j 0 / wt p f j a = cutN p f c a sp := e2
    have := Nat.lt_div_mul_add (a := sp.getD j 0) (wt_pos (p := p) (f := f) (j := j) (a := a) hp)
    rw [e3] at this
    exact this
theorem less_get {p f n a : Nat} {sp : List Nat} {j : Nat} (hj : j < f) : (lessN p f n a sp).getD j 0 = sp.getD j 0 - n * wt p f j a := by
  unfold lessN
  rw [List.getD_eq_getElem?_getD, List.getElem?_map, List.getElem?_range hj]
  rfl
theorem less_len (p f n a : Nat) (sp : List Nat) : (lessN p f n a sp).length = f := by
  unfold lessN
  rw [List.length_map, List.length_range]
structure LowOk (p f : Nat) (L : PL) (sp : List Nat) (r : Lw) : Prop where
  eq : ∀ j, j < f → sp.getD j 0 + sj p f j r.L = r.sp.getD j 0 + sj p f j L
  nm : nl p L = nl p r.L + r.tk
  dg : cl L = cl r.L + ds p r.tk
  vd : Vd p r.L
  ps : ∀ x ∈ r.L, ∃ y ∈ L, y.2 = x.2
  po : ∀ x ∈ r.L, 0 < x.1
  le : ∀ j, j < f → r.sp.getD j 0 ≤ sp.getD j 0
  ln : r.sp.length = f
  st : minN r.sp = 0 ∨ ∀ x ∈ r.L, ∃ j, j < f ∧ r.sp.getD j 0 < wt p f j x.2
theorem low_ok {p f : Nat} (hp : 1 < p) : ∀ {L : PL} {sp : List Nat}, Vd p L → (∀ x ∈ L, 0 < x.1) → sp.length = f → LowOk p f L sp (low p f L sp)
  | [], sp, _, _, hl => ⟨fun _ _ => rfl, rfl, (by show 0 = 0 + ds p 0; rw [ds_zero]), .nil, (fun x h => nomatch h), (fun x h => nomatch h), fun _ _ => Nat.le_refl _, hl, .inr (fun x h => nomatch h)⟩
  | (c, a) :: L, sp, .cons hc hL r, h0, hl => by
    by_cases hz : minN sp = 0
    · have e : low p f ((c, a) :: L) sp = ⟨(c, a) :: L, sp, 0, 1⟩ := by
        rw [low, if_pos hz]
      rw [e]
      exact ⟨fun _ _ => rfl, rfl, (by show cl ((c, a) :: L) = cl ((c, a) :: L) + ds p 0; rw [ds_zero]; rfl), .cons hc hL r, fun x h => ⟨x, h, rfl⟩, h0, fun _ _ => Nat.le_refl _, hl, .inl hz⟩
    · have ih := low_ok hp (L := L) (sp := lessN p f (cutN p f c a sp) a sp) r (fun x h => h0 x (List.mem_cons_of_mem _ h)) (less_len ..)
      have e : low p f ((c, a) :: L) sp = ⟨if cutN p f c a sp < c then (c - cutN p f c a sp, a) :: (low p f L (lessN p f (cutN p f c a sp) a sp)).L else (low p f L (lessN p f (cutN p f c a sp) a sp)).L, (low p f L (lessN p f (cutN p f c a sp) a sp)).sp, cutN p f c a sp * p ^ a + (low p f L (lessN p f (cutN p f c a sp) a sp)).tk, (if cutN p f c a sp < c then chooseN c (cutN p f c a sp) else 1) * (low p f L (lessN p f (cutN p f c a sp) a sp)).mn⟩ := by
        rw [low, if_neg hz]
      rw [e]
      have hn := cut_le p f c a sp
      have hm : ∀ j, j < f → cutN p f c a sp * wt p f j a ≤ sp.getD j 0 := fun j hj => cut_mul hp hj
      have hlt := fun h => cut_lt (p := p) (f := f) (c := c) (a := a) (sp := sp) hp h
      generalize cutN p f c a sp = n at ih hn hm hlt ⊢
      generalize low p f L (lessN p f n a sp) = R at ih ⊢
      obtain ⟨i1, i2, i3, i4, i5, i6, i7, i8, i9⟩ := ih
      have hRa : ∀ x ∈ R.L, x.2 < a := fun x hx => by
        obtain ⟨y, hy, e⟩ := i5 x hx
        rw [← e]
        exact hL y hy
      have htk : R.tk < p ^ a := Nat.lt_of_le_of_lt (by rw [i2]; exact Nat.le_add_left ..) (nl_lt hp r a hL)
      have hds : ds p (n * p ^ a + R.tk) = n + ds p R.tk := by rw [ds_high hp n a _ htk, ds_small hp (by omega)]
      have hcn : c * p ^ a = (c - n) * p ^ a + n * p ^ a := by rw [← Nat.add_mul, Nat.sub_add_cancel hn]
      by_cases hlt2 : n < c
      · simp only [if_pos hlt2]
        refine ⟨fun j hj => ?_, ?_, ?_, .cons (by omega) hRa i4, fun x hx => ?_, fun x hx => ?_, fun j hj => ?_, i8, ?_⟩
        · have h1 := i1 j hj
          rw [less_get hj] at h1
          have h2 := hm j hj
          have h3 : c * wt p f j a = (c - n) * wt p f j a + n * wt p f j a := by rw [← Nat.add_mul, Nat.sub_add_cancel hn]
          show sp.getD j 0 + sj p f j ((c - n, a) :: R.L) = R.sp.getD j 0 + sj p f j ((c, a) :: L)
          rw [sj_cons, sj_cons]
          omega
        · show nl p ((c, a) :: L) = nl p ((c - n, a) :: R.L) + (n * p ^ a + R.tk)
          rw [nl_cons, nl_cons]
          omega
        · show cl ((c, a) :: L) = cl ((c - n, a) :: R.L) + ds p (n * p ^ a + R.tk)
          rw [cl_cons, cl_cons, hds]
          omega
        · rcases List.mem_cons.mp hx with rfl | hx
          · exact ⟨(c, a), List.mem_cons_self .., rfl⟩
          · obtain ⟨y, hy, e⟩ := i5 x hx
            exact ⟨y, List.mem_cons_of_mem _ hy, e⟩
        · rcases List.mem_cons.mp hx with rfl | hx
          · show 0 < c - n
            omega
          · exact i6 x hx
        · have h1 := i7 j hj
          rw [less_get hj] at h1
          show R.sp.getD j 0 ≤ sp.getD j 0
          omega
        · rcases i9 with h | h
          · exact .inl h
          · refine .inr fun x hx => ?_
            rcases List.mem_cons.mp hx with rfl | hx
            · obtain ⟨j, hj, h1⟩ := hlt hlt2
              refine ⟨j, hj, ?_⟩
              have h2 := i7 j hj
              rw [less_get hj] at h2
              have h3 := hm j hj
              show R.sp.getD j 0 < wt p f j a
              omega
            · exact h x hx
      · simp only [if_neg hlt2]
        have hnc : n = c := by omega
        subst hnc
        refine ⟨fun j hj => ?_, ?_, ?_, i4, fun x hx => ?_, i6, fun j hj => ?_, i8, i9⟩
        · have h1 := i1 j hj
          rw [less_get hj] at h1
          have h2 := hm j hj
          rw [sj_cons]
          show sp.getD j 0 + sj p f j R.L = R.sp.getD j 0 + (n * wt p f j a + sj p f j L)
          omega
        · rw [nl_cons]
          show n * p ^ a + nl p L = nl p R.L + (n * p ^ a + R.tk)
          omega
        · show cl ((n, a) :: L) = cl R.L + ds p (n * p ^ a + R.tk)
          rw [cl_cons, hds]
          omega
        · obtain ⟨y, hy, e⟩ := i5 x hx
          exact ⟨y, List.mem_cons_of_mem _ hy, e⟩
        · have h1 := i7 j hj
          rw [less_get hj] at h1
          show R.sp.getD j 0 ≤ sp.getD j 0
          omega
/-- the digits of one class of places -/
def ac (f t : Nat) (L : PL) : Nat := (L.map fun x => if x.2 % f = t then x.1 else 0).sum
theorem ac_cons (f t c a : Nat) (L : PL) : ac f t ((c, a) :: L) = (if a % f = t then c else 0) + ac f t L := by
  unfold ac
  rw [List.map_cons, List.sum_cons]
theorem ac_mem {f t : Nat} : ∀ {L : PL}, 0 < ac f t L → ∃ x ∈ L, x.2 % f = t
  | [], h => absurd h (by show ¬ 0 < 0; omega)
  | (c, a) :: L, h => by
    by_cases ha : a % f = t
    · exact ⟨(c, a), List.mem_cons_self .., ha⟩
    · rw [ac_cons, if_neg ha, Nat.zero_add] at h
      obtain ⟨x, hx, e⟩ := ac_mem h
      exact ⟨x, List.mem_cons_of_mem _ hx, e⟩
theorem wt_mod (p f j a : Nat) : wt p f j a = p ^ ((a % f + j) % f) := by
  unfold wt
  rw [Nat.mod_add_mod]
theorem sj1 (p : Nat) : ∀ L : PL, sj p 1 0 L = ac 1 0 L
  | [] => rfl
  | (c, a) :: L => by
    rw [sj_cons, ac_cons, sj1 p L, wt_mod, if_pos (Nat.mod_one a), Nat.mod_one, Nat.pow_zero, Nat.mul_one]
theorem sj2 (p : Nat) : ∀ L : PL, sj p 2 0 L = ac 2 0 L + p * ac 2 1 L ∧ sj p 2 1 L = p * ac 2 0 L + ac 2 1 L
  | [] => ⟨rfl, rfl⟩
  | (c, a) :: L => by
    obtain ⟨h0, h1⟩ := sj2 p L
    have hm : a % 2 = 0 ∨ a % 2 = 1 := by omega
    rw [sj_cons, sj_cons, ac_cons, ac_cons, h0, h1, wt_mod, wt_mod]
    rcases hm with e | e <;> rw [e] <;> simp [Nat.mul_add, Nat.mul_comm] <;> omega
theorem sj3 (p : Nat) : ∀ L : PL, sj p 3 0 L = ac 3 0 L + p * ac 3 1 L + p ^ 2 * ac 3 2 L ∧ sj p 3 1 L = p * ac 3 0 L + p ^ 2 * ac 3 1 L + ac 3 2 L ∧ sj p 3 2 L = p ^ 2 * ac 3 0 L + ac 3 1 L + p * ac 3 2 L
  | [] => ⟨rfl, rfl, rfl⟩
  | (c, a) :: L => by
    obtain ⟨h0, h1, h2⟩ := sj3 p L
    have hm : a % 3 = 0 ∨ a % 3 = 1 ∨ a % 3 = 2 := by omega
    rw [sj_cons, sj_cons, sj_cons, ac_cons, ac_cons, ac_cons, h0, h1, h2, wt_mod, wt_mod, wt_mod]
    rcases hm with e | e | e <;> rw [e] <;> simp [Nat.mul_add, Nat.mul_comm] <;> omega
/-- p and f of the seven fields -/
inductive PFq : Nat → Nat → Prop
  | one {p : Nat} (h : 1 < p) : PFq p 1
  | four : PFq 2 2
  | nine : PFq 3 2
  | eight : PFq 2 3
theorem min_pos {sp : List Nat} (h : minN sp ≠ 0) {j : Nat} (hj : j < sp.length) : 0 < sp.getD j 0 := by
  have := minN_le sp (sp.getD j 0) (by rw [List.getD_eq_getElem?_getD, List.getElem?_eq_getElem hj]; exact List.getElem_mem hj)
  omega
/-- what is left stops at 0 -/
theorem low_zero {p f m : Nat} (hpf : PFq p f) {L : PL} {sp : List Nat} (hl : sp.length = f) (hm : 1 ≤ m) (he : ∀ j, j < f → sp.getD j 0 + (p ^ f - 1) * m = sj p f j L) (hs : minN sp = 0 ∨ ∀ x ∈ L, ∃ j, j < f ∧ sp.getD j 0 < wt p f j x.2) : minN sp = 0 := by
  rcases hs with h | hs
  · exact h
  · by_cases h0 : minN sp = 0
    · exact h0
    · exfalso
      have st : ∀ t, 0 < ac f t L → ∃ j, j < f ∧ sp.getD j 0 < p ^ ((t + j) % f) := fun t ht => by
        obtain ⟨x, hx, e⟩ := ac_mem ht
        obtain ⟨j, hj, h1⟩ := hs x hx
        rw [wt_mod, e] at h1
        exact ⟨j, hj, h1⟩
      have pos : ∀ j, j < f → 0 < sp.getD j 0 := fun j hj => min_pos h0 (by omega)
      generalize sp.getD = g at he st pos
      cases hpf with
      | one hp =>
        have e0 := he 0 (by omega)
        have p0 := pos 0 (by omega)
        rw [sj1] at e0
        obtain ⟨j, hj, h1⟩ := st 0 (by omega)
        have : j = 0 := by omega
        subst this
        simp at h1
        omega
      | four =>
        have e0 := he 0 (by omega)
        have e1 := he 1 (by omega)
        have p0 := pos 0 (by omega)
        have p1 := pos 1 (by omega)
        rw [(sj2 2 L).1] at e0
        rw [(sj2 2 L).2] at e1
        have s0 : 0 < ac 2 0 L → g 1 0 < 2 := fun h => by
          obtain ⟨j, hj, h1⟩ := st 0 h
          have : j = 0 ∨ j = 1 := by omega
          rcases this with rfl | rfl <;> simp at h1 <;> omega
        have s1 : 0 < ac 2 1 L → g 0 0 < 2 := fun h => by
          obtain ⟨j, hj, h1⟩ := st 1 h
          have : j = 0 ∨ j = 1 := by omega
          rcases this with rfl | rfl <;> simp at h1 <;> omega
        generalize ac 2 0 L = A at *
        generalize ac 2 1 L = B at *
        omega
      | nine =>
        have e0 := he 0 (by omega)
        have e1 := he 1 (by omega)
        have p0 := pos 0 (by omega)
        have p1 := pos 1 (by omega)
        rw [(sj2 3 L).1] at e0
        rw [(sj2 3 L).2] at e1
        have s0 : 0 < ac 2 0 L → g 1 0 < 3 := fun h => by
          obtain ⟨j, hj, h1⟩ := st 0 h
          have : j = 0 ∨ j = 1 := by omega
          rcases this with rfl | rfl <;> simp at h1 <;> omega
        have s1 : 0 < ac 2 1 L → g 0 0 < 3 := fun h => by
          obtain ⟨j, hj, h1⟩ := st 1 h
          have : j = 0 ∨ j = 1 := by omega
          rcases this with rfl | rfl <;> simp at h1 <;> omega
        generalize ac 2 0 L = A at *
        generalize ac 2 1 L = B at *
        generalize g 0 0 = x at *
        generalize g 1 0 = y at *
        simp only [Nat.reducePow, Nat.reduceSub] at e0 e1
        by_cases hA : A = 0
        · by_cases hB : B = 0
          · omega
          · have : x = 1 ∨ x = 2 := by omega
            rcases this with rfl | rfl <;> omega
        · have hy : y = 1 ∨ y = 2 := by omega
          by_cases hB : B = 0
          · rcases hy with rfl | rfl <;> omega
          · have hx : x = 1 ∨ x = 2 := by omega
            rcases hy with rfl | rfl <;> rcases hx with rfl | rfl <;> omega
      | eight =>
        have e0 := he 0 (by omega)
        have e1 := he 1 (by omega)
        have e2 := he 2 (by omega)
        have p0 := pos 0 (by omega)
        have p1 := pos 1 (by omega)
        have p2 := pos 2 (by omega)
        rw [(sj3 2 L).1] at e0
        rw [(sj3 2 L).2.1] at e1
        rw [(sj3 2 L).2.2] at e2
        have three : ∀ j, j < 3 → j = 0 ∨ j = 1 ∨ j = 2 := fun j h => by omega
        have s0 : 0 < ac 3 0 L → g 1 0 < 2 ∨ g 2 0 < 4 := fun h => by
          obtain ⟨j, hj, h1⟩ := st 0 h
          rcases three j hj with rfl | rfl | rfl <;> simp at h1 <;> omega
        have s1 : 0 < ac 3 1 L → g 0 0 < 2 ∨ g 1 0 < 4 := fun h => by
          obtain ⟨j, hj, h1⟩ := st 1 h
          rcases three j hj with rfl | rfl | rfl <;> simp at h1 <;> omega
        have s2 : 0 < ac 3 2 L → g 0 0 < 4 ∨ g 2 0 < 2 := fun h => by
          obtain ⟨j, hj, h1⟩ := st 2 h
          rcases three j hj with rfl | rfl | rfl <;> simp at h1 <;> omega
        generalize ac 3 0 L = A at *
        generalize ac 3 1 L = B at *
        generalize ac 3 2 L = C at *
        generalize g 0 0 = x at *
        generalize g 1 0 = y at *
        generalize g 2 0 = z at *
        simp only [Nat.reducePow, Nat.reduceSub] at e0 e1 e2
        clear hs he st pos h0
        have hA : A = 0 ∨ y = 1 ∨ z = 1 ∨ z = 2 ∨ z = 3 := by omega
        have hB : B = 0 ∨ x = 1 ∨ y = 1 ∨ y = 2 ∨ y = 3 := by omega
        have hC : C = 0 ∨ z = 1 ∨ x = 1 ∨ x = 2 ∨ x = 3 := by omega
        clear s0 s1 s2
        rcases hA with h | h | h | h | h <;> rcases hB with k | k | k | k | k <;> rcases hC with l | l | l | l | l <;> subst_vars <;> omega
end Own
/-! partings: the chain of least numbers, and its differences; core Lean alone -/
namespace Own
theorem PFq.p {p f : Nat} (h : PFq p f) : 1 < p ∧ 1 ≤ f ∧ f ≤ 3 := by
  cases h with
  | one h => exact ⟨h, by omega, by omega⟩
  | four => exact ⟨by omega, by omega, by omega⟩
  | nine => exact ⟨by omega, by omega, by omega⟩
  | eight => exact ⟨by omega, by omega, by omega⟩
/-- a shift sum that q - 1 divides tells that q - 1 divides the number -/
theorem dvd_ss {p f j n m : Nat} (hp : 1 < p) (hf : 1 ≤ f) (hj : j < f) (h : ds (p ^ f) (p ^ j * n) = (p ^ f - 1) * m) : n % (p ^ f - 1) = 0 := by
  have hq := q_gt hp hf
  have h1 := ds_mod hq (p ^ j * n)
  rw [h, Nat.mul_mod_right] at h1
  have h2 : (p ^ f - 1) ∣ p ^ j * n := Nat.dvd_of_mod_eq_zero h1.symm
  have h3 : (p ^ f - 1) ∣ p ^ (f - j) * (p ^ j * n) := Nat.dvd_mul_left_of_dvd h2 _
  have h4 : p ^ (f - j) * (p ^ j * n) = (p ^ f - 1) * n + n := by
    rw [← Nat.mul_assoc, ← Nat.pow_add, Nat.sub_add_cancel (Nat.le_of_lt hj), ← Nat.succ_mul]
    congr 1
    omega
  rw [h4] at h3
  exact Nat.mod_eq_zero_of_dvd ((Nat.dvd_add_right (Nat.dvd_mul_right _ _)).mp h3)
/-- the least shift sum of b is just m times q - 1 -/
def Mn (p f m b : Nat) : Prop := (∀ j, j < f → (p ^ f - 1) * m ≤ ds (p ^ f) (p ^ j * b)) ∧ ∃ j, j < f ∧ ds (p ^ f) (p ^ j * b) = (p ^ f - 1) * m
/-- b is left of a -/
def Lft (p a b : Nat) : Prop := b ≤ a ∧ ds p a = ds p b + ds p (a - b)
def FI (p f d k : Nat) (xs : List Nat) : Prop := ∀ i, i < xs.length → Lft p ((k :: xs).getD i 0) (xs.getD i 0) ∧ Mn p f (d - i) (xs.getD i 0)
structure Stt (p f : Nat) (m : Nat) (L : PL) (sp : List Nat) (n : Nat) : Prop where
  vd : Vd p L
  po : ∀ x ∈ L, 0 < x.1
  ln : sp.length = f
  nm : nl p L = n
  eq : ∀ j, j < f → sp.getD j 0 + (p ^ f - 1) * m = sj p f j L
def moreN (s : Nat) (sp : List Nat) : List Nat := sp.map (· + s)
theorem more_get {s : Nat} {sp : List Nat} {j : Nat} (h : j < sp.length) : (moreN s sp).getD j 0 = sp.getD j 0 + s := by
  unfold moreN
  rw [List.getD_eq_getElem?_getD, List.getD_eq_getElem?_getD, List.getElem?_map, List.getElem?_eq_getElem h]
  rfl
theorem step_ok {p f m : Nat} (hpf : PFq p f) {L : PL} {sp : List Nat} {n : Nat} (h : Stt p f (m + 1) L sp n) :
    Stt p f m (low p f L sp).L (moreN (p ^ f - 1) (low p f L sp).sp) (nl p (low p f L sp).L) ∧ Lft p n (nl p (low p f L sp).L) ∧ Mn p f (m + 1) (nl p (low p f L sp).L) ∧ n = nl p (low p f L sp).L + (low p f L sp).tk := by
  obtain ⟨hp, hf, hf3⟩ := hpf.p
  have r := low_ok (f := f) hp h.vd h.po h.ln
  generalize low p f L sp = R at r ⊢
  have he : ∀ j, j < f → R.sp.getD j 0 + (p ^ f - 1) * (m + 1) = sj p f j R.L := fun j hj => by
    have h1 := r.eq j hj
    have h2 := h.eq j hj
    omega
  have hz := low_zero hpf (sp := R.sp) (L := R.L) (m := m + 1) r.ln (by omega) he r.st
  have hs : ∀ j, j < f → ds (p ^ f) (p ^ j * nl p R.L) = R.sp.getD j 0 + (p ^ f - 1) * (m + 1) := fun j hj => by rw [← sj_ds hp hf j r.vd, he j hj]
  have hne : R.sp ≠ [] := fun z => by
    have h1 := r.ln
    rw [z] at h1
    have : ([] : List Nat).length = 0 := rfl
    omega
  obtain ⟨j0, hj0, e0⟩ := List.getElem_of_mem (minN_mem R.sp hne)
  have hj0f : j0 < f := by rw [← r.ln]; exact hj0
  have e1 : R.sp.getD j0 0 = 0 := by
    rw [List.getD_eq_getElem?_getD, List.getElem?_eq_getElem hj0, ← hz, ← e0]
    rfl
  have hn := h.nm
  have hnm := r.nm
  refine ⟨⟨r.vd, r.po, by unfold moreN; rw [List.length_map]; exact r.ln, rfl, fun j hj => ?_⟩, ⟨by omega, ?_⟩, ⟨fun j hj => ?_, j0, hj0f, ?_⟩, by omega⟩
  · rw [more_get (by rw [r.ln]; exact hj), ← he j hj, Nat.mul_succ]
    omega
  · have h3 : n - nl p R.L = R.tk := by omega
    rw [h3, ← hn, ds_nl hp h.vd, ds_nl hp r.vd]
    exact r.dg
  · rw [hs j hj]
    omega
  · rw [hs j0 hj0f, e1, Nat.zero_add]
theorem getD_app {xs : List Nat} {x i : Nat} (h : i < xs.length) : (xs ++ [x]).getD i 0 = xs.getD i 0 := by
  rw [List.getD_eq_getElem?_getD, List.getD_eq_getElem?_getD, List.getElem?_append_left h]
theorem getD_last (xs : List Nat) (x : Nat) : (xs ++ [x]).getD xs.length 0 = x := by
  rw [List.getD_eq_getElem?_getD, List.getElem?_append_right (Nat.le_refl _), Nat.sub_self]
  rfl
theorem fi_snoc {p f d k x : Nat} {xs : List Nat} (h : FI p f d k xs) (h1 : Lft p ((k :: xs).getD xs.length 0) x) (h2 : Mn p f (d - xs.length) x) : FI p f d k (xs ++ [x]) := by
  intro i hi
  rw [List.length_append, List.length_singleton] at hi
  by_cases hlt : i < xs.length
  · have h3 := h i hlt
    rw [getD_app hlt]
    have e : (k :: (xs ++ [x])).getD i 0 = (k :: xs).getD i 0 := by
      show ((k :: xs) ++ [x]).getD i 0 = _
      exact getD_app (by rw [List.length_cons]; omega)
    rw [e]
    exact h3
  · have hie : i = xs.length := by omega
    subst hie
    rw [getD_last]
    have e : (k :: (xs ++ [x])).getD xs.length 0 = (k :: xs).getD xs.length 0 := by
      show ((k :: xs) ++ [x]).getD xs.length 0 = _
      exact getD_app (by rw [List.length_cons]; omega)
    rw [e]
    exact ⟨h1, h2⟩
/-- the differences of s 0, s 1, .., s n -/
def difs (s : Nat → Nat) (n : Nat) : List Nat := (List.range n).map fun i => s i - s (i + 1)
theorem difs_succ (s : Nat → Nat) (n : Nat) : difs s (n + 1) = difs s n ++ [s n - s (n + 1)] := by
  unfold difs
  rw [List.range_succ, List.map_append]
  rfl
theorem difs_sum (s : Nat → Nat) : ∀ n, (∀ i, i < n → s (i + 1) ≤ s i) → (difs s n).sum + s n = s 0
  | 0, _ => by
    show 0 + s 0 = s 0
    omega
  | n + 1, h => by
    have h1 := difs_sum s n fun i hi => h i (by omega)
    have h2 := h n (by omega)
    rw [difs_succ, List.sum_append, List.sum_singleton]
    omega
theorem difs_ds {p : Nat} (s : Nat → Nat) : ∀ n, (∀ i, i < n → ds p (s i) = ds p (s (i + 1)) + ds p (s i - s (i + 1))) → ((difs s n).map (ds p)).sum + ds p (s n) = ds p (s 0)
  | 0, _ => by
    show 0 + ds p (s 0) = ds p (s 0)
    omega
  | n + 1, h => by
    have h1 := difs_ds s n fun i hi => h i (by omega)
    have h2 := h n (by omega)
    rw [difs_succ, List.map_append, List.sum_append]
    simp only [List.map_cons, List.map_nil, List.sum_cons, List.sum_nil]
    omega
/-- the parting of a chain -/
def seqN (k : Nat) (xs : List Nat) (i : Nat) : Nat := (k :: xs ++ [0]).getD i 0
def partN (k : Nat) (xs : List Nat) : List Nat := (difs (seqN k xs) (xs.length + 1)).reverse
/-- what a parting is -/
structure Prt (p s d k : Nat) (ms : List Nat) : Prop where
  len : ms.length = d + 1
  sum : ms.sum = k
  dg : (ms.map (ds p)).sum = ds p k
  mul : ∀ i, i < d → 0 < ms.getD i 0 ∧ ms.getD i 0 % s = 0
theorem seq_lo {k : Nat} {xs : List Nat} {i : Nat} (h : i ≤ xs.length) : seqN k xs i = (k :: xs).getD i 0 := by
  unfold seqN
  exact getD_app (xs := k :: xs) (by rw [List.length_cons]; omega)
theorem seq_hi (k : Nat) (xs : List Nat) : seqN k xs (xs.length + 1) = 0 := by
  unfold seqN
  exact getD_last (k :: xs) 0
theorem seq_step {p f d k : Nat} {xs : List Nat} (h : FI p f d k xs) (hl : xs.length = d) : ∀ i, i < d + 1 → seqN k xs (i + 1) ≤ seqN k xs i ∧ ds p (seqN k xs i) = ds p (seqN k xs (i + 1)) + ds p (seqN k xs i - seqN k xs (i + 1)) := by
  intro i hi
  by_cases hid : i < d
  · obtain ⟨⟨h1, h2⟩, _⟩ := h i (by omega)
    rw [seq_lo (i := i) (by omega), seq_lo (i := i + 1) (by omega)]
    have e : (k :: xs).getD (i + 1) 0 = xs.getD i 0 := by simp [List.getD_eq_getElem?_getD]
    rw [e]
    exact ⟨h1, h2⟩
  · have : i = d := by omega
    subst this
    rw [← hl, seq_hi]
    refine ⟨Nat.zero_le _, ?_⟩
    rw [ds_zero, Nat.sub_zero, Nat.zero_add]
theorem mn_mul {p f m b : Nat} (hpf : PFq p f) (h : Mn p f m b) : b % (p ^ f - 1) = 0 := by
  obtain ⟨hp, hf, _⟩ := hpf.p
  obtain ⟨_, j, hj, e⟩ := h
  exact dvd_ss hp hf hj e
theorem prt_of {p f d k : Nat} (hpf : PFq p f) {xs : List Nat} (h : FI p f d k xs) (hl : xs.length = d) : Prt p (p ^ f - 1) d k (partN k xs) := by
  obtain ⟨hp, hf, _⟩ := hpf.p
  have st := seq_step h hl
  have hlen : (difs (seqN k xs) (d + 1)).length = d + 1 := by unfold difs; rw [List.length_map, List.length_range]
  have hp2 : partN k xs = (difs (seqN k xs) (d + 1)).reverse := by unfold partN; rw [hl]
  have hz : seqN k xs (d + 1) = 0 := by rw [← hl]; exact seq_hi k xs
  have h0 : seqN k xs 0 = k := rfl
  refine ⟨by rw [hp2, List.length_reverse, hlen], ?_, ?_, fun i hi => ?_⟩
  · have := difs_sum (seqN k xs) (d + 1) fun i hi => (st i hi).1
    rw [hp2, List.sum_reverse]
    omega
  · have := difs_ds (p := p) (seqN k xs) (d + 1) fun i hi => (st i hi).2
    rw [hz, ds_zero, h0] at this
    rw [hp2, List.map_reverse, List.sum_reverse]
    omega
  · have e : (partN k xs).getD i 0 = seqN k xs (d - i) - seqN k xs (d - i + 1) := by
      rw [hp2, List.getD_eq_getElem?_getD, List.getElem?_reverse (by rw [hlen]; omega), hlen]
      unfold difs
      rw [List.getElem?_map, List.getElem?_range (by omega), show d + 1 - 1 - i = d - i by omega]
      rfl
    rw [e]
    -- s (d - i) is of the chain, and s (d - i + 1) is of the chain or 0
    have g : ∀ t, t < d → seqN k xs (t + 1) = xs.getD t 0 ∧ Mn p f (d - t) (seqN k xs (t + 1)) := fun t ht => by
      have h3 : seqN k xs (t + 1) = xs.getD t 0 := by
        rw [seq_lo (by omega)]
        simp [List.getD_eq_getElem?_getD]
      exact ⟨h3, h3 ▸ (h t (by omega)).2⟩
    obtain ⟨_, ma⟩ := g (d - i - 1) (by omega)
    rw [show d - i - 1 + 1 = d - i by omega, show d - (d - i - 1) = i + 1 by omega] at ma
    have hle := (st (d - i) (by omega)).1
    have da := mn_mul hpf ma
    have hq := q_gt hp hf
    by_cases hi0 : i = 0
    · subst hi0
      rw [Nat.sub_zero, hz, Nat.sub_zero]
      refine ⟨?_, by rw [Nat.sub_zero] at da; exact da⟩
      obtain ⟨_, j, hj, e1⟩ := ma
      rcases Nat.eq_zero_or_pos (seqN k xs d) with z | z
      · exfalso
        rw [Nat.sub_zero, z, Nat.mul_zero, ds_zero, Nat.zero_add, Nat.mul_one] at e1
        omega
      · exact z
    · obtain ⟨_, mb⟩ := g (d - i) (by omega)
      rw [show d - (d - i) = i by omega] at mb
      have db := mn_mul hpf mb
      refine ⟨?_, ?_⟩
      · rcases Nat.eq_zero_or_pos (seqN k xs (d - i) - seqN k xs (d - i + 1)) with z | z
        · exfalso
          have e2 : seqN k xs (d - i) = seqN k xs (d - i + 1) := by omega
          obtain ⟨hb1, _⟩ := ma
          obtain ⟨_, j, hj, e3⟩ := mb
          have h5 := hb1 j hj
          rw [e2, e3, Nat.mul_succ] at h5
          omega
        · exact z
      · exact Nat.sub_mod_eq_zero_of_mod_eq (by rw [da, db])
end Own
/-! own rules: zip of a list and a tuple -/
namespace Own
open PySem PySem.Spec PyProof.Rows L2 Evl
/-- what zip asks of a thing that it walks: its iterator at turn i, its items -/
structure Kd where
  St : Heap → Addr → Addr → Nat → Prop
  Sq : Heap → Addr → Array Value → Prop
structure KdOk (κ : Kd) : Prop where
  stay : ∀ {h h' : Heap} {a l : Addr} {i : Nat}, κ.St h a l i → (∀ o, h.get? a = some o → h'.get? a = some o) → κ.St h' a l i
  seq : ∀ {h h' : Heap} {l : Addr} {xs : Array Value}, κ.Sq h l xs → (∀ o, h.get? l = some o → h'.get? l = some o) → κ.Sq h' l xs
  here : ∀ {h : Heap} {a l : Addr} {i : Nat}, κ.St h a l i → ∃ o, h.get? a = some o ∧ ∀ v, o.data ≠ .cell v
  nxt : ∀ {P : Program} {w : World} {A : Around} {E : Value → Shared → Prop} {s : Shared} {a l : Addr} {i : Nat} {xs : Array Value} {x : Value} {Q : Value → Shared → Prop}, κ.St s.heap a l i → κ.Sq s.heap l xs → xs[i]? = some x →
    (∀ h', κ.St h' a l (i + 1) → Heap.SameBut a s.heap h' → Q x { s with heap := h' }) → wpAny (model P w) A (Builtin.SmallTypes.nextOf (.ref a)) Q E s
  out : ∀ {P : Program} {w : World} {A : Around} {E : Value → Shared → Prop} {s : Shared} {a l : Addr} {i : Nat} {xs : Array Value} {Q : Value → Shared → Prop}, A.handled = none → κ.St s.heap a l i → κ.Sq s.heap l xs → xs[i]? = none →
    (∀ h' e, Heap.ExtBut a s.heap h' → (∃ o, h'.get? e = some o ∧ o.cls = .type "StopIteration") → E (.ref e) { s with heap := h' }) → wpAny (model P w) A (Builtin.SmallTypes.nextOf (.ref a)) Q E s
def kL : Kd := ⟨fun h a l i => h.IsListIter a l i, fun h l xs => h.IsList l xs⟩
def kT : Kd := ⟨fun h a l i => h.IsTupleIter a l i, fun h l xs => h.IsTuple l xs⟩
theorem kL_ok : KdOk kL where
  stay := fun x e => x.at e
  seq := fun ⟨o, ho, r⟩ e => ⟨o, e _ ho, r⟩
  here := fun ⟨o, ho, _, hd⟩ => ⟨o, ho, fun v z => by rw [hd] at z; cases z⟩
  nxt := fun h1 h2 h3 q => wpAny_nextOf_list_item h1 h2 h3 q
  out := fun h0 h1 h2 h3 q => wpAny_nextOf_list_end h0 h1 h2 h3 q
theorem kT_ok : KdOk kT where
  stay := fun x e => x.at e
  seq := fun ⟨o, ho, r⟩ e => ⟨o, e _ ho, r⟩
  here := fun ⟨o, ho, _, hd⟩ => ⟨o, ho, fun v z => by rw [hd] at z; cases z⟩
  nxt := fun h1 h2 h3 q => RZ.nextOf_tuple_item h1 h2 h3 q
  out := fun h0 h1 h2 h3 q => RZ.nextOf_tuple_end h0 h1 h2 h3 q
section
variable {prog : Program} {w : World} {A : Around} {E : Value → Shared → Prop} {s : Shared} {κ μ : Kd} {z TI TO a1 a2 l1 l2 : Addr} {n m : Nat} {xs ys : Array Value}
theorem zk_item {x y a b : Value} {Q : Value → Shared → Prop} (kκ : KdOk κ) (kμ : KdOk μ) (D : ZipApart z TI TO a1 a2 l1 l2) (Z : IsZip s.heap z TI TO .none) (hI : IsPair s.heap TI (.ref a1) (.ref a2)) (hO : IsPair s.heap TO a b) (u1 : κ.St s.heap a1 l1 n) (u2 : μ.St s.heap a2 l2 m) (v1 : κ.Sq s.heap l1 xs) (v2 : μ.Sq s.heap l2 ys) (hx : xs[n]? = some x) (hy : ys[m]? = some y)
    (fin : ∀ h', IsZip h' z TI TO (rawInt s.heap.objs.size) → IsPair h' TO x y → κ.St h' a1 l1 (n + 1) → μ.St h' a2 l2 (m + 1) → IsPair h' s.heap.objs.size x y → h'.objs.size = s.heap.objs.size + 1 → (∀ c o, c ≠ z → c ≠ TO → c ≠ a1 → c ≠ a2 → s.heap.get? c = some o → h'.get? c = some o) → Q (.ref s.heap.objs.size) { s with heap := h' }) :
    wpAny (model prog w) A (Builtin.«zip.__next__» ⟨[.ref z], []⟩) (fun r s' => ∃ v, r = .done (.ret v) ∧ Q v s') E s := by
  show wpAny _ _ (field (.ref z) 2 >>= _) _ _ _
  refine wpAny_bind (wpAny_field Z rfl (x := .bool false) rfl ?_); show wpAny _ _ (field (.ref z) 3 >>= _) _ _ _
  refine wpAny_bind (wpAny_field Z rfl (x := .ref TI) rfl (wpAny_bind (wpAny_seqItems hI rfl ?_)))
  show wpAny _ _ (Builtin.SmallTypes.ownedTupleIsFree (.ref z) >>= _) _ _ _
  refine wpAny_bind ?_; unfold Builtin.SmallTypes.ownedTupleIsFree
  refine wpAny_bind (wpAny_field Z rfl (x := .none) rfl (wpAny_pure ?_)); simp only [if_true]
  refine wpAny_bind (wpAny_rule (wpAny_bind (wpAny_field Z rfl (x := .ref TO) rfl (wpAny_bind (wpAny_setField_rec Z (by simp) fun hA ZA sA => ?_)))))
  replace ZA : IsZip hA z TI TO .ellipsis := ZA
  refine wpAny_bind ?_; simp only [List.zipIdx_cons, List.zipIdx_nil, List.forIn_cons, List.forIn_nil]
  refine wpAny_bind (wpAny_bind (wpAny_onRaise ?_)); show wpAny _ _ (Builtin.SmallTypes.nextOf (.ref a1) >>= _) _ _ _
  refine wpAny_bind (kκ.nxt (kκ.stay u1 fun o e => sA.extBut _ _ D.i1z e) (kκ.seq v1 fun o e => sA.extBut _ _ D.l1z e) hx fun hB uB sB => wpAny_pure ?_)
  have OB : IsPair hB TO a b := sB.extBut _ _ D.TOi1 (sA.extBut _ _ D.TOz hO)
  refine wpAny_bind (wpAny_seqItems OB rfl (wpAny_bind (wpAny_updateSeq_pair OB fun hC OC sC => ?_)))
  replace OC : IsPair hC TO x b := OC
  refine wpAny_bind (wpAny_letGo (wpAny_pure ?_)); refine wpAny_bind (wpAny_bind (wpAny_onRaise ?_)); show wpAny _ _ (Builtin.SmallTypes.nextOf (.ref a2) >>= _) _ _ _
  refine wpAny_bind (kμ.nxt (kμ.stay u2 fun o e => sC.extBut _ _ D.TOi2.symm (sB.extBut _ _ D.i12.symm (sA.extBut _ _ D.i2z e))) (kμ.seq v2 fun o e => sC.extBut _ _ D.l2TO (sB.extBut _ _ D.l2i1 (sA.extBut _ _ D.l2z e))) hy fun hD uD sD => wpAny_pure ?_)
  have OD : IsPair hD TO x b := sD.extBut _ _ D.TOi2 OC
  refine wpAny_bind (wpAny_seqItems OD rfl (wpAny_bind (wpAny_updateSeq_pair OD fun hF OF sF => ?_)))
  replace OF : IsPair hF TO x y := OF
  refine wpAny_bind (wpAny_letGo (wpAny_pure (wpAny_pure (wpAny_bind (wpAny_seqItems OF rfl (wpAny_bind (wpAny_newTuple ?_)))))))
  have many : hF.objs.size = s.heap.objs.size := by rw [sF.1, sD.1, sC.1, sB.1, sA.1]
  have ZF : IsZip hF z TI TO .ellipsis := sF.extBut _ _ D.TOz.symm (sD.extBut _ _ D.i2z.symm (sC.extBut _ _ D.TOz.symm (sB.extBut _ _ D.i1z.symm ZA)))
  have old : ∀ c o, c ≠ z → c ≠ TO → c ≠ a1 → c ≠ a2 → s.heap.get? c = some o → hF.get? c = some o := fun c o n1 n2 n3 n4 e => sF.extBut _ _ n2 (sD.extBut _ _ n4 (sC.extBut _ _ n2 (sB.extBut _ _ n3 (sA.extBut _ _ n1 e))))
  have wA : κ.St hF a1 l1 (n + 1) := kκ.stay uB fun o e => sF.extBut _ _ D.TOi1.symm (sD.extBut _ _ D.i12 (sC.extBut _ _ D.TOi1.symm e))
  have wB : μ.St hF a2 l2 (m + 1) := kμ.stay uD fun o e => sF.extBut _ _ D.TOi2.symm e
  have zl : z < hF.objs.size := Heap.lt_size ZF
  show wpAny _ _ (Builtin.SmallTypes.ownedTupleHandOut (.ref z) (.ref hF.objs.size) >>= _) _ _ _
  refine wpAny_bind ?_; unfold Builtin.SmallTypes.ownedTupleHandOut
  have ZG : IsZip (hF.push { cls := .type "tuple", data := .seq #[x, y] }) z TI TO .ellipsis := Heap.get?_push_of_some _ ZF
  refine wpAny_bind (wpAny_setField_rec ZG (by simp) fun hG' ZG' sG' => ?_)
  replace ZG' : IsZip hG' z TI TO (rawInt hF.objs.size) := ZG'
  refine wpAny_setField_rec ZG' (by simp) fun hK ZK sK => ?_
  replace ZK : IsZip hK z TI TO (rawInt hF.objs.size) := ZK
  have lift : ∀ c o, c ≠ z → hF.get? c = some o → hK.get? c = some o := fun c o n1 e => sK.extBut _ _ n1 (sG'.extBut _ _ n1 (Heap.get?_push_of_some _ e))
  have TK : IsPair hK hF.objs.size x y := sK.extBut _ _ (Nat.ne_of_gt zl) (sG'.extBut _ _ (Nat.ne_of_gt zl) (Heap.get?_push_size _ rfl))
  have nK : hK.objs.size = hF.objs.size + 1 := by rw [sK.1, sG'.1, Heap.size_push]
  have ne1 : a1 ≠ z := D.i1z
  rw [many] at ZK TK nK
  refine wpAny_pure ⟨_, rfl, ?_⟩; show Q (.ref hF.objs.size) _; rw [many]
  exact fin hK ZK (lift _ _ D.TOz OF) (kκ.stay wA fun o e => lift _ o D.i1z e) (kμ.stay wB fun o e => lift _ o D.i2z e) TK nK fun c o n1 n2 n3 n4 e => lift c o n1 (old c o n1 n2 n3 n4 e)
theorem zk_end {a b : Value} {Q : Fin → Shared → Prop} (kκ : KdOk κ) (kμ : KdOk μ) (hh : A.handled = none) (D : ZipApart z TI TO a1 a2 l1 l2) (Z : IsZip s.heap z TI TO .none) (hI : IsPair s.heap TI (.ref a1) (.ref a2)) (hO : IsPair s.heap TO a b) (u1 : κ.St s.heap a1 l1 n) (u2 : μ.St s.heap a2 l2 m) (v1 : κ.Sq s.heap l1 xs) (v2 : μ.Sq s.heap l2 ys) (hend : xs[n]? = none ∨ ys[m]? = none)
    (hE : ∀ h' e, (∀ c o, c ≠ z → c ≠ TO → c ≠ a1 → c ≠ a2 → s.heap.get? c = some o → h'.get? c = some o) → (∃ o, h'.get? e = some o ∧ o.cls = .type "StopIteration") → E (.ref e) { s with heap := h' }) : wpAny (model prog w) A (Builtin.«zip.__next__» ⟨[.ref z], []⟩) Q E s := by
  show wpAny _ _ (field (.ref z) 2 >>= _) _ _ _
  refine wpAny_bind (wpAny_field Z rfl (x := .bool false) rfl ?_); show wpAny _ _ (field (.ref z) 3 >>= _) _ _ _
  refine wpAny_bind (wpAny_field Z rfl (x := .ref TI) rfl (wpAny_bind (wpAny_seqItems hI rfl ?_)))
  show wpAny _ _ (Builtin.SmallTypes.ownedTupleIsFree (.ref z) >>= _) _ _ _
  refine wpAny_bind ?_; unfold Builtin.SmallTypes.ownedTupleIsFree
  refine wpAny_bind (wpAny_field Z rfl (x := .none) rfl (wpAny_pure ?_)); simp only [if_true]
  refine wpAny_bind (wpAny_rule (wpAny_bind (wpAny_field Z rfl (x := .ref TO) rfl (wpAny_bind (wpAny_setField_rec Z (by simp) fun hA ZA sA => ?_)))))
  replace ZA : IsZip hA z TI TO .ellipsis := ZA
  refine wpAny_bind ?_; simp only [List.zipIdx_cons, List.zipIdx_nil, List.forIn_cons, List.forIn_nil]
  refine wpAny_bind (wpAny_bind (wpAny_onRaise ?_)); show wpAny _ _ (Builtin.SmallTypes.nextOf (.ref a1) >>= _) _ _ _
  by_cases hx : xs[n]? = none
  · refine wpAny_bind (kκ.out hh (kκ.stay u1 fun o e => sA.extBut _ _ D.i1z e) (kκ.seq v1 fun o e => sA.extBut _ _ D.l1z e) hx fun hB e sB he => ?_)
    obtain ⟨oe, g1, g2⟩ := he
    have ZB : IsZip hB z TI TO .ellipsis := sB _ _ D.i1z.symm ZA
    have hez : e ≠ z := fun q => by rw [q, ZB] at g1; cases g1; simp at g2
    exact wpAny_setField_rec ZB (by simp) fun hC _ sC => hE hC e (fun c o n1 _ n3 _ q => sC.extBut _ _ n1 (sB _ _ n3 (sA.extBut _ _ n1 q))) ⟨oe, sC.extBut _ _ hez g1, g2⟩
  · obtain ⟨x, hx'⟩ := Option.ne_none_iff_exists'.mp hx
    have hy : ys[m]? = none := hend.resolve_left hx
    refine wpAny_bind (kκ.nxt (kκ.stay u1 fun o e => sA.extBut _ _ D.i1z e) (kκ.seq v1 fun o e => sA.extBut _ _ D.l1z e) hx' fun hB uB sB => wpAny_pure ?_)
    have OB : IsPair hB TO a b := sB.extBut _ _ D.TOi1 (sA.extBut _ _ D.TOz hO)
    refine wpAny_bind (wpAny_seqItems OB rfl (wpAny_bind (wpAny_updateSeq_pair OB fun hC OC sC => ?_)))
    refine wpAny_bind (wpAny_letGo (wpAny_pure ?_)); refine wpAny_bind (wpAny_bind (wpAny_onRaise ?_)); show wpAny _ _ (Builtin.SmallTypes.nextOf (.ref a2) >>= _) _ _ _
    refine wpAny_bind (kμ.out hh (kμ.stay u2 fun o e => sC.extBut _ _ D.TOi2.symm (sB.extBut _ _ D.i12.symm (sA.extBut _ _ D.i2z e))) (kμ.seq v2 fun o e => sC.extBut _ _ D.l2TO (sB.extBut _ _ D.l2i1 (sA.extBut _ _ D.l2z e))) hy fun hD e sD he => ?_)
    obtain ⟨oe, g1, g2⟩ := he
    have ZD : IsZip hD z TI TO .ellipsis := sD _ _ D.i2z.symm (sC.extBut _ _ D.TOz.symm (sB.extBut _ _ D.i1z.symm ZA))
    have hez : e ≠ z := fun q => by rw [q, ZD] at g1; cases g1; simp at g2
    exact wpAny_setField_rec ZD (by simp) fun hF _ sF => hE hF e (fun c o n1 n2 n3 n4 q => sF.extBut _ _ n1 (sD _ _ n4 (sC.extBut _ _ n2 (sB.extBut _ _ n3 (sA.extBut _ _ n1 q))))) ⟨oe, sF.extBut _ _ hez g1, g2⟩
theorem zk_nextI {x y a b : Value} {Q : Option Value → Shared → Prop} (kκ : KdOk κ) (kμ : KdOk μ) (D : ZipApart z TI TO a1 a2 l1 l2) (Z : IsZip s.heap z TI TO .none) (hI : IsPair s.heap TI (.ref a1) (.ref a2)) (hO : IsPair s.heap TO a b) (u1 : κ.St s.heap a1 l1 n) (u2 : μ.St s.heap a2 l2 m) (v1 : κ.Sq s.heap l1 xs) (v2 : μ.Sq s.heap l2 ys) (hx : xs[n]? = some x) (hy : ys[m]? = some y)
    (fin : ∀ h', IsZip h' z TI TO (rawInt s.heap.objs.size) → IsPair h' TO x y → κ.St h' a1 l1 (n + 1) → μ.St h' a2 l2 (m + 1) → IsPair h' s.heap.objs.size x y → h'.objs.size = s.heap.objs.size + 1 → (∀ c o, c ≠ z → c ≠ TO → c ≠ a1 → c ≠ a2 → s.heap.get? c = some o → h'.get? c = some o) → Q (some (.ref s.heap.objs.size)) { s with heap := h' }) :
    wpAny (model prog w) A (pyNext (.ref z)) Q E s := by
  have T : s.TypeIs (.ref z) "zip" := ⟨_, Z, rfl⟩
  unfold pyNext
  exact wpAny_bind (wpAny_attempt (wpAny_callSpecial?_slot (name := Str.ofString "__next__") T F.slot_zip_next (wpAny_call_entry F.slot_zip_next T F.entry_zip_next
    (zk_item kκ kμ D Z hI hO u1 u2 v1 v2 hx hy fun h' b1 b2 b3 b4 b5 b6 b7 => wpAny_pure (fin h' b1 b2 b3 b4 b5 b6 b7)) (F.args_zip_next_1 _))))
theorem zk_nextE {a b : Value} {Q : Option Value → Shared → Prop} (kκ : KdOk κ) (kμ : KdOk μ) (hh : A.handled = none) (D : ZipApart z TI TO a1 a2 l1 l2) (Z : IsZip s.heap z TI TO .none) (hI : IsPair s.heap TI (.ref a1) (.ref a2)) (hO : IsPair s.heap TO a b) (u1 : κ.St s.heap a1 l1 n) (u2 : μ.St s.heap a2 l2 m) (v1 : κ.Sq s.heap l1 xs) (v2 : μ.Sq s.heap l2 ys) (hend : xs[n]? = none ∨ ys[m]? = none)
    (fin : ∀ h', (∀ c o, c ≠ z → c ≠ TO → c ≠ a1 → c ≠ a2 → s.heap.get? c = some o → h'.get? c = some o) → Q none { s with heap := h' }) : wpAny (model prog w) A (pyNext (.ref z)) Q E s := by
  have T : s.TypeIs (.ref z) "zip" := ⟨_, Z, rfl⟩
  unfold pyNext
  refine wpAny_bind (wpAny_attempt (wpAny_callSpecial?_slot (name := Str.ofString "__next__") T F.slot_zip_next (wpAny_call_entry F.slot_zip_next T F.entry_zip_next (zk_end kκ kμ hh D Z hI hO u1 u2 v1 v2 hend fun h' e hk he => ?_) (F.args_zip_next_1 _))))
  obtain ⟨o, ho, hc⟩ := he
  exact wpAny_bind (wpAny_isInstance (T := "StopIteration") (b := true) ⟨o, ho, hc⟩ isSubtype_stop (wpAny_pure (fin _ hk)))
end
abbrev zmA (h : Heap) (l : Addr) : Heap := h.push { cls := .type "list_iterator", data := .fields #[.ref l, .int 0 0] }
abbrev zmB (h : Heap) (l t : Addr) : Heap := (zmA h l).push { cls := .type "tuple_iterator", data := .fields #[.ref t, .int 0 0] }
abbrev zmC (h : Heap) (l t : Addr) : Heap := (zmB h l t).push { cls := .type "tuple", data := .seq #[.ref h.objs.size, .ref (zmA h l).objs.size] }
abbrev zmD (h : Heap) (l t : Addr) : Heap := (zmC h l t).push { cls := .type "tuple", data := .seq #[.none, .none] }
abbrev zmE (h : Heap) (l t : Addr) : Heap := (zmD h l t).push { cls := .type "zip", data := .fields #[.none, .bool false, .bool false, .ref (zmB h l t).objs.size, .ref (zmC h l t).objs.size] }
theorem zm_new (l t : Addr) (xs ys : Array Value) : Meets (Builtin.«zip.__new__» ⟨[.type "zip", .ref l, .ref t], []⟩) (fun _ R s => s.heap.IsList l xs ∧ s.heap.IsTuple t ys ∧ R (.ok (.ret (.ref (zmD s.heap l t).objs.size))) { s with heap := zmE s.heap l t }) :=
  .of_wp fun prog w A R s h => by
    obtain ⟨hp, g, d, tk, os⟩ := s
    obtain ⟨v1, v2, h⟩ := h
    have sub := PySem.sub_zip
    have V1 : Heap.IsList (Shared.heap ⟨hp, g, d, tk, os⟩) l xs := v1
    have V2 : Heap.IsTuple (Shared.heap ⟨hp.push { cls := .type "list_iterator", data := .fields #[.ref l, .int 0 0] }, g, d, tk, os⟩) t ys := Heap.IsTuple.push v2 _
    wp_walk using wpAny_pyIter_list V1, wpAny_pyIter_tuple V2
    exact ⟨_, rfl, h⟩
section
variable {prog : Program} {w : World} {A : Around} {E : Value → Shared → Prop} {s : Shared}
theorem call_zm {l t : Addr} {xs ys : Array Value} {Q : Value → Shared → Prop} (v1 : s.heap.IsList l xs) (v2 : s.heap.IsTuple t ys)
    (fin : ∀ h', IsZip h' (s.heap.objs.size + 4) (s.heap.objs.size + 2) (s.heap.objs.size + 3) .none → IsPair h' (s.heap.objs.size + 2) (.ref s.heap.objs.size) (.ref (s.heap.objs.size + 1)) → IsPair h' (s.heap.objs.size + 3) .none .none → h'.IsListIter s.heap.objs.size l 0 → h'.IsTupleIter (s.heap.objs.size + 1) t 0 →
      (∀ c o, s.heap.get? c = some o → h'.get? c = some o) → Q (.ref (s.heap.objs.size + 4)) { s with heap := h' }) :
    wpAny (model prog w) A (call (.type "zip") [.ref l, .ref t]) Q E s := by
  refine callType_new F.called_zip (by decide) (F.typeCall_zip_2 _ _) (F.newCall_zip_2 _ _) (fun ob => F.args_object_init_3 ob _ _) F.entry_zip_new (zm_new l t xs ys) ⟨v1, v2, ?_⟩
  have n1 : (zmA s.heap l).objs.size = s.heap.objs.size + 1 := Heap.size_push ..
  have n2 : (zmB s.heap l t).objs.size = s.heap.objs.size + 2 := by rw [Heap.size_push, n1]
  have n3 : (zmC s.heap l t).objs.size = s.heap.objs.size + 3 := by rw [Heap.size_push, n2]
  have n4 : (zmD s.heap l t).objs.size = s.heap.objs.size + 4 := by rw [Heap.size_push, n3]
  have up : ∀ {h : Heap} {o : Obj} {c : Addr} {u : Obj}, h.get? c = some u → (h.push o).get? c = some u := fun e => Heap.get?_push_of_some _ e
  have o5 : (zmE s.heap l t).get? (zmD s.heap l t).objs.size = some _ := Heap.get?_push_size _ rfl
  have o4 : (zmE s.heap l t).get? (zmC s.heap l t).objs.size = some _ := up (Heap.get?_push_size _ rfl)
  have o3 : (zmE s.heap l t).get? (zmB s.heap l t).objs.size = some _ := up (up (Heap.get?_push_size _ rfl))
  have o2 : (zmE s.heap l t).get? (zmA s.heap l).objs.size = some _ := up (up (up (Heap.get?_push_size _ rfl)))
  have o1 : (zmE s.heap l t).get? s.heap.objs.size = some _ := up (up (up (up (Heap.get?_push_size _ rfl))))
  rw [n2, n3, n4] at o5; rw [n1, n2] at o3; rw [n3] at o4; rw [n1] at o2
  show _ ∧ _
  rw [n4]
  exact ⟨⟨_, o5, rfl⟩, fin _ o5 o3 o4 ⟨_, o1, rfl, rfl⟩ ⟨_, o2, rfl, rfl⟩ fun c o x => up (up (up (up (up x))))⟩
end
/-- the list at a and the tuple at b, their items in new pairs -/
def Itm (K : PySem.W.Frag) (a b : Addr) : It :=
  ⟨fun i H => ∃ (xs ys : List V) (x y : V), SqL K H a xs ∧ SqT K H b ys ∧ xs[i]? = some x ∧ ys[i]? = some y, fun i H v H' => ∃ T x y, v = .ref T ∧ H T = none ∧ H' = upd H T (.tup [x, y]) ∧ (∀ xs, SqL K H a xs → xs[i]? = some x) ∧ ∀ ys, SqT K H b ys → ys[i]? = some y,
    fun i H => ∃ xs ys : List V, SqL K H a xs ∧ SqT K H b ys ∧ (xs.length ≤ i ∨ ys.length ≤ i)⟩
theorem mem5 {α : Type} {c z a b d e : α} (h : c ∈ [z, a, b, d, e]) : c = z ∨ c = a ∨ c = b ∨ c = d ∨ c = e := by simpa using h
theorem turn_zm {P : Program} {w : World} {K : PySem.W.Frag} {elts : List Expr} {kk : Nat} {tpos : Pos} {a b z TI TO i1 i2 : Addr} (D : ZipApart z TI TO i1 i2 a b) :
    Turn P w K (.Tuple elts kk tpos) (Itm K a b) [z, TI, TO, i1, i2] z (fun i h => IsZip h z TI TO .none ∧ IsPair h TI (.ref i1) (.ref i2) ∧ (∃ x y, IsPair h TO x y) ∧ kL.St h i1 a i ∧ kT.St h i2 b i) where
  mem := by simp
  obj := fun i h st c hc => by
    obtain ⟨Z, hI, ⟨x, y, hO⟩, u1, u2⟩ := st
    rcases mem5 hc with q | q | q | q | q <;> rw [q]
    · exact ⟨_, Z, fun v q => nomatch q⟩
    · exact ⟨_, hI, fun v q => nomatch q⟩
    · exact ⟨_, hO, fun v q => nomatch q⟩
    · exact kL_ok.here u1
    · exact kT_ok.here u2
  keep := fun i h h' st k => by
    obtain ⟨Z, hI, ⟨x, y, hO⟩, u1, u2⟩ := st
    exact ⟨k z (by simp) _ Z, k TI (by simp) _ hI, ⟨x, y, k TO (by simp) _ hO⟩, kL_ok.stay u1 fun o q => k i1 (by simp) o q, kT_ok.stay u2 fun o q => k i2 (by simp) o q⟩
  item := by
    intro X hP hw hK hc i pins s σ H E I hf st hg
    subst hP hw hK
    obtain ⟨Z, hI, ⟨x0, y0, hO⟩, u1, u2⟩ := st
    obtain ⟨xs, ys, x, y, qx, qy, hx, hy⟩ := hg
    obtain ⟨its, rv, p, _⟩ := I.list qx
    obtain ⟨jts, rw', p2, _⟩ := I.tuple qy
    obtain ⟨u, hu, ru⟩ := rv.get hx
    obtain ⟨v, hv, rv'⟩ := rw'.get hy
    have zl : z < s.heap.objs.size := Heap.lt_size Z
    refine zk_nextI kL_ok kT_ok D Z hI hO u1 u2 p.isList p2 (x := u) (y := v) (by simpa using hu) (by simpa using hv) fun h' Z' O' u1' u2' T' _ old => ?_
    refine ⟨_, rfl, wpAny_letOwnedTupleGo_zip (s := { s with heap := h' }) Z' fun g Z2 sb => ?_⟩
    have T2 : g.get? s.heap.objs.size = some { cls := .type "tuple", data := .seq #[u, v] } := (sb.2 _ (Nat.ne_of_gt zl)).trans T'
    have nw : ObjOk X.prog X.w (upd H s.heap.objs.size (.tup [x, y])) g s.heap.objs.size (.tup [x, y]) := ⟨by show 2 ≤ sizeLine; decide, [u, v], .cons ru (.cons rv' .nil), ⟨_, T2, rfl, _, rfl⟩⟩
    have I1 : Inv X pins σ (upd H s.heap.objs.size (.tup [x, y])) { s with heap := g } :=
      I.turnedNew (t' := s.toks) (ch := [z, TI, TO, i1, i2]) (fun c o hb q => (sb.2 c fun e => hb (by simp [e])).trans (old c o (fun e => hb (by simp [e])) (fun e => hb (by simp [e])) (fun e => hb (by simp [e])) (fun e => hb (by simp [e])) q)) hf (Nat.le_refl _) nw
    refine ⟨.ref s.heap.objs.size, _, I1, rfl, ⟨_, x, y, rfl, I.hok.fresh (Nat.le_refl _), rfl, fun l hl => (I.list_inj hl qx).symm ▸ hx, fun l hl => (I.tuple_inj hl qy).symm ▸ hy⟩, ⟨Z2, ?_, ⟨u, v, ?_⟩, kL_ok.stay u1' fun o q => (sb.2 _ D.i1z).trans q, kT_ok.stay u2' fun o q => (sb.2 _ D.i2z).trans q⟩, fun c hcm => ?_⟩
    · exact (sb.2 _ D.TIz).trans (old _ _ D.TIz D.TITO D.TIi1 D.TIi2 hI)
    · exact (sb.2 _ D.TOz).trans O'
    · have lt : c < s.heap.objs.size := by
        rcases mem5 hcm with q | q | q | q | q <;> rw [q]
        · exact zl
        · exact Heap.lt_size hI
        · exact Heap.lt_size hO
        · exact Heap.lt_size (kL_ok.here u1).choose_spec.1
        · exact Heap.lt_size (kT_ok.here u2).choose_spec.1
      rw [upd_ne (Nat.ne_of_lt lt)]
      exact (hf c hcm).1
  done := by
    intro X hP hw hK hc i pins s σ H E I hf st hg
    subst hP hw hK
    obtain ⟨Z, hI, ⟨x0, y0, hO⟩, u1, u2⟩ := st
    obtain ⟨xs, ys, qx, qy, hend⟩ := hg
    obtain ⟨its, rv, p, _⟩ := I.list qx
    obtain ⟨jts, rw', p2, _⟩ := I.tuple qy
    have e1 := rv.length
    have e2 := rw'.length
    have he : its.toArray[i]? = none ∨ jts.toArray[i]? = none := hend.elim (fun q => .inl (by simp; omega)) fun q => .inr (by simp; omega)
    exact zk_nextE kL_ok kT_ok (I.ok.hd hc) D Z hI hO u1 u2 p.isList p2 he fun h' old => ⟨rfl, I.turnedL (t' := s.toks) (ch := [z, TI, TO, i1, i2]) (fun c o hb q => old c o (fun e => hb (by simp [e])) (fun e => hb (by simp [e])) (fun e => hb (by simp [e])) (fun e => hb (by simp [e])) q) hf⟩
  self := fun A i s Q E st h => wpAny_pyIter_zip st.1 h
def iZipM (K : PySem.W.Frag) (ta : TA) : TI := fun σ H R => ta σ H fun vs H1 => ∃ a b xs ys, vs = [.ref a, .ref b] ∧ SqL K H1 a xs ∧ SqT K H1 b ys ∧ R (Itm K a b) H1
theorem pi_zipM {X : Cx} {e e2 : Expr} {ta : TA} {p pos tpos : Pos} {elts : List Expr} {kk : Nat} (hg : Gl X "zip") (hm : X.mg "zip" = none) (ha : PA X [e, e2] ta) (hs : starEach [e, e2] X.env = (false, eval e X.env) :: starEach [e2] X.env := by rfl) (hpl : (backTo pos (starEach [e2] X.env)).any (·.1) = false := by rfl) :
    PI X (.Tuple elts kk tpos) (.Call (.Name "zip" p) [e, e2] [] pos) (iZipM X.K ta) := by
  refine ⟨fun pins s σ H R I h => Call_ (ld_blt I hg hm PyProof.Rows.boot_zip (PyProof.Rows.callWith_type1 (thn (ha.run pos pins s σ H _ I h) fun us s1 ⟨vs, H1, I1, r1, q1⟩ => ?_) hs hpl))⟩
  obtain ⟨a, b, xs, ys, ex, qx, qy, q⟩ := q1
  subst ex
  obtain _ | ⟨r, rr⟩ := r1
  obtain _ | ⟨r', rr⟩ := rr
  cases rr
  cases r
  cases r'
  obtain ⟨its, rv, p1, _⟩ := I1.list qx
  obtain ⟨jts, rw', p2, _⟩ := I1.tuple qy
  have lb : b < s1.heap.objs.size := by
    obtain ⟨o, ho, _⟩ := id p2
    exact Heap.lt_size ho
  refine call_zm p1.isList p2 fun h' Z hI hO u1 u2 hk => wpAny_pyIter_zip Z ?_
  refine ⟨s1.heap.objs.size + 4, [s1.heap.objs.size + 4, s1.heap.objs.size + 2, s1.heap.objs.size + 3, s1.heap.objs.size, s1.heap.objs.size + 1], _, _, H1, rfl, I1.kept (t' := s1.toks) hk, turn_zm (PySem.W.ktu_apart s1.heap.objs.size a b p1.lt lb), ⟨Z, hI, ⟨_, _, hO⟩, u1, u2⟩, fun c hcm => ?_, q⟩
  have le : s1.heap.objs.size ≤ c := by rcases mem5 hcm with z | z | z | z | z <;> rw [z] <;> omega
  exact I1.fpOk le (I1.hok.fresh le)
section
variable {K : PySem.W.Frag} {σ : L2.St} {H H' : Hp} {ta tb te : TE} {t : TT}
theorem walk_zm {a b : Addr} {xs ys : List V} {n : Nat} (hn : n = min xs.length ys.length) : Walk (Itm K a b) n (fun H => SqL K H a xs ∧ SqT K H b ys) (YPair (fun i => xs[i]?) (fun i => ys[i]?)) := by
  subst hn
  refine ⟨fun i _ hi q => ?_, fun _ q => ⟨xs, ys, q.1, q.2, by omega⟩, fun i H v H' _ q ⟨T, x, y, h1, h2, h3, h4, h5⟩ => ⟨T, x, y, h1, h2, h3, h4 xs q.1, h5 ys q.2⟩⟩
  have h1 : i < xs.length := by omega
  have h2 : i < ys.length := by omega
  exact ⟨xs, ys, xs[i], ys[i], q.1, q.2, by simp [h1], by simp [h2]⟩
/-- a comprehension over zip(list, tuple), its two names in the slots i1, i2 -/
theorem el_lcZM {a b : Addr} {xs ys : List V} {tl : TA} {i1 i2 : Nat} {vs : List Nat} (f : Nat → Bool) (v : Nat → V) (h : EvA tl σ H [.ref a, .ref b]) (hx : SqL K H a xs) (hy : SqT K H b ys) (hz : xs.length ≤ 40000) (hw : ∀ x y, wipe (((wipe σ vs).set i1 (some x)).set i2 (some y)) vs = wipe σ vs)
    (ht : ∀ (i : Nat) (x y : V) H1, Ex H H1 → xs[i]? = some x → ys[i]? = some y → EvT t (((wipe σ vs).set i1 (some x)).set i2 (some y)) H1 (f i)) (he : ∀ (i : Nat) (x y : V) H1, Ex H H1 → xs[i]? = some x → ys[i]? = some y → f i = true → Ev te (((wipe σ vs).set i1 (some x)).set i2 (some y)) H1 (v i)) :
    EvL (tLc (iZipM K tl) (gTup K 2 (gCons (gName i1) (gCons (gName i2) gNil))) t te vs) σ H (given (min xs.length ys.length) f v) := fun H0 e Q q => h H0 e _ fun H1 e1 => ⟨a, b, xs, ys, rfl, ex_l (e.trans e1) hx, ex_t (e.trans e1) hy, fun Dl hD =>
  lc_it (walk_zm (xs := xs) (ys := ys) rfl) (Cw H1 f v Dl) ⟨hD, Ex.new hD, upd_same⟩ (fun i H' _ p => ⟨ex_l ((e.trans e1).trans p.2.1) hx, ex_t ((e.trans e1).trans p.2.1) hy⟩) (fun i x H' H'' hi p y => by
    obtain ⟨T, u, u', rfl, nT, rfl, g1, g2⟩ := y
    obtain ⟨p1, p2, p3⟩ := p
    have p' : Cw H1 f v Dl i (upd H' T (.tup [u, u'])) := ⟨p1, p2.trans (Ex.new nT), (Ex.new nT) _ _ p3⟩
    exact ⟨T, [u, u'], rfl, st_of upd_same, rfl, u, [u'], rfl, u', [], rfl, rfl, hw _ _, cw_turn p' (by omega) (ht i u u' H1 (e.trans e1) g1 g2) (fun hf => he i u u' H1 (e.trans e1) g1 g2 hf)⟩)
    (fun H' p => q Dl H' (fresh_back e1 p.1) (e1.trans p.2.1) p.2.2)⟩
end
end Own
/-! own rules: xs[lo::s] of a list; min and max with default=; math.comb; >= of tuples -/
namespace Own
open PySem PySem.Spec PyProof.Rows L2 Evl
/-- the items at lo, lo + s, .. -/
def pickL {α : Type} (xs : List α) (lo s : Nat) : List α := (sliceRange ((min lo xs.length : Nat) : Int) (xs.length : Int) (s : Int)).filterMap (xs[·]?)
theorem vals_pick {xs : List V} {us : List Value} (r : Vals xs us) : ∀ is : List Nat, Vals (is.filterMap (xs[·]?)) (is.filterMap (us[·]?))
  | [] => .nil
  | i :: is => by
    have ih := vals_pick r is
    rw [List.filterMap_cons, List.filterMap_cons]
    cases h : xs[i]? with
    | none =>
      rw [r.none_of h]
      exact ih
    | some x =>
      obtain ⟨u, hu, ru⟩ := r.get h
      rw [hu]
      exact .cons ru ih
theorem bounds_step (lo s n : Nat) (hs : 0 < s) : sliceBounds (some (lo : Int)) none (some (s : Int)) n = (((min lo n : Nat) : Int), (n : Int), (s : Int)) := by
  have h1 : (s : Int) > 0 := by omega
  have h2 : ¬ ((lo : Int) < 0) := by omega
  simp only [sliceBounds, Option.getD_some, h1, h2, if_true, if_false, Prod.mk.injEq, and_true]
  omega
theorem slice_step (its : List Value) (lo s : Nat) (hs : 0 < s) : slicePick its.toArray (some (lo : Int)) none (some (s : Int)) = (pickL its lo s).toArray := by
  unfold slicePick pickL
  rw [List.size_toArray, bounds_step lo s _ hs]
  simp
def tSlS (K : PySem.W.Frag) (te : TE) (tl ts : TO) : TE := fun σ H Q => te σ H fun x H1 => tl σ H1 fun l H2 => ts σ H2 fun st H3 => ∃ (a : Addr) (xs : List V) (lo s : Nat), x = .ref a ∧ l = some (lo : Int) ∧ st = some (s : Int) ∧ 0 < s ∧ SqL K H3 a xs ∧ ∀ p, H3 p = none → Q (.ref p) (upd H3 p (.lst (pickL xs lo s)))
theorem pickL_len {α : Type} (xs : List α) (lo s : Nat) (hs : 0 < s) : (pickL xs lo s).length ≤ xs.length := by
  unfold pickL
  exact Nat.le_trans (List.length_filterMap_le _ _) (sliceRange_length_le _ _ _ _ (fun _ => ⟨by omega, by omega⟩) fun h => absurd (show (s : Int) > 0 by omega) h)
section
variable {X : Cx}
theorem pe_sliceS {e lo st : Expr} {te : TE} {tl ts : TO} {p3 pos : Pos} (he : PE X e te) (hl : PO X (some lo) tl) (hst : PO X (some st) ts) : PE X (.Subscript e (.Slice (some lo) none (some st) p3) pos) (tSlS X.K te tl ts) := by
  refine ⟨fun pins s σ H Q I h => Subscript_ (thn (he.run pins s σ H _ I h) fun v s1 ⟨x, H1, I1, r1, q1⟩ => ?_)⟩
  refine wpAny_Slice (thn (hl.run pins s1 σ H1 _ I1 q1) fun vl s2 ⟨l, H2, I2, pl, q2⟩ => ?_)
  refine thn (po_none.run pins s2 σ H2 (fun o H3 => o = none ∧ H3 = H2) I2 ⟨rfl, rfl⟩) fun vu s3 ⟨u, H3, I3, pu, eu, e3⟩ => ?_
  subst eu e3
  refine thn (hst.run pins s3 σ H3 _ I3 q2) fun vs s4 ⟨o, H4, I4, ps, q4⟩ => ?_
  obtain ⟨a, xs, n, k, ex, el, eo, hk, hx, q⟩ := q4
  subst ex el eo
  cases r1
  have I5 : Inv X pins σ H4 { s4 with heap := s4.heap.push { cls := .type "slice", data := .fields #[vl, vu, vs] } } := I4.kept (t' := s4.toks) fun b ob q => Heap.get?_push_of_some _ q
  obtain ⟨its, r, ht, hz⟩ := I5.list hx
  have hlen := r.length
  show wpAny (model X.prog X.w) X.A (subscriptTail e (.Slice (some lo) none (some st) p3) (.ref a) (.ref s4.heap.objs.size)) (EP X pins σ Q) X.xe { s4 with heap := s4.heap.push { cls := .type "slice", data := .fields #[vl, vu, vs] } }
  refine tail_any (ops := [.ref a, .ref s4.heap.objs.size]) ht.isList.typeIs slot_list_getitem.lookup ?_ (by with_unfolding_all rfl)
  refine wpAny_getItem_list_slice ht.isList (Heap.IsSliceOf.new _ vl vu vs) pl pu ps (fun z => by have := Option.some.inj z; omega) ?_ (by rw [List.size_toArray]; omega)
  rw [slice_step _ _ _ hk]
  refine ⟨.ref _, _, I5.laid (t' := s4.toks) (o := .lst (pickL xs n k)) (fun b ob q => Heap.get?_push_of_some _ q) (Nat.le_refl _) ?_, rfl, q _ (I5.hok.fresh (Nat.le_refl _))⟩
  refine ⟨Nat.le_trans (pickL_len xs n k hk) hz, _, 0, ?_, Heap.get?_push_size _ rfl⟩
  unfold pickL
  rw [hlen]
  exact vals_pick r _
end
section
variable {K : PySem.W.Frag} {σ : L2.St} {H H' : Hp} {ta tb te : TE} {tl ts : TO}
theorem el_slS {a : Addr} {xs : List V} {lo s : Nat} (h : Ev te σ H (.ref a)) (h1 : EvO tl σ H (some (lo : Int))) (h2 : EvO ts σ H (some (s : Int))) (hs : 0 < s) (hx : SqL K H a xs) : EvL (tSlS K te tl ts) σ H (pickL xs lo s) := fun H1 e Q q =>
  h H1 e _ fun H2 e2 => h1 H2 (e.trans e2) _ fun H3 e3 => h2 H3 ((e.trans e2).trans e3) _ fun H4 e4 => ⟨a, xs, lo, s, rfl, rfl, rfl, hs, ex_l (((e.trans e2).trans e3).trans e4) hx, fun p hp => q p _ (fresh_back ((e2.trans e3).trans e4) hp) (((e2.trans e3).trans e4).trans (Ex.new hp)) upd_same⟩
end
/-! the items of one class -/
def strd (f : Nat) : Nat → List Nat → List Nat
  | _, [] => []
  | 0, x :: r => x :: strd f (f - 1) r
  | t + 1, _ :: r => strd f t r
theorem pick_nil {α : Type} (lo s : Nat) : pickL ([] : List α) lo s = [] := by
  unfold pickL
  simp
theorem range_cons (lo n s : Nat) (hs : 0 < s) (h : lo < n) : sliceRange (lo : Int) (n : Int) (s : Int) = lo :: sliceRange ((lo + s : Nat) : Int) (n : Int) (s : Int) := by
  have hc : (s : Int) > 0 := by omega
  unfold sliceRange
  simp only [hc, if_true]
  rw [if_pos (show (lo : Int) < n by omega)]
  have e1 : ((n : Int) - (lo : Int) + s - 1) / s = ((n - lo + s - 1) / s : Nat) := by
    rw [show ((n : Int) - (lo : Int) + s - 1) = ((n - lo + s - 1 : Nat) : Int) by omega]
    rfl
  rw [e1, Int.toNat_natCast]
  have e2 : (if ((lo + s : Nat) : Int) < n then ((n : Int) - ((lo + s : Nat) : Int) + s - 1) / s else 0).toNat + 1 = (n - lo + s - 1) / s := by
    by_cases h2 : lo + s < n
    · rw [if_pos (by omega), show ((n : Int) - ((lo + s : Nat) : Int) + s - 1) = ((n - (lo + s) + s - 1 : Nat) : Int) by omega]
      show ((((n - (lo + s) + s - 1) / s : Nat) : Int)).toNat + 1 = _
      rw [Int.toNat_natCast, show n - lo + s - 1 = (n - (lo + s) + s - 1) + s by omega, Nat.add_div_right _ hs]
    · rw [if_neg (by omega)]
      show 0 + 1 = _
      have h3 : (n - lo + s - 1) / s = 1 := by
        rw [show n - lo + s - 1 = (n - lo - 1) + s by omega, Nat.add_div_right _ hs, Nat.div_eq_of_lt (by omega)]
      rw [h3]
  rw [← e2, List.range_succ_eq_map, List.map_cons, List.map_map]
  refine congr (congrArg List.cons ?_) ?_
  · show ((lo : Int) + s * ((0 : Nat) : Int)).toNat = lo
    rw [Int.natCast_zero, Int.mul_zero]
    omega
  · refine List.map_congr_left fun k _ => ?_
    show ((lo : Int) + s * ((k + 1 : Nat) : Int)).toNat = ((((lo + s : Nat) : Int)) + s * (k : Int)).toNat
    rw [Int.natCast_add k 1, Int.mul_add]
    congr 1
    omega
theorem range_nil (lo n s : Nat) (hs : 0 < s) (h : n ≤ lo) : sliceRange (lo : Int) (n : Int) (s : Int) = [] := by
  have hc : (s : Int) > 0 := by omega
  unfold sliceRange
  simp only [hc, if_true]
  rw [if_neg (show ¬ (lo : Int) < n by omega)]
  rfl
theorem range_shift (s : Nat) (hs : 0 < s) : ∀ (m lo n : Nat), n ≤ lo + m → sliceRange ((lo + 1 : Nat) : Int) ((n + 1 : Nat) : Int) (s : Int) = (sliceRange (lo : Int) (n : Int) (s : Int)).map (· + 1)
  | 0, lo, n, h => by
    rw [range_nil _ _ _ hs (by omega), range_nil _ _ _ hs (by omega)]
    rfl
  | m + 1, lo, n, h => by
    by_cases h2 : lo < n
    · rw [range_cons _ _ _ hs (show lo + 1 < n + 1 by omega), range_cons _ _ _ hs h2, List.map_cons, show lo + 1 + s = lo + s + 1 by omega, range_shift s hs m (lo + s) n (by omega)]
    · rw [range_nil _ _ _ hs (by omega), range_nil _ _ _ hs (by omega)]
      rfl
theorem pick_go (f : Nat) (hf : 0 < f) : ∀ (xs : List Nat) (lo : Nat), (sliceRange (lo : Int) (xs.length : Int) (f : Int)).filterMap (xs[·]?) = strd f lo xs
  | [], lo => by
    show (sliceRange (lo : Int) ((0 : Nat) : Int) (f : Int)).filterMap _ = _
    rw [range_nil _ _ _ hf (Nat.zero_le _)]
    cases lo <;> rfl
  | x :: r, 0 => by
    rw [List.length_cons, range_cons 0 _ _ hf (by omega), List.filterMap_cons]
    show x :: (sliceRange ((0 + f : Nat) : Int) ((r.length + 1 : Nat) : Int) (f : Int)).filterMap ((x :: r)[·]?) = x :: strd f (f - 1) r
    rw [show 0 + f = (f - 1) + 1 by omega, range_shift f hf r.length (f - 1) r.length (by omega), List.filterMap_map, ← pick_go f hf r (f - 1)]
    rfl
  | x :: r, lo + 1 => by
    rw [List.length_cons, range_shift f hf r.length lo r.length (by omega), List.filterMap_map]
    show _ = strd f lo r
    rw [← pick_go f hf r lo]
    rfl
theorem pick_strd (f : Nat) (hf : 0 < f) (xs : List Nat) (lo : Nat) : pickL xs lo f = strd f lo xs := by
  unfold pickL
  by_cases h : lo ≤ xs.length
  · rw [Nat.min_eq_left h]
    exact pick_go f hf xs lo
  · rw [Nat.min_eq_right (by omega), range_nil _ _ _ hf (Nat.le_refl _), ← pick_go f hf xs lo, range_nil _ _ _ hf (by omega)]
theorem pick_map {α β : Type} (g : α → β) (xs : List α) (lo s : Nat) : pickL (xs.map g) lo s = (pickL xs lo s).map g := by
  unfold pickL
  rw [List.length_map, List.map_filterMap]
  congr 1
  funext i
  rw [List.getElem?_map]
end Own
/-! own rules: min and max with default= -/
namespace Own
open PySem PySem.Spec PyProof.Rows L2 Evl
theorem kw_tree {prog : Program} {w : World} {A : Around} {E : Value → Shared → Prop} {s : Shared} {id : String} {b : Builtin} {us : List Value} {kw : List (Str × Value)} {Q : Value → Shared → Prop} (hk : builtinKind id = none) (hp : plainId id = true) (hb : entryFor table id = some b) (ha : argsOk id ⟨us, kw⟩)
    (hc : wpAny (model prog w) A.in1 (b ⟨us, kw⟩) (fun r s' => match r with
      | .done g => (match (Except.ok g : Result) with
        | .ok (.ret v) => Q v s'
        | .ok _ => False
        | .error e => E e s')
      | .again c' => c'.quiet = true ∧ codeAny (model prog w) A c' (fun r s' => match r with
        | .ok (.ret v) => Q v s'
        | .ok _ => False
        | .error e => E e s') s') E s) : wpAny (model prog w) A (call (.builtin id) us kw) Q E s := by
  refine wpAny_call (codeAny_call_builtin hp hb ?_); simp only [checkBuiltinCall, hk]
  cases z : Manifest.signature? id with
  | none => exact wpAny_pure hc
  | some sg =>
    simp only [argsOk, z] at ha
    show wpAny _ A.in1 (Bind.checkArgs id sg ⟨us, kw⟩) _ _ s
    rw [show Bind.checkArgs id sg ⟨us, kw⟩ = pure () from ha]
    exact wpAny_pure hc
section
variable {prog : Program} {w : World} {A : Around} {R : Result → Shared → Prop} {I : Addr} {fp wr : List Addr} {n : Nat} {P : Nat → Value → Prop} {St : Nat → Heap → Prop}
theorem minD_turn (dv : Value) (W : Walks prog w A.in1 I fp wr n P St) (bt : Nat → Nat → Bool) (cmp : CmpOf prog w A.in1 .Lt P bt) (B : Addr) (hB : B ∉ fp) : ∀ (k j : Nat) (s : Shared) (vb : Value) (c : Nat), n - (j + 1) = k → j + 1 ≤ n → St (j + 1) s.heap → P (argBest bt j) vb → s.heap.get? B = some { cls := .type "list", dict := none, data := .seq #[vb, vb] c, slots := #[] } →
    (∀ v h' tk, P (argBest bt (n - 1)) v → (∀ b o, b ∉ wr → b ≠ B → s.heap.get? b = some o → h'.get? b = some o) → R (.ok (.ret v)) { s with heap := h', toks := tk }) → codeAny (model prog w) A (.builtin "min.loop" ⟨[.ref I, .none, .ref B], [("default", dv)]⟩) R s := by
  have Bw : B ∉ wr := fun h => hB (W.sub _ h)
  have nm : (toString "min" ++ toString ".loop" : String) = "min.loop" := by decide
  intro k
  induction k with
  | zero =>
    intro j s vb c hk hj st hp hs fin
    have jn : j + 1 = n := by omega
    refine codeAny_builtin F.entry_min_loop ?_; rw [Around.under_plainId F.plain_min_loop _]
    show wpAny _ A.in1 (seqItems? (.ref B) >>= _) _ _ s
    refine wpAny_bind (wpAny_seqItems hs rfl ?_); show wpAny _ A.in1 (tryCatch (pyNext (.ref I)) _ >>= _) _ _ s
    refine wpAny_bind (wpAny_tryCatch (W.done s _ _ (jn ▸ st) fun h1 t1 k1 => ?_))
    show wpAny _ A.in1 (updateSeq B (fun _ => #[]) >>= _) _ _ _
    refine wpAny_bind (wpAny_updateSeq (k1 B _ Bw hs) rfl (wpAny_bind (wpAny_letGo (wpAny_pure ?_))))
    exact fin vb _ t1 (by rw [← jn]; exact hp) fun b o nb nB e => (Heap.get?_update_other _ _ (Ne.symm nB)).trans (k1 b o nb e)
  | succ k ih =>
    intro j s vb c hk hj st hp hs fin
    have lt : j + 1 < n := by omega
    refine codeAny_builtin F.entry_min_loop ?_; rw [Around.under_plainId F.plain_min_loop _]
    show wpAny _ A.in1 (seqItems? (.ref B) >>= _) _ _ s
    refine wpAny_bind (wpAny_seqItems hs rfl ?_); show wpAny _ A.in1 (tryCatch (pyNext (.ref I)) _ >>= _) _ _ s
    refine wpAny_bind (wpAny_tryCatch (W.item (j + 1) s _ _ lt st fun v h1 t1 p1 st1 k1 => ?_))
    have hs1 := k1 B _ Bw hs
    show wpAny _ A.in1 (tryCatch (holding [v, v] (richCompare .Lt v vb >>= _)) _ >>= _) _ _ _
    refine wpAny_bind (wpAny_tryCatch (wpAny_holding (wpAny_bind (cmp (j + 1) (argBest bt j) v vb _ _ _ p1 hp ?_))))
    refine wpAny_bind (wpAny_holding (wpAny_truthy_bool ?_)); refine wpAny_bind (wpAny_letGo (wpAny_pure ?_))
    cases yes : bt (j + 1) (argBest bt j) with
    | true =>
      simp only [if_true]
      refine wpAny_bind (wpAny_updateSeq hs1 rfl (wpAny_bind (wpAny_letGo ?_))); rw [nm]
      refine wpAny_pure ⟨plainId_quiet F.plain_min_loop _, ih (j + 1) _ v _ (by omega) lt (W.frame _ _ _ st1 fun b hb o e => ?_) (by simp only [argBest, yes, if_true]; exact p1) (Heap.get?_update_self _ hs1 rfl) fun v2 h2 t2 p2 k2 => ?_⟩
      · exact (Heap.get?_update_other _ _ fun h : B = b => hB (h ▸ hb)).trans e
      · exact fin v2 h2 t2 p2 fun b o nb nB e => k2 b o nb nB ((Heap.get?_update_other _ _ (Ne.symm nB)).trans (k1 b o nb e))
    | false =>
      simp only [Bool.false_eq_true, if_false]
      refine wpAny_bind (wpAny_letGo ?_); rw [nm]
      refine wpAny_pure ⟨plainId_quiet F.plain_min_loop _, ih (j + 1) _ vb _ (by omega) lt st1 (by simp only [argBest, yes, Bool.false_eq_true, if_false]; exact hp) hs1 fun v2 h2 t2 p2 k2 => ?_⟩
      exact fin v2 h2 t2 p2 fun b o nb nB e => k2 b o nb nB (k1 b o nb e)
theorem minD_first (dv : Value) (W : Walks prog w A.in1 I fp wr n P St) (bt : Nat → Nat → Bool) (cmp : CmpOf prog w A.in1 .Lt P bt) (B : Addr) (hB : B ∉ fp) {s : Shared} {c : Nat} (st : St 0 s.heap) (hs : s.heap.get? B = some { cls := .type "list", dict := none, data := .seq #[] c, slots := #[] })
    (fin : ∀ v h' tk, (0 < n → P (argBest bt (n - 1)) v) → (n = 0 → v = dv) → (∀ b o, b ∉ wr → b ≠ B → s.heap.get? b = some o → h'.get? b = some o) → R (.ok (.ret v)) { s with heap := h', toks := tk }) : codeAny (model prog w) A (.builtin "min.loop" ⟨[.ref I, .none, .ref B], [("default", dv)]⟩) R s := by
  have Bw : B ∉ wr := fun h => hB (W.sub _ h)
  have nm : (toString "min" ++ toString ".loop" : String) = "min.loop" := by decide
  refine codeAny_builtin F.entry_min_loop ?_; rw [Around.under_plainId F.plain_min_loop _]
  show wpAny _ A.in1 (seqItems? (.ref B) >>= _) _ _ s
  refine wpAny_bind (wpAny_seqItems hs rfl ?_); show wpAny _ A.in1 (tryCatch (pyNext (.ref I)) _ >>= _) _ _ s
  by_cases hn : n = 0
  · refine wpAny_bind (wpAny_tryCatch (W.done s _ _ (hn ▸ st) fun h1 t1 k1 => wpAny_bind (wpAny_rule (wpAny_pure ?_))))
    exact fin dv h1 t1 (fun z => absurd z (by omega)) (fun _ => rfl) fun b o nb _ e => k1 b o nb e
  · refine wpAny_bind (wpAny_tryCatch (W.item 0 s _ _ (by omega) st fun v h1 t1 p1 st1 k1 => ?_))
    have hs1 := k1 B _ Bw hs
    show wpAny _ A.in1 (updateSeq B (fun _ => #[v, v]) >>= _) _ _ _
    refine wpAny_bind (wpAny_updateSeq hs1 rfl ?_); rw [nm]
    refine wpAny_pure ⟨plainId_quiet F.plain_min_loop _, minD_turn dv W bt cmp B hB _ 0 _ v _ rfl (by omega) (W.frame _ _ _ st1 fun b hb o e => ?_) p1 (Heap.get?_update_self _ hs1 rfl) fun v2 h2 t2 p2 k2 => ?_⟩
    · exact (Heap.get?_update_other _ _ fun h : B = b => hB (h ▸ hb)).trans e
    · exact fin v2 h2 t2 (fun _ => p2) (fun z => absurd z hn) fun b o nb nB e => k2 b o nb nB ((Heap.get?_update_other _ _ (Ne.symm nB)).trans (k1 b o nb e))
end
theorem minD_args (a d : Value) : argsOk "min" ⟨[a], [(Str.ofString "default", d)]⟩ := by unfold argsOk; kernel_rfl
section
variable {prog : Program} {w : World} {A : Around} {E : Value → Shared → Prop} {s : Shared} {l : Addr} {its : List Value} {ns : List Int} {Q : Value → Shared → Prop}
theorem minD_ints {xs : Array (Int × Tok)} (dv : Value) (hh : A.handled = none) (hl : s.heap.IsList l (intItems xs))
    (fin : ∀ v h' tk, (0 < xs.size → (intItems xs)[argBest (fun i j => decide (numAt xs i < numAt xs j)) (xs.size - 1)]? = some v) → (xs.size = 0 → v = dv) → (∀ b o, s.heap.get? b = some o → h'.get? b = some o) → Q v { s with heap := h', toks := tk }) :
    wpAny (model prog w) A (call (.builtin "min") [.ref l] [(Str.ofString "default", dv)]) Q E s := by
  have nm : (toString "min" ++ toString ".loop" : String) = "min.loop" := by decide
  refine kw_tree F.kind_min F.plain_min F.entry_min (minD_args _ _) ?_
  show wpAny _ A.in1 (Builtin.Builtins.bindParams "min" ["key", "default"] 0 ⟨[], [(Str.ofString "default", dv)]⟩ >>= _) _ _ s
  refine wpAny_bind (wpAny_of_eq (show Builtin.Builtins.bindParams "min" ["key", "default"] 0 ⟨[], [(Str.ofString "default", dv)]⟩ = pure [none, some dv] from by first | rfl | kernel_rfl) (wpAny_bind (wpAny_pure (wpAny_bind ?_))))
  refine iter_intList hl fun s2 e st hfp hlI => ?_
  subst e
  refine wpAny_bind (wpAny_newObj_type ?_)
  rw [nm]
  refine wpAny_pure ⟨plainId_quiet F.plain_min_loop _, ?_⟩
  have W := Walks.list (prog := prog) (w := w) (A := A.in1) hh s.heap.objs.size l hlI (intItems xs)
  refine minD_first (A := A) (n := (intItems xs).size) (c := 0) dv W _ (CmpOf.ints_lt (numAt xs) (fun _ _ => intItems_at)) _ ?_ ?_ ?_ fun v h' tk p0 d0 hk => ?_
  · exact fun hm => Nat.lt_irrefl _ (hfp _ hm)
  · exact W.frame _ _ _ st fun b _ o e => Heap.get?_push_of_some _ e
  · exact Heap.get?_push_size _ rfl
  have sz : (intItems xs).size = xs.size := by simp [intItems]
  rw [sz] at p0 d0
  exact fin v h' tk p0 d0 (old_kept fun b o nb e => hk b o (by simpa using nb) (Nat.ne_of_lt (Heap.lt_size e)) (Heap.get?_push_of_some _ e))
theorem minD_raw (dv : Value) (hh : A.handled = none) (hl : s.heap.IsList l its.toArray) (hi : IntsAre its ns)
    (h : ∀ h' tk, (∀ b o, s.heap.get? b = some o → h'.get? b = some o) → (ns = [] → Q dv { s with heap := h', toks := tk }) ∧ ∀ M t', M ∈ ns → (∀ a, a ∈ ns → M ≤ a) → Q (.int M t') { s with heap := h', toks := tk }) : wpAny (model prog w) A (call (.builtin "min") [.ref l] [(Str.ofString "default", dv)]) Q E s := by
  obtain ⟨xs, e⟩ := hi.allInts.items
  have hn : numsOf (intItems xs).toList = ns := by rw [← e]; exact hi.numsOf
  rw [nums_intItems] at hn
  subst hn
  rw [e] at hl
  refine minD_ints dv hh hl fun v h' tk hv hd hk => ?_
  obtain ⟨q0, q1⟩ := h h' tk hk
  by_cases hz : xs.size = 0
  · rw [hd hz]
    exact q0 (List.eq_nil_of_length_eq_zero (by rw [List.length_map, Array.length_toList]; exact hz))
  · obtain ⟨t, rfl⟩ := intItems_at (hv (by omega))
    obtain ⟨h1, h2⟩ := argBest_lt (numAt xs) (xs.size - 1)
    refine q1 _ t ?_ fun a ha => ?_
    · rw [numAt_eq]; exact PySem.getD_mem (by rw [List.length_map, Array.length_toList]; omega)
    · obtain ⟨j, hj, rfl⟩ := mem_getD ha
      rw [List.length_map, Array.length_toList] at hj
      rw [← numAt_eq]
      exact h2 j (by omega)
end
def rMinD (K : PySem.W.Frag) (d : V) : List V → List V → Hp → VK → Prop := fun vs zs H Q => ∃ (a : Addr) (ns : List Int), vs = [V.ref a] ∧ zs = [d] ∧ SqL K H a (ns.map V.int) ∧ (ns = [] → Q d H) ∧ ∀ M, M ∈ ns → (∀ a, a ∈ ns → M ≤ a) → Q (.int M) H
theorem cr_minD {X : Cx} {d : V} (hc : X.calm = true) : CallRK X (.builtin "min") [Str.ofString "default"] (rMinD X.K d) := by
  intro pins s σ H vs zs us ws Q I r rz h
  obtain ⟨a, ns, rfl, rfl, hs, q0, q1⟩ := h
  obtain rfl := Vals.ref1 r
  obtain ⟨w1, rfl, e1⟩ := vals1 rz
  obtain ⟨its, rv, hl, _⟩ := I.list hs
  exact minD_raw w1 (I.ok.hd hc) hl.isList rv.ints fun h' tk hk => ⟨fun hz => ⟨d, H, I.kept hk, e1, q0 hz⟩, fun M t' h1 h2 => ⟨.int M, H, I.kept hk, ⟨_, rfl⟩, q1 M h1 h2⟩⟩
section
variable {K : PySem.W.Frag} {σ : L2.St} {H : Hp} {ta td : TE}
theorem ev_minD {ns : List Int} {d r : V} (h : EvL ta σ H (ns.map V.int)) (hd : Ev td σ H d) (h0 : ns = [] → r = d) (h1 : ∀ M, M ∈ ns → (∀ a, a ∈ ns → M ≤ a) → r = .int M) : Ev (tCKw (rMinD K d) (tCons ta tNil) (tCons td tNil)) σ H r := fun H1 e Q q =>
  h H1 e _ fun p H2 _ e2 h2 => hd H2 (e.trans e2) _ fun H3 e3 => ⟨p, ns, rfl, rfl, sq_of (e3 _ _ h2), (fun z => h0 z ▸ q H3 (e2.trans e3)), fun M a b => h1 M a b ▸ q H3 (e2.trans e3)⟩
theorem ev_minDV {a : Addr} {ns : List Int} {d r : V} (h : Ev ta σ H (.ref a)) (hx : SqL K H a (ns.map V.int)) (hd : Ev td σ H d) (h0 : ns = [] → r = d) (h1 : ∀ M, M ∈ ns → (∀ a, a ∈ ns → M ≤ a) → r = .int M) : Ev (tCKw (rMinD K d) (tCons ta tNil) (tCons td tNil)) σ H r := fun H1 e Q q =>
  h H1 e _ fun H2 e2 => hd H2 (e.trans e2) _ fun H3 e3 => ⟨a, ns, rfl, rfl, ex_l ((e.trans e2).trans e3) hx, (fun z => h0 z ▸ q H3 (e2.trans e3)), fun M a b => h1 M a b ▸ q H3 (e2.trans e3)⟩
end
section
variable {prog : Program} {w : World} {A : Around} {R : Result → Shared → Prop} {I : Addr} {fp wr : List Addr} {n : Nat} {P : Nat → Value → Prop} {St : Nat → Heap → Prop}
theorem maxD_turn (dv : Value) (W : Walks prog w A.in1 I fp wr n P St) (bt : Nat → Nat → Bool) (cmp : CmpOf prog w A.in1 .Gt P bt) (B : Addr) (hB : B ∉ fp) : ∀ (k j : Nat) (s : Shared) (vb : Value) (c : Nat), n - (j + 1) = k → j + 1 ≤ n → St (j + 1) s.heap → P (argBest bt j) vb → s.heap.get? B = some { cls := .type "list", dict := none, data := .seq #[vb, vb] c, slots := #[] } →
    (∀ v h' tk, P (argBest bt (n - 1)) v → (∀ b o, b ∉ wr → b ≠ B → s.heap.get? b = some o → h'.get? b = some o) → R (.ok (.ret v)) { s with heap := h', toks := tk }) → codeAny (model prog w) A (.builtin "max.loop" ⟨[.ref I, .none, .ref B], [("default", dv)]⟩) R s := by
  have Bw : B ∉ wr := fun h => hB (W.sub _ h)
  have nm : (toString "max" ++ toString ".loop" : String) = "max.loop" := by decide
  intro k
  induction k with
  | zero =>
    intro j s vb c hk hj st hp hs fin
    have jn : j + 1 = n := by omega
    refine codeAny_builtin F.entry_max_loop ?_; rw [Around.under_plainId F.plain_max_loop _]
    show wpAny _ A.in1 (seqItems? (.ref B) >>= _) _ _ s
    refine wpAny_bind (wpAny_seqItems hs rfl ?_); show wpAny _ A.in1 (tryCatch (pyNext (.ref I)) _ >>= _) _ _ s
    refine wpAny_bind (wpAny_tryCatch (W.done s _ _ (jn ▸ st) fun h1 t1 k1 => ?_))
    show wpAny _ A.in1 (updateSeq B (fun _ => #[]) >>= _) _ _ _
    refine wpAny_bind (wpAny_updateSeq (k1 B _ Bw hs) rfl (wpAny_bind (wpAny_letGo (wpAny_pure ?_))))
    exact fin vb _ t1 (by rw [← jn]; exact hp) fun b o nb nB e => (Heap.get?_update_other _ _ (Ne.symm nB)).trans (k1 b o nb e)
  | succ k ih =>
    intro j s vb c hk hj st hp hs fin
    have lt : j + 1 < n := by omega
    refine codeAny_builtin F.entry_max_loop ?_; rw [Around.under_plainId F.plain_max_loop _]
    show wpAny _ A.in1 (seqItems? (.ref B) >>= _) _ _ s
    refine wpAny_bind (wpAny_seqItems hs rfl ?_); show wpAny _ A.in1 (tryCatch (pyNext (.ref I)) _ >>= _) _ _ s
    refine wpAny_bind (wpAny_tryCatch (W.item (j + 1) s _ _ lt st fun v h1 t1 p1 st1 k1 => ?_))
    have hs1 := k1 B _ Bw hs
    show wpAny _ A.in1 (tryCatch (holding [v, v] (richCompare .Gt v vb >>= _)) _ >>= _) _ _ _
    refine wpAny_bind (wpAny_tryCatch (wpAny_holding (wpAny_bind (cmp (j + 1) (argBest bt j) v vb _ _ _ p1 hp ?_))))
    refine wpAny_bind (wpAny_holding (wpAny_truthy_bool ?_)); refine wpAny_bind (wpAny_letGo (wpAny_pure ?_))
    cases yes : bt (j + 1) (argBest bt j) with
    | true =>
      simp only [if_true]
      refine wpAny_bind (wpAny_updateSeq hs1 rfl (wpAny_bind (wpAny_letGo ?_))); rw [nm]
      refine wpAny_pure ⟨plainId_quiet F.plain_max_loop _, ih (j + 1) _ v _ (by omega) lt (W.frame _ _ _ st1 fun b hb o e => ?_) (by simp only [argBest, yes, if_true]; exact p1) (Heap.get?_update_self _ hs1 rfl) fun v2 h2 t2 p2 k2 => ?_⟩
      · exact (Heap.get?_update_other _ _ fun h : B = b => hB (h ▸ hb)).trans e
      · exact fin v2 h2 t2 p2 fun b o nb nB e => k2 b o nb nB ((Heap.get?_update_other _ _ (Ne.symm nB)).trans (k1 b o nb e))
    | false =>
      simp only [Bool.false_eq_true, if_false]
      refine wpAny_bind (wpAny_letGo ?_); rw [nm]
      refine wpAny_pure ⟨plainId_quiet F.plain_max_loop _, ih (j + 1) _ vb _ (by omega) lt st1 (by simp only [argBest, yes, Bool.false_eq_true, if_false]; exact hp) hs1 fun v2 h2 t2 p2 k2 => ?_⟩
      exact fin v2 h2 t2 p2 fun b o nb nB e => k2 b o nb nB (k1 b o nb e)
theorem maxD_first (dv : Value) (W : Walks prog w A.in1 I fp wr n P St) (bt : Nat → Nat → Bool) (cmp : CmpOf prog w A.in1 .Gt P bt) (B : Addr) (hB : B ∉ fp) {s : Shared} {c : Nat} (st : St 0 s.heap) (hs : s.heap.get? B = some { cls := .type "list", dict := none, data := .seq #[] c, slots := #[] })
    (fin : ∀ v h' tk, (0 < n → P (argBest bt (n - 1)) v) → (n = 0 → v = dv) → (∀ b o, b ∉ wr → b ≠ B → s.heap.get? b = some o → h'.get? b = some o) → R (.ok (.ret v)) { s with heap := h', toks := tk }) : codeAny (model prog w) A (.builtin "max.loop" ⟨[.ref I, .none, .ref B], [("default", dv)]⟩) R s := by
  have Bw : B ∉ wr := fun h => hB (W.sub _ h)
  have nm : (toString "max" ++ toString ".loop" : String) = "max.loop" := by decide
  refine codeAny_builtin F.entry_max_loop ?_; rw [Around.under_plainId F.plain_max_loop _]
  show wpAny _ A.in1 (seqItems? (.ref B) >>= _) _ _ s
  refine wpAny_bind (wpAny_seqItems hs rfl ?_); show wpAny _ A.in1 (tryCatch (pyNext (.ref I)) _ >>= _) _ _ s
  by_cases hn : n = 0
  · refine wpAny_bind (wpAny_tryCatch (W.done s _ _ (hn ▸ st) fun h1 t1 k1 => wpAny_bind (wpAny_rule (wpAny_pure ?_))))
    exact fin dv h1 t1 (fun z => absurd z (by omega)) (fun _ => rfl) fun b o nb _ e => k1 b o nb e
  · refine wpAny_bind (wpAny_tryCatch (W.item 0 s _ _ (by omega) st fun v h1 t1 p1 st1 k1 => ?_))
    have hs1 := k1 B _ Bw hs
    show wpAny _ A.in1 (updateSeq B (fun _ => #[v, v]) >>= _) _ _ _
    refine wpAny_bind (wpAny_updateSeq hs1 rfl ?_); rw [nm]
    refine wpAny_pure ⟨plainId_quiet F.plain_max_loop _, maxD_turn dv W bt cmp B hB _ 0 _ v _ rfl (by omega) (W.frame _ _ _ st1 fun b hb o e => ?_) p1 (Heap.get?_update_self _ hs1 rfl) fun v2 h2 t2 p2 k2 => ?_⟩
    · exact (Heap.get?_update_other _ _ fun h : B = b => hB (h ▸ hb)).trans e
    · exact fin v2 h2 t2 (fun _ => p2) (fun z => absurd z hn) fun b o nb nB e => k2 b o nb nB ((Heap.get?_update_other _ _ (Ne.symm nB)).trans (k1 b o nb e))
end
theorem maxD_args (a d : Value) : argsOk "max" ⟨[a], [(Str.ofString "default", d)]⟩ := by unfold argsOk; kernel_rfl
section
variable {prog : Program} {w : World} {A : Around} {E : Value → Shared → Prop} {s : Shared} {l : Addr} {its : List Value} {ns : List Int} {Q : Value → Shared → Prop}
theorem maxD_ints {xs : Array (Int × Tok)} (dv : Value) (hh : A.handled = none) (hl : s.heap.IsList l (intItems xs))
    (fin : ∀ v h' tk, (0 < xs.size → (intItems xs)[argBest (fun i j => decide (numAt xs i > numAt xs j)) (xs.size - 1)]? = some v) → (xs.size = 0 → v = dv) → (∀ b o, s.heap.get? b = some o → h'.get? b = some o) → Q v { s with heap := h', toks := tk }) :
    wpAny (model prog w) A (call (.builtin "max") [.ref l] [(Str.ofString "default", dv)]) Q E s := by
  have nm : (toString "max" ++ toString ".loop" : String) = "max.loop" := by decide
  refine kw_tree F.kind_max F.plain_max F.entry_max (maxD_args _ _) ?_
  show wpAny _ A.in1 (Builtin.Builtins.bindParams "max" ["key", "default"] 0 ⟨[], [(Str.ofString "default", dv)]⟩ >>= _) _ _ s
  refine wpAny_bind (wpAny_of_eq (show Builtin.Builtins.bindParams "max" ["key", "default"] 0 ⟨[], [(Str.ofString "default", dv)]⟩ = pure [none, some dv] from by first | rfl | kernel_rfl) (wpAny_bind (wpAny_pure (wpAny_bind ?_))))
  refine iter_intList hl fun s2 e st hfp hlI => ?_
  subst e
  refine wpAny_bind (wpAny_newObj_type ?_)
  rw [nm]
  refine wpAny_pure ⟨plainId_quiet F.plain_max_loop _, ?_⟩
  have W := Walks.list (prog := prog) (w := w) (A := A.in1) hh s.heap.objs.size l hlI (intItems xs)
  refine maxD_first (A := A) (n := (intItems xs).size) (c := 0) dv W _ (CmpOf.ints_gt (numAt xs) (fun _ _ => intItems_at)) _ ?_ ?_ ?_ fun v h' tk p0 d0 hk => ?_
  · exact fun hm => Nat.lt_irrefl _ (hfp _ hm)
  · exact W.frame _ _ _ st fun b _ o e => Heap.get?_push_of_some _ e
  · exact Heap.get?_push_size _ rfl
  have sz : (intItems xs).size = xs.size := by simp [intItems]
  rw [sz] at p0 d0
  exact fin v h' tk p0 d0 (old_kept fun b o nb e => hk b o (by simpa using nb) (Nat.ne_of_lt (Heap.lt_size e)) (Heap.get?_push_of_some _ e))
theorem maxD_raw (dv : Value) (hh : A.handled = none) (hl : s.heap.IsList l its.toArray) (hi : IntsAre its ns)
    (h : ∀ h' tk, (∀ b o, s.heap.get? b = some o → h'.get? b = some o) → (ns = [] → Q dv { s with heap := h', toks := tk }) ∧ ∀ M t', M ∈ ns → (∀ a, a ∈ ns → a ≤ M) → Q (.int M t') { s with heap := h', toks := tk }) : wpAny (model prog w) A (call (.builtin "max") [.ref l] [(Str.ofString "default", dv)]) Q E s := by
  obtain ⟨xs, e⟩ := hi.allInts.items
  have hn : numsOf (intItems xs).toList = ns := by rw [← e]; exact hi.numsOf
  rw [nums_intItems] at hn
  subst hn
  rw [e] at hl
  refine maxD_ints dv hh hl fun v h' tk hv hd hk => ?_
  obtain ⟨q0, q1⟩ := h h' tk hk
  by_cases hz : xs.size = 0
  · rw [hd hz]
    exact q0 (List.eq_nil_of_length_eq_zero (by rw [List.length_map, Array.length_toList]; exact hz))
  · obtain ⟨t, rfl⟩ := intItems_at (hv (by omega))
    obtain ⟨h1, h2⟩ := argBest_gt (numAt xs) (xs.size - 1)
    refine q1 _ t ?_ fun a ha => ?_
    · rw [numAt_eq]; exact PySem.getD_mem (by rw [List.length_map, Array.length_toList]; omega)
    · obtain ⟨j, hj, rfl⟩ := mem_getD ha
      rw [List.length_map, Array.length_toList] at hj
      rw [← numAt_eq]
      exact h2 j (by omega)
end
def rMaxD (K : PySem.W.Frag) (d : V) : List V → List V → Hp → VK → Prop := fun vs zs H Q => ∃ (a : Addr) (ns : List Int), vs = [V.ref a] ∧ zs = [d] ∧ SqL K H a (ns.map V.int) ∧ (ns = [] → Q d H) ∧ ∀ M, M ∈ ns → (∀ a, a ∈ ns → a ≤ M) → Q (.int M) H
theorem cr_maxD {X : Cx} {d : V} (hc : X.calm = true) : CallRK X (.builtin "max") [Str.ofString "default"] (rMaxD X.K d) := by
  intro pins s σ H vs zs us ws Q I r rz h
  obtain ⟨a, ns, rfl, rfl, hs, q0, q1⟩ := h
  obtain rfl := Vals.ref1 r
  obtain ⟨w1, rfl, e1⟩ := vals1 rz
  obtain ⟨its, rv, hl, _⟩ := I.list hs
  exact maxD_raw w1 (I.ok.hd hc) hl.isList rv.ints fun h' tk hk => ⟨fun hz => ⟨d, H, I.kept hk, e1, q0 hz⟩, fun M t' h1 h2 => ⟨.int M, H, I.kept hk, ⟨_, rfl⟩, q1 M h1 h2⟩⟩
section
variable {K : PySem.W.Frag} {σ : L2.St} {H : Hp} {ta td : TE}
theorem ev_maxD {ns : List Int} {d r : V} (h : EvL ta σ H (ns.map V.int)) (hd : Ev td σ H d) (h0 : ns = [] → r = d) (h1 : ∀ M, M ∈ ns → (∀ a, a ∈ ns → a ≤ M) → r = .int M) : Ev (tCKw (rMaxD K d) (tCons ta tNil) (tCons td tNil)) σ H r := fun H1 e Q q =>
  h H1 e _ fun p H2 _ e2 h2 => hd H2 (e.trans e2) _ fun H3 e3 => ⟨p, ns, rfl, rfl, sq_of (e3 _ _ h2), (fun z => h0 z ▸ q H3 (e2.trans e3)), fun M a b => h1 M a b ▸ q H3 (e2.trans e3)⟩
theorem ev_maxDV {a : Addr} {ns : List Int} {d r : V} (h : Ev ta σ H (.ref a)) (hx : SqL K H a (ns.map V.int)) (hd : Ev td σ H d) (h0 : ns = [] → r = d) (h1 : ∀ M, M ∈ ns → (∀ a, a ∈ ns → a ≤ M) → r = .int M) : Ev (tCKw (rMaxD K d) (tCons ta tNil) (tCons td tNil)) σ H r := fun H1 e Q q =>
  h H1 e _ fun H2 e2 => hd H2 (e.trans e2) _ fun H3 e3 => ⟨a, ns, rfl, rfl, ex_l ((e.trans e2).trans e3) hx, (fun z => h0 z ▸ q H3 (e2.trans e3)), fun M a b => h1 M a b ▸ q H3 (e2.trans e3)⟩
end
end Own
/-! own rules: math.comb of small numbers; orders of tuples; None -/
namespace Own
open PySem PySem.Spec PyProof.Rows L2 Evl PySem.Calls
namespace Cmb
theorem entry : entryFor table "math.comb" = some Builtin.«math.comb» := entryFor_of_tree (by kernel_rfl)
theorem kind : builtinKind "math.comb" = none := by kernel_rfl
theorem plain : plainId "math.comb" = true := by decide +kernel
theorem args (a b : Value) : argsOk "math.comb" ⟨[a, b], []⟩ := by unfold argsOk; kernel_rfl
end Cmb
theorem run_comb (a : Int) (t : Tok) (b : Int) (u : Tok) (h0 : ¬ a < 0) (h1 : ¬ b < 0) (h2 : ¬ b > a) (h3 : ¬ min b (a - b) > Builtin.Math.maxSsize) (h4 : ¬ min b (a - b) > Builtin.Math.manyFactors) (h5 : ¬ min b (a - b) > 9000)
    (hsz : (Builtin.Math.fallingProduct a (min b (a - b)).toNat / Builtin.Math.fallingProduct (min b (a - b)) (min b (a - b)).toNat).natAbs.log2 < bitsLine) :
    Gives (Builtin.«math.comb» ⟨[.int a t, .int b u], []⟩) (.int (Builtin.Math.fallingProduct a (min b (a - b)).toNat / Builtin.Math.fallingProduct (min b (a - b)) (min b (a - b)).toNat)) :=
  .of_wp fun M A E s Q h => by
    obtain ⟨hp, g, d, tk, os⟩ := s
    wp_walk
    (try (refine wpAny_ite_false (decide_eq_false (Nat.not_le.mpr hsz)) ?_; wp_walk))
    exact ⟨_, rfl, h⟩
theorem comb_small : ((List.range 7).all fun a => (List.range (a + 1)).all fun b => decide (Builtin.Math.fallingProduct (a : Int) (min (b : Int) ((a : Int) - b)).toNat / Builtin.Math.fallingProduct (min (b : Int) ((a : Int) - b)) (min (b : Int) ((a : Int) - b)).toNat = ((chooseN a b : Nat) : Int)) && decide (chooseN a b ≤ 20)) = true := by decide +kernel
def rComb : List V → Hp → VK → Prop := fun vs H Q => ∃ a b : Nat, vs = [N_ a, N_ b] ∧ a < 7 ∧ b ≤ a ∧ Q (N_ (chooseN a b)) H
theorem comb_eq {a b : Nat} (ha : a < 7) (hb : b ≤ a) : Builtin.Math.fallingProduct (a : Int) (min (b : Int) ((a : Int) - b)).toNat / Builtin.Math.fallingProduct (min (b : Int) ((a : Int) - b)) (min (b : Int) ((a : Int) - b)).toNat = ((chooseN a b : Nat) : Int) ∧ chooseN a b ≤ 20 := by
  have h := List.all_eq_true.mp (List.all_eq_true.mp comb_small a (List.mem_range.mpr ha)) b (List.mem_range.mpr (by omega))
  simp only [Bool.and_eq_true, decide_eq_true_eq] at h
  exact h
theorem cr_comb {X : Cx} : CallR X (.builtin "math.comb") rComb := by
  intro pins s σ H vs us Q I r h
  obtain ⟨a, b, rfl, ha, hb, q⟩ := h
  obtain ⟨t, u, rfl⟩ := Vals.int2 r
  obtain ⟨e, hl⟩ := comb_eq ha hb
  have m1 : Builtin.Math.maxSsize = 9223372036854775807 := rfl
  have m2 : Builtin.Math.manyFactors = 20000 := rfl
  refine call_function_meets Cmb.kind Cmb.plain Cmb.entry (Cmb.args _ _) (run_comb (a : Int) t (b : Int) u (by omega) (by omega) (by omega) (by omega) (by omega) (by omega) ?_).meets ?_
  · rw [e]
    refine Nat.lt_of_le_of_lt (m := 5) ?_ (by decide)
    show (chooseN a b).log2 ≤ 5
    by_cases h0 : chooseN a b = 0
    · rw [h0]
      decide
    · exact Nat.le_of_lt_succ ((Nat.log2_lt h0).mpr (by show _ < 64; omega))
  · rw [e]
    exact ⟨N_ (chooseN a b), H, I.tok _, ⟨_, rfl⟩, q⟩
theorem rc_comb {H : Hp} {a b : Nat} (ha : a < 7) (hb : b ≤ a) : RC rComb [N_ a, N_ b] H (N_ (chooseN a b)) := fun H1 _ _ q => ⟨a, b, rfl, ha, hb, q H1 (Ex.refl H1)⟩
/-- t >= u of tuples of the same integers -/
def rGeS (K : PySem.W.Frag) : R2 := fun x y H Q => ∃ (a b : Addr) (ns : List Int), x = .ref a ∧ y = .ref b ∧ SqT K H a (ns.map V.int) ∧ SqT K H b (ns.map V.int) ∧ Q (.bl true) H
theorem lex_same : ∀ (k i : Nat), Ob.lexAt (fun _ => true) (fun _ => true) true i k = true
  | 0, _ => rfl
  | k + 1, i => by
    rw [Ob.lexAt_succ, if_pos rfl]
    exact lex_same k (i + 1)
theorem op_geS {X : Cx} (hu : X.A.units < cLine) : OpR X (compareOp .GtE) (rGeS X.K) := by
  intro pins s σ H x y v u Q I rx ry h
  obtain ⟨a, b, ns, rfl, rfl, ha, hb, q⟩ := h
  cases rx
  cases ry
  obtain ⟨its, r1, p1, _⟩ := I.tuple ha
  obtain ⟨jts, r2, p2, _⟩ := I.tuple hb
  have i1 : IntsAre its ns := Vals.ints r1
  have i2 : IntsAre jts ns := Vals.ints r2
  have l1 : its.toArray.size = ns.length := by rw [List.size_toArray]; exact i1.length
  have l2 : jts.toArray.size = ns.length := by rw [List.size_toArray]; exact i2.length
  have it1 : ∀ j (h : j < its.toArray.size), ∃ t, its.toArray[j] = .int (ns.getD j 0) t := fun j h => PyProof.Rows.IntsAre.int_at i1 _ _ (by simp at h; simp [h])
  have it2 : ∀ j (h : j < jts.toArray.size), ∃ t, jts.toArray[j] = .int (ns.getD j 0) t := fun j h => PyProof.Rows.IntsAre.int_at i2 _ _ (by simp at h; simp [h])
  have R := Ob.RcOp.tuples_ge (A := X.A) (s := s) (e := fun _ => true) (r := fun _ => true) p1 p2 hu (fun j g1 g2 => by
    obtain ⟨t, et⟩ := it1 j g1
    obtain ⟨t', et'⟩ := it2 j g2
    rw [et, et']
    have z := SeqAt.EqAt.int_int (A := X.A.in1) (s := s) (ns.getD j 0) t (ns.getD j 0) t'
    rw [show (ns.getD j 0 == ns.getD j 0) = true from beq_self_eq_true _] at z
    exact z) (fun j g1 g2 _ => by
    obtain ⟨t, et⟩ := it1 j g1
    obtain ⟨t', et'⟩ := it2 j g2
    rw [et, et']
    have z := Ob.RcOp.ge_int (A := X.A.in1) (s := s) (ns.getD j 0) (ns.getD j 0) t t'
    rw [decide_eq_true (Int.le_refl _)] at z
    exact z)
  rw [l1, l2, decide_eq_true (Nat.le_refl _), lex_same] at R
  have z : wpAny (model X.prog X.w) X.A (compareOp .GtE (.ref a) (.ref b)) (EP X pins σ Q) X.xe s := R X.prog X.w X.xe (EP X pins σ Q) ⟨.bl _, H, I, rfl, q⟩
  exact z
theorem rv_geS {K : PySem.W.Frag} {H : Hp} {a b : Addr} {ns : List Int} (h1 : SqT K H a (ns.map V.int)) (h2 : SqT K H b (ns.map V.int)) : RV (rGeS K) (.ref a) (.ref b) H (.bl true) := fun H1 e _ q => ⟨a, b, ns, rfl, rfl, ex_t e h1, ex_t e h2, q H1 (Ex.refl H1)⟩
theorem pe_sliceSK {X : Cx} {K : PySem.W.Frag} (hK : X.K = K) {e lo st : Expr} {te : TE} {tl ts : TO} {p3 pos : Pos} (he : PE X e te) (hl : PO X (some lo) tl) (hst : PO X (some st) ts) : PE X (.Subscript e (.Slice (some lo) none (some st) p3) pos) (tSlS K te tl ts) := by
  subst hK
  exact pe_sliceS he hl hst
theorem pi_zipMK {X : Cx} {K : PySem.W.Frag} (hK : X.K = K) {e e2 : Expr} {ta : TA} {p pos tpos : Pos} {elts : List Expr} {kk : Nat} (hg : Gl X "zip") (hm : X.mg "zip" = none) (ha : PA X [e, e2] ta) (hs : starEach [e, e2] X.env = (false, eval e X.env) :: starEach [e2] X.env := by rfl) (hpl : (backTo pos (starEach [e2] X.env)).any (·.1) = false := by rfl) :
    PI X (.Tuple elts kk tpos) (.Call (.Name "zip" p) [e, e2] [] pos) (iZipM K ta) := by
  subst hK
  exact pi_zipM hg hm ha hs hpl
end Own
/-! the digits of a number as digits at places, from above; shift sums by classes of places -/
namespace Own
def hdR (xs : List Nat) : Nat → PL
  | 0 => []
  | i + 1 => if 0 < xs.getD i 0 then (xs.getD i 0, i) :: hdR xs i else hdR xs i
theorem hdR_lt (xs : List Nat) : ∀ i, ∀ x ∈ hdR xs i, x.2 < i ∧ 0 < x.1 ∧ x.1 = xs.getD x.2 0
  | 0, x, h => by cases h
  | i + 1, x, h => by
    unfold hdR at h
    split at h
    · rename_i hp
      rcases List.mem_cons.mp h with rfl | h
      · exact ⟨Nat.lt_succ_self i, hp, rfl⟩
      · obtain ⟨h1, h2⟩ := hdR_lt xs i x h
        exact ⟨by omega, h2⟩
    · obtain ⟨h1, h2⟩ := hdR_lt xs i x h
      exact ⟨by omega, h2⟩
theorem hdR_vd {p : Nat} {xs : List Nat} (h : ∀ d ∈ xs, d < p) (h0 : 0 < p) : ∀ i, Vd p (hdR xs i)
  | 0 => .nil
  | i + 1 => by
    unfold hdR
    split
    · refine .cons ?_ (fun x hx => (hdR_lt xs i x hx).1) (hdR_vd h h0 i)
      by_cases hi : i < xs.length
      · rw [List.getD_eq_getElem?_getD, List.getElem?_eq_getElem hi]
        exact h _ (List.getElem_mem hi)
      · rw [List.getD_eq_getElem?_getD, List.getElem?_eq_none (by omega)]
        exact h0
    · exact hdR_vd h h0 i
theorem hdR_len (xs : List Nat) : ∀ i, (hdR xs i).length ≤ i
  | 0 => Nat.le_refl _
  | i + 1 => by
    have := hdR_len xs i
    unfold hdR
    split
    · rw [List.length_cons]; omega
    · omega
theorem od_snoc (b : Nat) : ∀ (xs : List Nat) (x : Nat), od b (xs ++ [x]) = od b xs + x * b ^ xs.length
  | [], x => by
    show x + b * 0 = 0 + x * b ^ 0
    rw [Nat.pow_zero]
    omega
  | y :: r, x => by
    rw [List.cons_append, od, od_snoc b r x, od, List.length_cons, Nat.pow_succ, Nat.mul_add]
    have : b * (x * b ^ r.length) = x * (b ^ r.length * b) := by
      rw [Nat.mul_left_comm, Nat.mul_comm b]
    omega
theorem getD_get {xs : List Nat} {i : Nat} (h : i < xs.length) : xs[i]? = some (xs.getD i 0) := by
  rw [List.getElem?_eq_getElem h, List.getD_eq_getElem?_getD, List.getElem?_eq_getElem h]
  rfl
theorem take_succ {xs : List Nat} {i : Nat} (h : i < xs.length) : xs.take (i + 1) = xs.take i ++ [xs.getD i 0] := by
  rw [List.take_add_one, getD_get h]
  rfl
theorem nl_hdR {p : Nat} (xs : List Nat) : ∀ i, i ≤ xs.length → nl p (hdR xs i) = od p (xs.take i)
  | 0, _ => rfl
  | i + 1, h => by
    have ih := nl_hdR (p := p) xs i (by omega)
    rw [take_succ (by omega), od_snoc, List.length_take, Nat.min_eq_left (by omega), ← ih]
    rw [show hdR xs (i + 1) = if 0 < xs.getD i 0 then (xs.getD i 0, i) :: hdR xs i else hdR xs i from rfl]
    split
    · rw [nl_cons]
      omega
    · have : xs.getD i 0 = 0 := by omega
      rw [this, Nat.zero_mul]
      omega
/-- the sum by places -/
def gsum (p f j : Nat) : Nat → List Nat → Nat
  | _, [] => 0
  | a, x :: r => x * wt p f j a + gsum p f j (a + 1) r
theorem gsum_snoc (p f j : Nat) : ∀ (xs : List Nat) (a x : Nat), gsum p f j a (xs ++ [x]) = gsum p f j a xs + x * wt p f j (a + xs.length)
  | [], a, x => by
    show x * wt p f j a + 0 = 0 + x * wt p f j (a + 0)
    rw [Nat.add_zero, Nat.zero_add]
    rfl
  | y :: r, a, x => by
    rw [List.cons_append, gsum, gsum_snoc p f j r (a + 1) x, gsum, List.length_cons, show a + 1 + r.length = a + (r.length + 1) by omega]
    omega
theorem sj_hdR {p f j : Nat} (xs : List Nat) : ∀ i, i ≤ xs.length → sj p f j (hdR xs i) = gsum p f j 0 (xs.take i)
  | 0, _ => rfl
  | i + 1, h => by
    have ih := sj_hdR (p := p) (f := f) (j := j) xs i (by omega)
    rw [take_succ (by omega), gsum_snoc, List.length_take, Nat.min_eq_left (by omega), Nat.zero_add, ← ih]
    rw [show hdR xs (i + 1) = if 0 < xs.getD i 0 then (xs.getD i 0, i) :: hdR xs i else hdR xs i from rfl]
    split
    · rw [sj_cons]
      omega
    · have : xs.getD i 0 = 0 := by omega
      rw [this, Nat.zero_mul]
      omega
def tsum (F : Nat → Nat) : Nat → Nat
  | 0 => 0
  | n + 1 => tsum F n + F n
theorem tsum_succ (F : Nat → Nat) : ∀ n, tsum F (n + 1) = F 0 + tsum (fun t => F (t + 1)) n
  | 0 => by
    show 0 + F 0 = F 0 + 0
    omega
  | n + 1 => by
    show tsum F (n + 1) + F (n + 1) = F 0 + (tsum (fun t => F (t + 1)) n + F (n + 1))
    rw [tsum_succ F n]
    omega
theorem tsum_congr {F G : Nat → Nat} : ∀ n, (∀ t, t < n → F t = G t) → tsum F n = tsum G n
  | 0, _ => rfl
  | n + 1, h => by
    show tsum F n + F n = tsum G n + G n
    rw [tsum_congr n fun t ht => h t (by omega), h n (by omega)]
theorem tsum_range (F : Nat → Nat) : ∀ n, ((List.range n).map F).sum = tsum F n
  | 0 => rfl
  | n + 1 => by
    rw [List.range_succ, List.map_append, List.sum_append, tsum_range F n]
    show tsum F n + (F n + 0) = tsum F n + F n
    omega
theorem wt_per (p f j a : Nat) : wt p f j (a + f) = wt p f j a := by
  unfold wt
  rw [show a + f + j = a + j + f by omega, Nat.add_mod_right]
theorem strd_nil (f t : Nat) : strd f t [] = [] := by cases t <;> rfl
/-- by classes -/
theorem cls_sum (p g j : Nat) : ∀ (xs : List Nat) (a : Nat), tsum (fun t => (strd (g + 1) t xs).sum * wt p (g + 1) j (a + t)) (g + 1) = gsum p (g + 1) j a xs
  | [], a => by
    have : ∀ n, tsum (fun t => (strd (g + 1) t []).sum * wt p (g + 1) j (a + t)) n = 0 := by
      intro n
      induction n with
      | zero => rfl
      | succ n ih =>
        show tsum (fun t => (strd (g + 1) t []).sum * wt p (g + 1) j (a + t)) n + (strd (g + 1) n []).sum * wt p (g + 1) j (a + n) = 0
        rw [ih, strd_nil, List.sum_nil, Nat.zero_mul]
    exact this _
  | x :: r, a => by
    have ih := cls_sum p g j r (a + 1)
    rw [tsum_succ, gsum]
    show (x + (strd (g + 1) g r).sum) * wt p (g + 1) j (a + 0) + tsum (fun t => (strd (g + 1) t r).sum * wt p (g + 1) j (a + (t + 1))) g = _
    rw [← ih]
    show _ = x * wt p (g + 1) j a + (tsum (fun t => (strd (g + 1) t r).sum * wt p (g + 1) j (a + 1 + t)) g + (strd (g + 1) g r).sum * wt p (g + 1) j (a + 1 + g))
    rw [show wt p (g + 1) j (a + 1 + g) = wt p (g + 1) j a from by rw [show a + 1 + g = a + (g + 1) by omega]; exact wt_per p (g + 1) j a, show wt p (g + 1) j (a + 0) = wt p (g + 1) j a from rfl, Nat.add_mul]
    have : tsum (fun t => (strd (g + 1) t r).sum * wt p (g + 1) j (a + (t + 1))) g = tsum (fun t => (strd (g + 1) t r).sum * wt p (g + 1) j (a + 1 + t)) g := tsum_congr g fun t _ => by rw [show a + (t + 1) = a + 1 + t by omega]
    rw [this]
    omega
theorem spare_eq {p f j : Nat} (hf : 1 ≤ f) (xs : List Nat) : ((List.range f).map fun t => (strd f t xs).sum * wt p f j t).sum = sj p f j (hdR xs xs.length) := by
  rw [tsum_range, sj_hdR xs xs.length (Nat.le_refl _), List.take_length]
  obtain ⟨g, rfl⟩ : ∃ g, f = g + 1 := ⟨f - 1, by omega⟩
  rw [← cls_sum p g j xs 0]
  exact tsum_congr _ fun t _ => by rw [Nat.zero_add]
/-- the places of k -/
def topL (p k : Nat) : PL := hdR (dg p k) (dg p k).length
structure TopOk (p f k : Nat) : Prop where
  vd : Vd p (topL p k)
  po : ∀ x ∈ topL p k, 0 < x.1
  nm : nl p (topL p k) = k
  ss : ∀ j, sj p f j (topL p k) = ds (p ^ f) (p ^ j * k)
theorem top_ok {p f : Nat} (hp : 1 < p) (hf : 1 ≤ f) (k : Nat) : TopOk p f k := by
  have v : Vd p (topL p k) := hdR_vd (fun d hd => dg_lt hp k d hd) (by omega) _
  have n : nl p (topL p k) = k := by
    unfold topL
    rw [nl_hdR _ _ (Nat.le_refl _), List.take_length, od_dg hp]
  exact ⟨v, fun x hx => (hdR_lt _ _ x hx).2.1, n, fun j => by rw [sj_ds hp hf j v, n]⟩
end Own
/-! choices and lots modulo a prime, by digits -/
namespace Own
/-- digit by digit within -/
def wiB (b : Nat) (i j : Nat) : Bool := if h : 1 < b ∧ 0 < i then decide (i % b ≤ j % b) && wiB b (i / b) (j / b) else true
termination_by i
decreasing_by exact Nat.div_lt_self h.2 h.1
theorem wi_zero (b j : Nat) : wiB b 0 j = true := by
  rw [wiB, dif_neg (by simp)]
theorem wi_pos {b i : Nat} (hb : 1 < b) (hi : 0 < i) (j : Nat) : wiB b i j = (decide (i % b ≤ j % b) && wiB b (i / b) (j / b)) := by
  rw [wiB, dif_pos ⟨hb, hi⟩]
theorem wi_eq {b : Nat} (hb : 1 < b) (i j : Nat) : wiB b i j = (decide (i % b ≤ j % b) && wiB b (i / b) (j / b)) := by
  by_cases hi : 0 < i
  · exact wi_pos hb hi j
  · have : i = 0 := by omega
    subst this
    rw [Nat.zero_mod, Nat.zero_div, wi_zero, wi_zero]
    simp
def inW (b i j : Nat) : Prop := i ≤ j ∧ ds b i + ds b (j - i) = ds b j
theorem wi_iff {b : Nat} (hb : 1 < b) : ∀ i j : Nat, wiB b i j = true ↔ inW b i j := by
  intro i
  induction i using Nat.strongRecOn with
  | ind i ih =>
    intro j
    by_cases hi : 0 < i
    · rw [wi_pos hb hi, Bool.and_eq_true, decide_eq_true_eq, ih _ (Nat.div_lt_self hi hb)]
      unfold inW
      have ei := Nat.mod_add_div i b
      have ej := Nat.mod_add_div j b
      have li := Nat.mod_lt i (show 0 < b by omega)
      have lj := Nat.mod_lt j (show 0 < b by omega)
      have step : ∀ u v : Nat, u < b → ds b (u + b * v) = u + ds b v := fun u v hu => by
        rw [ds_eq hb, Nat.add_mul_mod_self_left, Nat.mod_eq_of_lt hu, Nat.add_mul_div_left _ _ (by omega), Nat.div_eq_of_lt hu, Nat.zero_add]
      rw [ds_eq hb i, ds_eq hb j]
      by_cases hle : i % b ≤ j % b
      · have hm : i ≤ j ↔ i / b ≤ j / b := by
          constructor
          · intro h
            exact Nat.div_le_div_right h
          · intro h
            have : b * (i / b) ≤ b * (j / b) := Nat.mul_le_mul_left b h
            omega
        rw [hm]
        constructor
        · intro ⟨_, h1, h2⟩
          have h3 : b * (i / b) ≤ b * (j / b) := Nat.mul_le_mul_left b h1
          have e : j - i = (j % b - i % b) + b * (j / b - i / b) := by
            rw [Nat.mul_sub]
            omega
          refine ⟨h1, ?_⟩
          rw [e, step _ _ (by omega)]
          omega
        · intro ⟨h1, h2⟩
          have h3 : b * (i / b) ≤ b * (j / b) := Nat.mul_le_mul_left b h1
          have e : j - i = (j % b - i % b) + b * (j / b - i / b) := by
            rw [Nat.mul_sub]
            omega
          rw [e, step _ _ (by omega)] at h2
          exact ⟨hle, h1, by omega⟩
      · constructor
        · intro ⟨h, _⟩
          exact absurd h hle
        · intro ⟨h1, h2⟩
          exfalso
          have h4 : i / b < j / b := by
            rcases Nat.lt_or_ge (i / b) (j / b) with h | h
            · exact h
            · have : b * (j / b) ≤ b * (i / b) := Nat.mul_le_mul_left b h
              omega
          have h5 : b * (i / b + 1) ≤ b * (j / b) := Nat.mul_le_mul_left b h4
          rw [Nat.mul_add] at h5
          have e : j - i = (b + j % b - i % b) + b * (j / b - i / b - 1) := by
            rw [Nat.mul_sub, Nat.mul_sub]
            omega
          rw [e, step _ _ (by omega)] at h2
          clear ih e
          generalize i / b = I at *
          generalize j / b = J at *
          have h6 := ds_add_le hb I (J - I - 1)
          rw [show I + (J - I - 1) = J - 1 by omega] at h6
          have h7 := ds_add_le hb (J - 1) 1
          rw [show J - 1 + 1 = J by omega, ds_small hb hb] at h7
          omega
    · have : i = 0 := by omega
      subst this
      rw [wi_zero]
      unfold inW
      rw [ds_zero, Nat.sub_zero]
      simp
/-- choices, as a product of numbers below 21 -/
def luN (p n k : Nat) : Nat := if h : 1 < p ∧ 0 < k then chooseN (n % p) (k % p) * luN p (n / p) (k / p) else 1
termination_by k
decreasing_by exact Nat.div_lt_self h.2 h.1
theorem lu_zero (p n : Nat) : luN p n 0 = 1 := by
  rw [luN, dif_neg (by simp)]
theorem choose_zero (n : Nat) : chooseN n 0 = 1 := by cases n <;> rfl
theorem lu_eq {p : Nat} (hp : 1 < p) (n k : Nat) : luN p n k = chooseN (n % p) (k % p) * luN p (n / p) (k / p) := by
  by_cases hk : 0 < k
  · rw [luN, dif_pos ⟨hp, hk⟩]
  · have : k = 0 := by omega
    subst this
    rw [Nat.zero_mod, Nat.zero_div, lu_zero, lu_zero, choose_zero]
def lucR (p : Nat) : List Nat → List Nat → Nat → Nat
  | x :: r, y :: s, m => lucR p r s (m * chooseN x y % p)
  | _, _, m => m
theorem lucR_eq {p : Nat} (hp : 1 < p) : ∀ (k n m : Nat), k ≤ n → m < p → lucR p (dg p n) (dg p k) m = m * luN p n k % p := by
  intro k
  induction k using Nat.strongRecOn with
  | ind k ih =>
    intro n m hkn hm
    by_cases hk : 0 < k
    · rw [dg_pos hp hk, dg_pos hp (show 0 < n by omega), lucR, ih _ (Nat.div_lt_self hk hp) _ _ (Nat.div_le_div_right hkn) (Nat.mod_lt _ (by omega)), lu_eq hp n k, Nat.mod_mul_mod, Nat.mul_assoc]
    · have : k = 0 := by omega
      subst this
      rw [dg_zero, lu_zero, Nat.mul_one, Nat.mod_eq_of_lt hm]
      cases dg p n <;> rfl
/-- the rest of the number of choices -/
def chR (p n k : Nat) : Nat := if wiB p k n = true then luN p n k % p else 0
/-- numbers one after the other: w the sum of those ahead -/
def FN (p : Nat) : Nat → List Nat → Nat
  | _, [] => 1
  | w, x :: r => luN p (w + x) x * FN p (w + x) r
/-- one place: t the sum of the digits ahead -/
def plM : Nat → List Nat → Nat
  | _, [] => 1
  | t, x :: r => chooseN (t + x) x * plM (t + x) r
theorem fn_zero (p : Nat) : ∀ (xs : List Nat) (w : Nat), xs.sum = 0 → FN p w xs = 1
  | [], _, _ => rfl
  | x :: r, w, h => by
    rw [List.sum_cons] at h
    have hx : x = 0 := by omega
    subst hx
    rw [FN, lu_zero, fn_zero p r _ (by omega)]
theorem mod_add_lt {p x y : Nat} (h : x % p + y % p < p) : (x + y) % p = x % p + y % p ∧ (x + y) / p = x / p + y / p := by
  have h0 : 0 < p := by omega
  have e : x + y = (x % p + y % p) + p * (x / p + y / p) := by
    have h1 := Nat.mod_add_div x p
    have h2 := Nat.mod_add_div y p
    rw [Nat.mul_add]
    omega
  constructor
  · rw [e, Nat.add_mul_mod_self_left, Nat.mod_eq_of_lt h]
  · rw [e, Nat.add_mul_div_left _ _ h0, Nat.div_eq_of_lt h, Nat.zero_add]
theorem fn_split {p : Nat} (hp : 1 < p) : ∀ (xs : List Nat) (w : Nat), w % p + (xs.map (· % p)).sum < p → FN p w xs = plM (w % p) (xs.map (· % p)) * FN p (w / p) (xs.map (· / p))
  | [], _, _ => rfl
  | x :: r, w, h => by
    rw [List.map_cons, List.sum_cons] at h
    obtain ⟨e1, e2⟩ := mod_add_lt (x := w) (y := x) (p := p) (by omega)
    have ih := fn_split hp r (w + x) (by rw [e1]; omega)
    rw [FN, ih, lu_eq hp (w + x) x, e1, e2, List.map_cons, List.map_cons, plM, FN]
    simp only [Nat.mul_assoc, Nat.mul_comm, Nat.mul_left_comm]
theorem fn_snoc (p x : Nat) : ∀ (xs : List Nat) (w : Nat), FN p w (xs ++ [x]) = FN p w xs * luN p (w + xs.sum + x) x
  | [], w => by
    show luN p (w + x) x * 1 = 1 * luN p (w + 0 + x) x
    rw [Nat.mul_one, Nat.one_mul, Nat.add_zero]
  | y :: r, w => by
    rw [List.cons_append, FN, fn_snoc p x r (w + y), FN, List.sum_cons, Nat.mul_assoc, show w + (y + r.sum) + x = w + y + r.sum + x by omega]
theorem cf_step {b : Nat} (hb : 1 < b) (xs : List Nat) : CF b xs ↔ (xs.map (· % b)).sum < b ∧ CF b (xs.map (· / b)) := by
  have h1 := nc_iff hb (xs.sum + 1) xs (by omega)
  have h2 := nc_iff hb xs.sum (xs.map (· / b)) (by have := sum_div_le hb xs; omega)
  unfold CF
  rw [← h1, ← h2, nc, Bool.and_eq_true, decide_eq_true_eq]
theorem cf_nil (b : Nat) : CF b [] := by
  unfold CF
  rw [List.map_nil, List.sum_nil, ds_zero]
theorem cf_zeros {b : Nat} : ∀ {xs : List Nat}, xs.sum = 0 → CF b xs
  | [], _ => cf_nil b
  | x :: r, h => by
    rw [List.sum_cons] at h
    have hx : x = 0 := by omega
    have ih := cf_zeros (b := b) (xs := r) (by omega)
    unfold CF at ih ⊢
    rw [List.map_cons, List.sum_cons, List.sum_cons, hx, ih, ds_zero, Nat.zero_add, Nat.zero_add]
/-! the law's own choices -/
def bkL (p s : Nat) : List Nat := ((List.range (p - 1)).map (· + 1)).filter fun o => decide (o * s % p = 1)
def bkN (p s : Nat) : Nat := (bkL p s).getD 0 0
def stF (p t f : Nat) : Nat → Nat
  | 0 => f
  | s + 1 => stF p t f s * (t + (s + 1)) * bkN p (s + 1) % p
def plC (p : Nat) : Nat → Nat → List Nat → Nat
  | _, f, [] => f
  | t, f, r :: rs => plC p (t + r) (stF p t f r) rs
def P4 : List Nat := [2, 3, 5, 7]
theorem chk_st : P4.all (fun p => (List.range p).all fun f => (List.range p).all fun t => (List.range p).all fun r => if t + r < p then decide (stF p t f r = f * chooseN (t + r) r % p) else decide (stF p t f r = 0)) = true := by decide +kernel
theorem chk_bk : P4.all (fun p => (List.range p).all fun s => s == 0 || decide ((bkL p s).length ≠ 0 ∧ bkN p s < p)) = true := by decide +kernel
theorem p4_2 {p : Nat} (hp : p ∈ P4) : 1 < p ∧ p ≤ 7 := by
  unfold P4 at hp
  simp only [List.mem_cons, List.not_mem_nil, or_false] at hp
  omega
theorem st_get {p f t r : Nat} (hp : p ∈ P4) (hf : f < p) (ht : t < p) (hr : r < p) : (t + r < p → stF p t f r = f * chooseN (t + r) r % p) ∧ (p ≤ t + r → stF p t f r = 0) := by
  have h := List.all_eq_true.mp (List.all_eq_true.mp (List.all_eq_true.mp (List.all_eq_true.mp chk_st p hp) f (List.mem_range.mpr hf)) t (List.mem_range.mpr ht)) r (List.mem_range.mpr hr)
  constructor
  · intro h1
    rw [if_pos h1] at h
    exact of_decide_eq_true h
  · intro h1
    rw [if_neg (by omega)] at h
    exact of_decide_eq_true h
theorem st_zero (p t : Nat) : ∀ r, stF p t 0 r = 0
  | 0 => rfl
  | r + 1 => by
    rw [stF, st_zero p t r, Nat.zero_mul, Nat.zero_mul, Nat.zero_mod]
theorem st_lt {p t f : Nat} (hp : 0 < p) (hf : f < p) : ∀ r, stF p t f r < p
  | 0 => hf
  | r + 1 => Nat.mod_lt _ hp
theorem pl_zero (p : Nat) : ∀ (rs : List Nat) (t : Nat), plC p t 0 rs = 0
  | [], _ => rfl
  | r :: rs, t => by rw [plC, st_zero, pl_zero p rs]
theorem pl_get {p : Nat} (hp : p ∈ P4) : ∀ (rs : List Nat) (t f : Nat), (∀ r ∈ rs, r < p) → f < p → t < p → plC p t f rs = if t + rs.sum < p then f * plM t rs % p else 0
  | [], t, f, _, hf, ht => by
    rw [plC, plM, List.sum_nil, if_pos (by omega), Nat.mul_one, Nat.mod_eq_of_lt hf]
  | r :: rs, t, f, hr, hf, ht => by
    obtain ⟨h1, h2⟩ := st_get hp hf ht (hr r (List.mem_cons_self ..))
    rw [plC, List.sum_cons]
    by_cases hlt : t + r < p
    · rw [pl_get hp rs (t + r) _ (fun x hx => hr x (List.mem_cons_of_mem _ hx)) (st_lt (by omega) hf r) hlt, h1 hlt, plM, show t + (r + rs.sum) = t + r + rs.sum by omega]
      split
      · rw [Nat.mod_mul_mod, Nat.mul_assoc]
      · rfl
    · rw [h2 (by omega), pl_zero, if_neg (by omega)]
/-- the value of the law's choices -/
noncomputable def chV (p : Nat) (xs : List Nat) : Nat := open Classical in if CF p xs then FN p 0 xs % p else 0
theorem chV_yes {p : Nat} {xs : List Nat} (h : CF p xs) : chV p xs = FN p 0 xs % p := by
  unfold chV
  rw [if_pos h]
theorem chV_no {p : Nat} {xs : List Nat} (h : ¬ CF p xs) : chV p xs = 0 := by
  unfold chV
  rw [if_neg h]
noncomputable def chF (p f : Nat) (xs : List Nat) : Nat := f * chV p xs % p
theorem chF_step {p : Nat} (hp : p ∈ P4) {f : Nat} (hf : f < p) (xs : List Nat) : chF p (plC p 0 f (xs.map (· % p))) (xs.map (· / p)) = chF p f xs := by
  obtain ⟨h1, h7⟩ := p4_2 hp
  have hm : ∀ r ∈ xs.map (· % p), r < p := fun r hr => by
    obtain ⟨x, _, rfl⟩ := List.mem_map.mp hr
    exact Nat.mod_lt _ (by omega)
  have hs := cf_step h1 xs
  rw [pl_get hp _ 0 f hm hf (by omega), Nat.zero_add]
  unfold chF
  by_cases hlt : (xs.map (· % p)).sum < p
  · rw [if_pos hlt]
    by_cases hc : CF p (xs.map (· / p))
    · have hx : CF p xs := hs.mpr ⟨hlt, hc⟩
      have h2 := fn_split h1 xs 0 (by rw [Nat.zero_mod]; omega)
      rw [Nat.zero_mod, Nat.zero_div] at h2
      rw [chV_yes hc, chV_yes hx, h2, Nat.mod_mul_mod, Nat.mul_mod_mod, Nat.mul_mod_mod, Nat.mul_assoc]
    · have hx : ¬ CF p xs := fun z => hc (hs.mp z).2
      rw [chV_no hc, chV_no hx, Nat.mul_zero, Nat.mul_zero]
  · have hx : ¬ CF p xs := fun z => hlt (hs.mp z).1
    rw [if_neg hlt, chV_no hx, Nat.zero_mul, Nat.mul_zero]
theorem chF_end {p : Nat} (hp : 1 < p) {f : Nat} (hf : f < p) {xs : List Nat} (h : xs.sum = 0) : chF p f xs = f := by
  unfold chF
  rw [chV_yes (cf_zeros h), fn_zero p xs 0 h, Nat.mod_eq_of_lt hp, Nat.mul_one, Nat.mod_eq_of_lt hf]
theorem chV_lt {p : Nat} (hp : 1 < p) (xs : List Nat) : chV p xs < p := by
  unfold chV
  split
  · exact Nat.mod_lt _ (by omega)
  · omega
/-! digits at a place -/
def dt (p n t : Nat) : Nat := n / p ^ t % p
theorem dt_zero (p n : Nat) : dt p n 0 = n % p := by
  unfold dt
  rw [Nat.pow_zero, Nat.div_one]
theorem dt_succ (p n t : Nat) : dt p n (t + 1) = dt p (n / p) t := by
  unfold dt
  rw [Nat.pow_succ, Nat.mul_comm, Nat.div_div_eq_div_mul]
theorem dg_get {p : Nat} (hp : 1 < p) : ∀ (t n : Nat), (dg p n).getD t 0 = dt p n t
  | 0, n => by
    rw [dt_zero]
    by_cases h : 0 < n
    · rw [dg_pos hp h]
      rfl
    · have : n = 0 := by omega
      subst this
      rw [dg_zero, Nat.zero_mod]
      rfl
  | t + 1, n => by
    rw [dt_succ, ← dg_get hp t (n / p)]
    by_cases h : 0 < n
    · rw [dg_pos hp h]
      simp [List.getD_eq_getElem?_getD]
    · have : n = 0 := by omega
      subst this
      rw [dg_zero, Nat.zero_div, dg_zero]
      simp [List.getD_eq_getElem?_getD]
/-- a carry at a place -/
theorem carry_no {p : Nat} (hp : 1 < p) {pre post : List Nat} {x t : Nat} (h : p ≤ dt p pre.sum t + dt p x t) : ¬ CF p (pre ++ x :: post) := fun z => by
  have h1 := (cf_rsum hp _).mp z (t + 1)
  have h2 : rsum (p ^ (t + 1)) (pre ++ x :: post) = rsum (p ^ (t + 1)) pre + x % p ^ (t + 1) + rsum (p ^ (t + 1)) post := by
    unfold rsum
    rw [List.map_append, List.sum_append, List.map_cons, List.sum_cons]
    omega
  have h3 : ∀ (m : Nat) (ys : List Nat), ys.sum % m ≤ rsum m ys := by
    intro m ys
    induction ys with
    | nil =>
      show 0 % m ≤ 0
      rw [Nat.zero_mod]
      exact Nat.le_refl _
    | cons y r ih =>
      have e1 : (y + r.sum) % m ≤ y % m + r.sum % m := by
        rw [Nat.add_mod]
        exact Nat.mod_le _ _
      unfold rsum at ih ⊢
      rw [List.map_cons, List.sum_cons, List.sum_cons]
      omega
  have h4 : ∀ n, dt p n t * p ^ t ≤ n % p ^ (t + 1) := fun n => by
    unfold dt
    rw [Nat.pow_succ, Nat.mod_mul, Nat.mul_comm]
    exact Nat.le_add_left _ _
  have h5 := h4 pre.sum
  have h6 := h4 x
  have h7 := h3 (p ^ (t + 1)) pre
  have h8 : p * p ^ t ≤ (dt p pre.sum t + dt p x t) * p ^ t := Nat.mul_le_mul_right _ h
  rw [Nat.add_mul] at h8
  rw [Nat.pow_succ, Nat.mul_comm (p ^ t) p] at h1
  rw [Nat.pow_succ, Nat.mul_comm (p ^ t) p] at h2 h5 h6 h7
  omega
theorem add_digits {p : Nat} (hp : 1 < p) : ∀ (m w x : Nat), w + x ≤ m → (∀ t, dt p w t + dt p x t < p) → (∀ t, dt p (w + x) t = dt p w t + dt p x t) ∧ ds p (w + x) = ds p w + ds p x := by
  intro m
  induction m using Nat.strongRecOn with
  | ind m ih =>
    intro w x hm h
    have h0 := h 0
    rw [dt_zero, dt_zero] at h0
    obtain ⟨e1, e2⟩ := mod_add_lt h0
    by_cases hz : w + x = 0
    · have hw : w = 0 := by omega
      have hx : x = 0 := by omega
      subst hw hx
      refine ⟨fun t => ?_, by rw [ds_zero]⟩
      unfold dt
      rw [Nat.zero_div, Nat.zero_mod]
    · have hlt : w / p + x / p < m := by
        rw [← e2]
        exact Nat.lt_of_lt_of_le (Nat.div_lt_self (by omega) hp) hm
      obtain ⟨i1, i2⟩ := ih _ hlt (w / p) (x / p) (Nat.le_refl _) fun t => by
        have := h (t + 1)
        rw [dt_succ, dt_succ] at this
        exact this
      refine ⟨fun t => ?_, ?_⟩
      · cases t with
        | zero => rw [dt_zero, dt_zero, dt_zero, e1]
        | succ t => rw [dt_succ, dt_succ, dt_succ, e2, i1 t]
      · rw [ds_eq hp (w + x), e1, e2, i2, ds_eq hp w, ds_eq hp x]
        omega
theorem cf_more {p : Nat} {pre : List Nat} {x : Nat} (h : CF p pre) (hx : ds p (pre.sum + x) = ds p pre.sum + ds p x) : CF p (pre ++ [x]) := by
  unfold CF at h ⊢
  rw [List.map_append, List.sum_append, List.sum_append]
  simp only [List.map_cons, List.map_nil, List.sum_cons, List.sum_nil, Nat.add_zero]
  omega
/-- the product over places below i -/
def pcN (p w x : Nat) : Nat → Nat
  | 0 => 1
  | i + 1 => pcN p w x i * chooseN (dt p w i + dt p x i) (dt p x i)
theorem pc_shift (p w x : Nat) : ∀ i, pcN p w x (i + 1) = chooseN (dt p w 0 + dt p x 0) (dt p x 0) * pcN p (w / p) (x / p) i
  | 0 => by
    show 1 * _ = _ * 1
    rw [Nat.one_mul, Nat.mul_one]
  | i + 1 => by
    rw [pcN, pc_shift p w x i, pcN, dt_succ, dt_succ, Nat.mul_assoc]
theorem pc_lu {p : Nat} (hp : 1 < p) : ∀ (i w x : Nat), (dg p x).length ≤ i → (∀ t, dt p w t + dt p x t < p) → pcN p w x i = luN p (w + x) x
  | 0, w, x, h, _ => by
    have hx : x = 0 := by
      by_cases z : 0 < x
      · rw [dg_pos hp z, List.length_cons] at h
        omega
      · omega
    subst hx
    rw [lu_zero]
    rfl
  | i + 1, w, x, h, hd => by
    have h0 := hd 0
    rw [dt_zero, dt_zero] at h0
    obtain ⟨e1, e2⟩ := mod_add_lt h0
    have hl : (dg p (x / p)).length ≤ i := by
      by_cases z : 0 < x
      · rw [dg_pos hp z, List.length_cons] at h
        omega
      · have : x = 0 := by omega
        subst this
        rw [Nat.zero_div, dg_zero]
        exact Nat.zero_le _
    rw [pc_shift, pc_lu hp i (w / p) (x / p) hl (fun t => by
      have := hd (t + 1)
      rw [dt_succ, dt_succ] at this
      exact this), lu_eq hp (w + x) x, e1, e2, dt_zero, dt_zero]
end Own
/-! own rules: zip of a tuple, a list and a tuple -/
namespace Own
open PySem PySem.Spec PyProof.Rows L2 Evl
abbrev IsTrip (h : Heap) (T : Addr) (a b c : Value) : Prop := h.get? T = some { cls := .type "tuple", data := .seq #[a, b, c] }
structure Z3A (z TI TO i1 i2 i3 l1 l2 l3 : Addr) : Prop where
  TIz : TI ≠ z
  TOz : TO ≠ z
  i1z : i1 ≠ z
  i2z : i2 ≠ z
  i3z : i3 ≠ z
  TITO : TI ≠ TO
  TIi1 : TI ≠ i1
  TIi2 : TI ≠ i2
  TIi3 : TI ≠ i3
  TOi1 : TO ≠ i1
  TOi2 : TO ≠ i2
  TOi3 : TO ≠ i3
  i12 : i1 ≠ i2
  i13 : i1 ≠ i3
  i23 : i2 ≠ i3
  l1z : l1 ≠ z
  l2z : l2 ≠ z
  l2TO : l2 ≠ TO
  l2i1 : l2 ≠ i1
  l3z : l3 ≠ z
  l3TO : l3 ≠ TO
  l3i1 : l3 ≠ i1
  l3i2 : l3 ≠ i2
theorem z3_neN {a b : Nat} (h : a ≠ b) : (a : Addr) ≠ b := h
theorem z3_apart (I l1 l2 l3 : Nat) (h1 : l1 < I) (h2 : l2 < I) (h3 : l3 < I) : Z3A (I + 5) (I + 3) (I + 4) I (I + 1) (I + 2) l1 l2 l3 := by
  constructor <;> (refine z3_neN ?_; omega)
section
variable {prog : Program} {w : World} {A : Around} {E : Value → Shared → Prop} {s : Shared} {κ μ ν : Kd} {z TI TO a1 a2 a3 l1 l2 l3 : Addr} {n m k : Nat} {xs ys ws : Array Value}
theorem upd_trip {T : Addr} {a b c x : Value} {k : Nat} {Q : Unit → Shared → Prop} (hT : IsTrip s.heap T a b c)
    (h : ∀ h', h'.get? T = some { cls := .type "tuple", data := .seq ((#[a, b, c] : Array Value).setIfInBounds k x) } → Heap.SameBut T s.heap h' → Q () { s with heap := h' }) :
    wpAny (model prog w) A (updateSeq T (·.setIfInBounds k x)) Q E s := by
  refine wpAny_updateSeq hT rfl (h _ ?_ (Heap.SameBut.update ..))
  rw [Heap.get?_update_self _ hT rfl]
  simp [Obj.mapSeq]
theorem z3_item {x y v a b c : Value} {Q : Value → Shared → Prop} (kκ : KdOk κ) (kμ : KdOk μ) (kν : KdOk ν) (D : Z3A z TI TO a1 a2 a3 l1 l2 l3) (Z : IsZip s.heap z TI TO .none) (hI : IsTrip s.heap TI (.ref a1) (.ref a2) (.ref a3)) (hO : IsTrip s.heap TO a b c) (u1 : κ.St s.heap a1 l1 n) (u2 : μ.St s.heap a2 l2 m) (u3 : ν.St s.heap a3 l3 k) (v1 : κ.Sq s.heap l1 xs) (v2 : μ.Sq s.heap l2 ys) (v3 : ν.Sq s.heap l3 ws) (hx : xs[n]? = some x) (hy : ys[m]? = some y) (hv : ws[k]? = some v)
    (fin : ∀ h', IsZip h' z TI TO (rawInt s.heap.objs.size) → IsTrip h' TO x y v → κ.St h' a1 l1 (n + 1) → μ.St h' a2 l2 (m + 1) → ν.St h' a3 l3 (k + 1) → IsTrip h' s.heap.objs.size x y v → h'.objs.size = s.heap.objs.size + 1 → (∀ c o, c ≠ z → c ≠ TO → c ≠ a1 → c ≠ a2 → c ≠ a3 → s.heap.get? c = some o → h'.get? c = some o) → Q (.ref s.heap.objs.size) { s with heap := h' }) :
    wpAny (model prog w) A (Builtin.«zip.__next__» ⟨[.ref z], []⟩) (fun r s' => ∃ v, r = .done (.ret v) ∧ Q v s') E s := by
  show wpAny _ _ (field (.ref z) 2 >>= _) _ _ _
  refine wpAny_bind (wpAny_field Z rfl (x := .bool false) rfl ?_); show wpAny _ _ (field (.ref z) 3 >>= _) _ _ _
  refine wpAny_bind (wpAny_field Z rfl (x := .ref TI) rfl (wpAny_bind (wpAny_seqItems hI rfl ?_)))
  show wpAny _ _ (Builtin.SmallTypes.ownedTupleIsFree (.ref z) >>= _) _ _ _
  refine wpAny_bind ?_; unfold Builtin.SmallTypes.ownedTupleIsFree
  refine wpAny_bind (wpAny_field Z rfl (x := .none) rfl (wpAny_pure ?_)); simp only [if_true]
  refine wpAny_bind (wpAny_rule (wpAny_bind (wpAny_field Z rfl (x := .ref TO) rfl (wpAny_bind (wpAny_setField_rec Z (by simp) fun hA ZA sA => ?_)))))
  replace ZA : IsZip hA z TI TO .ellipsis := ZA
  refine wpAny_bind ?_; simp only [List.zipIdx_cons, List.zipIdx_nil, List.forIn_cons, List.forIn_nil]
  refine wpAny_bind (wpAny_bind (wpAny_onRaise ?_)); show wpAny _ _ (Builtin.SmallTypes.nextOf (.ref a1) >>= _) _ _ _
  refine wpAny_bind (kκ.nxt (kκ.stay u1 fun o e => sA.extBut _ _ D.i1z e) (kκ.seq v1 fun o e => sA.extBut _ _ D.l1z e) hx fun hB uB sB => wpAny_pure ?_)
  have OB : IsTrip hB TO a b c := sB.extBut _ _ D.TOi1 (sA.extBut _ _ D.TOz hO)
  refine wpAny_bind (wpAny_seqItems OB rfl (wpAny_bind (upd_trip OB fun hC OC sC => ?_)))
  replace OC : IsTrip hC TO x b c := OC
  refine wpAny_bind (wpAny_letGo (wpAny_pure ?_)); refine wpAny_bind (wpAny_bind (wpAny_onRaise ?_)); show wpAny _ _ (Builtin.SmallTypes.nextOf (.ref a2) >>= _) _ _ _
  refine wpAny_bind (kμ.nxt (kμ.stay u2 fun o e => sC.extBut _ _ D.TOi2.symm (sB.extBut _ _ D.i12.symm (sA.extBut _ _ D.i2z e))) (kμ.seq v2 fun o e => sC.extBut _ _ D.l2TO (sB.extBut _ _ D.l2i1 (sA.extBut _ _ D.l2z e))) hy fun hD uD sD => wpAny_pure ?_)
  have OD : IsTrip hD TO x b c := sD.extBut _ _ D.TOi2 OC
  refine wpAny_bind (wpAny_seqItems OD rfl (wpAny_bind (upd_trip OD fun hF OF sF => ?_)))
  replace OF : IsTrip hF TO x y c := OF
  refine wpAny_bind (wpAny_letGo (wpAny_pure ?_)); refine wpAny_bind (wpAny_bind (wpAny_onRaise ?_)); show wpAny _ _ (Builtin.SmallTypes.nextOf (.ref a3) >>= _) _ _ _
  refine wpAny_bind (kν.nxt (kν.stay u3 fun o e => sF.extBut _ _ D.TOi3.symm (sD.extBut _ _ D.i23.symm (sC.extBut _ _ D.TOi3.symm (sB.extBut _ _ D.i13.symm (sA.extBut _ _ D.i3z e))))) (kν.seq v3 fun o e => sF.extBut _ _ D.l3TO (sD.extBut _ _ D.l3i2 (sC.extBut _ _ D.l3TO (sB.extBut _ _ D.l3i1 (sA.extBut _ _ D.l3z e))))) hv fun hU uU sU => wpAny_pure ?_)
  have OU : IsTrip hU TO x y c := sU.extBut _ _ D.TOi3 OF
  refine wpAny_bind (wpAny_seqItems OU rfl (wpAny_bind (upd_trip OU fun hW OW sW => ?_)))
  replace OW : IsTrip hW TO x y v := OW
  refine wpAny_bind (wpAny_letGo (wpAny_pure (wpAny_pure (wpAny_bind (wpAny_seqItems OW rfl (wpAny_bind (wpAny_newTuple ?_)))))))
  have many : hW.objs.size = s.heap.objs.size := by rw [sW.1, sU.1, sF.1, sD.1, sC.1, sB.1, sA.1]
  have ZW : IsZip hW z TI TO .ellipsis := sW.extBut _ _ D.TOz.symm (sU.extBut _ _ D.i3z.symm (sF.extBut _ _ D.TOz.symm (sD.extBut _ _ D.i2z.symm (sC.extBut _ _ D.TOz.symm (sB.extBut _ _ D.i1z.symm ZA)))))
  have old : ∀ c o, c ≠ z → c ≠ TO → c ≠ a1 → c ≠ a2 → c ≠ a3 → s.heap.get? c = some o → hW.get? c = some o := fun c o n1 n2 n3 n4 n5 e => sW.extBut _ _ n2 (sU.extBut _ _ n5 (sF.extBut _ _ n2 (sD.extBut _ _ n4 (sC.extBut _ _ n2 (sB.extBut _ _ n3 (sA.extBut _ _ n1 e))))))
  have wA : κ.St hW a1 l1 (n + 1) := kκ.stay uB fun o e => sW.extBut _ _ D.TOi1.symm (sU.extBut _ _ D.i13 (sF.extBut _ _ D.TOi1.symm (sD.extBut _ _ D.i12 (sC.extBut _ _ D.TOi1.symm e))))
  have wB : μ.St hW a2 l2 (m + 1) := kμ.stay uD fun o e => sW.extBut _ _ D.TOi2.symm (sU.extBut _ _ D.i23 (sF.extBut _ _ D.TOi2.symm e))
  have wC : ν.St hW a3 l3 (k + 1) := kν.stay uU fun o e => sW.extBut _ _ D.TOi3.symm e
  have zl : z < hW.objs.size := Heap.lt_size ZW
  show wpAny _ _ (Builtin.SmallTypes.ownedTupleHandOut (.ref z) (.ref hW.objs.size) >>= _) _ _ _
  refine wpAny_bind ?_; unfold Builtin.SmallTypes.ownedTupleHandOut
  have ZG : IsZip (hW.push { cls := .type "tuple", data := .seq #[x, y, v] }) z TI TO .ellipsis := Heap.get?_push_of_some _ ZW
  refine wpAny_bind (wpAny_setField_rec ZG (by simp) fun hG' ZG' sG' => ?_)
  replace ZG' : IsZip hG' z TI TO (rawInt hW.objs.size) := ZG'
  refine wpAny_setField_rec ZG' (by simp) fun hK ZK sK => ?_
  replace ZK : IsZip hK z TI TO (rawInt hW.objs.size) := ZK
  have lift : ∀ c o, c ≠ z → hW.get? c = some o → hK.get? c = some o := fun c o n1 e => sK.extBut _ _ n1 (sG'.extBut _ _ n1 (Heap.get?_push_of_some _ e))
  have TK : IsTrip hK hW.objs.size x y v := sK.extBut _ _ (Nat.ne_of_gt zl) (sG'.extBut _ _ (Nat.ne_of_gt zl) (Heap.get?_push_size _ rfl))
  have nK : hK.objs.size = hW.objs.size + 1 := by rw [sK.1, sG'.1, Heap.size_push]
  rw [many] at ZK TK nK
  refine wpAny_pure ⟨_, rfl, ?_⟩; show Q (.ref hW.objs.size) _; rw [many]
  exact fin hK ZK (lift _ _ D.TOz OW) (kκ.stay wA fun o e => lift _ o D.i1z e) (kμ.stay wB fun o e => lift _ o D.i2z e) (kν.stay wC fun o e => lift _ o D.i3z e) TK nK fun c o n1 n2 n3 n4 n5 e => lift c o n1 (old c o n1 n2 n3 n4 n5 e)
theorem z3_end {a b c : Value} {Q : Fin → Shared → Prop} (kκ : KdOk κ) (kμ : KdOk μ) (kν : KdOk ν) (hh : A.handled = none) (D : Z3A z TI TO a1 a2 a3 l1 l2 l3) (Z : IsZip s.heap z TI TO .none) (hI : IsTrip s.heap TI (.ref a1) (.ref a2) (.ref a3)) (hO : IsTrip s.heap TO a b c) (u1 : κ.St s.heap a1 l1 n) (u2 : μ.St s.heap a2 l2 m) (u3 : ν.St s.heap a3 l3 k) (v1 : κ.Sq s.heap l1 xs) (v2 : μ.Sq s.heap l2 ys) (v3 : ν.Sq s.heap l3 ws) (hend : xs[n]? = none ∨ ys[m]? = none ∨ ws[k]? = none)
    (hE : ∀ h' e, (∀ c o, c ≠ z → c ≠ TO → c ≠ a1 → c ≠ a2 → c ≠ a3 → s.heap.get? c = some o → h'.get? c = some o) → (∃ o, h'.get? e = some o ∧ o.cls = .type "StopIteration") → E (.ref e) { s with heap := h' }) : wpAny (model prog w) A (Builtin.«zip.__next__» ⟨[.ref z], []⟩) Q E s := by
  show wpAny _ _ (field (.ref z) 2 >>= _) _ _ _
  refine wpAny_bind (wpAny_field Z rfl (x := .bool false) rfl ?_); show wpAny _ _ (field (.ref z) 3 >>= _) _ _ _
  refine wpAny_bind (wpAny_field Z rfl (x := .ref TI) rfl (wpAny_bind (wpAny_seqItems hI rfl ?_)))
  show wpAny _ _ (Builtin.SmallTypes.ownedTupleIsFree (.ref z) >>= _) _ _ _
  refine wpAny_bind ?_; unfold Builtin.SmallTypes.ownedTupleIsFree
  refine wpAny_bind (wpAny_field Z rfl (x := .none) rfl (wpAny_pure ?_)); simp only [if_true]
  refine wpAny_bind (wpAny_rule (wpAny_bind (wpAny_field Z rfl (x := .ref TO) rfl (wpAny_bind (wpAny_setField_rec Z (by simp) fun hA ZA sA => ?_)))))
  replace ZA : IsZip hA z TI TO .ellipsis := ZA
  refine wpAny_bind ?_; simp only [List.zipIdx_cons, List.zipIdx_nil, List.forIn_cons, List.forIn_nil]
  refine wpAny_bind (wpAny_bind (wpAny_onRaise ?_)); show wpAny _ _ (Builtin.SmallTypes.nextOf (.ref a1) >>= _) _ _ _
  by_cases hx : xs[n]? = none
  · refine wpAny_bind (kκ.out hh (kκ.stay u1 fun o e => sA.extBut _ _ D.i1z e) (kκ.seq v1 fun o e => sA.extBut _ _ D.l1z e) hx fun hB e sB he => ?_)
    obtain ⟨oe, g1, g2⟩ := he
    have ZB : IsZip hB z TI TO .ellipsis := sB _ _ D.i1z.symm ZA
    have hez : e ≠ z := fun q => by rw [q, ZB] at g1; cases g1; simp at g2
    exact wpAny_setField_rec ZB (by simp) fun hC _ sC => hE hC e (fun c o n1 _ n3 _ _ q => sC.extBut _ _ n1 (sB _ _ n3 (sA.extBut _ _ n1 q))) ⟨oe, sC.extBut _ _ hez g1, g2⟩
  · obtain ⟨x, hx'⟩ := Option.ne_none_iff_exists'.mp hx
    refine wpAny_bind (kκ.nxt (kκ.stay u1 fun o e => sA.extBut _ _ D.i1z e) (kκ.seq v1 fun o e => sA.extBut _ _ D.l1z e) hx' fun hB uB sB => wpAny_pure ?_)
    have OB : IsTrip hB TO a b c := sB.extBut _ _ D.TOi1 (sA.extBut _ _ D.TOz hO)
    refine wpAny_bind (wpAny_seqItems OB rfl (wpAny_bind (upd_trip OB fun hC OC sC => ?_)))
    replace OC : IsTrip hC TO x b c := OC
    refine wpAny_bind (wpAny_letGo (wpAny_pure ?_)); refine wpAny_bind (wpAny_bind (wpAny_onRaise ?_)); show wpAny _ _ (Builtin.SmallTypes.nextOf (.ref a2) >>= _) _ _ _
    have s2 : μ.St hC a2 l2 m := kμ.stay u2 fun o e => sC.extBut _ _ D.TOi2.symm (sB.extBut _ _ D.i12.symm (sA.extBut _ _ D.i2z e))
    have q2 : μ.Sq hC l2 ys := kμ.seq v2 fun o e => sC.extBut _ _ D.l2TO (sB.extBut _ _ D.l2i1 (sA.extBut _ _ D.l2z e))
    by_cases hy : ys[m]? = none
    · refine wpAny_bind (kμ.out hh s2 q2 hy fun hD e sD he => ?_)
      obtain ⟨oe, g1, g2⟩ := he
      have ZD : IsZip hD z TI TO .ellipsis := sD _ _ D.i2z.symm (sC.extBut _ _ D.TOz.symm (sB.extBut _ _ D.i1z.symm ZA))
      have hez : e ≠ z := fun q => by rw [q, ZD] at g1; cases g1; simp at g2
      exact wpAny_setField_rec ZD (by simp) fun hF _ sF => hE hF e (fun c o n1 n2 n3 n4 _ q => sF.extBut _ _ n1 (sD _ _ n4 (sC.extBut _ _ n2 (sB.extBut _ _ n3 (sA.extBut _ _ n1 q))))) ⟨oe, sF.extBut _ _ hez g1, g2⟩
    · obtain ⟨y, hy'⟩ := Option.ne_none_iff_exists'.mp hy
      have hv : ws[k]? = none := (hend.resolve_left hx).resolve_left hy
      refine wpAny_bind (kμ.nxt s2 q2 hy' fun hD uD sD => wpAny_pure ?_)
      have OD : IsTrip hD TO x b c := sD.extBut _ _ D.TOi2 OC
      refine wpAny_bind (wpAny_seqItems OD rfl (wpAny_bind (upd_trip OD fun hF OF sF => ?_)))
      refine wpAny_bind (wpAny_letGo (wpAny_pure ?_)); refine wpAny_bind (wpAny_bind (wpAny_onRaise ?_)); show wpAny _ _ (Builtin.SmallTypes.nextOf (.ref a3) >>= _) _ _ _
      refine wpAny_bind (kν.out hh (kν.stay u3 fun o e => sF.extBut _ _ D.TOi3.symm (sD.extBut _ _ D.i23.symm (sC.extBut _ _ D.TOi3.symm (sB.extBut _ _ D.i13.symm (sA.extBut _ _ D.i3z e))))) (kν.seq v3 fun o e => sF.extBut _ _ D.l3TO (sD.extBut _ _ D.l3i2 (sC.extBut _ _ D.l3TO (sB.extBut _ _ D.l3i1 (sA.extBut _ _ D.l3z e))))) hv fun hU e sU he => ?_)
      obtain ⟨oe, g1, g2⟩ := he
      have ZU : IsZip hU z TI TO .ellipsis := sU _ _ D.i3z.symm (sF.extBut _ _ D.TOz.symm (sD.extBut _ _ D.i2z.symm (sC.extBut _ _ D.TOz.symm (sB.extBut _ _ D.i1z.symm ZA))))
      have hez : e ≠ z := fun q => by rw [q, ZU] at g1; cases g1; simp at g2
      exact wpAny_setField_rec ZU (by simp) fun hW _ sW => hE hW e (fun c o n1 n2 n3 n4 n5 q => sW.extBut _ _ n1 (sU _ _ n5 (sF.extBut _ _ n2 (sD.extBut _ _ n4 (sC.extBut _ _ n2 (sB.extBut _ _ n3 (sA.extBut _ _ n1 q))))))) ⟨oe, sW.extBut _ _ hez g1, g2⟩
theorem z3_nextI {x y v a b c : Value} {Q : Option Value → Shared → Prop} (kκ : KdOk κ) (kμ : KdOk μ) (kν : KdOk ν) (D : Z3A z TI TO a1 a2 a3 l1 l2 l3) (Z : IsZip s.heap z TI TO .none) (hI : IsTrip s.heap TI (.ref a1) (.ref a2) (.ref a3)) (hO : IsTrip s.heap TO a b c) (u1 : κ.St s.heap a1 l1 n) (u2 : μ.St s.heap a2 l2 m) (u3 : ν.St s.heap a3 l3 k) (v1 : κ.Sq s.heap l1 xs) (v2 : μ.Sq s.heap l2 ys) (v3 : ν.Sq s.heap l3 ws) (hx : xs[n]? = some x) (hy : ys[m]? = some y) (hv : ws[k]? = some v)
    (fin : ∀ h', IsZip h' z TI TO (rawInt s.heap.objs.size) → IsTrip h' TO x y v → κ.St h' a1 l1 (n + 1) → μ.St h' a2 l2 (m + 1) → ν.St h' a3 l3 (k + 1) → IsTrip h' s.heap.objs.size x y v → h'.objs.size = s.heap.objs.size + 1 → (∀ c o, c ≠ z → c ≠ TO → c ≠ a1 → c ≠ a2 → c ≠ a3 → s.heap.get? c = some o → h'.get? c = some o) → Q (some (.ref s.heap.objs.size)) { s with heap := h' }) :
    wpAny (model prog w) A (pyNext (.ref z)) Q E s := by
  have T : s.TypeIs (.ref z) "zip" := ⟨_, Z, rfl⟩
  unfold pyNext
  exact wpAny_bind (wpAny_attempt (wpAny_callSpecial?_slot (name := Str.ofString "__next__") T F.slot_zip_next (wpAny_call_entry F.slot_zip_next T F.entry_zip_next
    (z3_item kκ kμ kν D Z hI hO u1 u2 u3 v1 v2 v3 hx hy hv fun h' b1 b2 b3 b4 b5 b6 b7 b8 => wpAny_pure (fin h' b1 b2 b3 b4 b5 b6 b7 b8)) (F.args_zip_next_1 _))))
theorem z3_nextE {a b c : Value} {Q : Option Value → Shared → Prop} (kκ : KdOk κ) (kμ : KdOk μ) (kν : KdOk ν) (hh : A.handled = none) (D : Z3A z TI TO a1 a2 a3 l1 l2 l3) (Z : IsZip s.heap z TI TO .none) (hI : IsTrip s.heap TI (.ref a1) (.ref a2) (.ref a3)) (hO : IsTrip s.heap TO a b c) (u1 : κ.St s.heap a1 l1 n) (u2 : μ.St s.heap a2 l2 m) (u3 : ν.St s.heap a3 l3 k) (v1 : κ.Sq s.heap l1 xs) (v2 : μ.Sq s.heap l2 ys) (v3 : ν.Sq s.heap l3 ws) (hend : xs[n]? = none ∨ ys[m]? = none ∨ ws[k]? = none)
    (fin : ∀ h', (∀ c o, c ≠ z → c ≠ TO → c ≠ a1 → c ≠ a2 → c ≠ a3 → s.heap.get? c = some o → h'.get? c = some o) → Q none { s with heap := h' }) : wpAny (model prog w) A (pyNext (.ref z)) Q E s := by
  have T : s.TypeIs (.ref z) "zip" := ⟨_, Z, rfl⟩
  unfold pyNext
  refine wpAny_bind (wpAny_attempt (wpAny_callSpecial?_slot (name := Str.ofString "__next__") T F.slot_zip_next (wpAny_call_entry F.slot_zip_next T F.entry_zip_next (z3_end kκ kμ kν hh D Z hI hO u1 u2 u3 v1 v2 v3 hend fun h' e hk he => ?_) (F.args_zip_next_1 _))))
  obtain ⟨o, ho, hc⟩ := he
  exact wpAny_bind (wpAny_isInstance (T := "StopIteration") (b := true) ⟨o, ho, hc⟩ isSubtype_stop (wpAny_pure (fin _ hk)))
end
abbrev z3a (h : Heap) (t : Addr) : Heap := h.push { cls := .type "tuple_iterator", data := .fields #[.ref t, .int 0 0] }
abbrev z3b (h : Heap) (t l : Addr) : Heap := (z3a h t).push { cls := .type "list_iterator", data := .fields #[.ref l, .int 0 0] }
abbrev z3c (h : Heap) (t l u : Addr) : Heap := (z3b h t l).push { cls := .type "tuple_iterator", data := .fields #[.ref u, .int 0 0] }
abbrev z3d (h : Heap) (t l u : Addr) : Heap := (z3c h t l u).push { cls := .type "tuple", data := .seq #[.ref h.objs.size, .ref (z3a h t).objs.size, .ref (z3b h t l).objs.size] }
abbrev z3e (h : Heap) (t l u : Addr) : Heap := (z3d h t l u).push { cls := .type "tuple", data := .seq #[.none, .none, .none] }
abbrev z3f (h : Heap) (t l u : Addr) : Heap := (z3e h t l u).push { cls := .type "zip", data := .fields #[.none, .bool false, .bool false, .ref (z3c h t l u).objs.size, .ref (z3d h t l u).objs.size] }
theorem z3_new (t l u : Addr) (xs ys ws : Array Value) : Meets (Builtin.«zip.__new__» ⟨[.type "zip", .ref t, .ref l, .ref u], []⟩) (fun _ R s => s.heap.IsTuple t xs ∧ s.heap.IsList l ys ∧ s.heap.IsTuple u ws ∧ R (.ok (.ret (.ref (z3e s.heap t l u).objs.size))) { s with heap := z3f s.heap t l u }) :=
  .of_wp fun prog w A R s h => by
    obtain ⟨hp, g, d, tk, os⟩ := s
    obtain ⟨v1, v2, v3, h⟩ := h
    have sub := PySem.sub_zip
    have V1 : Heap.IsTuple (Shared.heap ⟨hp, g, d, tk, os⟩) t xs := v1
    have V2 : Heap.IsList (Shared.heap ⟨z3a hp t, g, d, tk, os⟩) l ys := Heap.IsList.push v2 _
    have V3 : Heap.IsTuple (Shared.heap ⟨z3b hp t l, g, d, tk, os⟩) u ws := Heap.IsTuple.push (Heap.IsTuple.push v3 _) _
    wp_walk using wpAny_pyIter_tuple V1, wpAny_pyIter_list V2, wpAny_pyIter_tuple V3
    exact ⟨_, rfl, h⟩
namespace Z3F
theorem typeCall (a b c : Value) : checkTypeCall "zip" ⟨[a, b, c], []⟩ = pure () := by kernel_rfl
theorem newCall (a b c : Value) : checkBuiltinCall "zip.__new__" ⟨[.type "zip", a, b, c], []⟩ = pure () := by kernel_rfl
theorem init4 (a b c d : Value) : argsOk "object.__init__" ⟨[a, b, c, d], []⟩ := by
  unfold argsOk; rw [signature?_of (id := "object.__init__") (n := ['_', '_', 't', 'i', 'n', 'i', '_', '_']) (o := ['t', 'c', 'e', 'j', 'b', 'o']) (by kernel_rfl) F.owner_object]; kernel_rfl
end Z3F
section
variable {prog : Program} {w : World} {A : Around} {E : Value → Shared → Prop} {s : Shared}
theorem call_z3 {t l u : Addr} {xs ys ws : Array Value} {Q : Value → Shared → Prop} (v1 : s.heap.IsTuple t xs) (v2 : s.heap.IsList l ys) (v3 : s.heap.IsTuple u ws)
    (fin : ∀ h', IsZip h' (s.heap.objs.size + 5) (s.heap.objs.size + 3) (s.heap.objs.size + 4) .none → IsTrip h' (s.heap.objs.size + 3) (.ref s.heap.objs.size) (.ref (s.heap.objs.size + 1)) (.ref (s.heap.objs.size + 2)) → IsTrip h' (s.heap.objs.size + 4) .none .none .none → h'.IsTupleIter s.heap.objs.size t 0 → h'.IsListIter (s.heap.objs.size + 1) l 0 → h'.IsTupleIter (s.heap.objs.size + 2) u 0 →
      (∀ c o, s.heap.get? c = some o → h'.get? c = some o) → Q (.ref (s.heap.objs.size + 5)) { s with heap := h' }) :
    wpAny (model prog w) A (call (.type "zip") [.ref t, .ref l, .ref u]) Q E s := by
  refine callType_new F.called_zip (by decide) (Z3F.typeCall _ _ _) (Z3F.newCall _ _ _) (fun ob => Z3F.init4 ob _ _ _) F.entry_zip_new (z3_new t l u xs ys ws) ⟨v1, v2, v3, ?_⟩
  have n1 : (z3a s.heap t).objs.size = s.heap.objs.size + 1 := Heap.size_push ..
  have n2 : (z3b s.heap t l).objs.size = s.heap.objs.size + 2 := by rw [Heap.size_push, n1]
  have n3 : (z3c s.heap t l u).objs.size = s.heap.objs.size + 3 := by rw [Heap.size_push, n2]
  have n4 : (z3d s.heap t l u).objs.size = s.heap.objs.size + 4 := by rw [Heap.size_push, n3]
  have n5 : (z3e s.heap t l u).objs.size = s.heap.objs.size + 5 := by rw [Heap.size_push, n4]
  have up : ∀ {h : Heap} {o : Obj} {c : Addr} {u : Obj}, h.get? c = some u → (h.push o).get? c = some u := fun e => Heap.get?_push_of_some _ e
  have o6 : (z3f s.heap t l u).get? (z3e s.heap t l u).objs.size = some _ := Heap.get?_push_size _ rfl
  have o5 : (z3f s.heap t l u).get? (z3d s.heap t l u).objs.size = some _ := up (Heap.get?_push_size _ rfl)
  have o4 : (z3f s.heap t l u).get? (z3c s.heap t l u).objs.size = some _ := up (up (Heap.get?_push_size _ rfl))
  have o3 : (z3f s.heap t l u).get? (z3b s.heap t l).objs.size = some _ := up (up (up (Heap.get?_push_size _ rfl)))
  have o2 : (z3f s.heap t l u).get? (z3a s.heap t).objs.size = some _ := up (up (up (up (Heap.get?_push_size _ rfl))))
  have o1 : (z3f s.heap t l u).get? s.heap.objs.size = some _ := up (up (up (up (up (Heap.get?_push_size _ rfl)))))
  rw [n3, n4, n5] at o6; rw [n4] at o5; rw [n1, n2, n3] at o4; rw [n2] at o3; rw [n1] at o2
  show _ ∧ _
  rw [n5]
  exact ⟨⟨_, o6, rfl⟩, fin _ o6 o4 o5 ⟨_, o1, rfl, rfl⟩ ⟨_, o2, rfl, rfl⟩ ⟨_, o3, rfl, rfl⟩ fun c o x => up (up (up (up (up (up x)))))⟩
end
/-- the tuple at a, the list at b, the tuple at c, their items in new triples -/
def It3 (K : PySem.W.Frag) (a b c : Addr) : It :=
  ⟨fun i H => ∃ (xs ys ws : List V) (x y v : V), SqT K H a xs ∧ SqL K H b ys ∧ SqT K H c ws ∧ xs[i]? = some x ∧ ys[i]? = some y ∧ ws[i]? = some v,
    fun i H r H' => ∃ T x y v, r = .ref T ∧ H T = none ∧ H' = upd H T (.tup [x, y, v]) ∧ (∀ xs, SqT K H a xs → xs[i]? = some x) ∧ (∀ ys, SqL K H b ys → ys[i]? = some y) ∧ ∀ ws, SqT K H c ws → ws[i]? = some v,
    fun i H => ∃ xs ys ws : List V, SqT K H a xs ∧ SqL K H b ys ∧ SqT K H c ws ∧ (xs.length ≤ i ∨ ys.length ≤ i ∨ ws.length ≤ i)⟩
theorem mem6 {α : Type} {c z a b d e f : α} (h : c ∈ [z, a, b, d, e, f]) : c = z ∨ c = a ∨ c = b ∨ c = d ∨ c = e ∨ c = f := by simpa using h
theorem turn_z3 {P : Program} {w : World} {K : PySem.W.Frag} {elts : List Expr} {kk : Nat} {tpos : Pos} {a b c z TI TO i1 i2 i3 : Addr} (D : Z3A z TI TO i1 i2 i3 a b c) :
    Turn P w K (.Tuple elts kk tpos) (It3 K a b c) [z, TI, TO, i1, i2, i3] z (fun i h => IsZip h z TI TO .none ∧ IsTrip h TI (.ref i1) (.ref i2) (.ref i3) ∧ (∃ x y v, IsTrip h TO x y v) ∧ kT.St h i1 a i ∧ kL.St h i2 b i ∧ kT.St h i3 c i) where
  mem := by simp
  obj := fun i h st d hd => by
    obtain ⟨Z, hI, ⟨x, y, v, hO⟩, u1, u2, u3⟩ := st
    rcases mem6 hd with q | q | q | q | q | q <;> rw [q]
    · exact ⟨_, Z, fun v q => nomatch q⟩
    · exact ⟨_, hI, fun v q => nomatch q⟩
    · exact ⟨_, hO, fun v q => nomatch q⟩
    · exact kT_ok.here u1
    · exact kL_ok.here u2
    · exact kT_ok.here u3
  keep := fun i h h' st k => by
    obtain ⟨Z, hI, ⟨x, y, v, hO⟩, u1, u2, u3⟩ := st
    exact ⟨k z (by simp) _ Z, k TI (by simp) _ hI, ⟨x, y, v, k TO (by simp) _ hO⟩, kT_ok.stay u1 fun o q => k i1 (by simp) o q, kL_ok.stay u2 fun o q => k i2 (by simp) o q, kT_ok.stay u3 fun o q => k i3 (by simp) o q⟩
  item := by
    intro X hP hw hK hc i pins s σ H E I hf st hg
    subst hP hw hK
    obtain ⟨Z, hI, ⟨x0, y0, v0, hO⟩, u1, u2, u3⟩ := st
    obtain ⟨xs, ys, ws, x, y, r, qx, qy, qw, hx, hy, hr⟩ := hg
    obtain ⟨its, rv, p, _⟩ := I.tuple qx
    obtain ⟨jts, rw', p2, _⟩ := I.list qy
    obtain ⟨kts, rw3, p3, _⟩ := I.tuple qw
    obtain ⟨u, hu, ru⟩ := rv.get hx
    obtain ⟨v, hv, rv'⟩ := rw'.get hy
    obtain ⟨v3, hv3, rv3⟩ := rw3.get hr
    have zl : z < s.heap.objs.size := Heap.lt_size Z
    refine z3_nextI kT_ok kL_ok kT_ok D Z hI hO u1 u2 u3 p p2.isList p3 (x := u) (y := v) (v := v3) (by simpa using hu) (by simpa using hv) (by simpa using hv3) fun h' Z' O' u1' u2' u3' T' _ old => ?_
    refine ⟨_, rfl, wpAny_letOwnedTupleGo_zip (s := { s with heap := h' }) Z' fun g Z2 sb => ?_⟩
    have T2 : g.get? s.heap.objs.size = some { cls := .type "tuple", data := .seq #[u, v, v3] } := (sb.2 _ (Nat.ne_of_gt zl)).trans T'
    have nw : ObjOk X.prog X.w (upd H s.heap.objs.size (.tup [x, y, r])) g s.heap.objs.size (.tup [x, y, r]) := ⟨by show 3 ≤ sizeLine; decide, [u, v, v3], .cons ru (.cons rv' (.cons rv3 .nil)), ⟨_, T2, rfl, _, rfl⟩⟩
    have I1 : Inv X pins σ (upd H s.heap.objs.size (.tup [x, y, r])) { s with heap := g } :=
      I.turnedNew (t' := s.toks) (ch := [z, TI, TO, i1, i2, i3]) (fun c o hb q => (sb.2 c fun e => hb (by simp [e])).trans (old c o (fun e => hb (by simp [e])) (fun e => hb (by simp [e])) (fun e => hb (by simp [e])) (fun e => hb (by simp [e])) (fun e => hb (by simp [e])) q)) hf (Nat.le_refl _) nw
    refine ⟨.ref s.heap.objs.size, _, I1, rfl, ⟨_, x, y, r, rfl, I.hok.fresh (Nat.le_refl _), rfl, fun l hl => (I.tuple_inj hl qx).symm ▸ hx, fun l hl => (I.list_inj hl qy).symm ▸ hy, fun l hl => (I.tuple_inj hl qw).symm ▸ hr⟩, ⟨Z2, ?_, ⟨u, v, v3, ?_⟩, kT_ok.stay u1' fun o q => (sb.2 _ D.i1z).trans q, kL_ok.stay u2' fun o q => (sb.2 _ D.i2z).trans q, kT_ok.stay u3' fun o q => (sb.2 _ D.i3z).trans q⟩, fun c hcm => ?_⟩
    · exact (sb.2 _ D.TIz).trans (old _ _ D.TIz D.TITO D.TIi1 D.TIi2 D.TIi3 hI)
    · exact (sb.2 _ D.TOz).trans O'
    · have lt : c < s.heap.objs.size := by
        rcases mem6 hcm with q | q | q | q | q | q <;> rw [q]
        · exact zl
        · exact Heap.lt_size hI
        · exact Heap.lt_size hO
        · exact Heap.lt_size (kT_ok.here u1).choose_spec.1
        · exact Heap.lt_size (kL_ok.here u2).choose_spec.1
        · exact Heap.lt_size (kT_ok.here u3).choose_spec.1
      rw [upd_ne (Nat.ne_of_lt lt)]
      exact (hf c hcm).1
  done := by
    intro X hP hw hK hc i pins s σ H E I hf st hg
    subst hP hw hK
    obtain ⟨Z, hI, ⟨x0, y0, v0, hO⟩, u1, u2, u3⟩ := st
    obtain ⟨xs, ys, ws, qx, qy, qw, hend⟩ := hg
    obtain ⟨its, rv, p, _⟩ := I.tuple qx
    obtain ⟨jts, rw', p2, _⟩ := I.list qy
    obtain ⟨kts, rw3, p3, _⟩ := I.tuple qw
    have e1 := rv.length
    have e2 := rw'.length
    have e3 := rw3.length
    have he : its.toArray[i]? = none ∨ jts.toArray[i]? = none ∨ kts.toArray[i]? = none := hend.elim (fun q => .inl (by simp; omega)) fun q => q.elim (fun q => .inr (.inl (by simp; omega))) fun q => .inr (.inr (by simp; omega))
    exact z3_nextE kT_ok kL_ok kT_ok (I.ok.hd hc) D Z hI hO u1 u2 u3 p p2.isList p3 he fun h' old => ⟨rfl, I.turnedL (t' := s.toks) (ch := [z, TI, TO, i1, i2, i3]) (fun c o hb q => old c o (fun e => hb (by simp [e])) (fun e => hb (by simp [e])) (fun e => hb (by simp [e])) (fun e => hb (by simp [e])) (fun e => hb (by simp [e])) q) hf⟩
  self := fun A i s Q E st h => wpAny_pyIter_zip st.1 h
def iZip3 (K : PySem.W.Frag) (ta : TA) : TI := fun σ H R => ta σ H fun vs H1 => ∃ a b c xs ys ws, vs = [.ref a, .ref b, .ref c] ∧ SqT K H1 a xs ∧ SqL K H1 b ys ∧ SqT K H1 c ws ∧ R (It3 K a b c) H1
theorem pi_zip3 {X : Cx} {e e2 e3 : Expr} {ta : TA} {p pos tpos : Pos} {elts : List Expr} {kk : Nat} (hg : Gl X "zip") (hm : X.mg "zip" = none) (ha : PA X [e, e2, e3] ta) (hs : starEach [e, e2, e3] X.env = (false, eval e X.env) :: starEach [e2, e3] X.env := by rfl) (hpl : (backTo pos (starEach [e2, e3] X.env)).any (·.1) = false := by rfl) :
    PI X (.Tuple elts kk tpos) (.Call (.Name "zip" p) [e, e2, e3] [] pos) (iZip3 X.K ta) := by
  refine ⟨fun pins s σ H R I h => Call_ (ld_blt I hg hm PyProof.Rows.boot_zip (PyProof.Rows.callWith_type1 (thn (ha.run pos pins s σ H _ I h) fun us s1 ⟨vs, H1, I1, r1, q1⟩ => ?_) hs hpl))⟩
  obtain ⟨a, b, c, xs, ys, ws, ex, qx, qy, qw, q⟩ := q1
  subst ex
  obtain _ | ⟨r, rr⟩ := r1
  obtain _ | ⟨r', rr⟩ := rr
  obtain _ | ⟨r'', rr⟩ := rr
  cases rr
  cases r
  cases r'
  cases r''
  obtain ⟨its, rv, p1, _⟩ := I1.tuple qx
  obtain ⟨jts, rw', p2, _⟩ := I1.list qy
  obtain ⟨kts, rw3, p3, _⟩ := I1.tuple qw
  have la : a < s1.heap.objs.size := by
    obtain ⟨o, ho, _⟩ := id p1
    exact Heap.lt_size ho
  have lc : c < s1.heap.objs.size := by
    obtain ⟨o, ho, _⟩ := id p3
    exact Heap.lt_size ho
  refine call_z3 p1 p2.isList p3 fun h' Z hI hO u1 u2 u3 hk => wpAny_pyIter_zip Z ?_
  refine ⟨s1.heap.objs.size + 5, [s1.heap.objs.size + 5, s1.heap.objs.size + 3, s1.heap.objs.size + 4, s1.heap.objs.size, s1.heap.objs.size + 1, s1.heap.objs.size + 2], _, _, H1, rfl, I1.kept (t' := s1.toks) hk, turn_z3 (z3_apart s1.heap.objs.size a b c la p2.lt lc), ⟨Z, hI, ⟨_, _, _, hO⟩, u1, u2, u3⟩, fun c hcm => ?_, q⟩
  have le : s1.heap.objs.size ≤ c := by rcases mem6 hcm with z | z | z | z | z | z <;> rw [z] <;> omega
  exact I1.fpOk le (I1.hok.fresh le)
end Own
/-! own words: a written dict of tuples of tuples of tuples -/
namespace Own
open PySem PySem.Spec PyProof.Rows L2 Evl
def Rws3 (K : Fr_) (H : Hp) (rs : List Addr) (xss : List (List (List Int))) : Prop := rs.length = xss.length ∧ ∀ (i : Nat) (r : Addr) (xs : List (List Int)), rs[i]? = some r → xss[i]? = some xs → ∃ ss : List Addr, ∀ H, SqT K H r (ss.map V.ref) ∧ Rws K H ss xs
theorem asRows3L_eq {K : Fr_} : ∀ {l : List Value} {xss : List (List (List Int))}, asRows3L K l = some xss → ∃ rs : List Addr, Vals (rs.map V.ref) l ∧ ∀ H, Rws3 K H rs xss
  | [], xss, h => by
    cases (Option.some.inj h : [] = xss)
    exact ⟨[], .nil, fun H => ⟨rfl, fun i r xs h => by simp at h⟩⟩
  | v :: l, xss, h => by
    unfold asRows3L at h
    split at h
    · rename_i i is h1 h2
      cases (Option.some.inj h : (i :: is) = xss)
      obtain ⟨a, ss, rfl, hs⟩ := asRows_eq h1
      obtain ⟨rs, hv, hr⟩ := asRows3L_eq h2
      refine ⟨a :: rs, .cons rfl hv, fun H => ⟨by rw [List.length_cons, List.length_cons, (hr H).1], fun j r xs e1 e2 => ?_⟩⟩
      cases j with
      | zero =>
        cases (Option.some.inj e1 : a = r)
        cases (Option.some.inj e2 : i = xs)
        exact ⟨ss, hs⟩
      | succ j => exact (hr H).2 j r xs e1 e2
    · cases h
theorem asRows3_eq {K : Fr_} {v : Value} {xss : List (List (List Int))} (h : asRows3 K v = some xss) : ∃ (a : Addr) (rs : List Addr), v = .ref a ∧ ∀ H, SqT K H a (rs.map V.ref) ∧ Rws3 K H rs xss := by
  unfold asRows3 at h
  split at h
  · rename_i l e
    obtain ⟨a, o, its, n, rfl, hl, hc, hd, hz, rfl⟩ := asTup_eq e
    obtain ⟨rs, hv, hr⟩ := asRows3L_eq h
    exact ⟨a, rs, rfl, fun H => ⟨.inr ⟨o, its, n, hl, hc, hd, Nat.le_trans hz (by decide), hv⟩, hr H⟩⟩
  · cases h
theorem tab3_get {K : Fr_} {d : Addr} {t : List (Int × List (List (List Int)))} {i : Int} {w : List (List (List Int))} (h : tab3 K d = some t) (hl : t.lookup i = some w) : ∃ (a : Addr) (rs : List Addr), (∀ H, SqT K H a (rs.map V.ref) ∧ Rws3 K H rs w) ∧ ∀ H, RV (rIxW K) (.ref d) (.int i) H (.ref a) := by
  obtain ⟨t0, h1, h2⟩ := Option.bind_eq_some_iff.mp h
  obtain ⟨v, h3, h4⟩ := mapV2_lookup h2 i w hl
  obtain ⟨a, rs, rfl, hs⟩ := asRows3_eq h4
  exact ⟨a, rs, hs, fun H H1 _ _ q => ⟨d, i, t0, _, .ref a, rfl, rfl, h1, h3, rfl, q H1 (Ex.refl H1)⟩⟩
/-- for a, b, c in zip(tuple, list, tuple) -/
theorem walk_z3 {K : PySem.W.Frag} {a b c : Addr} {xs ys ws : List V} {n : Nat} (hn : n = min xs.length (min ys.length ws.length)) : Walk (It3 K a b c) n (fun H => SqT K H a xs ∧ SqL K H b ys ∧ SqT K H c ws) (fun i H v H' => ∃ T x y u, v = .ref T ∧ H T = none ∧ H' = upd H T (.tup [x, y, u]) ∧ xs[i]? = some x ∧ ys[i]? = some y ∧ ws[i]? = some u) := by
  subst hn
  refine ⟨fun i _ hi q => ?_, fun _ q => ⟨xs, ys, ws, q.1, q.2.1, q.2.2, by omega⟩, fun i H v H' _ q ⟨T, x, y, u, h1, h2, h3, h4, h5, h6⟩ => ⟨T, x, y, u, h1, h2, h3, h4 xs q.1, h5 ys q.2.1, h6 ws q.2.2⟩⟩
  have h1 : i < xs.length := by omega
  have h2 : i < ys.length := by omega
  have h3 : i < ws.length := by omega
  exact ⟨xs, ys, ws, xs[i], ys[i], ws[i], q.1, q.2.1, q.2.2, by simp [h1], by simp [h2], by simp [h3]⟩
section
variable {K : PySem.W.Frag} {σ : L2.St} {H H' : Hp} {ta tb te : TE} {t : TT} {D : Ends} {tu tz : TS}
theorem q_forZ3 {tl : TA} {a b c : Addr} {xs ys ws : List V} {i1 i2 i3 : Nat} (h : EvA tl σ H [.ref a, .ref b, .ref c]) (hx : SqT K H a xs) (hy : SqL K H b ys) (hw : SqT K H c ws) (Pv : Nat → L2.St → Hp → Prop) (h0 : ∀ H1, Ex H H1 → Pv 0 σ H1) (hl : ∀ i σ' H', Pv i σ' H' → Ex H H')
    (hs : ∀ i x y u σ' H' H2, xs[i]? = some x → ys[i]? = some y → ws[i]? = some u → Pv i σ' H' → Ex H' H2 → tu { D with nx := Pv (i + 1), ct := Pv (i + 1), bk := tz D } (((σ'.set i1 (some x)).set i2 (some y)).set i3 (some u)) H2) (hd : ∀ σ' H', Pv (min xs.length (min ys.length ws.length)) σ' H' → tz D σ' H') :
    tSeq (tFor (iZip3 K tl) (gTup K 3 (gCons (gName i1) (gCons (gName i2) (gCons (gName i3) gNil)))) tu) tz D σ H :=
  h H (Ex.refl H) _ fun H1 e1 => ⟨a, b, c, xs, ys, ws, rfl, ex_t e1 hx, ex_l e1 hy, ex_t e1 hw, for_it (walk_z3 (xs := xs) (ys := ys) (ws := ws) rfl) (D := { D with nx := tz D }) Pv (h0 H1 e1) (fun i σ' H' _ pv => ⟨ex_t (hl i σ' H' pv) hx, ex_l (hl i σ' H' pv) hy, ex_t (hl i σ' H' pv) hw⟩) (fun i x σ' H' H'' hi pv y => by
    obtain ⟨T, u1, u2, u3, rfl, nT, rfl, f1, f2, f3⟩ := y
    exact ⟨T, [u1, u2, u3], rfl, st_of upd_same, rfl, u1, [u2, u3], rfl, u2, [u3], rfl, u3, [], rfl, rfl, hs i u1 u2 u3 σ' H' _ f1 f2 f3 pv (Ex.new nT)⟩) hd⟩
end
end Own
/-! the listing of all partings of small numbers, as plain functions, and what a kernel check says of it -/
namespace Own
open PySem PySem.Spec PyProof.Rows L2 Evl
def dgf2 : Nat → Nat → Nat → List Nat
  | 0, _, _ => []
  | f + 1, b, n => if n = 0 then [] else n % b :: dgf2 f b (n / b)
theorem dgf2_eq {b : Nat} (hb : 1 < b) : ∀ (f n : Nat), n < 2 ^ f → dgf2 f b n = dg b n
  | 0, n, h => by
    rw [show n = 0 by omega, dg_zero]
    rfl
  | f + 1, n, h => by
    rw [dgf2]
    by_cases h0 : n = 0
    · rw [if_pos h0, h0, dg_zero]
    · have hn : 0 < n := by omega
      rw [if_neg h0, dg_pos hb hn, dgf2_eq hb f (n / b) (by
        have h2 : n / b ≤ n / 2 := Nat.div_le_div_left hb (by decide)
        rw [Nat.pow_succ] at h
        omega)]
def ndT : Nat → List (List (List Nat))
  | 2 => [[[1]]]
  | 3 => [[[2]], [[1]]]
  | 4 => [[[0, 3], [1, 1], [3, 0]], [[0, 2], [1, 0]], [[0, 1], [2, 0]]]
  | 5 => [[[4]], [[1]], [[2]], [[3]]]
  | 7 => [[[6]], [[1]], [[2]], [[3]], [[4]], [[5]]]
  | 8 => [[[0, 0, 7], [0, 1, 3], [0, 3, 2], [0, 5, 1], [0, 7, 0], [1, 0, 5], [1, 1, 1], [1, 3, 0], [2, 0, 3], [3, 0, 1], [3, 2, 0], [5, 1, 0], [7, 0, 0]], [[0, 0, 2], [0, 2, 1], [0, 4, 0], [1, 0, 0]], [[0, 0, 4], [0, 1, 0], [1, 0, 2], [2, 0, 0]], [[0, 0, 6], [0, 1, 2], [0, 3, 1], [0, 5, 0], [1, 0, 4], [1, 1, 0], [2, 0, 2], [3, 0, 0]], [[0, 0, 1], [0, 2, 0], [2, 1, 0], [4, 0, 0]], [[0, 0, 3], [0, 2, 2], [0, 4, 1], [0, 6, 0], [1, 0, 1], [1, 2, 0], [3, 1, 0], [5, 0, 0]], [[0, 0, 5], [0, 1, 1], [0, 3, 0], [1, 0, 3], [2, 0, 1], [2, 2, 0], [4, 1, 0], [6, 0, 0]]]
  | 9 => [[[0, 8], [1, 5], [2, 2], [5, 1], [8, 0]], [[0, 3], [1, 0]], [[0, 6], [1, 3], [2, 0]], [[0, 1], [3, 0]], [[0, 4], [1, 1], [4, 0]], [[0, 7], [1, 4], [2, 1], [5, 0]], [[0, 2], [3, 1], [6, 0]], [[0, 5], [1, 2], [4, 1], [7, 0]]]
  | _ => []
def pfT : Nat → Nat × Nat
  | 4 => (2, 2)
  | 8 => (2, 3)
  | 9 => (3, 2)
  | q => (q, 1)
def lessI (is : List Int) (ws : List Nat) (m : Nat) : List Int := List.zipWith (fun (a : Int) (w : Nat) => a - (m : Int) * (w : Int)) is ws
def geI (is : List Int) : Bool := is.all fun z => decide (0 ≤ z)
def fitI (P F : Nat) : Nat → List Nat → List Nat → List Int → Bool
  | t, m :: ms, r :: rs, sp => if r < m then false else fitI P F (t + 1) ms rs (lessI sp (wl P F t) m)
  | _, _, _, sp => geI sp
def goI (q P F head : Nat) (room : List Nat) (sp : List Int) : Bool :=
  if 0 < head ∧ (q - 1 - head % (q - 1)) % (q - 1) = 0 then geI sp else ((ndT q).getD ((q - 1 - head % (q - 1)) % (q - 1)) []).any fun need => fitI P F 0 need room sp
def oneI (q P F at_ : Nat) (room : List Nat) (hs : Nat × List Int) (m : Nat) : Option (Nat × List Int) :=
  if goI q P F (hs.1 + m * P ^ at_) room (lessI hs.2 (wl P F at_) m) then some (hs.1 + m * P ^ at_, lessI hs.2 (wl P F at_) m) else none
def longI (q P F at_ digit : Nat) (room : List Nat) (heads : List (Nat × List Int)) : List (Nat × List Int) :=
  (heads.map fun hs => (List.range (digit + 1)).filterMap (oneI q P F at_ room hs)).flatten
def spI (q P F : Nat) (row : List Nat) (many : Nat) : List Int :=
  (List.range F).map fun j => ((((List.range F).map fun t => (strd F t row).sum * wt P F j t).sum : Nat) : Int) - ((q - 1 : Nat) : Int) * (many : Int)
def lessR (room : List Nat) (c d : Nat) : List Nat := room.set c (room.getD c 0 - d)
def walkI (q P F : Nat) (row : List Nat) : Nat → List Nat → List (Nat × List Int) → List (Nat × List Int)
  | 0, _, heads => heads
  | a + 1, room, heads =>
    if row.getD a 0 = 0 then walkI q P F row a room heads else
      walkI q P F row a (lessR room (a % F) (row.getD a 0)) (longI q P F a (row.getD a 0) (lessR room (a % F) (row.getD a 0)) heads)
def smI (heads : List (Nat × List Int)) : Bool := decide (heads.length ≤ 2000) && heads.all fun h => decide (h.1 ≤ 100000) && h.2.all fun z => decide (-100000 ≤ z ∧ z ≤ 100000)
def okWalk (q P F : Nat) (row : List Nat) : Nat → List Nat → List (Nat × List Int) → Bool
  | 0, _, heads => smI heads
  | a + 1, room, heads => smI heads &&
    if row.getD a 0 = 0 then okWalk q P F row a room heads else
      decide (row.getD a 0 ≤ room.getD (a % F) 0) && okWalk q P F row a (lessR room (a % F) (row.getD a 0)) (longI q P F a (row.getD a 0) (lessR room (a % F) (row.getD a 0)) heads)
def roomI (F : Nat) (row : List Nat) : List Nat := (List.range F).map fun t => (strd F t row).sum
def firstR (q P F : Nat) (row : List Nat) (after : Nat) : List Nat := (walkI q P F row row.length (roomI F row) [(0, spI q P F row after)]).map (·.1)
def okFirstR (q P F : Nat) (row : List Nat) (after : Nat) : Bool := geI (spI q P F row after) && okWalk q P F row row.length (roomI F row) [(0, spI q P F row after)]
def nextI (q P F after : Nat) (begun : List (List Nat × Nat)) : List (List Nat × Nat) := (begun.map fun b => (firstR q P F (dgf2 10 P b.2) after).map fun m => (b.1 ++ [m], b.2 - m)).flatten
def okNext (q P F after : Nat) (begun : List (List Nat × Nat)) : Bool := (begun.all fun b => decide (b.2 < 1024) && okFirstR q P F (dgf2 10 P b.2) after && (firstR q P F (dgf2 10 P b.2) after).all fun m => decide (m ≤ b.2)) && decide ((nextI q P F after begun).length ≤ 2000)
def listI (q P F : Nat) : Nat → List (List Nat × Nat) → List (List Nat × Nat)
  | 0, begun => begun
  | d + 1, begun => listI q P F d (nextI q P F d begun)
def okList (q P F : Nat) : Nat → List (List Nat × Nat) → Bool
  | 0, _ => true
  | d + 1, begun => okNext q P F d begun && okList q P F d (nextI q P F d begun)
def outI (bs : List (List Nat × Nat)) : List (List Nat) := bs.map fun b => b.1 ++ [b.2]
def bndI (q P F d k : Nat) : Bool := (spI q P F (dgf2 10 P k) d).all fun z => decide (0 ≤ z)
def allI (q P F d k : Nat) : List (List Nat) := if bndI q P F d k then outI (listI q P F d [([], k)]) else []
def chkQ (q : Nat) : Bool := (List.range 4).all fun d => (List.range 31).all fun k => decide (allI q (pfT q).1 (pfT q).2 d ((pfT q).1 * k) = (allI q (pfT q).1 (pfT q).2 d k).map (List.map ((pfT q).1 * ·))) && (!bndI q (pfT q).1 (pfT q).2 d k || okList q (pfT q).1 (pfT q).2 d [([], k)]) && (!bndI q (pfT q).1 (pfT q).2 d ((pfT q).1 * k) || okList q (pfT q).1 (pfT q).2 d [([], (pfT q).1 * k)])
theorem chk2 : chkQ 2 = true := by decide +kernel
theorem chk3 : chkQ 3 = true := by decide +kernel
theorem chk4 : chkQ 4 = true := by decide +kernel
theorem chk5 : chkQ 5 = true := by decide +kernel
theorem chk7 : chkQ 7 = true := by decide +kernel
theorem chk8 : chkQ 8 = true := by decide +kernel
theorem chk9 : chkQ 9 = true := by decide +kernel
end Own
/-! own rules: sorted of a list of tuples of ints, all of one length, of any number -/
namespace Own
open PySem PySem.Spec PyProof.Rows L2 Evl
/-- x before y, both of one length -/
def lexI : List Int → List Int → Bool
  | x :: xs, y :: ys => if x = y then lexI xs ys else decide (x < y)
  | _, _ => false
theorem lexI_asym : ∀ xs ys : List Int, xs.length = ys.length → lexI xs ys = true → lexI ys xs = false
  | [], [], _, h => by cases h
  | x :: xs, y :: ys, hl, h => by
    unfold lexI at h ⊢
    by_cases e : x = y
    · rw [if_pos e] at h
      rw [if_pos e.symm]
      exact lexI_asym xs ys (by simpa using hl) h
    · rw [if_neg e, decide_eq_true_eq] at h
      rw [if_neg (Ne.symm e)]
      exact decide_eq_false (by omega)
  | [], _ :: _, hl, _ => by simp at hl
  | _ :: _, [], hl, _ => by simp at hl
theorem lexI_tr : ∀ xs ys zs : List Int, xs.length = ys.length → ys.length = zs.length → lexI xs ys = false → lexI ys zs = false → lexI xs zs = false
  | [], _, _, _, _, _, _ => by unfold lexI; rfl
  | x :: xs, [], _, hl, _, _, _ => by simp at hl
  | x :: xs, y :: ys, [], _, hl, _, _ => by simp at hl
  | x :: xs, y :: ys, z :: zs, h1, h2, h3, h4 => by
    unfold lexI at h3 h4 ⊢
    by_cases e1 : x = y
    · rw [if_pos e1] at h3
      by_cases e2 : y = z
      · rw [if_pos e2] at h4
        rw [if_pos (e1.trans e2)]
        exact lexI_tr xs ys zs (by simpa using h1) (by simpa using h2) h3 h4
      · rw [if_neg e2] at h4
        rw [e1, if_neg e2]
        exact h4
    · rw [if_neg e1, decide_eq_false_iff_not] at h3
      by_cases e2 : y = z
      · rw [if_neg (by rw [← e2]; exact e1)]
        exact decide_eq_false (by omega)
      · rw [if_neg e2, decide_eq_false_iff_not] at h4
        rw [if_neg (by omega)]
        exact decide_eq_false (by omega)
def intOf : Value → Int
  | .int i _ => i
  | _ => 0
theorem intOf_vals : ∀ {xs : List Int} {its : List Value}, Vals (xs.map V.int) its → its.map intOf = xs ∧ IntsAre its xs := fun {xs its} h => by
  refine ⟨?_, h.ints⟩
  induction xs generalizing its with
  | nil => cases h; rfl
  | cons x xs ih =>
    cases h with
    | cons r t =>
      obtain ⟨tk, rfl⟩ := r
      rw [List.map_cons, ih t]
      rfl
def rowOf (h : Heap) : Value → List Int
  | .ref a => match h.get? a with
    | some o => match o.data with
      | .seq its _ => its.toList.map intOf
      | _ => []
    | none => []
  | _ => []
def TupV (h : Heap) (v : Value) (ns : List Int) : Prop := ∃ (a : Addr) (o : Obj) (its : List Value) (n : Nat), v = .ref a ∧ h.get? a = some o ∧ o.cls = .type "tuple" ∧ o.data = .seq its.toArray n ∧ Vals (ns.map V.int) its
theorem TupV.keeps {h h' : Heap} {v : Value} {ns : List Int} (p : TupV h v ns) (k : ∀ b o, h.get? b = some o → o.cls = .type "tuple" → h'.get? b = some o) : TupV h' v ns := by
  obtain ⟨a, o, its, n, e, ho, hc, hd, r⟩ := p
  exact ⟨a, o, its, n, e, k _ _ ho hc, hc, hd, r⟩
theorem TupV.row {h : Heap} {v : Value} {ns : List Int} (p : TupV h v ns) : rowOf h v = ns := by
  obtain ⟨a, o, its, n, e, ho, hc, hd, r⟩ := p
  subst e
  unfold rowOf
  simp only [ho, hd]
  exact (intOf_vals r).1
section
variable {prog : Program} {w : World} {A : Around} {s : Shared} {Q : Bool → Shared → Prop}
theorem kat_ints : ∀ {xs ys : List Int} {us vs : List Value} (i : Nat), Vals (xs.map V.int) us → Vals (ys.map V.int) vs → xs.length = ys.length → Q (lexI xs ys) s → PySem.W.KatLex prog w A true false Q (us.zip vs) i s
  | [], [], us, vs, i, h1, h2, _, h => by
    cases h1
    cases h2
    exact PySem.W.kat_nil h
  | x :: xs, y :: ys, us, vs, i, h1, h2, hl, h => by
    cases h1 with
    | cons r1 t1 =>
      cases h2 with
      | cons r2 t2 =>
        obtain ⟨tk1, rfl⟩ := r1
        obtain ⟨tk2, rfl⟩ := r2
        unfold lexI at h
        refine PySem.W.kat_cons (SeqAt.EqAt.int_int x tk1 y tk2 prog w _ _ ?_)
        refine PySem.W.kat_go (fun e1 => ?_) (fun e1 => ?_)
        · have ex : x = y := by simpa using e1
          rw [if_pos ex] at h
          exact PySem.W.kat_yes (kat_ints (i + 1) t1 t2 (by simpa using hl) h)
        · have ex : ¬ x = y := by simpa using e1
          rw [if_neg ex] at h
          refine PySem.W.kat_no ?_
          by_cases hi : (i == 0) = true
          · rw [hi]
            exact PyProof.Rows.oneLt_int h
          · rw [show (i == 0) = false from by simpa using hi]
            exact PySem.W.kat_one _ _ (PyProof.Rows.lt_int h)
  | [], _ :: _, _, _, _, _, _, hl, _ => by simp at hl
  | _ :: _, [], _, _, _, _, _, hl, _ => by simp at hl
theorem tupv_cmp {vs : List Value} {k : Value → List Int} {n : Nat} (hp : ∀ v ∈ vs, TupV s.heap v (k v) ∧ (k v).length = n) : SrtO.Cmp prog w A s (tuples' true) (fun p => p.1 ∈ vs) (SrtO.lt2 fun v u => lexI (k v) (k u)) := by
  intro p q hm hm'
  obtain ⟨h1, l1⟩ := hp _ hm
  obtain ⟨h2, l2⟩ := hp _ hm'
  show wpAny (model prog w) A (keyLt' (tuples' true) p.1 q.1) (fun r s' => s' = s ∧ r = lexI (k p.1) (k q.1)) (fun _ _ => False) s
  generalize k p.1 = x at h1 l1 ⊢
  generalize k q.1 = y at h2 l2 ⊢
  obtain ⟨a, o, its, m, e, ho, hc, hd, r⟩ := h1
  obtain ⟨a', o', its', m', e', ho', hc', hd', r'⟩ := h2
  rw [e, e']
  refine PySem.W.kat_lt ho hd ho' hd' ?_
  have z1 : its.length = n := by rw [← r.length, List.length_map]; exact l1
  have z2 : its'.length = n := by rw [← r'.length, List.length_map]; exact l2
  have hsz : decide (its.toArray.size < its'.toArray.size) = false := decide_eq_false (by simp; omega)
  rw [hsz]
  have := kat_ints (prog := prog) (w := w) (A := A) (s := s) (Q := fun r s' => s' = s ∧ r = lexI x y) 0 r r' (by omega) ⟨rfl, rfl⟩
  simpa using this
theorem tupv_firsts {h : Heap} {k : Value → List Int} {n : Nat} : ∀ {vs : List Value}, (∀ v ∈ vs, TupV h v (k v) ∧ (k v).length = n + 1) → ∃ fs : List Value, PySem.W.KatTups h vs fs ∧ fs.length = vs.length ∧ ∀ f ∈ fs, ∃ x t, f = Value.int x t
  | [], _ => ⟨[], PySem.W.KatTups.nil, rfl, fun _ hm => by simp at hm⟩
  | v :: vs, hp => by
    obtain ⟨fs, h1, h2, h3⟩ := tupv_firsts (vs := vs) fun v' hm => hp v' (List.mem_cons_of_mem _ hm)
    obtain ⟨⟨a, o, its, m, e, ho, hc, hd, r⟩, hl⟩ := hp v (List.mem_cons_self ..)
    subst e
    cases hk : k (.ref a) with
    | nil => rw [hk] at hl; simp at hl
    | cons x xs =>
      rw [hk] at r
      cases r with
      | @cons _ u _ us r0 t =>
        obtain ⟨tk, rfl⟩ := r0
        refine ⟨.int x tk :: fs, PySem.W.KatTups.cons ho hc hd (by simp) h1, by rw [List.length_cons, List.length_cons, h2], fun f hm => ?_⟩
        rcases List.mem_cons.mp hm with rfl | hm
        · exact ⟨x, tk, rfl⟩
        · exact h3 f hm
theorem tupv_sortable {a : Addr} {vs : List Value} {k : Value → List Int} {n : Nat} (h0 : 0 < vs.length) (hp : ∀ v ∈ vs, TupV s.heap v (k v) ∧ (k v).length = n + 1) (ha : ∀ o, s.heap.get? a = some o → o.cls ≠ .type "tuple") : SrtO.SortableO prog w A s a vs fun v u => lexI (k v) (k u) := by
  intro h' keep
  have hp' : ∀ v ∈ vs, TupV h' v (k v) ∧ (k v).length = n + 1 := fun v hm => ⟨(hp v hm).1.keeps fun b o e c => keep b o (fun z => by subst z; exact ha o e c) e, (hp v hm).2⟩
  obtain ⟨fs, h1, h2, h3⟩ := tupv_firsts hp'
  refine ⟨tuples' true, fun Q E hq => ?_, tupv_cmp (s := { s with heap := h' }) hp'⟩
  refine PySem.W.kat_kind (T := .type "int") h1 (by omega) (fun f hm => ?_) (by rfl) ?_
  · obtain ⟨x, t, rfl⟩ := h3 f hm
    exact PySem.W.Looks.now
  · have e : (Value.type "int" != Value.type "tuple") = true := by first | decide +kernel | rfl | decide
    rw [e]
    exact hq
/-- the order of all values: by rows of length n, others first -/
def keyN (n : Nat) (k : Value → List Int) (v : Value) : List Int := if (k v).length = n then k v else List.replicate n 0
theorem keyN_len (n : Nat) (k : Value → List Int) (v : Value) : (keyN n k v).length = n := by
  unfold keyN
  split
  · assumption
  · exact List.length_replicate ..
theorem swoN (n : Nat) (k : Value → List Int) : SrtO.Swo fun v u => lexI (keyN n k v) (keyN n k u) :=
  ⟨fun x y h => lexI_asym _ _ (by rw [keyN_len, keyN_len]) h, fun x y z h1 h2 => lexI_tr _ _ _ (by rw [keyN_len, keyN_len]) (by rw [keyN_len, keyN_len]) h2 h1⟩
theorem sorted_tupsN {l : Addr} {vs : List Value} {k : Value → List Int} {n : Nat} {E : Value → Shared → Prop} {Q : Value → Shared → Prop} (hl : s.heap.IsList l vs.toArray) (hz : vs.length ≤ sizeLine) (hp : ∀ v ∈ vs, TupV s.heap v (k v) ∧ (k v).length = n + 1)
    (h : ∀ (h' : Heap) (d : Addr) (out : List Value), out.Pairwise (fun v u => lexI (k u) (k v) = false) → out.Perm vs → (∀ b o, s.heap.get? b = some o → h'.get? b = some o) → s.heap.objs.size ≤ d → (∃ n, h'.get? d = some (seqObj "list" out.toArray n)) → Q (.ref d) { s with heap := h' }) :
    wpAny (model prog w) A (call (.builtin "sorted") [.ref l]) Q E s := by
  have hk : ∀ v ∈ vs, keyN (n + 1) k v = k v := fun v hv => by
    unfold keyN
    rw [if_pos (hp v hv).2]
  refine SrtO.sorted_ord (swoN (n + 1) k) hl hz (fun h2 h₁ a ha kk => ?_) fun out hs hb => ?_
  · refine tupv_sortable (s := { s with heap := h₁ }) (k := keyN (n + 1) k) (n := n) (by omega) (fun v hm => ⟨?_, keyN_len ..⟩) fun o e => ?_
    · rw [hk v hm]
      exact (hp v hm).1.keeps fun b o e _ => (kk b o e).2
    · have e' : some o = some (seqObj "list" vs.toArray 0) := e.symm.trans ha
      cases e'
      intro c
      exact absurd (Value.type.inj c) (by decide)
  · refine h _ _ out ?_ hb.perm (fun b o e => sortedAll_old e) (Nat.le_succ _) (sortedAll_at s.heap vs out.toArray)
    refine List.Pairwise.imp_of_mem (fun {x y} hx hy hxy => ?_) hs
    rw [← hk x (hb.perm.mem_iff.mp hx), ← hk y (hb.perm.mem_iff.mp hy)]
    exact hxy
end
/-- tuples of numbers at the addresses rs -/
def TpI (K : PySem.W.Frag) (H : Hp) (rs : List Addr) (xss : List (List Int)) : Prop := rs.length = xss.length ∧ ∀ (i : Nat) (r : Addr) (xs : List Int), rs[i]? = some r → xss[i]? = some xs → SqT K H r (xs.map V.int)
def rSortedTn (K : PySem.W.Frag) : List V → Hp → VK → Prop := fun vs H Q => ∃ (a : Addr) (rs : List Addr) (xss : List (List Int)) (n : Nat), vs = [V.ref a] ∧ SqL K H a (rs.map V.ref) ∧ TpI K H rs xss ∧ (∀ xs ∈ xss, xs.length = n + 1) ∧
  ∀ (ss : List Addr) (yss : List (List Int)) (p : Addr), yss.Perm xss → yss.Pairwise (fun x y => lexI y x = false) → TpI K H ss yss → H p = none → Q (.ref p) (upd H p (.lst (ss.map V.ref)))
def addrOf : Value → Addr
  | .ref a => a
  | _ => 0
section
variable {X : Cx}
theorem cr_sortedTn : CallR X (.builtin "sorted") (rSortedTn X.K) := by
  intro pins s σ H vs us Q I r h
  obtain ⟨a, rs, xss, n, rfl, hs, ⟨hlen, ht⟩, hn, q⟩ := h
  obtain ⟨its, rv, hl, hz⟩ := I.list hs
  obtain ⟨u, rfl, ru⟩ := vals1 r
  obtain rfl : u = Value.ref a := ru
  have hits : its = rs.map Value.ref := by
    have : ∀ (rs : List Addr) (its : List Value), Vals (rs.map V.ref) its → its = rs.map Value.ref := by
      intro rs
      induction rs with
      | nil => intro its h; cases h; rfl
      | cons r rs ih =>
        intro its h
        cases h with
        | cons r0 t =>
          rw [List.map_cons, ← ih _ t]
          congr 1
    exact this _ _ rv
  have key : ∀ (i : Nat) (r : Addr) (xs : List Int), rs[i]? = some r → xss[i]? = some xs → TupV s.heap (.ref r) xs := fun i r xs h1 h2 => by
    obtain ⟨js, rj, ⟨o, ho, hc, m, hd⟩, _⟩ := I.tuple (ht i r xs h1 h2)
    exact ⟨r, o, js, m, rfl, ho, hc, hd, rj⟩
  have at_ : ∀ r ∈ rs, ∃ i xs, rs[i]? = some r ∧ xss[i]? = some xs := fun r hr => by
    obtain ⟨i, hi⟩ := List.mem_iff_getElem?.mp hr
    have hlt : i < xss.length := by rw [← hlen]; exact (List.getElem?_eq_some_iff.mp hi).1
    exact ⟨i, xss[i], hi, List.getElem?_eq_getElem hlt⟩
  have hp : ∀ v ∈ its, TupV s.heap v (rowOf s.heap v) ∧ (rowOf s.heap v).length = n + 1 := fun v hv => by
    rw [hits] at hv
    obtain ⟨r, hr, rfl⟩ := List.mem_map.mp hv
    obtain ⟨i, xs, h1, h2⟩ := at_ r hr
    have h3 := key i r xs h1 h2
    rw [h3.row]
    exact ⟨h3, hn xs (List.mem_of_getElem? h2)⟩
  refine sorted_tupsN hl.isList (by rw [← rv.length]; exact hz) hp fun h' d out h1 h2 kp hd ⟨m, hm⟩ => ?_
  have hout : ∀ v ∈ out, ∃ r ∈ rs, v = .ref r := fun v hv => by
    have := h2.mem_iff.mp hv
    rw [hits] at this
    obtain ⟨r, hr, e⟩ := List.mem_map.mp this
    exact ⟨r, hr, e.symm⟩
  have ho : out = (out.map addrOf).map Value.ref := by
    rw [List.map_map]
    exact ((List.map_congr_left fun v hv => by
      obtain ⟨r, _, rfl⟩ := hout v hv
      rfl).trans (List.map_id out)).symm
  have hrow : its.map (rowOf s.heap) = xss := by
    rw [hits, List.map_map]
    refine List.ext_getElem? fun i => ?_
    rw [List.getElem?_map]
    cases e : rs[i]? with
    | none =>
      have : rs.length ≤ i := List.getElem?_eq_none_iff.mp e
      rw [List.getElem?_eq_none (by omega)]
      rfl
    | some r =>
      have hlt : i < xss.length := by rw [← hlen]; exact (List.getElem?_eq_some_iff.mp e).1
      have h3 := key i r xss[i] e (List.getElem?_eq_getElem hlt)
      rw [List.getElem?_eq_getElem hlt]
      exact congrArg some h3.row
  have hvals : Vals ((out.map addrOf).map V.ref) out := by
    have : ∀ rs : List Addr, Vals (rs.map V.ref) (rs.map Value.ref) := by
      intro rs
      induction rs with
      | nil => exact .nil
      | cons r rs ih => exact .cons rfl ih
    have h3 := this (out.map addrOf)
    rwa [← ho] at h3
  have hnone := I.hok.fresh hd
  refine ⟨.ref d, upd H d (.lst ((out.map addrOf).map V.ref)), I.laid (t' := s.toks) kp hd ⟨?_, out, m, hvals, hm⟩, rfl, q (out.map addrOf) (out.map (rowOf s.heap)) d ?_ ?_ ⟨by rw [List.length_map, List.length_map], fun i r xs e1 e2 => ?_⟩ hnone⟩
  · rw [List.length_map, List.length_map, h2.length_eq, ← rv.length]
    exact hz
  · have := h2.map (rowOf s.heap)
    rwa [hrow] at this
  · exact List.pairwise_map.mpr h1
  · rw [List.getElem?_map] at e1 e2
    obtain ⟨v, hv, rfl⟩ := Option.map_eq_some_iff.mp e1
    rw [hv] at e2
    cases e2
    obtain ⟨r, hr, rfl⟩ := hout v (List.mem_of_getElem? hv)
    obtain ⟨j, xs, h3, h4⟩ := at_ r hr
    rw [(key j r xs h3 h4).row]
    exact ht j r xs h3 h4
end
end Own
/-! unit by unit, as far as something is left that can be done: the law's own search of the least rest; core Lean alone -/
namespace Own
def totN (p f j : Nat) (N : Nat → Nat) : Nat := tsum (fun c => p ^ ((c + j) % f) * N c) f
theorem tot_mono {p f j : Nat} {N M : Nat → Nat} (h : ∀ c, c < f → N c ≤ M c) : totN p f j N ≤ totN p f j M := by
  unfold totN
  have : ∀ n, n ≤ f → tsum (fun c => p ^ ((c + j) % f) * N c) n ≤ tsum (fun c => p ^ ((c + j) % f) * M c) n := by
    intro n
    induction n with
    | zero => intro _; exact Nat.le_refl _
    | succ n ih =>
      intro hn
      have h1 := ih (by omega)
      have h2 := Nat.mul_le_mul_left (p ^ ((n + j) % f)) (h n (by omega))
      show tsum _ n + _ ≤ tsum _ n + _
      exact Nat.add_le_add h1 h2
  exact this f (Nat.le_refl _)
theorem tot_ac {p f : Nat} (hpf : PFq p f) (L : PL) {j : Nat} (hj : j < f) : totN p f j (fun c => ac f c L) = sj p f j L := by
  cases hpf with
  | one h =>
    have : j = 0 := by omega
    subst this
    rw [sj1]
    simp [totN, tsum]
  | four =>
    obtain ⟨a, b⟩ := sj2 2 L
    have : j = 0 ∨ j = 1 := by omega
    rcases this with rfl | rfl
    · rw [a]; simp [totN, tsum]
    · rw [b]; simp [totN, tsum]
  | nine =>
    obtain ⟨a, b⟩ := sj2 3 L
    have : j = 0 ∨ j = 1 := by omega
    rcases this with rfl | rfl
    · rw [a]; simp [totN, tsum]
    · rw [b]; simp [totN, tsum]
  | eight =>
    obtain ⟨a, b, c⟩ := sj3 2 L
    have : j = 0 ∨ j = 1 ∨ j = 2 := by omega
    rcases this with rfl | rfl | rfl
    · rw [a]; simp [totN, tsum]
    · rw [b]; simp [totN, tsum]
    · rw [c]; simp [totN, tsum]
theorem tsum_add (F G : Nat → Nat) : ∀ n, tsum (fun t => F t + G t) n = tsum F n + tsum G n
  | 0 => rfl
  | n + 1 => by
    show tsum _ n + (F n + G n) = (tsum F n + F n) + (tsum G n + G n)
    rw [tsum_add F G n]
    omega
theorem tot_add (p f j : Nat) (N M : Nat → Nat) : totN p f j (fun c => N c + M c) = totN p f j N + totN p f j M := by
  unfold totN
  rw [← tsum_add]
  exact tsum_congr f fun t _ => Nat.mul_add ..
theorem tot_one {p f j i : Nat} (hi : i < f) (x : Nat) : totN p f j (fun c => if c = i then x else 0) = p ^ ((i + j) % f) * x := by
  unfold totN
  have h0 : ∀ n, n ≤ i → tsum (fun c => p ^ ((c + j) % f) * (if c = i then x else 0)) n = 0 := by
    intro n
    induction n with
    | zero => intro _; rfl
    | succ n ih =>
      intro hn
      show tsum _ n + p ^ ((n + j) % f) * (if n = i then x else 0) = 0
      rw [ih (by omega), if_neg (by omega)]
      rfl
  have h1 : ∀ n, i < n → tsum (fun c => p ^ ((c + j) % f) * (if c = i then x else 0)) n = p ^ ((i + j) % f) * x := by
    intro n
    induction n with
    | zero => intro h; omega
    | succ n ih =>
      intro hn
      show tsum _ n + p ^ ((n + j) % f) * (if n = i then x else 0) = _
      by_cases e : n = i
      · subst e
        rw [h0 n (Nat.le_refl _), if_pos rfl, Nat.zero_add]
      · rw [ih (by omega), if_neg e]
        rfl
  exact h1 f hi
theorem wt_i (p f j a : Nat) : p ^ ((a % f + j) % f) = wt p f j a := by
  unfold wt
  rw [Nat.mod_add_mod]
/-- what can be done -/
def canP (p f n : Nat) (hv fr : Nat → Nat) : Prop := ∃ out : Nat → Nat, (∀ c, c < f → out c ≤ fr c ∧ out c < p ^ f - 1) ∧ totN p f 0 (fun c => hv c + fr c - out c) % (p ^ f - 1) = 0 ∧ ∀ j, j < f → (p ^ f - 1) * n ≤ totN p f j fun c => hv c + fr c - out c
theorem can_no {p f n : Nat} {hv fr : Nat → Nat} (h : canP p f n hv fr) : ∀ j, j < f → (p ^ f - 1) * n ≤ totN p f j fun c => hv c + fr c := by
  obtain ⟨out, _, _, h3⟩ := h
  exact fun j hj => Nat.le_trans (h3 j hj) (tot_mono fun c _ => Nat.sub_le _ _)
theorem ac_low {p f t : Nat} : ∀ (L : PL) (sp : List Nat), ac f t (low p f L sp).L ≤ ac f t L
  | [], sp => Nat.le_refl _
  | (c, a) :: L, sp => by
    rw [low]
    split
    · exact Nat.le_refl _
    · have ih := ac_low (p := p) (f := f) (t := t) L (lessN p f (cutN p f c a sp) a sp)
      simp only
      rw [ac_cons]
      split
      · rw [ac_cons]
        split <;> omega
      · omega
theorem sj_app (p f j : Nat) (L M : PL) : sj p f j (L ++ M) = sj p f j L + sj p f j M := by
  unfold sj
  rw [List.map_append, List.sum_append]
theorem ac_app (f t : Nat) (L M : PL) : ac f t (L ++ M) = ac f t L + ac f t M := by
  unfold ac
  rw [List.map_append, List.sum_append]
theorem nl_app (p : Nat) (L M : PL) : nl p (L ++ M) = nl p L + nl p M := by
  unfold nl
  rw [List.map_append, List.sum_append]
/-- kept digits K, digits L that are still to be looked at, spare sums sp -/
structure LR (p f n : Nat) (K L : PL) (sp : List Nat) : Prop where
  vd : Vd p L
  po : ∀ x ∈ L, 0 < x.1
  ln : sp.length = f
  eq : ∀ j, j < f → sp.getD j 0 + (p ^ f - 1) * n = sj p f j K + sj p f j L
  kp : ∀ x ∈ K, ∃ j, j < f ∧ sp.getD j 0 < wt p f j x.2
theorem can_yes {p f n : Nat} (hpf : PFq p f) {K L : PL} {sp : List Nat} (hn : 1 ≤ n) (h : LR p f n K L sp) : canP p f n (fun c => ac f c K) (fun c => ac f c L) := by
  obtain ⟨hp, hf, _⟩ := hpf.p
  have r := low_ok (f := f) hp h.vd h.po h.ln
  have hac : ∀ t, ac f t (low p f L sp).L ≤ ac f t L := fun t => ac_low L sp
  generalize low p f L sp = R at r hac
  have he : ∀ j, j < f → R.sp.getD j 0 + (p ^ f - 1) * n = sj p f j (K ++ R.L) := fun j hj => by
    rw [sj_app]
    have h1 := r.eq j hj
    have h2 := h.eq j hj
    omega
  have hz := low_zero hpf (sp := R.sp) (L := K ++ R.L) (m := n) r.ln hn he (by
    rcases r.st with z | z
    · exact .inl z
    · refine .inr fun x hx => ?_
      rcases List.mem_append.mp hx with hx | hx
      · obtain ⟨j, hj, hlt⟩ := h.kp x hx
        exact ⟨j, hj, Nat.lt_of_le_of_lt (r.le j hj) hlt⟩
      · exact z x hx)
  have hne : R.sp ≠ [] := fun z => by
    have h1 := r.ln
    rw [z] at h1
    have : ([] : List Nat).length = 0 := rfl
    omega
  obtain ⟨j0, hj0, e0⟩ := List.getElem_of_mem (minN_mem R.sp hne)
  have hj0f : j0 < f := by rw [← r.ln]; exact hj0
  have e1 : R.sp.getD j0 0 = 0 := by
    rw [List.getD_eq_getElem?_getD, List.getElem?_eq_getElem hj0, ← hz, ← e0]
    rfl
  have hs0 := he j0 hj0f
  rw [e1, Nat.zero_add, sj_app] at hs0
  have hall : ∀ j, j < f → (p ^ f - 1) * n ≤ sj p f j K + sj p f j R.L := fun j hj => by
    have := he j hj
    rw [sj_app] at this
    omega
  refine ⟨fun c => (ac f c L - ac f c R.L) % (p ^ f - 1), fun c hc => ⟨Nat.le_trans (Nat.mod_le _ _) (Nat.sub_le _ _), Nat.mod_lt _ (by have := q_gt hp hf; omega)⟩, ?_⟩
  have hN : ∀ c, ∃ t, ac f c K + ac f c L - (ac f c L - ac f c R.L) % (p ^ f - 1) = ac f c K + ac f c R.L + (p ^ f - 1) * t := fun c => by
    refine ⟨(ac f c L - ac f c R.L) / (p ^ f - 1), ?_⟩
    have h1 := Nat.mod_add_div (ac f c L - ac f c R.L) (p ^ f - 1)
    have h2 := hac c
    omega
  cases hpf with
  | one h1 =>
    have : j0 = 0 := by omega
    subst this
    rw [sj1, sj1] at hs0
    obtain ⟨t, ht⟩ := hN 0
    simp only [totN, tsum, Nat.zero_add, Nat.pow_zero, Nat.one_mul, Nat.mod_one]
    rw [ht, ← hs0, ← Nat.mul_add, Nat.mul_mod_right]
    refine ⟨rfl, fun j hj => ?_⟩
    exact Nat.mul_le_mul_left _ (Nat.le_add_right _ _)
  | four =>
    obtain ⟨a1, b1⟩ := sj2 2 K
    obtain ⟨a2, b2⟩ := sj2 2 R.L
    obtain ⟨t0, h0⟩ := hN 0
    obtain ⟨t1, h1⟩ := hN 1
    have g0 := hall 0 (by omega)
    have g1 := hall 1 (by omega)
    rw [a1, a2] at g0
    rw [b1, b2] at g1
    have hj : j0 = 0 ∨ j0 = 1 := by omega
    have hd : (ac 2 0 K + ac 2 0 R.L + 2 * (ac 2 1 K + ac 2 1 R.L)) % 3 = 0 := by
      rcases hj with rfl | rfl
      · rw [a1, a2] at hs0; omega
      · rw [b1, b2] at hs0; omega
    refine ⟨?_, fun j hj => ?_⟩
    · simp only [totN, tsum]
      rw [h0, h1]
      simp only [show (2 : Nat) ^ 2 - 1 = 3 from rfl, show (2 : Nat) ^ ((0 + 0) % 2) = 1 from rfl, show (2 : Nat) ^ ((1 + 0) % 2) = 2 from rfl]
      omega
    · have : j = 0 ∨ j = 1 := by omega
      rcases this with rfl | rfl
      · simp only [totN, tsum]
        rw [h0, h1]
        simp only [show (2 : Nat) ^ 2 - 1 = 3 from rfl, show (2 : Nat) ^ ((0 + 0) % 2) = 1 from rfl, show (2 : Nat) ^ ((1 + 0) % 2) = 2 from rfl] at g0 ⊢
        omega
      · simp only [totN, tsum]
        rw [h0, h1]
        simp only [show (2 : Nat) ^ 2 - 1 = 3 from rfl, show (2 : Nat) ^ ((0 + 1) % 2) = 2 from rfl, show (2 : Nat) ^ ((1 + 1) % 2) = 1 from rfl] at g1 ⊢
        omega
  | nine =>
    obtain ⟨a1, b1⟩ := sj2 3 K
    obtain ⟨a2, b2⟩ := sj2 3 R.L
    obtain ⟨t0, h0⟩ := hN 0
    obtain ⟨t1, h1⟩ := hN 1
    have g0 := hall 0 (by omega)
    have g1 := hall 1 (by omega)
    rw [a1, a2] at g0
    rw [b1, b2] at g1
    have hj : j0 = 0 ∨ j0 = 1 := by omega
    have hd : (ac 2 0 K + ac 2 0 R.L + 3 * (ac 2 1 K + ac 2 1 R.L)) % 8 = 0 := by
      rcases hj with rfl | rfl
      · rw [a1, a2] at hs0; omega
      · rw [b1, b2] at hs0; omega
    refine ⟨?_, fun j hj => ?_⟩
    · simp only [totN, tsum]
      rw [h0, h1]
      simp only [show (3 : Nat) ^ 2 - 1 = 8 from rfl, show (3 : Nat) ^ ((0 + 0) % 2) = 1 from rfl, show (3 : Nat) ^ ((1 + 0) % 2) = 3 from rfl]
      omega
    · have : j = 0 ∨ j = 1 := by omega
      rcases this with rfl | rfl
      · simp only [totN, tsum]
        rw [h0, h1]
        simp only [show (3 : Nat) ^ 2 - 1 = 8 from rfl, show (3 : Nat) ^ ((0 + 0) % 2) = 1 from rfl, show (3 : Nat) ^ ((1 + 0) % 2) = 3 from rfl] at g0 ⊢
        omega
      · simp only [totN, tsum]
        rw [h0, h1]
        simp only [show (3 : Nat) ^ 2 - 1 = 8 from rfl, show (3 : Nat) ^ ((0 + 1) % 2) = 3 from rfl, show (3 : Nat) ^ ((1 + 1) % 2) = 1 from rfl] at g1 ⊢
        omega
  | eight =>
    obtain ⟨a1, b1, c1⟩ := sj3 2 K
    obtain ⟨a2, b2, c2⟩ := sj3 2 R.L
    obtain ⟨t0, h0⟩ := hN 0
    obtain ⟨t1, h1⟩ := hN 1
    obtain ⟨t2, h2⟩ := hN 2
    have g0 := hall 0 (by omega)
    have g1 := hall 1 (by omega)
    have g2 := hall 2 (by omega)
    rw [a1, a2] at g0
    rw [b1, b2] at g1
    rw [c1, c2] at g2
    have hj : j0 = 0 ∨ j0 = 1 ∨ j0 = 2 := by omega
    have hd : (ac 3 0 K + ac 3 0 R.L + 2 * (ac 3 1 K + ac 3 1 R.L) + 4 * (ac 3 2 K + ac 3 2 R.L)) % 7 = 0 := by
      rcases hj with rfl | rfl | rfl
      · rw [a1, a2] at hs0; omega
      · rw [b1, b2] at hs0; omega
      · rw [c1, c2] at hs0; omega
    refine ⟨?_, fun j hj => ?_⟩
    · simp only [totN, tsum]
      rw [h0, h1, h2]
      simp only [show (2 : Nat) ^ 3 - 1 = 7 from rfl, show (2 : Nat) ^ ((0 + 0) % 3) = 1 from rfl, show (2 : Nat) ^ ((1 + 0) % 3) = 2 from rfl, show (2 : Nat) ^ ((2 + 0) % 3) = 4 from rfl]
      omega
    · have : j = 0 ∨ j = 1 ∨ j = 2 := by omega
      rcases this with rfl | rfl | rfl
      · simp only [totN, tsum]
        rw [h0, h1, h2]
        simp only [show (2 : Nat) ^ 3 - 1 = 7 from rfl, show (2 : Nat) ^ ((0 + 0) % 3) = 1 from rfl, show (2 : Nat) ^ ((1 + 0) % 3) = 2 from rfl, show (2 : Nat) ^ ((2 + 0) % 3) = 4 from rfl] at g0 ⊢
        omega
      · simp only [totN, tsum]
        rw [h0, h1, h2]
        simp only [show (2 : Nat) ^ 3 - 1 = 7 from rfl, show (2 : Nat) ^ ((0 + 1) % 3) = 2 from rfl, show (2 : Nat) ^ ((1 + 1) % 3) = 4 from rfl, show (2 : Nat) ^ ((2 + 1) % 3) = 1 from rfl] at g1 ⊢
        omega
      · simp only [totN, tsum]
        rw [h0, h1, h2]
        simp only [show (2 : Nat) ^ 3 - 1 = 7 from rfl, show (2 : Nat) ^ ((0 + 2) % 3) = 4 from rfl, show (2 : Nat) ^ ((1 + 2) % 3) = 1 from rfl, show (2 : Nat) ^ ((2 + 2) % 3) = 2 from rfl] at g2 ⊢
        omega
/-- the next digit -/
theorem LR.next {p f n c a : Nat} {K L : PL} {sp : List Nat} (hp : 1 < p) (h : LR p f n K ((c, a) :: L) sp) :
    LR p f n (if cutN p f c a sp < c then K ++ [(c - cutN p f c a sp, a)] else K) L (lessN p f (cutN p f c a sp) a sp) := by
  have hn := cut_le p f c a sp
  have hm : ∀ j, j < f → cutN p f c a sp * wt p f j a ≤ sp.getD j 0 := fun j hj => cut_mul hp hj
  have hlt := fun h => cut_lt (p := p) (f := f) (c := c) (a := a) (sp := sp) hp h
  generalize cutN p f c a sp = n1 at hn hm hlt ⊢
  have hvd := h.vd
  cases hvd with
  | cons hc hL r =>
  refine ⟨r, fun x hx => h.po x (List.mem_cons_of_mem _ hx), less_len .., fun j hj => ?_, fun x hx => ?_⟩
  · have h1 := h.eq j hj
    have h2 := hm j hj
    rw [sj_cons] at h1
    rw [less_get hj]
    split
    · rename_i hlt1
      rw [sj_app]
      have h3 : sj p f j [(c - n1, a)] = (c - n1) * wt p f j a := by
        rw [sj_cons]
        rfl
      have h4 : (c - n1) * wt p f j a + n1 * wt p f j a = c * wt p f j a := by
        rw [← Nat.add_mul]
        congr 1
        omega
      omega
    · have : n1 = c := by omega
      subst this
      omega
  · have old : ∀ x ∈ K, ∃ j, j < f ∧ (lessN p f n1 a sp).getD j 0 < wt p f j x.2 := fun x hx => by
      obtain ⟨j, hj, h1⟩ := h.kp x hx
      refine ⟨j, hj, ?_⟩
      rw [less_get hj]
      omega
    split at hx
    · rename_i hc1
      rcases List.mem_append.mp hx with hx | hx
      · exact old x hx
      · have : x = (c - n1, a) := by simpa using hx
        subst this
        obtain ⟨j, hj, h1⟩ := hlt hc1
        refine ⟨j, hj, ?_⟩
        rw [less_get hj]
        have := hm j hj
        show _ < wt p f j a
        omega
    · exact old x hx
theorem low_nl {p f c a : Nat} {L : PL} {sp : List Nat} (hp : 1 < p) (hl : sp.length = f) (hf : 1 ≤ f) : nl p (low p f ((c, a) :: L) sp).L = (c - cutN p f c a sp) * p ^ a + nl p (low p f L (lessN p f (cutN p f c a sp) a sp)).L := by
  have hn := cut_le p f c a sp
  rw [low]
  by_cases hz : minN sp = 0
  · rw [if_pos hz]
    have hc0 : cutN p f c a sp = 0 := by
      have hne : sp ≠ [] := fun z => by
        rw [z] at hl
        have : ([] : List Nat).length = 0 := rfl
        omega
      obtain ⟨j0, hj0, e0⟩ := List.getElem_of_mem (minN_mem sp hne)
      have e1 : sp.getD j0 0 = 0 := by
        rw [List.getD_eq_getElem?_getD, List.getElem?_eq_getElem hj0, ← hz, ← e0]
        rfl
      have h1 := cut_mul (p := p) (f := f) (c := c) (a := a) (sp := sp) hp (j := j0) (by omega)
      rw [e1] at h1
      have h2 := wt_pos (p := p) (f := f) (j := j0) (a := a) hp
      rcases Nat.eq_zero_or_pos (cutN p f c a sp) with h3 | h3
      · exact h3
      · have := Nat.mul_pos h3 h2
        omega
    rw [hc0]
    have hz2 : minN (lessN p f 0 a sp) = 0 := by
      have : lessN p f 0 a sp = sp := by
        refine List.ext_getElem? fun i => ?_
        unfold lessN
        rw [List.getElem?_map]
        by_cases hi : i < f
        · rw [List.getElem?_range hi, List.getElem?_eq_getElem (by omega)]
          show some (sp.getD i 0 - 0 * _) = _
          rw [Nat.zero_mul, Nat.sub_zero, List.getD_eq_getElem?_getD, List.getElem?_eq_getElem (by omega)]
          rfl
        · rw [List.getElem?_eq_none (by rw [List.length_range]; omega), List.getElem?_eq_none (by omega)]
          rfl
      rw [this, hz]
    have h3 : (low p f L (lessN p f 0 a sp)).L = L := by
      cases L with
      | nil => rfl
      | cons x L =>
        obtain ⟨c', a'⟩ := x
        rw [low, if_pos hz2]
    rw [h3, nl_cons, Nat.sub_zero]
  · rw [if_neg hz]
    simp only
    split
    · rw [nl_cons]
    · have : cutN p f c a sp = c := by omega
      rw [this, Nat.sub_self, Nat.zero_mul, Nat.zero_add]
/-- one unit of a digit is looked at: it can be left out as long as the program leaves it out -/
theorem unit_yes {p f n c a u : Nat} (hpf : PFq p f) {K L : PL} {sp : List Nat} (hn : 1 ≤ n) (h : LR p f n K ((c, a) :: L) sp) (hu : u < cutN p f c a sp) :
    canP p f n (fun t => ac f t K) (fun t => ac f t ((c, a) :: L) - (if t = a % f then u + 1 else 0)) := by
  obtain ⟨hp, hf, _⟩ := hpf.p
  have hc := cut_le p f c a sp
  have hm : ∀ j, j < f → (u + 1) * wt p f j a ≤ sp.getD j 0 := fun j hj => Nat.le_trans (Nat.mul_le_mul_right _ hu) (cut_mul hp hj)
  have hvd := h.vd
  cases hvd with
  | cons hcp hL r =>
  have hbase : LR p f n K (if u + 1 < c then (c - (u + 1), a) :: L else L) (lessN p f (u + 1) a sp) := by
    refine ⟨?_, fun x hx => ?_, less_len .., fun j hj => ?_, fun x hx => ?_⟩
    · split
      · exact .cons (by omega) hL r
      · exact r
    · split at hx
      · rcases List.mem_cons.mp hx with rfl | hx
        · show 0 < c - (u + 1)
          omega
        · exact h.po x (List.mem_cons_of_mem _ hx)
      · exact h.po x (List.mem_cons_of_mem _ hx)
    · have h1 := h.eq j hj
      have h2 := hm j hj
      rw [sj_cons] at h1
      rw [less_get hj]
      split
      · rw [sj_cons]
        have h4 : (c - (u + 1)) * wt p f j a + (u + 1) * wt p f j a = c * wt p f j a := by
          rw [← Nat.add_mul]
          congr 1
          omega
        omega
      · have : u + 1 = c := by omega
        rw [this] at h2 ⊢
        omega
    · obtain ⟨j, hj, h1⟩ := h.kp x hx
      refine ⟨j, hj, ?_⟩
      rw [less_get hj]
      omega
  have := can_yes hpf hn hbase
  have e : (fun t => ac f t (if u + 1 < c then (c - (u + 1), a) :: L else L)) = (fun t => ac f t ((c, a) :: L) - (if t = a % f then u + 1 else 0)) := funext fun t => by
    rw [ac_cons]
    split
    · rw [ac_cons]
      by_cases ht : a % f = t
      · rw [if_pos ht, if_pos ht, if_pos ht.symm]
        omega
      · rw [if_neg ht, if_neg ht, if_neg (Ne.symm ht)]
        omega
    · have : u + 1 = c := by omega
      by_cases ht : a % f = t
      · rw [if_pos ht, if_pos ht.symm]
        omega
      · rw [if_neg ht, if_neg (Ne.symm ht)]
        omega
  rw [e] at this
  exact this
theorem unit_no {p f n c a u : Nat} (hpf : PFq p f) {K L : PL} {sp : List Nat} (h : LR p f n K ((c, a) :: L) sp) (h1 : cutN p f c a sp ≤ u) (h2 : u < c) :
    ¬ canP p f n (fun t => ac f t K + (if t = a % f then u - cutN p f c a sp else 0)) (fun t => ac f t ((c, a) :: L) - (if t = a % f then u + 1 else 0)) := by
  obtain ⟨hp, hf, _⟩ := hpf.p
  intro hcan
  obtain ⟨j, hj, hlt⟩ := cut_lt (p := p) (f := f) (c := c) (a := a) (sp := sp) hp (by omega)
  have h3 := can_no hcan j hj
  have h4 := h.eq j hj
  have hi : a % f < f := Nat.mod_lt _ (by omega)
  have e : totN p f j (fun t => ac f t K + (if t = a % f then u - cutN p f c a sp else 0) + (ac f t ((c, a) :: L) - (if t = a % f then u + 1 else 0))) + totN p f j (fun t => if t = a % f then cutN p f c a sp + 1 else 0) = totN p f j (fun t => ac f t K) + totN p f j (fun t => ac f t ((c, a) :: L)) := by
    rw [← tot_add, ← tot_add]
    congr 1
    funext t
    have : t = a % f → u + 1 ≤ ac f t ((c, a) :: L) := fun e => by
      rw [ac_cons, if_pos e.symm]
      omega
    by_cases ht : t = a % f
    · have := this ht
      simp only [if_pos ht]
      omega
    · simp only [if_neg ht]
      omega
  rw [tot_one hi, tot_ac hpf _ hj, tot_ac hpf _ hj, wt_i] at e
  rw [Nat.mul_add, Nat.mul_one, Nat.mul_comm] at e
  omega
/-- digits at places are told by their number -/
theorem vd_uniq {p : Nat} (hp : 1 < p) : ∀ {L M : PL}, Vd p L → Vd p M → (∀ x ∈ L, 0 < x.1) → (∀ x ∈ M, 0 < x.1) → nl p L = nl p M → L = M
  | [], [], _, _, _, _, _ => rfl
  | [], (d, b) :: M, _, _, _, pm, h => by
    rw [nl_cons] at h
    have h1 := pm _ (List.mem_cons_self ..)
    have := Nat.mul_pos (show 0 < d from h1) (Nat.pow_pos (n := b) (show 0 < p by omega))
    have h0 : nl p [] = 0 := rfl
    omega
  | (c, a) :: L, [], _, _, pl, _, h => by
    rw [nl_cons] at h
    have h1 := pl _ (List.mem_cons_self ..)
    have := Nat.mul_pos (show 0 < c from h1) (Nat.pow_pos (n := a) (show 0 < p by omega))
    have h0 : nl p [] = 0 := rfl
    omega
  | (c, a) :: L, (d, b) :: M, vl, vm, pl, pm, h => by
    have hl1 := nl_lt hp vl (a + 1) (fun x hx => by
      cases vl with
      | cons _ hL _ =>
        rcases List.mem_cons.mp hx with rfl | hx
        · exact Nat.lt_succ_self _
        · have := hL x hx; omega)
    have hm1 := nl_lt hp vm (b + 1) (fun x hx => by
      cases vm with
      | cons _ hL _ =>
        rcases List.mem_cons.mp hx with rfl | hx
        · exact Nat.lt_succ_self _
        · have := hL x hx; omega)
    cases vl with
    | cons hc hL rl =>
    cases vm with
    | cons hd hM rm =>
    have hc0 : 0 < c := pl _ (List.mem_cons_self ..)
    have hd0 : 0 < d := pm _ (List.mem_cons_self ..)
    have ll := nl_lt hp rl a hL
    have lm := nl_lt hp rm b hM
    have hca : p ^ a ≤ c * p ^ a := Nat.le_mul_of_pos_left _ hc0
    have hdb : p ^ b ≤ d * p ^ b := Nat.le_mul_of_pos_left _ hd0
    have hab : a = b := by
      rw [nl_cons] at hl1 hm1
      rw [nl_cons, nl_cons] at h
      rcases Nat.lt_trichotomy a b with z | z | z
      · have := Nat.pow_le_pow_right (show 0 < p by omega) (show a + 1 ≤ b from z)
        omega
      · exact z
      · have := Nat.pow_le_pow_right (show 0 < p by omega) (show b + 1 ≤ a from z)
        omega
    subst hab
    rw [nl_cons, nl_cons] at h
    have hcd : c = d := by
      have h1 : (c * p ^ a + nl p L) / p ^ a = c := by
        rw [Nat.add_comm, Nat.add_mul_div_right _ _ (Nat.pow_pos (by omega)), Nat.div_eq_of_lt ll, Nat.zero_add]
      have h2 : (d * p ^ a + nl p M) / p ^ a = d := by
        rw [Nat.add_comm, Nat.add_mul_div_right _ _ (Nat.pow_pos (by omega)), Nat.div_eq_of_lt lm, Nat.zero_add]
      rw [← h1, ← h2, h]
    subst hcd
    rw [vd_uniq hp rl rm (fun x hx => pl x (List.mem_cons_of_mem _ hx)) (fun x hx => pm x (List.mem_cons_of_mem _ hx)) (by omega)]
end Own
/-! own rules: comprehensions whose items are new objects; extend by such a one -/
namespace Own
open PySem PySem.Spec PyProof.Rows L2 Evl
/-- what is told of an item stays, also where a list is written -/
structure Kp (P : Nat → Addr → Hp → Prop) : Prop where
  ex : ∀ i r H H', P i r H → Ex H H' → P i r H'
  put : ∀ i r H H' p ys, H p = some (.lst ys) → Exd p H H' → P i r H → P i r H'
def Cwr (H : Hp) (P : Nat → Addr → Hp → Prop) (Dl : Addr) (i : Nat) (H' : Hp) : Prop := H Dl = none ∧ Ex H H' ∧ ∃ rs : List Addr, rs.length = i ∧ H' Dl = some (.lst (rs.map V.ref)) ∧ ∀ (j : Nat) (r : Addr), rs[j]? = some r → P j r H'
def EvLR (te : TE) (σ : L2.St) (H : Hp) (n : Nat) (P : Nat → Addr → Hp → Prop) : Prop := ∀ H1, Ex H H1 → ∀ Q : VK, (∀ (p : Addr) (rs : List Addr) H2, H1 p = none → Ex H1 H2 → H2 p = some (.lst (rs.map V.ref)) → rs.length = n → (∀ (j : Nat) (r : Addr), rs[j]? = some r → P j r H2) → Q (.ref p) H2) → te σ H1 Q
/-- the item is a new object -/
def EvR (te : TE) (σ : L2.St) (H : Hp) (P : Addr → Hp → Prop) : Prop := ∀ H1, Ex H H1 → ∀ Q : VK, (∀ r H2, Ex H1 H2 → P r H2 → Q (.ref r) H2) → te σ H1 Q
section
variable {K : PySem.W.Frag} {σ : L2.St} {H H' : Hp} {t : TT} {te ta tb tl : TE} {x y v : V} {D : Ends} {tu tz : TS} {P : Nat → Addr → Hp → Prop}
theorem cwr_turn {Dl : Addr} {i : Nat} {σ2 : L2.St} (kp : Kp P) (p : Cwr H P Dl i H') (hi : i < 50000) (he : EvR te σ2 H (P i)) :
    tYes σ2 H' fun b H3 => if b = true then te σ2 H3 fun y H4 => ∃ acc, H4 Dl = some (.lst acc) ∧ acc.length < sizeLine ∧ Cwr H P Dl (i + 1) (upd H4 Dl (.lst (acc ++ [y]))) else Cwr H P Dl (i + 1) H3 := by
  obtain ⟨p1, p2, rs, p3, p4, p5⟩ := p
  show (if true = true then te σ2 H' (fun y H4 => ∃ acc, H4 Dl = some (.lst acc) ∧ acc.length < sizeLine ∧ Cwr H P Dl (i + 1) (upd H4 Dl (.lst (acc ++ [y])))) else Cwr H P Dl (i + 1) H')
  rw [if_pos rfl]
  refine he H' p2 _ fun r H4 e4 q => ?_
  have hD := e4 _ _ p4
  have x5 : Exd Dl H4 (upd H4 Dl (.lst (rs.map V.ref ++ [.ref r]))) := Exd.put
  refine ⟨rs.map V.ref, hD, by rw [List.length_map, p3]; exact Nat.lt_of_lt_of_le (show i < 50001 by omega) (by decide), p1, (p2.trans e4).mut p1, rs ++ [r], by rw [List.length_append, p3]; rfl, by rw [upd_same, List.map_append]; rfl, fun j r' e6 => ?_⟩
  by_cases hj : j < rs.length
  · rw [List.getElem?_append_left hj] at e6
    exact kp.put _ _ _ _ _ _ hD x5 (kp.ex _ _ _ _ (p5 j r' e6) e4)
  · rw [List.getElem?_append_right (by omega)] at e6
    have hj2 : j - rs.length = 0 := by
      have := (List.getElem?_eq_some_iff.mp e6).1
      rw [List.length_singleton] at this
      omega
    rw [hj2] at e6
    cases e6
    have hji : j = i := by omega
    rw [hji]
    exact kp.put _ _ _ _ _ _ hD x5 q
theorem lr_lcR1 {ta : TA} {j : Nat} {vs : List Nat} {n : Nat} (kp : Kp P) (h : EvA ta σ H [.int (n : Int)]) (hn : n ≤ 40000) (hw : ∀ x, wipe ((wipe σ vs).set j (some x)) vs = wipe σ vs)
    (he : ∀ (i : Nat) H1, Ex H H1 → i < n → EvR te ((wipe σ vs).set j (some (.int (i : Int)))) H1 (P i)) : EvLR (tLc (iRng1 ta) (gName j) tYes te vs) σ H n P := fun H0 e Q q => h H0 e _ fun H1 e1 => ⟨(n : Int), rfl, by omega, by omega, fun Dl hD => by
  rw [Int.toNat_natCast]
  exact lc_range (lo := 0) (n := n) (Cwr H1 P Dl) ⟨hD, Ex.new hD, [], rfl, upd_same, fun j r e => by simp at e⟩ (fun i H' hi p => by
    have e0 : (0 : Int) + (i : Int) = (i : Int) := Int.zero_add _
    show wipe ((wipe σ vs).set j (some (.int ((0 : Int) + (i : Int))))) vs = wipe σ vs ∧ tYes ((wipe σ vs).set j (some (.int ((0 : Int) + (i : Int))))) H' fun b H3 => if b = true then te ((wipe σ vs).set j (some (.int ((0 : Int) + (i : Int))))) H3 fun y H4 => ∃ acc, H4 Dl = some (.lst acc) ∧ acc.length < sizeLine ∧ Cwr H1 P Dl (i + 1) (upd H4 Dl (.lst (acc ++ [y]))) else Cwr H1 P Dl (i + 1) H3
    rw [e0]
    exact ⟨hw _, cwr_turn kp p (by omega) (he i H1 (e.trans e1) hi)⟩) (fun H' p => by
      obtain ⟨p1, p2, rs, p3, p4, p5⟩ := p
      exact q Dl rs H' (fresh_back e1 p1) (e1.trans p2) p4 p3 p5)⟩
theorem lr_lcL {a : Addr} {xs : List V} {j : Nat} {vs : List Nat} (kp : Kp P) (h : Ev tl σ H (.ref a)) (hx : SqL K H a xs) (hz : xs.length ≤ 40000) (hw : ∀ x, wipe ((wipe σ vs).set j (some x)) vs = wipe σ vs)
    (he : ∀ (i : Nat) (x : V) H1, Ex H H1 → xs[i]? = some x → EvR te ((wipe σ vs).set j (some x)) H1 (P i)) : EvLR (tLc (iList K tl) (gName j) tYes te vs) σ H xs.length P := fun H0 e Q q => h H0 e _ fun H1 e1 => ⟨a, rfl, ⟨xs, ex_l (e.trans e1) hx⟩, fun Dl hD =>
  lc_list (xs := xs) (Cwr H1 P Dl) ⟨hD, Ex.new hD, [], rfl, upd_same, fun j r e => by simp at e⟩ (fun i H' _ p => ex_l ((e.trans e1).trans p.2.1) hx) (fun i x H' hi p => ⟨hw x, cwr_turn kp p (by have := (List.getElem?_eq_some_iff.mp hi).1; omega) (he i x H1 (e.trans e1) hi)⟩)
    (fun H' p => by
      obtain ⟨p1, p2, rs, p3, p4, p5⟩ := p
      exact q Dl rs H' (fresh_back e1 p1) (e1.trans p2) p4 p3 p5)⟩
theorem s_extR {l : Addr} {xs : List V} {n : Nat} (hl : H l = some (.lst xs)) (ha : Ev ta σ H (.ref l)) (h : EvLR te σ H n P) (hz : xs.length + n ≤ 100000) (k : ∀ (rs : List Addr) H1, Ex H H1 → rs.length = n → (∀ (j : Nat) (r : Addr), rs[j]? = some r → P j r H1) → D.nx σ (upd H1 l (.lst (xs ++ rs.map V.ref)))) : tDrop (tBM K "list" rExtend ta (tCons te tNil)) D σ H := ha H (Ex.refl H) _ fun H1 e1 =>
  ⟨Or.inl ⟨rfl, xs, sq_of (e1 l _ hl)⟩, h H1 e1 _ fun p rs H2 hp e2 h2 hn hP => ⟨l, p, xs, rs.map V.ref, rfl, rfl, e2 l _ (e1 l _ hl), h2, sz_of (by rw [List.length_map]; omega), k rs H2 (e1.trans e2) hn hP⟩⟩
theorem s_asgLR {i : Nat} {n : Nat} (h : EvLR te σ H n P) (k : ∀ (p : Addr) (rs : List Addr) H1, H p = none → Ex H H1 → H1 p = some (.lst (rs.map V.ref)) → rs.length = n → (∀ (j : Nat) (r : Addr), rs[j]? = some r → P j r H1) → D.nx (σ.set i (some (.ref p))) H1) : tAsg te (gName i) D σ H := h H (Ex.refl H) _ fun p rs H1 np e1 h1 hn hP => k p rs H1 np e1 h1 hn hP
end
/-- rows of numbers -/
def PRow (K : PySem.W.Frag) (f : Nat → List Nat) (i : Nat) (r : Addr) (H : Hp) : Prop := SqT K H r ((f i).map N_)
theorem sqt_put {K : PySem.W.Frag} {H H' : Hp} {p m : Addr} {ys xs : List V} (hp : H p = some (.lst ys)) (e : Exd p H H') (h : SqT K H m xs) : SqT K H' m xs := by
  rcases h with (h | ⟨o, h⟩) | h
  · exact .inl (.inl (e m _ (fun z => by rw [z, hp] at h; cases h) h))
  · exact .inl (.inr ⟨o, e m _ (fun z => by rw [z, hp] at h; cases h) h⟩)
  · exact .inr h
theorem kp_row (K : PySem.W.Frag) (f : Nat → List Nat) : Kp (PRow K f) := ⟨fun i r H H' h e => ex_t e h, fun i r H H' p ys hp e h => sqt_put hp e h⟩
/-- pairs of a row and a number -/
def PPair (K : PySem.W.Frag) (f : Nat → List Nat × Nat) (i : Nat) (r : Addr) (H : Hp) : Prop := ∃ m, H r = some (.tup [.ref m, N_ (f i).2]) ∧ SqT K H m ((f i).1.map N_)
theorem kp_pair (K : PySem.W.Frag) (f : Nat → List Nat × Nat) : Kp (PPair K f) := ⟨fun i r H H' ⟨m, h1, h2⟩ e => ⟨m, e _ _ h1, ex_t e h2⟩, fun i r H H' p ys hp e ⟨m, h1, h2⟩ => ⟨m, e _ _ (fun z => by rw [z, hp] at h1; cases h1) h1, sqt_put hp e h2⟩⟩
/-- tuples of natural numbers that stand in the heap -/
def Tps (K : PySem.W.Frag) (H : Hp) (rs : List Addr) (xss : List (List Nat)) : Prop := rs.length = xss.length ∧ ∀ (i : Nat) (r : Addr) (xs : List Nat), rs[i]? = some r → xss[i]? = some xs → SqT K H r (xs.map N_)
theorem Tps.ex {K : PySem.W.Frag} {H H' : Hp} {rs : List Addr} {xss : List (List Nat)} (h : Tps K H rs xss) (e : Ex H H') : Tps K H' rs xss := ⟨h.1, fun i r xs e1 e2 => ex_t e (h.2 i r xs e1 e2)⟩
theorem Tps.put {K : PySem.W.Frag} {H H' : Hp} {rs : List Addr} {xss : List (List Nat)} {p : Addr} {ys : List V} (h : Tps K H rs xss) (hp : H p = some (.lst ys)) (e : Exd p H H') : Tps K H' rs xss := ⟨h.1, fun i r xs e1 e2 => sqt_put hp e (h.2 i r xs e1 e2)⟩
/-- the pairs that stand in the heap -/
def Prs (K : PySem.W.Frag) (H : Hp) (ts : List Addr) (bs : List (List Nat × Nat)) : Prop := ts.length = bs.length ∧ ∀ (i : Nat) (t : Addr) (x : List Nat × Nat), ts[i]? = some t → bs[i]? = some x → ∃ m, H t = some (.tup [.ref m, N_ x.2]) ∧ SqT K H m (x.1.map N_)
theorem Prs.nil (K : PySem.W.Frag) (H : Hp) : Prs K H [] [] := ⟨rfl, fun i t x h => by simp at h⟩
theorem Prs.ex {K : PySem.W.Frag} {H H' : Hp} {ts : List Addr} {bs : List (List Nat × Nat)} (h : Prs K H ts bs) (e : Ex H H') : Prs K H' ts bs := ⟨h.1, fun i t x e1 e2 => by
  obtain ⟨m, h1, h2⟩ := h.2 i t x e1 e2
  exact ⟨m, e _ _ h1, ex_t e h2⟩⟩
theorem Prs.put {K : PySem.W.Frag} {H H' : Hp} {ts : List Addr} {bs : List (List Nat × Nat)} {p : Addr} {ys : List V} (h : Prs K H ts bs) (hp : H p = some (.lst ys)) (e : Exd p H H') : Prs K H' ts bs := ⟨h.1, fun i t x e1 e2 => by
  obtain ⟨m, h1, h2⟩ := h.2 i t x e1 e2
  exact ⟨m, e _ _ (fun z => by rw [z, hp] at h1; cases h1) h1, sqt_put hp e h2⟩⟩
theorem Prs.app {K : PySem.W.Frag} {H : Hp} {ts us : List Addr} {bs cs : List (List Nat × Nat)} (h : Prs K H ts bs) (k : Prs K H us cs) : Prs K H (ts ++ us) (bs ++ cs) := by
  refine ⟨by rw [List.length_append, List.length_append, h.1, k.1], fun i t x e1 e2 => ?_⟩
  by_cases hi : i < ts.length
  · rw [List.getElem?_append_left hi] at e1
    rw [List.getElem?_append_left (by rw [← h.1]; exact hi)] at e2
    exact h.2 i t x e1 e2
  · rw [List.getElem?_append_right (by omega)] at e1
    rw [List.getElem?_append_right (by rw [← h.1]; omega), ← h.1] at e2
    exact k.2 _ t x e1 e2
theorem Tps.nil (K : PySem.W.Frag) (H : Hp) : Tps K H [] [] := ⟨rfl, fun i t x h => by simp at h⟩
theorem Tps.app {K : PySem.W.Frag} {H : Hp} {ts us : List Addr} {bs cs : List (List Nat)} (h : Tps K H ts bs) (k : Tps K H us cs) : Tps K H (ts ++ us) (bs ++ cs) := by
  refine ⟨by rw [List.length_append, List.length_append, h.1, k.1], fun i t x e1 e2 => ?_⟩
  by_cases hi : i < ts.length
  · rw [List.getElem?_append_left hi] at e1
    rw [List.getElem?_append_left (by rw [← h.1]; exact hi)] at e2
    exact h.2 i t x e1 e2
  · rw [List.getElem?_append_right (by omega)] at e1
    rw [List.getElem?_append_right (by rw [← h.1]; omega), ← h.1] at e2
    exact k.2 _ t x e1 e2
theorem prs_of {K : PySem.W.Frag} {H : Hp} {rs : List Addr} {bs : List (List Nat × Nat)} (hl : rs.length = bs.length) (h : ∀ (j : Nat) (r : Addr), rs[j]? = some r → PPair K (fun i => bs.getD i ([], 0)) j r H) : Prs K H rs bs := ⟨hl, fun i t x e1 e2 => by
  have this : ∃ m, H t = some (.tup [.ref m, N_ (bs.getD i ([], 0)).2]) ∧ SqT K H m ((bs.getD i ([], 0)).1.map N_) := h i t e1
  rw [List.getD_eq_getElem?_getD, e2] at this
  exact this⟩
theorem tps_of {K : PySem.W.Frag} {H : Hp} {rs : List Addr} {bs : List (List Nat)} (hl : rs.length = bs.length) (h : ∀ (j : Nat) (r : Addr), rs[j]? = some r → PRow K (fun i => bs.getD i []) j r H) : Tps K H rs bs := ⟨hl, fun i t x e1 e2 => by
  have this : SqT K H t ((bs.getD i []).map N_) := h i t e1
  rw [List.getD_eq_getElem?_getD, e2] at this
  exact this⟩
section
variable {K : PySem.W.Frag} {σ : L2.St} {H H' : Hp} {t : TT} {te ta tb tc tl : TE} {P : Nat → Addr → Hp → Prop}
/-- over pairs -/
theorem lr_lcP {a : Addr} {ts : List Addr} {bs : List (List Nat × Nat)} {i1 i2 : Nat} {vs : List Nat} (kp : Kp P) (h : Ev tl σ H (.ref a)) (hx : SqL K H a (ts.map V.ref)) (hb : Prs K H ts bs) (hz : ts.length ≤ 40000) (hw : ∀ x y, wipe (((wipe σ vs).set i1 (some x)).set i2 (some y)) vs = wipe σ vs)
    (he : ∀ (i : Nat) (b : List Nat × Nat) (m : Addr) H1, Ex H H1 → bs[i]? = some b → SqT K H1 m (b.1.map N_) → EvR te (((wipe σ vs).set i1 (some (.ref m))).set i2 (some (N_ b.2))) H1 (P i)) : EvLR (tLc (iList K tl) (gTup K 2 (gCons (gName i1) (gCons (gName i2) gNil))) tYes te vs) σ H ts.length P := fun H0 e Q q => h H0 e _ fun H1 e1 => ⟨a, rfl, ⟨ts.map V.ref, ex_l (e.trans e1) hx⟩, fun Dl hD =>
  lc_list (xs := ts.map V.ref) (Cwr H1 P Dl) ⟨hD, Ex.new hD, [], rfl, upd_same, fun j r e => by simp at e⟩ (fun i H' _ p => ex_l ((e.trans e1).trans p.2.1) hx) (fun i x H' hi p => by
    rw [List.getElem?_map] at hi
    obtain ⟨t, ht, rfl⟩ := Option.map_eq_some_iff.mp hi
    have hil : i < ts.length := (List.getElem?_eq_some_iff.mp ht).1
    have hjl : i < bs.length := by rw [← hb.1]; exact hil
    have hxi : bs[i]? = some bs[i] := List.getElem?_eq_getElem hjl
    generalize bs[i] = b at hxi
    obtain ⟨m, g1, g2⟩ := hb.2 i t b ht hxi
    have e0 := (e.trans e1).trans p.2.1
    exact ⟨t, [.ref m, N_ b.2], rfl, st_of (e0 _ _ g1), rfl, .ref m, [N_ b.2], rfl, N_ b.2, [], rfl, rfl, hw _ _, cwr_turn kp p (by omega) (he i b m H1 (e.trans e1) hxi (ex_t (e.trans e1) g2))⟩)
    (fun H' p => by
      obtain ⟨p1, p2, rs, p3, p4, p5⟩ := p
      rw [List.length_map] at p3
      exact q Dl rs H' (fresh_back e1 p1) (e1.trans p2) p4 p3 p5)⟩
/-- t + (x,) -/
theorem er_snoc {m : Addr} {ms : List Nat} {n : Nat} {P : Addr → Hp → Prop} (h1 : Ev ta σ H (.ref m)) (hm : SqT K H m (ms.map N_)) (hl : ms.length ≤ 300) (h2 : Ev tb σ H (N_ n)) (hP : ∀ r H1, SqT K H1 r ((ms ++ [n]).map N_) → P r H1) : EvR (tOp (rCatA K) ta (tTup (tCons tb tNil))) σ H P := fun H1 e Q q =>
  h1 H1 e _ fun H2 e2 => h2 H2 (e.trans e2) _ fun H3 e3 => ⟨by show 1 ≤ sizeLine; decide, fun t1 n1 => catA_go (K := K) (xs := ms.map N_) (ys := [N_ n]) (ex_t ((e.trans e2).trans (e3.trans (Ex.new n1))) hm) (st_of upd_same) (by rw [List.length_map]; show _ + 1 ≤ _; omega) fun a H4 e4 sa => q a H4 ((e2.trans e3).trans ((Ex.new n1).trans e4)) (hP a H4 (by rw [List.map_append]; exact sa))⟩
/-- (t + (x,), z) -/
theorem er_pair {m : Addr} {ms : List Nat} {n z : Nat} {P : Addr → Hp → Prop} (h1 : Ev ta σ H (.ref m)) (hm : SqT K H m (ms.map N_)) (hl : ms.length ≤ 300) (h2 : Ev tb σ H (N_ n)) (h3 : Ev tc σ H (N_ z)) (hP : ∀ r H1, (∃ m, H1 r = some (.tup [.ref m, N_ z]) ∧ SqT K H1 m ((ms ++ [n]).map N_)) → P r H1) : EvR (tTup (tCons (tOp (rCatA K) ta (tTup (tCons tb tNil))) (tCons tc tNil))) σ H P := fun H1 e Q q =>
  h1 H1 e _ fun H2 e2 => h2 H2 (e.trans e2) _ fun H3 e3 => ⟨by show 1 ≤ sizeLine; decide, fun t1 n1 => catA_go (K := K) (xs := ms.map N_) (ys := [N_ n]) (ex_t ((e.trans e2).trans (e3.trans (Ex.new n1))) hm) (st_of upd_same) (by rw [List.length_map]; show _ + 1 ≤ _; omega) fun a H4 e4 sa => h3 H4 (((e.trans e2).trans (e3.trans (Ex.new n1))).trans e4) _ fun H5 e5 => ⟨by show 2 ≤ sizeLine; decide, fun t2 n2 => q t2 _ ((((e2.trans e3).trans (Ex.new n1)).trans (e4.trans e5)).trans (Ex.new n2)) (hP t2 _ ⟨a, upd_same, ex_t (e5.trans (Ex.new n2)) (by rw [List.map_append]; exact sa)⟩)⟩⟩
/-- sorted of new rows -/
theorem er_revT {m : Addr} {ms : List Nat} {P : Addr → Hp → Prop} (h1 : Ev ta σ H (.ref m)) (hm : SqT K H m (ms.map N_)) (hP : ∀ r H1, SqT K H1 r (ms.reverse.map N_) → P r H1) : EvR (tRevT K ta) σ H P := fun H1 e Q q => (eu_is (eu_revT (K := K) h1 hm) (List.map_reverse).symm) H1 e _ fun p H2 np e2 h2 => q p H2 e2 (hP p H2 (st_of h2))
end
/-- the order of rows of numbers -/
def lexN (x y : List Nat) : Bool := lexI (x.map Int.ofNat) (y.map Int.ofNat)
def RetSorted (K : PySem.W.Frag) (xss : List (List Nat)) (H : Hp) (Q : VK) : Prop := ∀ (p : Addr) (rs : List Addr) (yss : List (List Nat)) (H' : Hp), H p = none → Ex H H' → yss.Perm xss → yss.Pairwise (fun x y => lexN y x = false) → H' p = some (.lst (rs.map V.ref)) → Tps K H' rs yss → Q (.ref p) H'
theorem perm_nat {xss : List (List Nat)} {yss : List (List Int)} (h : yss.Perm (xss.map (·.map Int.ofNat))) : ∃ zss : List (List Nat), yss = zss.map (·.map Int.ofNat) ∧ zss.Perm xss := by
  have hback : ∀ xs : List Nat, (xs.map Int.ofNat).map Int.toNat = xs := fun xs => by
    rw [List.map_map]
    exact (List.map_congr_left fun x _ => rfl).trans (List.map_id xs)
  refine ⟨yss.map (·.map Int.toNat), ?_, ?_⟩
  · rw [List.map_map]
    refine ((List.map_congr_left fun y hy => ?_).trans (List.map_id yss)).symm
    have := h.mem_iff.mp hy
    obtain ⟨x, _, rfl⟩ := List.mem_map.mp this
    show ((x.map Int.ofNat).map Int.toNat).map Int.ofNat = _
    rw [hback]
    rfl
  · have := h.map (·.map Int.toNat)
    rw [List.map_map] at this
    refine this.trans (List.Perm.of_eq ?_)
    exact (List.map_congr_left fun x _ => hback x).trans (List.map_id xss)
section
variable {K : PySem.W.Frag} {σ : L2.St} {H : Hp} {te : TE}
theorem sorted_go {n m : Nat} {xss : List (List Nat)} (h : EvLR te σ H m (PRow K (fun i => xss.getD i []))) (hm : m = xss.length) (hn : ∀ xs ∈ xss, xs.length = n + 1) {H0 : Hp} (e0 : Ex H H0) {Q : VK} (q : RetSorted K xss H0 Q) : tCB (rSortedTn K) (tCons te tNil) σ H0 Q := h H0 e0 _ fun p rs H1 np e1 h1 hl hP => by
  have ht := tps_of (K := K) (by rw [hl, hm]) hP
  refine ⟨p, rs, xss.map (·.map Int.ofNat), n, rfl, sq_of h1, ⟨by rw [List.length_map]; exact ht.1, fun i r xs a b => ?_⟩, fun xs hx => ?_, fun ss yss p2 hperm hpw htp np2 => ?_⟩
  · rw [List.getElem?_map] at b
    obtain ⟨x, hx, rfl⟩ := Option.map_eq_some_iff.mp b
    have := ht.2 i r x a hx
    rw [List.map_map]
    exact this
  · obtain ⟨x, hx2, rfl⟩ := List.mem_map.mp hx
    rw [List.length_map]
    exact hn x hx2
  · obtain ⟨zss, rfl, hz⟩ := perm_nat hperm
    refine q p2 ss zss _ (fresh_back e1 np2) (e1.trans (Ex.new np2)) hz (List.pairwise_map.mp hpw) upd_same ⟨by rw [htp.1, List.length_map], fun i r xs a b => ?_⟩
    have := htp.2 i r (xs.map Int.ofNat) a (by rw [List.getElem?_map, b]; rfl)
    rw [List.map_map] at this
    exact ex_t (Ex.new np2) this
end
end Own
/-! own rules: enumerate of a tuple -/
namespace Own
open PySem PySem.Spec PyProof.Rows L2 Evl
open AutoSeq1 (wpAny_loadPart')
theorem en_newT (l : Addr) (items : Array Value) (n : Nat) (dct : Option Addr) (sl : Array (Option Value)) :
    Meets (Builtin.«enumerate.__new__» ⟨[.type "enumerate", .ref l], []⟩) (fun _ R s => s.heap.get? l = some { cls := .type "tuple", dict := dct, data := .seq items n, slots := sl } ∧
      R (.ok (.ret (.ref (s.heap.push { cls := .type "tuple_iterator", data := .fields #[.ref l, .int 0 0] }).objs.size)))
        { s with heap := (s.heap.push { cls := .type "tuple_iterator", data := .fields #[.ref l, .int 0 0] }).push { cls := .type "enumerate", data := .fields #[.none, .bool false, .ref s.heap.objs.size, rawInt 0, .none, .none] } }) :=
  .of_wp fun prog w A R s h => by
    obtain ⟨hp, g, d, tk, os⟩ := s; obtain ⟨hl, h⟩ := h
    have hsub := sub_enumerate
    have hL : Heap.IsTuple (Shared.heap ⟨hp, g, d, tk, os⟩) l items := ⟨_, hl, rfl, n, rfl⟩
    wp_walk using wpAny_loadPart' hl
    refine wpAny_stack_any fun st => wpAny_pure ?_
    split
    · rename_i c _ _ _ _ _
      cases (c == Value.type "enumerate")
      · wp_walk using wpAny_loadPart' hl, wpAny_pyIter_tuple hL
        exact ⟨_, rfl, h⟩
      · wp_walk using wpAny_loadPart' hl, wpAny_pyIter_tuple hL
        exact ⟨_, rfl, h⟩
    · wp_walk using wpAny_loadPart' hl, wpAny_pyIter_tuple hL
      exact ⟨_, rfl, h⟩
section
variable {prog : Program} {w : World} {A : Around} {E : Value → Shared → Prop} {s : Shared}
theorem call_en_tuple {l : Addr} {items : Array Value} {Q : Value → Shared → Prop} (hL : s.heap.IsTuple l items)
    (h : ∀ h', IsEnum h' (s.heap.objs.size + 1) s.heap.objs.size 0 .none → h'.IsTupleIter s.heap.objs.size l 0 → h'.objs.size = s.heap.objs.size + 2 →
      (∀ b o, s.heap.get? b = some o → h'.get? b = some o) → Q (.ref (s.heap.objs.size + 1)) { s with heap := h' }) :
    wpAny (model prog w) A (call (.type "enumerate") [.ref l]) Q E s := by
  obtain ⟨⟨c, dct, dt, sl⟩, hl, hc, n, hd⟩ := hL
  replace hc : c = .type "tuple" := hc
  replace hd : dt = .seq items n := hd
  subst hc hd
  refine callType_new F.called_enumerate (by decide) (F.typeCall_enumerate_1 _) (F.newCall_enumerate_1 _) (fun obj => F.args_object_init_2 obj _) F.entry_enumerate_new
    (en_newT l items n dct sl) ⟨hl, ?_⟩
  have hz : (s.heap.push { cls := .type "tuple_iterator", data := .fields #[.ref l, .int 0 0] }).objs.size = s.heap.objs.size + 1 := Heap.size_push ..
  show _ ∧ _
  rw [hz]
  have he : IsEnum ((s.heap.push { cls := .type "tuple_iterator", data := .fields #[.ref l, .int 0 0] }).push
      { cls := .type "enumerate", data := .fields #[.none, .bool false, .ref s.heap.objs.size, rawInt 0, .none, .none] }) (s.heap.objs.size + 1) s.heap.objs.size 0 .none := by
    have := Heap.get?_push_size (s.heap.push { cls := .type "tuple_iterator", data := .fields #[.ref l, .int 0 0] })
      (o := { cls := .type "enumerate", data := .fields #[.none, .bool false, .ref s.heap.objs.size, rawInt 0, .none, .none] }) rfl
    rw [hz] at this; exact this
  refine ⟨⟨_, he, rfl⟩, h _ he ⟨_, Heap.get?_push_of_some _ (Heap.get?_push_size _ rfl), rfl, rfl⟩ (by rw [Heap.size_push, hz]) fun b o x => Heap.get?_push_of_some _ (Heap.get?_push_of_some _ x)⟩
theorem ent_item {e it l : Addr} {i : Nat} {items : Array Value} {x old : Value} {Q : Value → Shared → Prop}
    (he : IsEnum s.heap e it i old) (hit : kT.St s.heap it l i) (hl : kT.Sq s.heap l items) (hx : items[i]? = some x) (hne : e ≠ it)
    (hQ : ∀ h', IsEnumOut h' e it ((i : Int) + 1) x s.heap.objs.size → kT.St h' it l (i + 1) →
      h'.get? s.heap.objs.size = some { cls := .type "tuple", data := .seq #[.int i s.toks, x] } → h'.objs.size = s.heap.objs.size + 1 →
      (∀ b o, b ≠ e → b ≠ it → s.heap.get? b = some o → h'.get? b = some o) → Q (.ref s.heap.objs.size) { s with heap := h', toks := s.toks + 1 }) :
    wpAny (model prog w) A (Builtin.«enumerate.__next__» ⟨[.ref e], []⟩) (fun fin s' => ∃ v, fin = .done (.ret v) ∧ Q v s') E s := by
  obtain ⟨hp, g, d, tk, os⟩ := s
  show wpAny _ _ (field (.ref e) 2 >>= _) _ _ _
  refine wpAny_bind (wpAny_field he rfl (x := .ref it) rfl ?_)
  refine wpAny_bind (kT_ok.nxt hit hl hx fun h₁ hit₁ hs₁ => ?_)
  replace hs₁ : Heap.SameBut it hp h₁ := hs₁
  have he₁ : IsEnum h₁ e it i old := (hs₁.2 e hne).trans he
  show wpAny _ _ (field (.ref e) 3 >>= _) _ _ ⟨h₁, g, d, tk, os⟩
  refine wpAny_bind (wpAny_field he₁ rfl (x := rawInt i) rfl ?_)
  show wpAny _ _ (field (.ref e) 4 >>= _) _ _ ⟨h₁, g, d, tk, os⟩
  refine wpAny_bind (wpAny_field he₁ rfl (x := .none) rfl ?_)
  show wpAny _ _ (mkInt i >>= _) _ _ ⟨h₁, g, d, tk, os⟩
  refine wpAny_bind (wpAny_mkInt ?_)
  show wpAny _ _ (setField (.ref e) 3 (rawInt ((i : Int) + 1)) >>= _) _ _ ⟨h₁, g, d, tk + 1, os⟩
  refine wpAny_bind (wpAny_setField_rec he₁ (by simp) fun h₂ he₂ hs₂ => ?_)
  replace hs₂ : Heap.SameBut e h₁ h₂ := hs₂
  replace he₂ : IsEnum h₂ e it ((i : Int) + 1) old := he₂
  show wpAny _ _ (setField (.ref e) 4 .none >>= _) _ _ ⟨h₂, g, d, tk + 1, os⟩
  refine wpAny_bind (wpAny_setField_rec he₂ (by simp) fun h₃ he₃ hs₃ => ?_)
  replace hs₃ : Heap.SameBut e h₂ h₃ := hs₃
  replace he₃ : IsEnum h₃ e it ((i : Int) + 1) old := he₃
  show wpAny _ _ (newTuple [.int i tk, x] >>= _) _ _ ⟨h₃, g, d, tk + 1, os⟩
  refine wpAny_bind (wpAny_newTuple ?_)
  have he₄ : IsEnum (h₃.push { cls := .type "tuple", data := .seq #[.int i tk, x] }) e it ((i : Int) + 1) old := Heap.get?_push_of_some _ he₃
  generalize hh₄ : h₃.push { cls := .type "tuple", data := .seq #[.int i tk, x] } = h₄ at he₄
  have hsz : h₃.objs.size = hp.objs.size := by rw [hs₃.1, hs₂.1, hs₁.1]
  have hel : e < hp.objs.size := Heap.lt_size he
  have ht₄ : h₄.get? hp.objs.size = some { cls := .type "tuple", data := .seq #[.int i tk, x] } := by rw [← hh₄, ← hsz]; exact Heap.get?_push_size _ rfl
  have hz₄ : h₄.objs.size = hp.objs.size + 1 := by rw [← hh₄, Heap.size_push, hsz]
  have hk₄ : ∀ b o, b ≠ e → b ≠ it → hp.get? b = some o → h₄.get? b = some o := fun b o hbe hbi hb => by
    rw [← hh₄]; exact Heap.get?_push_of_some _ (hs₃.extBut b o hbe (hs₂.extBut b o hbe (hs₁.extBut b o hbi hb)))
  have hit₄ : kT.St h₄ it l (i + 1) := by
    rw [← hh₄]
    exact kT_ok.stay (kT_ok.stay (kT_ok.stay hit₁ fun o ho => (hs₂.2 it (Ne.symm hne)).trans ho) fun o ho => (hs₃.2 it (Ne.symm hne)).trans ho) fun o ho => Heap.get?_push_of_some _ ho
  show wpAny _ _ (Builtin.SmallTypes.ownedTupleIsFree (.ref e) >>= _) _ _ ⟨h₄, g, d, tk + 1, os⟩
  rw [hsz]
  clear hh₄ he₃ hs₃ he₂ hs₂ he₁ hs₁ hit₁ hsz h₃ h₂ h₁
  refine wpAny_bind ?_
  · unfold Builtin.SmallTypes.ownedTupleIsFree
    refine wpAny_bind (wpAny_field he₄ rfl (x := .none) rfl (wpAny_pure ?_))
    simp only [if_true]
    refine wpAny_bind (wpAny_rule ?_)
    refine wpAny_bind (wpAny_field he₄ rfl (x := old) rfl ?_)
    refine wpAny_bind (wpAny_setField_rec he₄ (by simp) fun h₅ he₅ hs₅ => ?_)
    replace hs₅ : Heap.SameBut e h₄ h₅ := hs₅
    replace he₅ : IsEnum h₅ e it ((i : Int) + 1) x := he₅
    show wpAny _ _ (Builtin.SmallTypes.ownedTupleHandOut (.ref e) (.ref hp.objs.size) >>= _) _ _ ⟨h₅, g, d, tk + 1, os⟩
    refine wpAny_bind ?_
    · unfold Builtin.SmallTypes.ownedTupleHandOut
      refine wpAny_bind (wpAny_setField_rec he₅ (by simp) fun h₆ he₆ hs₆ => ?_)
      replace hs₆ : Heap.SameBut e h₅ h₆ := hs₆
      replace he₆ : IsEnumOut h₆ e it ((i : Int) + 1) x hp.objs.size := he₆
      refine wpAny_setField_rec he₆ (by simp) fun h₇ he₇ hs₇ => ?_
      replace hs₇ : Heap.SameBut e h₆ h₇ := hs₇
      replace he₇ : IsEnumOut h₇ e it ((i : Int) + 1) x hp.objs.size := he₇
      refine wpAny_bind (wpAny_letGo (wpAny_pure ⟨_, rfl, hQ h₇ he₇ ?_ ?_ ?_ ?_⟩))
      · exact kT_ok.stay (kT_ok.stay (kT_ok.stay hit₄ fun o ho => (hs₅.2 it (Ne.symm hne)).trans ho) fun o ho => (hs₆.2 it (Ne.symm hne)).trans ho) fun o ho => (hs₇.2 it (Ne.symm hne)).trans ho
      · exact hs₇.extBut _ _ (Nat.ne_of_gt hel) (hs₆.extBut _ _ (Nat.ne_of_gt hel) (hs₅.extBut _ _ (Nat.ne_of_gt hel) ht₄))
      · rw [hs₇.1, hs₆.1, hs₅.1, hz₄]
      · exact fun b o hbe hbi hb => hs₇.extBut b o hbe (hs₆.extBut b o hbe (hs₅.extBut b o hbe (hk₄ b o hbe hbi hb)))
theorem ent_nextI {e it l : Addr} {i : Nat} {items : Array Value} {x old : Value} {Q : Option Value → Shared → Prop}
    (he : IsEnum s.heap e it i old) (hit : kT.St s.heap it l i) (hl : kT.Sq s.heap l items) (hx : items[i]? = some x) (hne : e ≠ it)
    (hQ : ∀ h', IsEnumOut h' e it ((i : Int) + 1) x s.heap.objs.size → kT.St h' it l (i + 1) →
      h'.get? s.heap.objs.size = some { cls := .type "tuple", data := .seq #[.int i s.toks, x] } → h'.objs.size = s.heap.objs.size + 1 →
      (∀ b o, b ≠ e → b ≠ it → s.heap.get? b = some o → h'.get? b = some o) → Q (some (.ref s.heap.objs.size)) { s with heap := h', toks := s.toks + 1 }) :
    wpAny (model prog w) A (pyNext (.ref e)) Q E s := by
  have hT : s.TypeIs (.ref e) "enumerate" := ⟨_, he, rfl⟩
  unfold pyNext
  exact wpAny_bind (wpAny_attempt (wpAny_callSpecial?_slot (name := Str.ofString "__next__") hT F.slot_enumerate_next
    (wpAny_call_entry F.slot_enumerate_next hT F.entry_enumerate_next
      (ent_item he hit hl hx hne fun h' a b c d k => wpAny_pure (hQ h' a b c d k)) (F.args_enumerate_next_1 _))))
theorem ent_nextE {e it l : Addr} {i : Nat} {items : Array Value} {old : Value} {Q : Option Value → Shared → Prop} (hh : A.handled = none)
    (he : IsEnum s.heap e it i old) (hit : kT.St s.heap it l i) (hl : kT.Sq s.heap l items) (hx : items[i]? = none)
    (hQ : ∀ h', Heap.ExtBut it s.heap h' → Q none { s with heap := h' }) : wpAny (model prog w) A (pyNext (.ref e)) Q E s := by
  have hT : s.TypeIs (.ref e) "enumerate" := ⟨_, he, rfl⟩
  unfold pyNext
  refine wpAny_bind (wpAny_attempt (wpAny_callSpecial?_slot (name := Str.ofString "__next__") hT F.slot_enumerate_next
    (wpAny_call_entry F.slot_enumerate_next hT F.entry_enumerate_next ?_ (F.args_enumerate_next_1 _))))
  show wpAny _ _ (field (.ref e) 2 >>= _) _ _ _
  refine wpAny_bind (wpAny_field he rfl (x := .ref it) rfl ?_)
  refine wpAny_bind (kT_ok.out hh hit hl hx fun h' x he' hx' => ?_)
  obtain ⟨o, ho, hc⟩ := hx'
  refine wpAny_bind (wpAny_isInstance (T := "StopIteration") (b := true) ⟨o, ho, hc⟩ isSubtype_stop ?_)
  exact wpAny_pure (hQ _ he')
end
/-- the tuple at a, each item in a new pair -/
def Itet (K : PySem.W.Frag) (a : Addr) : It :=
  ⟨fun i H => ∃ (xs : List V) (x : V), SqT K H a xs ∧ xs[i]? = some x, fun i H v H' => ∃ T x, v = .ref T ∧ H T = none ∧ H' = upd H T (.tup [.int (i : Nat), x]) ∧ ∀ xs, SqT K H a xs → xs[i]? = some x, fun i H => ∃ xs : List V, SqT K H a xs ∧ xs.length ≤ i⟩
theorem turn_ent {P : Program} {w : World} {K : PySem.W.Frag} {elts : List Expr} {kk : Nat} {tpos : Pos} (a e it : Addr) :
    Turn P w K (.Tuple elts kk tpos) (Itet K a) [e, it] e (fun i h => (∃ old, IsEnum h e it ((i : Nat) : Int) old) ∧ kT.St h it a i ∧ e ≠ it) where
  mem := by simp
  obj := fun i h st b hb => by
    obtain ⟨⟨old, he⟩, hit, _⟩ := st
    have e' : b = e ∨ b = it := by simpa using hb
    rcases e' with z | z
    · rw [z]; exact ⟨_, he, fun v q => nomatch q⟩
    · rw [z]; exact kT_ok.here hit
  keep := fun i h h' st k => let ⟨⟨old, he⟩, hi, hne⟩ := st; ⟨⟨old, k e (by simp) _ he⟩, kT_ok.stay hi fun o q => k it (by simp) o q, hne⟩
  item := by
    intro X hP hw hK hc i pins s σ H E I hf st hg
    subst hP hw hK
    obtain ⟨⟨old, he⟩, hit, hne⟩ := st
    obtain ⟨xs, x, hq, hx⟩ := hg
    obtain ⟨its, rv, p, hz⟩ := I.tuple hq
    obtain ⟨u, hu, ru⟩ := rv.get hx
    have hel : e < s.heap.objs.size := Heap.lt_size he
    have hil : it < s.heap.objs.size := by obtain ⟨_, q, _⟩ := kT_ok.here hit; exact Heap.lt_size q
    refine ent_nextI he hit p (x := u) (by simpa using hu) hne fun h' ho hit' hT hsz hk => ?_
    refine ⟨_, rfl, wpAny_letOwnedTupleGo_enum (s := { s with heap := h', toks := s.toks + 1 }) ho fun h'' he' sb => ?_⟩
    have hT2 : h''.get? s.heap.objs.size = some { cls := .type "tuple", data := .seq #[.int i s.toks, u] } := (sb.2 _ (Nat.ne_of_gt hel)).trans hT
    have new : ObjOk X.prog X.w (upd H s.heap.objs.size (.tup [.int (i : Nat), x])) h'' s.heap.objs.size (.tup [.int (i : Nat), x]) :=
      ⟨by show 2 ≤ sizeLine; decide, [.int i s.toks, u], .cons ⟨_, rfl⟩ (.cons ru .nil), ⟨_, hT2, rfl, _, rfl⟩⟩
    have I1 : Inv X pins σ (upd H s.heap.objs.size (.tup [.int (i : Nat), x])) { s with heap := h'', toks := s.toks + 1 } :=
      I.turnedNew (ch := [e, it]) (fun b ob hb q => (sb.2 b (fun z => hb (by simp [z]))).trans (hk b ob (fun z => hb (by simp [z])) (fun z => hb (by simp [z])) q)) hf (Nat.le_refl _) new
    have inj : ∀ ys, SqT X.K H a ys → ys[i]? = some x := fun ys hy => by
      obtain ⟨its2, rv2, p2, _⟩ := I.tuple hy
      have := I.tuple_inj hy hq
      rw [this]
      exact hx
    refine ⟨.ref s.heap.objs.size, _, I1, rfl, ⟨_, x, rfl, I.hok.fresh (Nat.le_refl _), rfl, inj⟩, ⟨⟨u, ?_⟩, kT_ok.stay hit' fun o q => (sb.2 it (Ne.symm hne)).trans q, hne⟩, fun b hb => ?_⟩
    · have e1 : ((i + 1 : Nat) : Int) = (i : Int) + 1 := by omega
      rw [e1]; exact he'
    · have hb' : b < s.heap.objs.size := by
        have e' : b = e ∨ b = it := by simpa using hb
        rcases e' with z | z
        · rw [z]; exact hel
        · rw [z]; exact hil
      rw [upd_ne (Nat.ne_of_lt hb')]
      exact (hf b hb).1
  done := by
    intro X hP hw hK hc i pins s σ H E I hf st hg
    subst hP hw hK
    obtain ⟨⟨old, he⟩, hit, hne⟩ := st
    obtain ⟨xs, hq, hx⟩ := hg
    obtain ⟨its, rv, p, hz⟩ := I.tuple hq
    obtain ⟨f0, f1, f2, f3, f4, f5⟩ := hf it (by simp)
    have hl := rv.length
    exact ent_nextE (I.ok.hd hc) he hit p (by simp; omega) fun h' eb => ⟨rfl, I.turned (t' := s.toks) (fun b o hb q => eb b o hb q) f0 f1 f3 f4 f5⟩
  self := fun A i s Q E st h => let ⟨⟨_, he⟩, _⟩ := st; wpAny_pyIter_enum he h
def iEnumT (K : PySem.W.Frag) (ta : TA) : TI := fun σ H R => ta σ H fun vs H1 => ∃ a xs, vs = [.ref a] ∧ SqT K H1 a xs ∧ R (Itet K a) H1
theorem pi_enumT {X : Cx} {K : PySem.W.Frag} (hK : X.K = K) {e : Expr} {ta : TA} {p pos tpos : Pos} {elts : List Expr} {kk : Nat} (hg : Gl X "enumerate") (hm : X.mg "enumerate" = none) (ha : PA X [e] ta) (hs : starEach [e] X.env = [(false, eval e X.env)] := by rfl) :
    PI X (.Tuple elts kk tpos) (.Call (.Name "enumerate" p) [e] [] pos) (iEnumT K ta) := by
  subst hK
  refine ⟨fun pins s σ H R I h => ?_⟩
  refine Call_ (ld_blt I hg hm boot_enumerate (PyProof.Rows.callWith_type1 (thn (ha.run pos pins s σ H _ I h) fun us s1 ⟨vs, H1, I1, r1, q1⟩ => ?_) hs rfl))
  obtain ⟨a, xs, ex, hq, q⟩ := q1
  subst ex
  cases r1 with
  | cons r rr =>
    cases rr
    cases r
    obtain ⟨its, rv, p', hz⟩ := I1.tuple hq
    refine call_en_tuple p' fun h' he hit hsz hk => wpAny_pyIter_enum he ?_
    have I2 : Inv X pins σ H1 { s1 with heap := h' } := I1.kept (t' := s1.toks) hk
    refine ⟨s1.heap.objs.size + 1, [s1.heap.objs.size + 1, s1.heap.objs.size], _, _, H1, rfl, I2, turn_ent a (s1.heap.objs.size + 1) s1.heap.objs.size, ⟨⟨.none, he⟩, hit, Nat.succ_ne_self _⟩, fun b hb => ?_, q⟩
    have e' : b = s1.heap.objs.size + 1 ∨ b = s1.heap.objs.size := by simpa using hb
    have hle : s1.heap.objs.size ≤ b := by
      rcases e' with z | z
      · rw [z]; exact Nat.le_add_right _ _
      · rw [z]; exact Nat.le_refl _
    exact I1.fpOk hle (I1.hok.fresh hle)
theorem walk_ent {K : PySem.W.Frag} {a : Addr} {xs : List V} : Walk (Itet K a) xs.length (fun H => SqT K H a xs) (YPair (fun i => some (.int (i : Nat))) (fun i => xs[i]?)) := by
  refine ⟨fun i _ hi q => ⟨xs, xs[i], q, by simp [hi]⟩, fun _ q => ⟨xs, q, Nat.le_refl _⟩, fun i H v H' _ q y => ?_⟩
  obtain ⟨T, x, h1, h2, h3, h4⟩ := y
  exact ⟨T, .int (i : Nat), x, h1, h2, h3, rfl, h4 xs q⟩
/-- [.. for i, x in enumerate(tuple)] -/
theorem el_lcET {K : PySem.W.Frag} {σ : L2.St} {H : Hp} {t : TT} {te : TE} {a : Addr} {xs : List V} {ta : TA} {i1 i2 : Nat} {vs : List Nat} (f : Nat → Bool) (v : Nat → V) (h : EvA ta σ H [.ref a]) (hx : SqT K H a xs) (hz : xs.length ≤ 40000) (hw : ∀ x y, wipe (((wipe σ vs).set i1 (some x)).set i2 (some y)) vs = wipe σ vs)
    (ht : ∀ (i : Nat) (x : V) H1, Ex H H1 → xs[i]? = some x → EvT t (((wipe σ vs).set i1 (some (.int (i : Nat)))).set i2 (some x)) H1 (f i)) (he : ∀ (i : Nat) (x : V) H1, Ex H H1 → xs[i]? = some x → f i = true → Ev te (((wipe σ vs).set i1 (some (.int (i : Nat)))).set i2 (some x)) H1 (v i)) :
    EvL (tLc (iEnumT K ta) (gTup K 2 (gCons (gName i1) (gCons (gName i2) gNil))) t te vs) σ H (given xs.length f v) := fun H0 e Q q => h H0 e _ fun H1 e1 => ⟨a, xs, rfl, ex_t (e.trans e1) hx, fun Dl hD =>
  lc_it walk_ent (Cw H1 f v Dl) ⟨hD, Ex.new hD, upd_same⟩ (fun i H' _ p => ex_t ((e.trans e1).trans p.2.1) hx) (fun i x H' H'' hi p y => by
    obtain ⟨T, u, u', rfl, nT, rfl, g1, g2⟩ := y
    cases g1
    obtain ⟨p1, p2, p3⟩ := p
    have p' : Cw H1 f v Dl i (upd H' T (.tup [.int (i : Nat), u'])) := ⟨p1, p2.trans (Ex.new nT), (Ex.new nT) _ _ p3⟩
    exact ⟨T, [.int (i : Nat), u'], rfl, st_of upd_same, rfl, .int (i : Nat), [u'], rfl, u', [], rfl, rfl, hw _ _, cw_turn p' (by omega) (ht i u' H1 (e.trans e1) g2) (fun hf => he i u' H1 (e.trans e1) g2 hf)⟩)
    (fun H' p => q Dl H' (fresh_back e1 p.1) (e1.trans p.2.1) p.2.2)⟩
end Own
/-! sorted(d) of a dict with integers for keys, of any number -/
namespace Own
open PySem PySem.Spec PyProof.Rows L2 Evl
section
variable {X : Cx}
def rSortedDn : List V → Hp → VK → Prop := fun xs H Q => ∃ (a : Addr) (kvs : List (Key × V)) (ks : List Int), xs = [.ref a] ∧ Rd H a (.dK kvs) ∧ kvs.map (·.1) = ks.map Sum.inl ∧ ks.length ≤ 100000 ∧
    ∀ (ys : List Int) (p : Addr), ys.Perm ks → ys.Pairwise (· ≤ ·) → H p = none → Q (.ref p) (upd H p (.lst (ys.map V.int)))
theorem call_sortedDn (hcalm : X.calm = true) : CallR X (.builtin "sorted") rSortedDn := by
  intro pins s σ H xs us Q I r q
  obtain ⟨a, kvs, ks, ex, hd, hks, h64, q⟩ := q
  subst ex
  obtain ⟨u, eu, rx⟩ := vals1 r
  subst eu
  cases rx
  obtain ⟨z, lo, vs, rel, dd⟩ := dk_rd I.hok hd
  obtain ⟨ep, hat⟩ := dd.dictAt
  have hkeys : vs.map (·.1) = ks.map Sum.inl := rel.keys.symm.trans hks
  have hl : vs.length = ks.length := by
    have e := congrArg List.length hkeys
    rw [List.length_map, List.length_map] at e
    exact e
  have h16 : vs.length ≤ sizeLine := by rw [hl]; exact sz_of h64
  refine Calls.call_function_entry PyProof.Rows.kind_sorted PyProof.Rows.plain_sorted PyProof.Rows.entry_sorted (PyProof.Rows.args_sorted1 _) ?_
  unfold Builtin.«sorted»
  refine wpAny_bind (m := checkCount "sorted" 1 1 _) (wpAny_pure ?_)
  refine wpAny_bind (PySem.W.kdu_collect (A := X.A.in1) (PySem.W.kdl_dict (knd := mixKind X.prog X.w) (kvs := vs) (ep := ep) lo) (I.ok.hd hcalm) hat h16 fun h' tk acc hk hacc => ?_)
  have hal : acc.toList.length = ks.length := by rw [Array.length_toList, hacc.1, hl]
  have hS : IntsAre acc.toList ks := ints_each hal fun j v e => by
    obtain ⟨k, x, e1, e2⟩ := hacc.2 j v (by rw [← Array.getElem?_toList]; exact e)
    have e3 : (vs.map (·.1))[j]? = some k := by rw [List.getElem?_map, e1]; rfl
    rw [hkeys, List.getElem?_map] at e3
    cases e4 : ks[j]? with
    | none => rw [e4] at e3; cases e3
    | some y =>
      rw [e4] at e3
      have e5 : Sum.inl y = k := Option.some.inj e3
      subst e5
      rcases keyIs_shape (show keyIs (Sum.inl y) v = true from e2) with ⟨i, t, ek, ev⟩ | ⟨z, t, ek, ev⟩
      · cases ek
        exact ⟨y, t, rfl, ev⟩
      · cases ek
  have I1 : Inv X pins σ H { s with heap := h', toks := tk } := I.kept hk
  refine wpAny_bind (wpAny_newList ?_ (by rw [hal]; exact sz_of h64))
  have hoL : (h'.push (seqObj "list" acc.toList.toArray 0)).get? h'.objs.size = some (seqObj "list" acc.toList.toArray 0) := Heap.get?_push_size _ rfl
  show wpAny _ _ _ _ _ { s with heap := h'.push (seqObj "list" acc.toList.toArray 0), toks := tk }
  refine wpAny_bind (wpAny_holding (wpAny_call_entry PyProof.Rows.slot_list_sort ⟨_, hoL, rfl⟩ PyProof.Rows.entry_list_sort
    (SrtO.list_sort_ord (s := { s with heap := h'.push (seqObj "list" acc.toList.toArray 0), toks := tk }) SrtO.swo_int hoL (by rw [hal]; exact sz_of h64) (fun h2 => SrtO.ints_sortable hS h2) fun out h1 h2 => ⟨_, rfl, ?_⟩) (PyProof.Rows.args_list_sort _)))
  obtain ⟨k1, k2, k3⟩ := SrtO.ints_out hS h1 h2
  obtain ⟨e', he'⟩ := PyProof.Rows.sortedHeap_at (vs := acc.toList) (out := out.toArray) hoL
  have hlen : ((out.map SrtO.iv).map V.int).length ≤ sizeLine := by
    rw [List.length_map, k2.length_eq]
    exact sz_of h64
  refine wpAny_pure ⟨_, rfl, .ref h'.objs.size, upd H h'.objs.size (.lst ((out.map SrtO.iv).map V.int)), I1.laid (t' := tk) (fun b u e => ?_) (Nat.le_refl _)
    (show ObjOk X.prog X.w _ _ _ (.lst ((out.map SrtO.iv).map V.int)) from ⟨hlen, out, e', vals_of_ints k1, he'⟩), rfl, q _ _ k2 k3 (I1.hok.fresh (Nat.le_refl _))⟩
  have hb : b < h'.objs.size := Heap.lt_size e
  rw [PyProof.Rows.sortedHeap_old (Nat.ne_of_lt hb) (by rw [size_push']; exact Nat.lt_succ_of_lt hb)]
  exact Heap.get?_push_of_some _ e
end
end Own
/-! own rules: a comprehension over zip of two tuples -/
namespace Own
open PySem PySem.Spec PyProof.Rows L2 Evl
section
variable {K : PySem.W.Frag} {σ : L2.St} {H H' : Hp} {ta tb te : TE} {t : TT}
theorem walk_zt {a b : Addr} {xs ys : List V} {n : Nat} (hn : n = min xs.length ys.length) : Walk (RZ.ItzT K a b) n (fun H => SqT K H a xs ∧ SqT K H b ys) (YPair (fun i => xs[i]?) (fun i => ys[i]?)) := by
  subst hn
  refine ⟨fun i _ hi q => ?_, fun _ q => ⟨xs, ys, q.1, q.2, by omega⟩, fun i H v H' _ q ⟨T, x, y, h1, h2, h3, h4, h5⟩ => ⟨T, x, y, h1, h2, h3, h4 xs q.1, h5 ys q.2⟩⟩
  have h1 : i < xs.length := by omega
  have h2 : i < ys.length := by omega
  exact ⟨xs, ys, xs[i], ys[i], q.1, q.2, by simp [h1], by simp [h2]⟩
/-- a comprehension over zip(tuple, tuple), its two names in the slots i1, i2 -/
theorem el_lcZT {a b : Addr} {xs ys : List V} {tl : TA} {i1 i2 : Nat} {vs : List Nat} (f : Nat → Bool) (v : Nat → V) (h : ∀ H1, Ex H H1 → ∀ Q : List V → Hp → Prop, (∀ b H2, Ex H1 H2 → SqT K H2 b ys → Q [.ref a, .ref b] H2) → tl σ H1 Q) (hx : SqT K H a xs) (hz : xs.length ≤ 40000) (hw : ∀ x y, wipe (((wipe σ vs).set i1 (some x)).set i2 (some y)) vs = wipe σ vs)
    (ht : ∀ (i : Nat) (x y : V) H1, Ex H H1 → xs[i]? = some x → ys[i]? = some y → EvT t (((wipe σ vs).set i1 (some x)).set i2 (some y)) H1 (f i)) (he : ∀ (i : Nat) (x y : V) H1, Ex H H1 → xs[i]? = some x → ys[i]? = some y → f i = true → Ev te (((wipe σ vs).set i1 (some x)).set i2 (some y)) H1 (v i)) :
    EvL (tLc (RZ.iZipA K tl) (gTup K 2 (gCons (gName i1) (gCons (gName i2) gNil))) t te vs) σ H (given (min xs.length ys.length) f v) := fun H0 e Q q => h H0 e _ fun b H1 e1 hy => ⟨a, b, xs, ys, rfl, .inr ⟨ex_t (e.trans e1) hx, hy, fun Dl hD =>
  lc_it (walk_zt (xs := xs) (ys := ys) rfl) (Cw H1 f v Dl) ⟨hD, Ex.new hD, upd_same⟩ (fun i H' _ p => ⟨ex_t ((e.trans e1).trans p.2.1) hx, ex_t p.2.1 hy⟩) (fun i x H' H'' hi p y => by
    obtain ⟨T, u, u', rfl, nT, rfl, g1, g2⟩ := y
    obtain ⟨p1, p2, p3⟩ := p
    have p' : Cw H1 f v Dl i (upd H' T (.tup [u, u'])) := ⟨p1, p2.trans (Ex.new nT), (Ex.new nT) _ _ p3⟩
    exact ⟨T, [u, u'], rfl, st_of upd_same, rfl, u, [u'], rfl, u', [], rfl, rfl, hw _ _, cw_turn p' (by omega) (ht i u u' H1 (e.trans e1) g1 g2) (fun hf => he i u u' H1 (e.trans e1) g1 g2 hf)⟩)
    (fun H' p => q Dl H' (fresh_back e1 p.1) (e1.trans p.2.1) p.2.2)⟩⟩
end
end Own
/-! polynomials over a small field as polynomials over the integers: what a great number tells of a sum of products; core Lean alone -/
namespace Own
/-- a field of q elements, whose digits in base p stand for 1, u, u ** 2 -/
structure FA (q p u : Nat) (ad mu : Nat → Nat → Nat) : Prop where
  p0 : 0 < p
  pq : p ≤ q
  uq : u < q
  adL : ∀ a b, a < q → b < q → ad a b < q
  muL : ∀ a b, a < q → b < q → mu a b < q
  adC : ∀ a b, a < q → b < q → ad a b = ad b a
  adA : ∀ a b c, a < q → b < q → c < q → ad (ad a b) c = ad a (ad b c)
  ad0 : ∀ a, a < q → ad a 0 = a
  muC : ∀ a b, a < q → b < q → mu a b = mu b a
  muA : ∀ a b c, a < q → b < q → c < q → mu (mu a b) c = mu a (mu b c)
  mu0 : ∀ a, a < q → mu a 0 = 0
  dis : ∀ a b c, a < q → b < q → c < q → mu a (ad b c) = ad (mu a b) (mu a c)
  adP : ∀ a b, a < p → b < p → ad a b = (a + b) % p
  muP : ∀ a b, a < p → b < p → mu a b = a * b % p
abbrev UP := List Nat
abbrev TP := List UP
def uAdd : UP → UP → UP
  | [], y => y
  | x, [] => x
  | a :: x, b :: y => (a + b) :: uAdd x y
def uMul : UP → UP → UP
  | [], _ => []
  | a :: x, y => uAdd (y.map fun b => a * b) (0 :: uMul x y)
def evU (U : Nat) : UP → Nat
  | [] => 0
  | c :: cs => c + U * evU U cs
theorem ev_uadd (U : Nat) : ∀ x y, evU U (uAdd x y) = evU U x + evU U y
  | [], y => by rw [uAdd]; exact (Nat.zero_add _).symm
  | a :: x, [] => by rw [uAdd]; exact (Nat.add_zero _).symm; simp
  | a :: x, b :: y => by
    rw [uAdd]
    show (a + b) + U * evU U (uAdd x y) = (a + U * evU U x) + (b + U * evU U y)
    rw [ev_uadd U x y, Nat.mul_add]
    omega
theorem ev_uscale (U n : Nat) : ∀ y, evU U (y.map fun b => n * b) = n * evU U y
  | [] => rfl
  | b :: y => by
    show n * b + U * evU U (y.map fun b => n * b) = n * (b + U * evU U y)
    rw [ev_uscale U n y, Nat.mul_add, Nat.mul_left_comm]
theorem ev_umul (U : Nat) : ∀ x y, evU U (uMul x y) = evU U x * evU U y
  | [], y => (Nat.zero_mul _).symm
  | a :: x, y => by
    rw [uMul, ev_uadd, ev_uscale]
    show a * evU U y + (0 + U * evU U (uMul x y)) = (a + U * evU U x) * evU U y
    rw [ev_umul U x y, Nat.add_mul, Nat.zero_add, Nat.mul_assoc]
def tAdd : TP → TP → TP
  | [], y => y
  | x, [] => x
  | a :: x, b :: y => uAdd a b :: tAdd x y
def tMul : TP → TP → TP
  | [], _ => []
  | a :: x, y => tAdd (y.map fun b => uMul a b) ([] :: tMul x y)
def evT (U X : Nat) : TP → Nat
  | [] => 0
  | c :: cs => evU U c + X * evT U X cs
theorem ev_tadd (U X : Nat) : ∀ x y, evT U X (tAdd x y) = evT U X x + evT U X y
  | [], y => by rw [tAdd]; exact (Nat.zero_add _).symm
  | a :: x, [] => by rw [tAdd]; exact (Nat.add_zero _).symm; simp
  | a :: x, b :: y => by
    rw [tAdd]
    show evU U (uAdd a b) + X * evT U X (tAdd x y) = (evU U a + X * evT U X x) + (evU U b + X * evT U X y)
    rw [ev_uadd, ev_tadd U X x y, Nat.mul_add]
    omega
theorem ev_tscale (U X : Nat) (c : UP) : ∀ y, evT U X (y.map fun b => uMul c b) = evU U c * evT U X y
  | [] => rfl
  | b :: y => by
    show evU U (uMul c b) + X * evT U X (y.map fun b => uMul c b) = evU U c * (evU U b + X * evT U X y)
    rw [ev_umul, ev_tscale U X c y, Nat.mul_add, Nat.mul_left_comm]
theorem ev_tmul (U X : Nat) : ∀ x y, evT U X (tMul x y) = evT U X x * evT U X y
  | [], y => (Nat.zero_mul _).symm
  | a :: x, y => by
    rw [tMul, ev_tadd, ev_tscale]
    show evU U a * evT U X y + (0 + X * evT U X (tMul x y)) = (evU U a + X * evT U X x) * evT U X y
    rw [ev_tmul U X x y, Nat.add_mul, Nat.zero_add, Nat.mul_assoc]
/-- a polynomial in T ** s -/
def tSk (s : Nat) : TP → TP
  | [] => []
  | a :: x => a :: (List.replicate (s - 1) [] ++ tSk s x)
theorem ev_rep (U X : Nat) (y : TP) : ∀ n, evT U X (List.replicate n [] ++ y) = X ^ n * evT U X y
  | 0 => by rw [Nat.pow_zero, Nat.one_mul]; rfl
  | n + 1 => by
    show 0 + X * evT U X (List.replicate n [] ++ y) = _
    rw [ev_rep U X y n, Nat.zero_add, Nat.pow_succ, Nat.mul_comm (X ^ n) X, Nat.mul_assoc]
theorem ev_tsk (U X : Nat) {s : Nat} (hs : 0 < s) : ∀ x, evT U X (tSk s x) = evT U (X ^ s) x
  | [] => rfl
  | a :: x => by
    show evU U a + X * evT U X (List.replicate (s - 1) [] ++ tSk s x) = evU U a + X ^ s * evT U (X ^ s) x
    rw [ev_rep, ev_tsk U X hs x, ← Nat.mul_assoc, ← Nat.pow_succ', show (s - 1).succ = s by omega]
section
variable {q p u : Nat} {ad mu : Nat → Nat → Nat}
def phi (p u : Nat) (ad mu : Nat → Nat → Nat) : UP → Nat
  | [] => 0
  | c :: cs => ad (c % p) (mu u (phi p u ad mu cs))
theorem FA.q0 (F : FA q p u ad mu) : 0 < q := Nat.lt_of_lt_of_le F.p0 F.pq
theorem FA.z0 (F : FA q p u ad mu) (a : Nat) (h : a < q) : ad 0 a = a := by rw [F.adC 0 a F.q0 h, F.ad0 a h]
theorem FA.mz (F : FA q p u ad mu) (a : Nat) (h : a < q) : mu 0 a = 0 := by rw [F.muC 0 a F.q0 h, F.mu0 a h]
theorem FA.md (F : FA q p u ad mu) (a : Nat) : a % p < q := Nat.lt_of_lt_of_le (Nat.mod_lt _ F.p0) F.pq
theorem FA.swap (F : FA q p u ad mu) {a b c d : Nat} (ha : a < q) (hb : b < q) (hc : c < q) (hd : d < q) : ad (ad a b) (ad c d) = ad (ad a c) (ad b d) := by
  rw [F.adA a b _ ha hb (F.adL c d hc hd), ← F.adA b c d hb hc hd, F.adC b c hb hc, F.adA c b d hc hb hd, ← F.adA a c _ ha hc (F.adL b d hb hd)]
theorem phi_lt (F : FA q p u ad mu) : ∀ x, phi p u ad mu x < q
  | [] => F.q0
  | c :: cs => F.adL _ _ (F.md c) (F.muL _ _ F.uq (phi_lt F cs))
theorem phi_add (F : FA q p u ad mu) : ∀ x y, phi p u ad mu (uAdd x y) = ad (phi p u ad mu x) (phi p u ad mu y)
  | [], y => by rw [uAdd]; exact (F.z0 _ (phi_lt F y)).symm
  | a :: x, [] => by rw [uAdd]; exact (F.ad0 _ (phi_lt F _)).symm; simp
  | a :: x, b :: y => by
    rw [uAdd]
    have hx := phi_lt F x
    have hy := phi_lt F y
    show ad ((a + b) % p) (mu u (phi p u ad mu (uAdd x y))) = ad (ad (a % p) (mu u (phi p u ad mu x))) (ad (b % p) (mu u (phi p u ad mu y)))
    rw [phi_add F x y, F.dis _ _ _ F.uq hx hy, F.swap (F.md a) (F.muL _ _ F.uq hx) (F.md b) (F.muL _ _ F.uq hy), F.adP _ _ (Nat.mod_lt _ F.p0) (Nat.mod_lt _ F.p0), ← Nat.add_mod]
theorem phi_scale (F : FA q p u ad mu) (n : Nat) : ∀ y, phi p u ad mu (y.map fun b => n * b) = mu (n % p) (phi p u ad mu y)
  | [] => (F.mu0 _ (F.md n)).symm
  | b :: y => by
    have hy := phi_lt F y
    show ad (n * b % p) (mu u (phi p u ad mu (y.map fun b => n * b))) = mu (n % p) (ad (b % p) (mu u (phi p u ad mu y)))
    rw [phi_scale F n y, F.dis _ _ _ (F.md n) (F.md b) (F.muL _ _ F.uq hy), F.muP _ _ (Nat.mod_lt _ F.p0) (Nat.mod_lt _ F.p0), ← Nat.mul_mod, ← F.muA _ _ _ F.uq (F.md n) hy, F.muC u _ F.uq (F.md n), F.muA _ _ _ (F.md n) F.uq hy]
theorem phi_shift (F : FA q p u ad mu) (y : UP) : phi p u ad mu (0 :: y) = mu u (phi p u ad mu y) := by
  show ad (0 % p) _ = _
  rw [Nat.zero_mod, F.z0 _ (F.muL _ _ F.uq (phi_lt F y))]
theorem phi_mul (F : FA q p u ad mu) : ∀ x y, phi p u ad mu (uMul x y) = mu (phi p u ad mu x) (phi p u ad mu y)
  | [], y => (F.mz _ (phi_lt F y)).symm
  | a :: x, y => by
    have hx := phi_lt F x
    have hy := phi_lt F y
    have hux := F.muL _ _ F.uq hx
    rw [uMul, phi_add F, phi_scale F, phi_shift F, phi_mul F x y]
    show _ = mu (ad (a % p) (mu u (phi p u ad mu x))) (phi p u ad mu y)
    rw [F.muC (ad _ _) _ (F.adL _ _ (F.md a) hux) hy, F.dis _ _ _ hy (F.md a) hux, F.muC _ (a % p) hy (F.md a), F.muC _ (mu u _) hy hux, F.muA _ _ _ F.uq hx hy]
def psi (p u : Nat) (ad mu : Nat → Nat → Nat) (x : TP) (t : Nat) : Nat := phi p u ad mu (x.getD t [])
theorem psi_lt (F : FA q p u ad mu) (x : TP) (t : Nat) : psi p u ad mu x t < q := phi_lt F _
theorem psi_add (F : FA q p u ad mu) : ∀ x y t, psi p u ad mu (tAdd x y) t = ad (psi p u ad mu x t) (psi p u ad mu y t)
  | [], y, t => by rw [tAdd]; exact (F.z0 _ (psi_lt F y t)).symm
  | a :: x, [], t => by rw [tAdd]; exact (F.ad0 _ (psi_lt F _ t)).symm; simp
  | a :: x, b :: y, 0 => by rw [tAdd]; exact phi_add F a b
  | a :: x, b :: y, t + 1 => by rw [tAdd]; exact psi_add F x y t
theorem psi_scale (F : FA q p u ad mu) (c : UP) : ∀ y t, psi p u ad mu (y.map fun b => uMul c b) t = mu (phi p u ad mu c) (psi p u ad mu y t)
  | [], t => (F.mu0 _ (phi_lt F c)).symm
  | b :: y, 0 => phi_mul F c b
  | b :: y, t + 1 => psi_scale F c y t
/-- sums of products, over n places -/
def cvn (ad mu : Nat → Nat → Nat) : Nat → (Nat → Nat) → (Nat → Nat) → Nat → Nat
  | 0, _, _, _ => 0
  | n + 1, g, f, t => ad (mu (f t) (g 0)) (if t = 0 then 0 else cvn ad mu n (fun j => g (j + 1)) f (t - 1))
theorem cvn_lt (F : FA q p u ad mu) : ∀ n (g f : Nat → Nat), (∀ j, g j < q) → (∀ j, f j < q) → ∀ t, cvn ad mu n g f t < q
  | 0, _, _, _, _, _ => F.q0
  | n + 1, g, f, hg, hf, t => by
    refine F.adL _ _ (F.muL _ _ (hf t) (hg 0)) ?_
    split
    · exact F.q0
    · exact cvn_lt F n _ f (fun j => hg (j + 1)) hf (t - 1)
theorem cvn_snoc (F : FA q p u ad mu) : ∀ n (g f : Nat → Nat), (∀ j, g j < q) → (∀ j, f j < q) → ∀ t, cvn ad mu (n + 1) g f t = ad (cvn ad mu n g f t) (if t < n then 0 else mu (f (t - n)) (g n))
  | 0, g, f, hg, hf, t => by
    have h := F.muL _ _ (hf t) (hg 0)
    show ad (mu (f t) (g 0)) (if t = 0 then 0 else 0) = ad 0 (if t < 0 then 0 else mu (f (t - 0)) (g 0))
    rw [if_neg (Nat.not_lt_zero t), Nat.sub_zero, F.z0 _ h]
    split <;> exact F.ad0 _ h
  | n + 1, g, f, hg, hf, t => by
    have h := F.muL _ _ (hf t) (hg 0)
    show ad (mu (f t) (g 0)) (if t = 0 then 0 else cvn ad mu (n + 1) (fun j => g (j + 1)) f (t - 1)) = ad (ad (mu (f t) (g 0)) (if t = 0 then 0 else cvn ad mu n (fun j => g (j + 1)) f (t - 1))) (if t < n + 1 then 0 else mu (f (t - (n + 1))) (g (n + 1)))
    by_cases ht : t = 0
    · subst ht
      rw [if_pos rfl, if_pos rfl, if_pos (Nat.succ_pos n), F.ad0 _ (F.adL _ _ h F.q0)]
    · have hc := cvn_lt F n (fun j => g (j + 1)) f (fun j => hg (j + 1)) hf (t - 1)
      rw [if_neg ht, if_neg ht, cvn_snoc F n (fun j => g (j + 1)) f (fun j => hg (j + 1)) hf (t - 1)]
      have e : (if t - 1 < n then 0 else mu (f (t - 1 - n)) (g (n + 1))) = (if t < n + 1 then 0 else mu (f (t - (n + 1))) (g (n + 1))) := by
        by_cases h2 : t < n + 1
        · rw [if_pos h2, if_pos (by omega)]
        · rw [if_neg h2, if_neg (by omega), show t - 1 - n = t - (n + 1) by omega]
      rw [e]
      refine (F.adA _ _ _ h hc ?_).symm
      split
      · exact F.q0
      · exact F.muL _ _ (hf _) (hg _)
theorem cvn_more (F : FA q p u ad mu) {g f : Nat → Nat} (hg : ∀ j, g j < q) (hf : ∀ j, f j < q) {n : Nat} (hz : ∀ j, n ≤ j → g j = 0) (t : Nat) : ∀ m, cvn ad mu (n + m) g f t = cvn ad mu n g f t
  | 0 => rfl
  | m + 1 => by
    rw [← Nat.add_assoc, cvn_snoc F (n + m) g f hg hf t, cvn_more F hg hf hz t m, hz (n + m) (Nat.le_add_right _ _)]
    have hc := cvn_lt F n g f hg hf t
    split
    · exact F.ad0 _ hc
    · rw [F.mu0 _ (hf _), F.ad0 _ hc]
theorem cvn_congr {g g' f f' : Nat → Nat} (hg : ∀ j, g j = g' j) (hf : ∀ j, f j = f' j) (n t : Nat) : cvn ad mu n g f t = cvn ad mu n g' f' t := by
  rw [show g = g' from funext hg, show f = f' from funext hf]
theorem psi_mul (F : FA q p u ad mu) : ∀ (y x : TP) (t : Nat), psi p u ad mu (tMul y x) t = cvn ad mu y.length (psi p u ad mu y) (psi p u ad mu x) t
  | [], x, t => rfl
  | b :: y, x, t => by
    rw [tMul, psi_add F, psi_scale F]
    show ad (mu (phi p u ad mu b) (psi p u ad mu x t)) (psi p u ad mu ([] :: tMul y x) t) = ad (mu (psi p u ad mu x t) (phi p u ad mu b)) (if t = 0 then 0 else cvn ad mu y.length (fun j => psi p u ad mu (b :: y) (j + 1)) (psi p u ad mu x) (t - 1))
    rw [F.muC _ _ (phi_lt F b) (psi_lt F x t)]
    congr 1
    cases t with
    | zero => rfl
    | succ t =>
      rw [if_neg (Nat.succ_ne_zero t)]
      exact psi_mul F y x t
theorem psi_rep (y : TP) : ∀ n t, psi p u ad mu (List.replicate n [] ++ y) t = if t < n then 0 else psi p u ad mu y (t - n)
  | 0, t => by rw [if_neg (Nat.not_lt_zero t), Nat.sub_zero]; rfl
  | n + 1, 0 => by rw [if_pos (Nat.succ_pos n)]; rfl
  | n + 1, t + 1 => by
    show psi p u ad mu (List.replicate n [] ++ y) t = _
    rw [psi_rep y n t]
    by_cases h : t < n
    · rw [if_pos h, if_pos (by omega)]
    · rw [if_neg h, if_neg (by omega), show t + 1 - (n + 1) = t - n by omega]
theorem psi_sk {s : Nat} (hs : 0 < s) : ∀ (x : TP) (t : Nat), psi p u ad mu (tSk s x) t = if t % s = 0 then psi p u ad mu x (t / s) else 0
  | [], t => by
    show 0 = if t % s = 0 then 0 else 0
    split <;> rfl
  | a :: x, 0 => by
    rw [Nat.zero_mod, if_pos rfl, Nat.zero_div]
    rfl
  | a :: x, t + 1 => by
    show psi p u ad mu (List.replicate (s - 1) [] ++ tSk s x) t = _
    rw [psi_rep]
    by_cases h : t < s - 1
    · rw [if_pos h, Nat.mod_eq_of_lt (by omega), if_neg (by omega)]
    · rw [if_neg h, psi_sk hs x (t - (s - 1))]
      have e : t + 1 = (t - (s - 1)) + s := by omega
      rw [e, Nat.add_mod_right, Nat.add_div_right _ hs]
      rfl
end
/-! what a number tells of a polynomial over the integers -/
theorem evU_le_T (U : Nat) : ∀ (x : TP) (t : Nat), evU U (x.getD t []) ≤ evT U 1 x
  | [], t => Nat.zero_le _
  | c :: x, 0 => by show evU U c ≤ evU U c + 1 * evT U 1 x; omega
  | c :: x, t + 1 => by
    have := evU_le_T U x t
    show evU U (x.getD t []) ≤ evU U c + 1 * evT U 1 x
    omega
theorem co_le : ∀ (c : UP) (z : Nat), z ∈ c → z ≤ evU 1 c
  | a :: c, z, h => by
    show z ≤ a + 1 * evU 1 c
    rcases List.mem_cons.mp h with rfl | h
    · omega
    · have := co_le c z h
      omega
theorem evT_div {U X : Nat} : ∀ (x : TP), (∀ t, evU U (x.getD t []) < X) → evT U X x % X = evU U (x.getD 0 []) ∧ evT U X x / X = evT U X x.tail
  | [], h => ⟨Nat.zero_mod X, Nat.zero_div X⟩
  | c :: x, h => by
    have h0 : evU U c < X := h 0
    have hX : 0 < X := Nat.lt_of_le_of_lt (Nat.zero_le _) h0
    refine ⟨?_, ?_⟩
    · show (evU U c + X * evT U X x) % X = evU U c
      rw [Nat.add_mul_mod_self_left, Nat.mod_eq_of_lt h0]
    · show (evU U c + X * evT U X x) / X = evT U X x
      rw [Nat.add_mul_div_left _ _ hX, Nat.div_eq_of_lt h0, Nat.zero_add]
def hor (p u : Nat) (ad mu : Nat → Nat → Nat) (U : Nat) : Nat → Nat → Nat
  | 0, _ => 0
  | R + 1, z => if z = 0 then 0 else ad (z % U % p) (mu u (hor p u ad mu U R (z / U)))
theorem phi_zero {q p u : Nat} {ad mu : Nat → Nat → Nat} (F : FA q p u ad mu) {U : Nat} (hU : 0 < U) : ∀ c, evU U c = 0 → phi p u ad mu c = 0
  | [], _ => rfl
  | a :: c, h => by
    have h : a + U * evU U c = 0 := h
    have h2 : U * evU U c = 0 := by omega
    have h3 : evU U c = 0 := by
      rcases Nat.mul_eq_zero.mp h2 with h | h
      · omega
      · exact h
    show ad (a % p) (mu u (phi p u ad mu c)) = 0
    rw [show a = 0 by omega, phi_zero F hU c h3, Nat.zero_mod, F.mu0 _ F.uq, F.ad0 _ F.q0]
theorem hor_phi {q p u : Nat} {ad mu : Nat → Nat → Nat} (F : FA q p u ad mu) {U : Nat} (hU : 0 < U) : ∀ (R : Nat) (c : UP), (∀ z ∈ c, z < U) → evU U c < U ^ R → hor p u ad mu U R (evU U c) = phi p u ad mu c
  | 0, c, _, h => by
    rw [Nat.pow_zero] at h
    exact (phi_zero F hU c (by omega)).symm
  | R + 1, c, hc, h => by
    unfold hor
    by_cases hz : evU U c = 0
    · rw [if_pos hz, phi_zero F hU c hz]
    · rw [if_neg hz]
      cases c with
      | nil => exact absurd rfl hz
      | cons a c =>
        have ha : a < U := hc a (.head _)
        have e1 : evU U (a :: c) % U = a := by
          show (a + U * evU U c) % U = a
          rw [Nat.add_mul_mod_self_left, Nat.mod_eq_of_lt ha]
        have e2 : evU U (a :: c) / U = evU U c := by
          show (a + U * evU U c) / U = evU U c
          rw [Nat.add_mul_div_left _ _ hU, Nat.div_eq_of_lt ha, Nat.zero_add]
        rw [e1, e2, hor_phi F hU R c (fun z hz => hc z (.tail _ hz)) (by
          have h1 : evU U (a :: c) / U < U ^ R := Nat.div_lt_of_lt_mul (by rw [← Nat.pow_succ']; exact h)
          rwa [e2] at h1)]
        rfl
/-- the first n coefficients are 0 -/
def zerT (p u : Nat) (ad mu : Nat → Nat → Nat) (U R X : Nat) : Nat → Nat → Bool
  | 0, _ => true
  | n + 1, Z => decide (hor p u ad mu U R (Z % X) = 0) && zerT p u ad mu U R X n (Z / X)
theorem zer_iff {q p u : Nat} {ad mu : Nat → Nat → Nat} (F : FA q p u ad mu) {U R X : Nat} (hU : 0 < U) (hX : X ≤ U ^ R) : ∀ (n : Nat) (x : TP), (∀ t, evU U (x.getD t []) < X) → (∀ t, ∀ z ∈ x.getD t [], z < U) → (zerT p u ad mu U R X n (evT U X x) = true ↔ ∀ t, t < n → psi p u ad mu x t = 0)
  | 0, x, _, _ => ⟨fun _ t h => absurd h (Nat.not_lt_zero t), fun _ => rfl⟩
  | n + 1, x, h1, h2 => by
    obtain ⟨e1, e2⟩ := evT_div x h1
    have tl : ∀ t, x.tail.getD t [] = x.getD (t + 1) [] := fun t => by cases x <;> rfl
    have ih := zer_iff F hU hX n x.tail (fun t => by rw [tl]; exact h1 (t + 1)) (fun t => by rw [tl]; exact h2 (t + 1))
    show (decide (hor p u ad mu U R (evT U X x % X) = 0) && zerT p u ad mu U R X n (evT U X x / X)) = true ↔ _
    rw [Bool.and_eq_true, decide_eq_true_eq, e1, e2, ih, hor_phi F hU R _ (h2 0) (Nat.lt_of_lt_of_le (h1 0) hX)]
    constructor
    · intro ⟨a, b⟩ t ht
      cases t with
      | zero => exact a
      | succ t =>
        have := b t (by omega)
        unfold psi at this ⊢
        rwa [tl] at this
    · intro h
      refine ⟨h 0 (by omega), fun t ht => ?_⟩
      have := h (t + 1) (by omega)
      unfold psi at this ⊢
      rwa [tl]
end Own
/-! t.count(k) of a tuple of integers -/
namespace Own
open PySem PySem.Spec PyProof.Rows L2 Evl
section
variable {X : Cx}
def rCntTI (K : PySem.W.Frag) : V → List V → Hp → VK → Prop := fun x xs H Q => ∃ (p : Addr) (ns : List Int) (k : Int), x = .ref p ∧ xs = [.int k] ∧ SqT K H p (ns.map V.int) ∧ Q (.int (ns.count k : Nat)) H
theorem mt_tcount : MtR X "tuple.count" (rCntTI X.K) := by
  intro pins s σ H x xs v us Q I rx rxs h
  obtain ⟨p, ns, k, rfl, rfl, hs, q⟩ := h
  cases rx
  obtain ⟨u, rfl, ru⟩ := rxs.one
  obtain ⟨t, rfl⟩ := ru
  obtain ⟨its, rv, ⟨⟨cls, dd, data, sl⟩, ho, hc, n, hd⟩, hlen⟩ := I.tuple hs
  simp only at hc hd
  subst hc hd
  have hi := ints_of_vals rv
  refine call_meets PySem.F.slot_tuple_count ⟨_, ho, rfl⟩ PySem.F.entry_tuple_count (PySem.F.args_tuple_count_2 _ _)
    (SeqAt.tuple_countAt p its.toArray n dd sl (.int k t) (eqk k)) ⟨ho, fun y hy => (eqk_gives hi y (by simpa using hy)).at _ _, ?_⟩
  have ec : its.toArray.toList.countP (eqk k) = ns.count k := eqk_count hi
  refine ⟨.int (ns.count k : Nat), H, I.tok _, ⟨s.toks, ?_⟩, q⟩
  show Value.int ((its.toArray.toList.countP (eqk k) : Nat) : Int) s.toks = Value.int ((ns.count k : Nat) : Int) s.toks
  rw [ec]
end
section
variable {K : PySem.W.Frag} {σ : L2.St} {H : Hp} {ta tb : TE}
end
end Own
/-! own rules: expressions that are tuples, new or not; comprehensions with two fors -/
namespace Own
open PySem PySem.Spec PyProof.Rows L2 Evl
theorem pi_tupK {X : Cx} {K : PySem.W.Frag} {l tg : Expr} {tl : TE} (hK : X.K = K) (hl : PE X l tl) : PI X tg l (iTup K tl) := hK ▸ pi_tup hl
def RetTt (K : PySem.W.Frag) (xs : List V) (H : Hp) (Q : VK) : Prop := ∀ (p : Addr) H', Ex H H' → SqT K H' p xs → Q (.ref p) H'
theorem RetTt.go {K : PySem.W.Frag} {xs : List V} {H H1 : Hp} {Q : VK} (h : RetTt K xs H Q) (e : Ex H H1) : RetTt K xs H1 Q := fun p H2 e2 h2 => h p H2 (e.trans e2) h2
/-- a tuple, new or not -/
def EvTt (K : PySem.W.Frag) (te : TE) (σ : L2.St) (H : Hp) (xs : List V) : Prop := ∀ H1, Ex H H1 → ∀ Q : VK, RetTt K xs H1 Q → te σ H1 Q
section
variable {K : PySem.W.Frag} {σ : L2.St} {H H' : Hp} {t : TT} {te ta tb tc tl : TE} {x y v : V} {xs ys zs : List V} {D : Ends} {tu tz : TS} {P : Nat → Addr → Hp → Prop} {g : TG} {tA : TA}
theorem tt_var {a : Addr} (h : Ev te σ H (.ref a)) (hx : SqT K H a xs) : EvTt K te σ H xs := fun H1 e Q q => h H1 e _ fun H2 e2 => q a H2 e2 (ex_t (e.trans e2) hx)
theorem tt_new (h : EvU te σ H xs) : EvTt K te σ H xs := fun H1 e Q q => h H1 e _ fun p H2 np e2 h2 => q p H2 e2 (st_of h2)
theorem tt_is (h : EvTt K te σ H xs) (e : xs = ys) : EvTt K te σ H ys := e ▸ h
theorem cutV_whole {lo hi : Option Int} (h : HT.sIx xs.length 0 lo = 0 ∧ HT.sIx xs.length xs.length hi = xs.length) : cutV xs lo hi = xs := by
  unfold cutV
  rw [h.1, h.2, List.drop_zero, Nat.sub_zero, List.take_length]
theorem tt_sl {tl th : TO} {a : Addr} {lo hi : Option Int} (h : Ev te σ H (.ref a)) (hx : SqT K H a xs) (h1 : EvO tl σ H lo) (h2 : EvO th σ H hi) : EvTt K (tSl (rSlA K) te tl th) σ H (cutV xs lo hi) := fun H1 e Q q =>
  h H1 e _ fun H2 e2 => h1 H2 (e.trans e2) _ fun H3 e3 => h2 H3 ((e.trans e2).trans e3) _ fun H4 e4 =>
    ⟨a, xs, rfl, ex_t (((e.trans e2).trans e3).trans e4) hx, fun w => q a H4 ((e2.trans e3).trans e4) (by rw [cutV_whole w]; exact ex_t (((e.trans e2).trans e3).trans e4) hx), fun _ p np => q p _ (((e2.trans e3).trans e4).trans (Ex.new np)) (st_of upd_same)⟩
theorem el_listTt (h : EvTt K te σ H xs) : EvL (tCB (rLstQ K) (tCons te tNil)) σ H xs := fun H1 e Q q =>
  h H1 e _ fun p H2 e2 h2 => ⟨p, xs, rfl, .inr h2, fun l hl => q l _ (fresh_back e2 hl) (e2.trans (Ex.new hl)) upd_same⟩
theorem tt_cat (h : EvTt K ta σ H xs) (h2 : EvTt K tb σ H ys) (hl : xs.length + ys.length ≤ 100000) : EvTt K (tOp (rCatA K) ta tb) σ H (xs ++ ys) := fun H1 e Q q =>
  h H1 e _ fun p H2 e2 s2 => h2 H2 (e.trans e2) _ fun r H3 e3 s3 => catA_go (ex_t e3 s2) s3 hl fun a H4 e4 s4 => q a H4 ((e2.trans e3).trans e4) s4
theorem tt_call {sp : Sp} {vs : List V} {E : XK} (h : EvA tA σ H vs) (hs : ∀ H1, Ex H H1 → ∀ Q : VK, RetTt K xs H1 Q → ∀ E, sp vs H1 Q E) : EvTt K (tCall sp [] E tA) σ H xs := fun H1 e Q q =>
  h H1 e _ fun H2 e2 => by
    rw [List.append_nil]
    exact hs H2 (e.trans e2) Q (q.go e2) _
/-- f(x, y, tuple) -/
theorem tt_call2T {sp : Sp} {E : XK} (h1 : Ev ta σ H x) (h2 : Ev tb σ H y) (h : EvTt K te σ H zs) (hs : ∀ p H1, Ex H H1 → SqT K H1 p zs → ∀ Q : VK, RetTt K xs H1 Q → ∀ E, sp [x, y, .ref p] H1 Q E) : EvTt K (tCall sp [] E (tCons ta (tCons tb (tCons te tNil)))) σ H xs := fun H1 e Q q =>
  h1 H1 e _ fun H2 e2 => h2 H2 (e.trans e2) _ fun H3 e3 => h H3 ((e.trans e2).trans e3) _ fun p H4 e4 hp => hs p H4 (((e.trans e2).trans e3).trans e4) hp Q (q.go ((e2.trans e3).trans e4)) _
/-- f(tuple, y) -/
theorem tt_callT {sp : Sp} {E : XK} (h : EvTt K te σ H zs) (h2 : ∀ H1, Ex H H1 → Ev tb σ H1 y) (hs : ∀ p H1, Ex H H1 → SqT K H1 p zs → ∀ Q : VK, RetTt K xs H1 Q → ∀ E, sp [.ref p, y] H1 Q E) : EvTt K (tCall sp [] E (tCons te (tCons tb tNil))) σ H xs := fun H1 e Q q =>
  h H1 e _ fun p H2 e2 hp => h2 H2 (e.trans e2) H2 (Ex.refl H2) _ fun H3 e3 => hs p H3 ((e.trans e2).trans e3) (ex_t e3 hp) Q (q.go (e2.trans e3)) _
/-- f(new list) -/
theorem tt_call1L {sp : Sp} {E : XK} (h : EvL te σ H zs) (hs : ∀ p H1, Ex H H1 → H1 p = some (.lst zs) → ∀ Q : VK, RetTt K xs H1 Q → ∀ E, sp [.ref p] H1 Q E) : EvTt K (tCall sp [] E (tCons te tNil)) σ H xs := fun H1 e Q q =>
  h H1 e _ fun p H2 np e2 hp => hs p H2 (e.trans e2) hp Q (q.go e2) _
theorem s_retT (h : EvTt K te σ H xs) (k : RetTt K xs H fun v H => D.rt v H) : tRet te D σ H := h H (Ex.refl H) _ fun p H1 e1 h1 => k p H1 e1 h1
theorem s_asgT {i : Nat} (h : EvTt K te σ H xs) (k : ∀ p H1, Ex H H1 → SqT K H1 p xs → D.nx (σ.set i (some (.ref p))) H1) : tAsg te (gName i) D σ H := h H (Ex.refl H) _ fun p H1 e1 h1 => k p H1 e1 h1
theorem q_asgT {i : Nat} (h : EvTt K te σ H xs) (k : ∀ p H1, Ex H H1 → SqT K H1 p xs → tz D (σ.set i (some (.ref p))) H1) : tSeq (tAsg te (gName i)) tz D σ H := h H (Ex.refl H) _ fun p H1 e1 h1 => k p H1 e1 h1
end
theorem take_snocT {α : Type} {xs : List α} {i : Nat} {x : α} (h : xs[i]? = some x) : xs.take (i + 1) = xs.take i ++ [x] := by
  rw [List.take_add_one, h]
  rfl
theorem ite_tt {A B : Prop} (h : A) : (if true = true then A else B) := by rw [if_pos rfl]; exact h
/-- a walk, whatever is done at each turn -/
theorem wit {J : It} {n : Nat} {G : Hp → Prop} {Y : Nat → Hp → V → Hp → Prop} (w : Walk J n G Y) {B : V → Hp → (Hp → Prop) → Prop} {H0 : Hp} {Qd : Hp → Prop} (Pv : Nat → Hp → Prop) (h0 : Pv 0 H0) (hG : ∀ i H, i ≤ n → Pv i H → G H) (hs : ∀ i x H H', i < n → Pv i H → Y i H x H' → B x H' (Pv (i + 1))) (hd : ∀ H, Pv n H → Qd H) :
    ∃ W : Nat → Nat → Hp → Prop, (∃ m, W 0 m H0) ∧ ∀ i m H, W i m H → (J.stop i H ∧ Qd H) ∨ (J.go i H ∧ ∃ Nx : Hp → Prop, (∀ H', Nx H' → ∃ m', m' < m ∧ W (i + 1) m' H') ∧ ∀ x H', J.yld i H x H' → B x H' Nx) := by
  refine ⟨fun i m H => m = n - i ∧ i ≤ n ∧ Pv i H, ⟨n, by simp, Nat.zero_le _, h0⟩, ?_⟩
  rintro i m H ⟨rfl, hi, p⟩
  have q := hG i H hi p
  by_cases hlt : i < n
  · exact .inr ⟨w.goes i H hlt q, Pv (i + 1), fun H' p' => ⟨n - (i + 1), by omega, rfl, hlt, p'⟩, fun x H' y => hs i x H H' hlt p (w.yields i H x H' hlt q y)⟩
  · have e : i = n := by omega
    subst e
    exact .inl ⟨w.stops H q, hd H p⟩
end Own
/-! own rule: name = {k: v for ..} on one line, the name a local -/
namespace Own
open PySem PySem.Spec PyProof.Rows L2 Evl
section
variable {X : Cx}
theorem sw_trueD {kx vx : Expr} {gs : List Comprehension} {scope : Scope} {pos py : Pos} {y : Str} {l : Nat} {env : Env} (hk : env.scope.kind = .function) (hy : env.scope.names.lookup y = some .local) (hl : (py.line == pos.line) = true)
    (ha : (scope.names.any fun (n, k) => n == y && (k == .local || k == .cell)) = false) : swapsWith (.DictComp kx vx gs scope pos) (some (.Name y py)) l env = pure true := by
  have ky : env.kindOf y = some .local := hy
  have hb : env.blockKind = .function := by unfold Env.blockKind; rw [hk]; rfl
  unfold swapsWith
  simp only [hb, ky, ha, Expr.pos, hl]
  rfl
theorem ps_setDc {i : Nat} {y : Str} {py : Pos} {kx vx tg iter : Expr} {ifs : List Expr} {scope : Scope} {own : List (Str × Nat)} {pos spos : Pos} {wi : TI} {g : TG} {tt : TT} {tk tv : TE} (hc : X.calm = true) (hN : X.N.Nodup) (hy : X.N[i]? = some y) (hyl : X.env.scope.names.lookup y = some .local)
    (hsw : swapsWith (.DictComp kx vx [⟨tg, iter, ifs, 0⟩] scope pos) (some (.Name y py)) spos.line X.env = pure true) (hi : PI X tg iter wi) (ok : BlkOk X.N X.env.scope scope own)
    (hg : ∀ (s : Shared) (H : Hp) (C : Addr) (cl : List (Str × Addr)) (fp : List Addr), PG (X.blk s H scope (compEnvC scope cl C X.env) fp) tg g) (ht : ∀ (s : Shared) (H : Hp) (C : Addr) (cl : List (Str × Addr)) (fp : List Addr), PTs (X.blk s H scope (compEnvC scope cl C X.env) fp) ifs tt)
    (hk : ∀ (s : Shared) (H : Hp) (C : Addr) (cl : List (Str × Addr)) (fp : List Addr), PE (X.blk s H scope (compEnvC scope cl C X.env) fp) kx tk)
    (he : ∀ (s : Shared) (H : Hp) (C : Addr) (cl : List (Str × Addr)) (fp : List Addr), PE (X.blk s H scope (compEnvC scope cl C X.env) fp) vx tv) (hs : ∀ x, foldedSetIterable iter X.env x = pure x := by intro _; rfl) :
    PS X (.Assign [.Name y py] (.DictComp kx vx [⟨tg, iter, ifs, 0⟩] scope pos) spos) (tAsg (tDc wi g tt tk tv (own.map (·.2))) (gName i)) := by
  refine ⟨fun pins s σ H D I h => ?_⟩
  rw [exec_Assign_Name_used _ _ _ _ hsw]
  refine wpAny_bind (wpAny_standAt (wpAny_bind ?_))
  show wpAny _ X.A (do let _ ← comprehension (.DictComp kx vx [⟨tg, iter, ifs, 0⟩] scope pos) scope X.env (firstIterPos [⟨tg, iter, ifs, 0⟩] pos) newDict false (eval iter X.env) (some (assign (.Name y py) X.env))) _ _ s
  have h : tDc wi g tt tk tv (own.map (·.2)) σ H (fun x H1 => gName i x σ H1 D.nx) := h
  refine wpAny_bind (thn (dc_core (Qf := fun _ s' => SP X pins D .next s') hc hN I hi ok hg ht hk he hs h fun L C s' m H' I' q hn f => ?_) fun _ s' hq => wpAny_pure (wpAny_pure hq))
  show wpAny _ _ (assign (.Name y py) X.env (.ref L)) _ _ _
  refine wpAny_assign_Name (store_ok2 (v := V.ref L) I' hN hy (.inl hyl) rfl (fun s2 I2 ⟨a, sb, ha⟩ => ?_) (.inr hyl))
  obtain ⟨f0, f1, f2, f3, f4, f5⟩ := f
  have haC : C ≠ a := by
    rcases ha with z | z
    · rw [z]; exact f1
    · exact fun e => f4 y a z e.symm
  refine ⟨m, hn.sameBut sb haC, fun h3 sb3 => ?_⟩
  exact ⟨_, H', I2.turned (t' := s2.toks) (fun b o hb e => (sb3.2 b hb).trans e) f0 f1 f3 f4 f5, q⟩
end
end Own
/-! own rules: new tuples whose object is known to have no dict of its own (they are locked from the start), and t.count(k) of such a one -/
namespace Own
open PySem PySem.Spec PyProof.Rows L2 Evl
def TfAt (H : Hp) (p : Addr) (xs : List V) : Prop := ∃ o : Obj, o.dict = none ∧ H p = some (.frz o (.tup xs))
theorem TfAt.ex {H H' : Hp} {p : Addr} {xs : List V} (h : TfAt H p xs) (e : Ex H H') : TfAt H' p xs := ⟨h.choose, h.choose_spec.1, e _ _ h.choose_spec.2⟩
theorem TfAt.sq {K : PySem.W.Frag} {H : Hp} {p : Addr} {xs : List V} (h : TfAt H p xs) : SqT K H p xs := .inl (.inr ⟨h.choose, h.choose_spec.2⟩)
def tTupF (t : TA) : TE := fun σ H Q => t σ H fun xs H1 => xs.length ≤ sizeLine ∧ ∀ p o, H1 p = none → o.dict = none → Q (.ref p) (upd H1 p (.frz o (.tup xs)))
def rTupF (K : PySem.W.Frag) : List V → Hp → VK → Prop := fun xs H Q => ∃ p ys, xs = [.ref p] ∧ SqL K H p ys ∧ ∀ l o, H l = none → o.dict = none → Q (.ref l) (upd H l (.frz o (.tup ys)))
def rCatF (K : PySem.W.Frag) : R2 := fun x y H Q => ∃ a b xs ys, x = .ref a ∧ y = .ref b ∧ SqT K H a xs ∧ SqT K H b ys ∧ xs ≠ [] ∧ ys ≠ [] ∧ xs.length + ys.length ≤ sizeLine ∧ ∀ p o, H p = none → o.dict = none → Q (.ref p) (upd H p (.frz o (.tup (xs ++ ys))))
def rCntF : V → List V → Hp → VK → Prop := fun x xs H Q => ∃ (p : Addr) (ns : List Int) (k : Int), x = .ref p ∧ xs = [.int k] ∧ TfAt H p (ns.map V.int) ∧ Q (.int (ns.count k : Nat)) H
def tBMF (r : V → List V → Hp → VK → Prop) (to : TE) (t : TA) : TE := fun σ H Q => to σ H fun x H1 => (∃ p xs, x = .ref p ∧ TfAt H1 p xs) ∧ t σ H1 fun xs H2 => r x xs H2 Q
section
variable {X : Cx}
theorem pe_tupF {es : List Expr} {t : TA} {x1} {pos : Pos} (h : PA X es t) : PE X (.Tuple es x1 pos) (tTupF t) := by
  refine ⟨fun pins s σ H Q I hq => ?_⟩
  refine wpAny_Tuple_spliced (thn (h.run pos pins s σ H _ I hq) fun us s1 ⟨xs, H1, I1, r, z, q⟩ => ⟨by rw [← r.length]; exact z, ?_⟩)
  have hf : H1 s1.heap.objs.size = none := I1.hok.fresh (Nat.le_refl _)
  have hg := Heap.get?_push_size s1.heap (o := { cls := .type "tuple", data := .seq us.toArray }) rfl
  refine ⟨.ref s1.heap.objs.size, upd H1 s1.heap.objs.size (.frz { cls := .type "tuple", data := .seq us.toArray } (.tup xs)), I1.laid (t' := s1.toks) (fun b u e => Heap.get?_push_of_some _ e) (Nat.le_refl _) ?_, rfl, q _ _ hf rfl⟩
  exact ⟨hg, z, us, r, ⟨_, hg, rfl, _, rfl⟩⟩
theorem call_tuple_ofF : CallR X (.type "tuple") (rTupF X.K) := by
  intro pins s σ H xs us Q I r h
  obtain ⟨p, ys, rfl, hq, q⟩ := h
  obtain ⟨u, rfl, rx⟩ := vals1 r
  cases rx
  obtain ⟨its, r', pl, hz⟩ := I.list hq
  have hlen := r'.length
  refine call_tuple_list pl.isList (fun h' kp => ?_) (by simp only [List.size_toArray] <;> omega)
  have I1 : Inv X pins σ H { s with heap := h' } := I.kept (t' := s.toks) kp
  have hg := Heap.get?_push_size h' (o := { cls := .type "tuple", data := .seq its.toArray }) rfl
  have I2 : Inv X pins σ (upd H h'.objs.size (.frz { cls := .type "tuple", data := .seq its.toArray } (.tup ys))) { s with heap := h'.push { cls := .type "tuple", data := .seq its.toArray } } :=
    I1.laid (t' := s.toks) (fun b o e => Heap.get?_push_of_some _ e) (Nat.le_refl _) ⟨hg, hz, its, r', ⟨_, hg, rfl, _, rfl⟩⟩
  exact ⟨.ref h'.objs.size, _, I2, rfl, q _ _ (I1.hok.fresh (Nat.le_refl _)) rfl⟩
theorem op_catF : OpR X (binaryOp .Add) (rCatF X.K) := by
  intro pins s σ H x y v u Q I rx ry h
  obtain ⟨a, b, xs, ys, rfl, rfl, ha, hb, hx, hy, hz, q⟩ := h
  cases rx
  cases ry
  obtain ⟨its, r1, p1, _⟩ := I.tuple ha
  obtain ⟨its2, r2, p2, _⟩ := I.tuple hb
  refine HT.cat_tup p1 p2 (fun z => hx (r1.nil_iff.mp z)) (fun z => absurd (r2.nil_iff.mp z) hy) (fun z => ?_) (by rw [← r1.length, ← r2.length]; exact hz)
  have hg := Heap.get?_push_size s.heap (o := { cls := .type "tuple", data := .seq (its ++ its2).toArray }) rfl
  refine ⟨.ref s.heap.objs.size, _, I.laid (t' := s.toks) (o := .frz { cls := .type "tuple", data := .seq (its ++ its2).toArray } (.tup (xs ++ ys))) (fun b ob q => Heap.get?_push_of_some _ q) (Nat.le_refl _) ?_, rfl, q _ _ (I.hok.fresh (Nat.le_refl _)) rfl⟩
  exact ⟨hg, by rw [List.length_append]; exact hz, _, r1.append r2, ⟨_, hg, rfl, _, rfl⟩⟩
theorem op_catFK {K : PySem.W.Frag} (hK : X.K = K) : OpR X (binaryOp .Add) (rCatF K) := hK ▸ op_catF
/-- a + b: one of the two themselves where the other is empty -/
def rCatG (K : PySem.W.Frag) : R2 := fun x y H Q => ∃ a b xs ys, x = .ref a ∧ y = .ref b ∧ SqT K H a xs ∧ SqT K H b ys ∧ xs.length + ys.length ≤ sizeLine ∧
  (xs = [] → Q (.ref b) H) ∧ (xs ≠ [] → ys = [] → Q (.ref a) H) ∧ (xs ≠ [] → ys ≠ [] → ∀ p o, H p = none → o.dict = none → Q (.ref p) (upd H p (.frz o (.tup (xs ++ ys)))))
theorem op_catG : OpR X (binaryOp .Add) (rCatG X.K) := by
  intro pins s σ H x y v u Q I rx ry h
  obtain ⟨a, b, xs, ys, rfl, rfl, ha, hb, hz, q0, q1, q2⟩ := h
  by_cases hx : xs = []
  · subst hx
    cases rx
    cases ry
    obtain ⟨its, r1, p1, _⟩ := I.tuple ha
    obtain ⟨its2, r2, p2, _⟩ := I.tuple hb
    cases r1
    exact cat_tup0 p1 p2 ⟨.ref b, H, I, rfl, q0 rfl⟩
  · by_cases hy : ys = []
    · exact op_catT pins s σ H _ _ v u Q I rx ry ⟨a, b, xs, ys, rfl, rfl, ha, hb, hx, hz, q1 hx, fun n => absurd hy n⟩
    · exact op_catF pins s σ H _ _ v u Q I rx ry ⟨a, b, xs, ys, rfl, rfl, ha, hb, hx, hy, hz, q2 hx hy⟩
theorem op_catGK {K : PySem.W.Frag} (hK : X.K = K) : OpR X (binaryOp .Add) (rCatG K) := hK ▸ op_catG
theorem call_tuple_ofFK {K : PySem.W.Frag} (hK : X.K = K) : CallR X (.type "tuple") (rTupF K) := hK ▸ call_tuple_ofF
theorem mt_tcountF : MtR X "tuple.count" rCntF := by
  intro pins s σ H x xs v us Q I rx rxs h
  obtain ⟨p, ns, k, e1, e2, hs, q⟩ := h
  exact mt_tcount pins s σ H x xs v us Q I rx rxs ⟨p, ns, k, e1, e2, hs.sq, q⟩
theorem pe_bmF {o e : Expr} {es : List Expr} {to : TE} {t : TA} {name : Str} {apos cpos : Pos} {id : String} {r : V → List V → Hp → VK → Prop} (pa : PlainAttrs "tuple") (slot : Slot "tuple" name id) (hty : typeOf (.builtin id) = pure (.type "method_descriptor")) (hm : MtR X id r) (ho : PE X o to) (ha : PA X (e :: es) t)
    (hbase : attributeBase o name X.env (eval o X.env) = eval o X.env := by rfl)
    (hfew : ((backTo cpos (starEach (e :: es) X.env)).all (fun x => !x.1) && (backToKw cpos (keywordEach [] X.env)).all (fun x => x.1.isSome)
      && decide ((e :: es).length + ([] : List Keyword).length + (if ([] : List Keyword).isEmpty then 0 else 1) < 30)) = true := by rfl)
    (hline : (apos.endLine == cpos.line) = true := by rfl) (hs : starEach (e :: es) X.env = (false, eval e X.env) :: starEach es X.env := by rfl) (hplain : (backTo cpos (starEach es X.env)).any (·.1) = false := by rfl) :
    PE X (.Call (.Attribute o name apos) (e :: es) [] cpos) (tBMF r to t) := by
  refine ⟨fun pins s σ H Q I h => ?_⟩
  refine wpAny_Call_method_late hbase hfew hline rfl (thn (ho.run pins s σ H _ I h) fun v s1 ⟨x, H1, I1, r1, ty, q1⟩ => ?_)
  obtain ⟨p, xs, rfl, ob, hd, hp⟩ := ty
  cases r1
  obtain ⟨hg, hz, its, rr, ⟨ob2, hg2, hc, _⟩⟩ := I1.hok p _ hp
  rw [hg] at hg2
  cases hg2
  refine ⟨"tuple", id, pa, slot, hty, ⟨ob, hg, hc⟩, fun a e => by cases e; exact ⟨ob, hg, hd⟩, ?_⟩
  have hA := ha.run cpos pins s1 σ H1 _ I1 q1
  rw [hs] at hA ⊢
  refine Calls.callWith_builtin (by show (false || (backTo cpos (starEach es X.env)).any (·.1)) = false; rw [hplain] <;> rfl) (Calls.evalArgs_plain ?_)
  exact thn hA fun us s2 ⟨vs, H2, I2, r2, q2⟩ => hm pins s2 σ H2 (V.ref p) vs (.ref p) us Q I2 rfl r2 q2
end
def RetTf (xs : List V) (H : Hp) (Q : VK) : Prop := ∀ (p : Addr) H', Ex H H' → TfAt H' p xs → Q (.ref p) H'
theorem RetTf.go {xs : List V} {H H1 : Hp} {Q : VK} (h : RetTf xs H Q) (e : Ex H H1) : RetTf xs H1 Q := fun p H2 e2 h2 => h p H2 (e.trans e2) h2
def EvTf (te : TE) (σ : L2.St) (H : Hp) (xs : List V) : Prop := ∀ H1, Ex H H1 → ∀ Q : VK, RetTf xs H1 Q → te σ H1 Q
section
variable {K : PySem.W.Frag} {σ : L2.St} {H H' : Hp} {t : TT} {te ta tb tc tl : TE} {x y v : V} {xs ys zs : List V} {D : Ends} {tu tz : TS} {tA : TA}
theorem tf_tt (h : EvTf te σ H xs) : EvTt K te σ H xs := fun H1 e Q q => h H1 e Q fun p H2 e2 h2 => q p H2 e2 h2.sq
theorem tf_is (h : EvTf te σ H xs) (e : xs = ys) : EvTf te σ H ys := e ▸ h
theorem tf_new {H : Hp} {p : Addr} {o : Obj} {xs : List V} (hd : o.dict = none) : TfAt (upd H p (.frz o (.tup xs))) p xs := ⟨o, hd, upd_same⟩
theorem tf_tup {vs : List V} (h : EvA tA σ H vs) (hl : vs.length ≤ 100000) : EvTf (tTupF tA) σ H vs := fun H1 e Q q => h H1 e _ fun H2 e2 => ⟨sz_of hl, fun p o np hd => q p _ (e2.trans (Ex.new np)) (tf_new hd)⟩
theorem tf_tupleL {a : Addr} (h : Ev ta σ H (.ref a)) (hx : SqL K H a xs) : EvTf (tCB (rTupF K) (tCons ta tNil)) σ H xs := fun H1 e Q q =>
  h H1 e _ fun H2 e2 => ⟨a, xs, rfl, ex_l (e.trans e2) hx, fun l o nl hd => q l _ (e2.trans (Ex.new nl)) (tf_new hd)⟩
theorem tf_cat (h : EvTt K ta σ H xs) (h2 : EvTf tb σ H ys) (hy : ys ≠ []) (hl : xs.length + ys.length ≤ 100000) : EvTf (tOp (rCatG K) ta tb) σ H (xs ++ ys) := fun H1 e Q q =>
  h H1 e _ fun p H2 e2 s2 => h2 H2 (e.trans e2) _ fun r H3 e3 s3 => ⟨p, r, xs, ys, rfl, rfl, ex_t e3 s2, s3.sq, sz_of hl, fun z => q r H3 (e2.trans e3) (by rw [z]; exact s3), fun _ z => absurd z hy, fun _ _ l o nl hd => q l _ ((e2.trans e3).trans (Ex.new nl)) (tf_new hd)⟩
theorem tf_cat2 (h : EvTt K ta σ H xs) (h2 : EvTt K tb σ H ys) (hx : xs ≠ []) (hy : ys ≠ []) (hl : xs.length + ys.length ≤ 100000) : EvTf (tOp (rCatG K) ta tb) σ H (xs ++ ys) := fun H1 e Q q =>
  h H1 e _ fun p H2 e2 s2 => h2 H2 (e.trans e2) _ fun r H3 e3 s3 => ⟨p, r, xs, ys, rfl, rfl, ex_t e3 s2, s3, sz_of hl, fun z => absurd z hx, fun _ z => absurd z hy, fun _ _ l o nl hd => q l _ ((e2.trans e3).trans (Ex.new nl)) (tf_new hd)⟩
theorem ev_tcount {a : Addr} {ns : List Int} {k : Int} (h : Ev ta σ H (.ref a)) (hx : TfAt H a (ns.map V.int)) (hb : Ev tb σ H (.int k)) : Ev (tBMF rCntF ta (tCons tb tNil)) σ H (.int (ns.count k : Nat)) := fun H1 e Q q =>
  h H1 e _ fun H2 e2 => ⟨⟨a, _, rfl, hx.ex (e.trans e2)⟩, hb H2 (e.trans e2) _ fun H3 e3 => ⟨a, ns, k, rfl, rfl, hx.ex ((e.trans e2).trans e3), q H3 (e2.trans e3)⟩⟩
theorem tf_call {sp : Sp} {vs : List V} {E : XK} (h : EvA tA σ H vs) (hs : ∀ H1, Ex H H1 → ∀ Q : VK, RetTf xs H1 Q → ∀ E, sp vs H1 Q E) : EvTf (tCall sp [] E tA) σ H xs := fun H1 e Q q =>
  h H1 e _ fun H2 e2 => by
    rw [List.append_nil]
    exact hs H2 (e.trans e2) Q (q.go e2) _
theorem s_retF (h : EvTf te σ H xs) (k : RetTf xs H fun v H => D.rt v H) : tRet te D σ H := h H (Ex.refl H) _ fun p H1 e1 h1 => k p H1 e1 h1
theorem s_asgF {i : Nat} (h : EvTf te σ H xs) (k : ∀ p H1, Ex H H1 → TfAt H1 p xs → D.nx (σ.set i (some (.ref p))) H1) : tAsg te (gName i) D σ H := h H (Ex.refl H) _ fun p H1 e1 h1 => k p H1 e1 h1
theorem q_asgF {i : Nat} (h : EvTf te σ H xs) (k : ∀ p H1, Ex H H1 → TfAt H1 p xs → tz D (σ.set i (some (.ref p))) H1) : tSeq (tAsg te (gName i)) tz D σ H := h H (Ex.refl H) _ fun p H1 e1 h1 => k p H1 e1 h1
end
end Own
/-! own rules: new lists of new rows of numbers -/
namespace Own
open PySem PySem.Spec PyProof.Rows L2 Evl
def RetPs (K : PySem.W.Frag) (xss : List (List Nat)) (H : Hp) (Q : VK) : Prop := ∀ (p : Addr) (rs : List Addr) (H' : Hp), H p = none → Ex H H' → H' p = some (.lst (rs.map V.ref)) → Tps K H' rs xss → Q (.ref p) H'
theorem RetPs.go {K : PySem.W.Frag} {xss : List (List Nat)} {H H' : Hp} {Q : VK} (k : RetPs K xss H Q) (e : Ex H H') : RetPs K xss H' Q := fun p rs H2 np e2 h t => k p rs H2 (fresh_back e np) (e.trans e2) h t
section
variable {K : PySem.W.Frag} {σ : L2.St} {H H' : Hp} {ta tb tc te tl tn : TE} {t : TT} {D : Ends} {tu tz : TS} {P : Nat → Addr → Hp → Prop} {g : TG}
/-- a new list of new rows -/
def EvPs (K : PySem.W.Frag) (te : TE) (σ : L2.St) (H : Hp) (xss : List (List Nat)) : Prop := ∀ H1, Ex H H1 → ∀ Q : VK, RetPs K xss H1 Q → te σ H1 Q
theorem lr_lcPs {xss : List (List Nat)} {j : Nat} {vs : List Nat} (kp : Kp P) (h : EvPs K tl σ H xss) (hz : xss.length ≤ 40000) (hw : ∀ x, wipe ((wipe σ vs).set j (some x)) vs = wipe σ vs)
    (he : ∀ (i : Nat) (r : Addr) (xs : List Nat) H1, Ex H H1 → xss[i]? = some xs → SqT K H1 r (xs.map N_) → EvR te ((wipe σ vs).set j (some (.ref r))) H1 (P i)) : EvLR (tLc (iList K tl) (gName j) tYes te vs) σ H xss.length P := fun H0 e Q q => h H0 e _ fun a rs H1 na e1 h1 t1 => ⟨a, rfl, ⟨rs.map V.ref, sq_of h1⟩, fun Dl hD =>
  lc_list (xs := rs.map V.ref) (Cwr H1 P Dl) ⟨hD, Ex.new hD, [], rfl, upd_same, fun j r e => by simp at e⟩ (fun i H' _ p => sq_of (p.2.1 _ _ h1)) (fun i x H' hi p => ⟨hw x, by
      rw [List.getElem?_map] at hi
      obtain ⟨r, hr, rfl⟩ := Option.map_eq_some_iff.mp hi
      have hil : i < xss.length := by rw [← t1.1]; exact (List.getElem?_eq_some_iff.mp hr).1
      have hxi : xss[i]? = some xss[i] := List.getElem?_eq_getElem hil
      exact cwr_turn kp p (by omega) (he i r _ H1 (e.trans e1) hxi (t1.2 i r _ hr hxi))⟩)
    (fun H' p => by
      obtain ⟨p1, p2, rs2, p3, p4, p5⟩ := p
      rw [List.length_map, t1.1] at p3
      exact q Dl rs2 H' (fresh_back e1 p1) (e1.trans p2) p4 p3 p5)⟩
theorem s_forPs {xss : List (List Nat)} {j : Nat} (h : EvPs K tl σ H xss) (Pv : Addr → List Addr → Nat → L2.St → Hp → Prop) (h0 : ∀ p rs H1, H p = none → Ex H H1 → H1 p = some (.lst (rs.map V.ref)) → Tps K H1 rs xss → Pv p rs 0 σ H1) (hl : ∀ p rs i σ' H', i ≤ xss.length → Pv p rs i σ' H' → SqL K H' p (rs.map V.ref) ∧ Tps K H' rs xss)
    (hs : ∀ p rs i r xs σ' H', xss[i]? = some xs → SqT K H' r (xs.map N_) → Pv p rs i σ' H' → tu { D with nx := Pv p rs (i + 1), ct := Pv p rs (i + 1), bk := D.nx } (σ'.set j (some (.ref r))) H') (hd : ∀ p rs σ' H', Pv p rs xss.length σ' H' → D.nx σ' H') : tFor (iList K tl) (gName j) tu D σ H :=
  h H (Ex.refl H) _ fun p rs H1 hp e h1 t1 => ⟨p, rfl, ⟨rs.map V.ref, sq_of h1⟩, for_list (xs := rs.map V.ref) (Pv p rs) (h0 p rs H1 hp e h1 t1) (fun i σ' H' hi w => (hl p rs i σ' H' (by rw [List.length_map, t1.1] at hi; exact hi) w).1) (fun i x σ' H' hx w => by
    rw [List.getElem?_map] at hx
    obtain ⟨r, hr, rfl⟩ := Option.map_eq_some_iff.mp hx
    have hil : i < xss.length := by rw [← t1.1]; exact (List.getElem?_eq_some_iff.mp hr).1
    have hxi : xss[i]? = some xss[i] := List.getElem?_eq_getElem hil
    exact hs p rs i r _ σ' H' hxi ((hl p rs i σ' H' (Nat.le_of_lt hil) w).2.2 i r _ hr hxi) w) (fun σ' H' w => by
    rw [List.length_map, t1.1] at w
    exact hd p rs σ' H' w)⟩
theorem q_forPs {xss : List (List Nat)} {j : Nat} (h : EvPs K tl σ H xss) (Pv : Addr → List Addr → Nat → L2.St → Hp → Prop) (h0 : ∀ p rs H1, H p = none → Ex H H1 → H1 p = some (.lst (rs.map V.ref)) → Tps K H1 rs xss → Pv p rs 0 σ H1) (hl : ∀ p rs i σ' H', i ≤ xss.length → Pv p rs i σ' H' → SqL K H' p (rs.map V.ref) ∧ Tps K H' rs xss)
    (hs : ∀ p rs i r xs σ' H', xss[i]? = some xs → SqT K H' r (xs.map N_) → Pv p rs i σ' H' → tu { D with nx := Pv p rs (i + 1), ct := Pv p rs (i + 1), bk := tz D } (σ'.set j (some (.ref r))) H') (hd : ∀ p rs σ' H', Pv p rs xss.length σ' H' → tz D σ' H') : tSeq (tFor (iList K tl) (gName j) tu) tz D σ H :=
  s_forPs (D := { D with nx := tz D }) h Pv h0 hl hs hd
theorem ep_call {sp : Sp} {vs : List V} {xss : List (List Nat)} {E : XK} {ta : TA} (h : EvA ta σ H vs) (hs : ∀ H1, Ex H H1 → ∀ Q : VK, RetPs K xss H1 Q → ∀ E, sp vs H1 Q E) : EvPs K (tCall sp [] E ta) σ H xss := fun H1 e Q q =>
  h H1 e _ fun H2 e2 => by
    rw [List.append_nil]
    exact hs H2 (e.trans e2) Q (q.go e2) _

/-- for a, b in new list of new pairs -/
theorem q_forPp {prs : List (List Nat)} {i1 i2 : Nat} (h : EvPs K tl σ H prs) (h2 : ∀ x ∈ prs, x.length = 2) (Pv : Addr → List Addr → Nat → L2.St → Hp → Prop) (h0 : ∀ p rs H1, H p = none → Ex H H1 → H1 p = some (.lst (rs.map V.ref)) → Tps K H1 rs prs → Pv p rs 0 σ H1) (hl : ∀ p rs i σ' H', i ≤ prs.length → Pv p rs i σ' H' → SqL K H' p (rs.map V.ref) ∧ Tps K H' rs prs)
    (hs : ∀ p rs i x σ' H', prs[i]? = some x → Pv p rs i σ' H' → tu { D with nx := Pv p rs (i + 1), ct := Pv p rs (i + 1), bk := tz D } ((σ'.set i1 (some (N_ (x.getD 0 0)))).set i2 (some (N_ (x.getD 1 0)))) H') (hd : ∀ p rs σ' H', Pv p rs prs.length σ' H' → tz D σ' H') : tSeq (tFor (iList K tl) (gTup K 2 (gCons (gName i1) (gCons (gName i2) gNil))) tu) tz D σ H :=
  h H (Ex.refl H) _ fun p rs H1 hp e h1 t1 => ⟨p, rfl, ⟨rs.map V.ref, sq_of h1⟩, for_list (xs := rs.map V.ref) (D := { D with nx := tz D }) (Pv p rs) (h0 p rs H1 hp e h1 t1) (fun i σ' H' hi w => (hl p rs i σ' H' (by rw [List.length_map, t1.1] at hi; exact hi) w).1) (fun i x σ' H' hx w => by
    rw [List.getElem?_map] at hx
    obtain ⟨r, hr, rfl⟩ := Option.map_eq_some_iff.mp hx
    have hil : i < prs.length := by rw [← t1.1]; exact (List.getElem?_eq_some_iff.mp hr).1
    have hxi : prs[i]? = some prs[i] := List.getElem?_eq_getElem hil
    have hs2 := (hl p rs i σ' H' (Nat.le_of_lt hil) w).2.2 i r _ hr hxi
    have hlen := h2 _ (List.getElem_mem hil)
    have hm := hs p rs i _ σ' H' hxi w
    generalize prs[i] = x at *
    match x, hlen with
    | [u, v], _ => exact ⟨r, [N_ u, N_ v], rfl, hs2, rfl, N_ u, [N_ v], rfl, N_ v, [], rfl, rfl, hm⟩) (fun σ' H' w => by
    rw [List.length_map, t1.1] at w
    exact hd p rs σ' H' w)⟩
/-- xs = xs + [new rows] -/
theorem s_catR {i : Nat} {l : Addr} {xs : List V} {n : Nat} (hl : H l = some (.lst xs)) (ha : Ev ta σ H (.ref l)) (h : EvLR te σ H n P) (hz : xs.length + n ≤ 100000) (k : ∀ (p : Addr) (rs : List Addr) H1, H1 p = none → Ex H H1 → rs.length = n → (∀ (j : Nat) (r : Addr), rs[j]? = some r → P j r H1) → D.nx (σ.set i (some (.ref p))) (upd H1 p (.lst (xs ++ rs.map V.ref)))) : tAsg (tOp rCat ta te) (gName i) D σ H := ha H (Ex.refl H) _ fun H1 e1 =>
  h H1 e1 _ fun p rs H2 hp e2 h2 hn hP => ⟨l, p, xs, rs.map V.ref, rfl, rfl, e2 l _ (e1 l _ hl), h2, sz_of (by rw [List.length_map]; omega), fun z hz => k z rs H2 hz (e1.trans e2) hn hP⟩
theorem q_catR {i : Nat} {l : Addr} {xs : List V} {n : Nat} (hl : H l = some (.lst xs)) (ha : Ev ta σ H (.ref l)) (h : EvLR te σ H n P) (hz : xs.length + n ≤ 100000) (k : ∀ (p : Addr) (rs : List Addr) H1, H1 p = none → Ex H H1 → rs.length = n → (∀ (j : Nat) (r : Addr), rs[j]? = some r → P j r H1) → tz D (σ.set i (some (.ref p))) (upd H1 p (.lst (xs ++ rs.map V.ref)))) : tSeq (tAsg (tOp rCat ta te) (gName i)) tz D σ H := s_catR (D := { D with nx := tz D }) hl ha h hz k
end
end Own
namespace Own
open PySem PySem.Spec PyProof.Rows L2 Evl

theorem sc_is_integer : FnScope ["value"] ["value"] (defScope s_is_integer) := ⟨rfl, rfl, rfl, by decide +kernel, rfl, by decide +kernel, by decide +kernel⟩
theorem sc_is_between : FnScope ["value", "low", "high"] ["value", "low", "high"] (defScope s_is_between) := ⟨rfl, rfl, rfl, by decide +kernel, rfl, by decide +kernel, by decide +kernel⟩
theorem sc_check_between : FnScope ["value", "low", "high"] ["value", "low", "high"] (defScope s_check_between) := ⟨rfl, rfl, rfl, by decide +kernel, rfl, by decide +kernel, by decide +kernel⟩
theorem sc_check_d : FnScope ["d"] ["d"] (defScope s_check_d) := ⟨rfl, rfl, rfl, by decide +kernel, rfl, by decide +kernel, by decide +kernel⟩
theorem sc_whole_power : FnScope ["base", "exponent", "made", "_"] ["base", "exponent"] (defScope s_whole_power) := ⟨rfl, rfl, rfl, by decide +kernel, rfl, by decide +kernel, by decide +kernel⟩
theorem sc_is_field : FnScope ["value"] ["value"] (defScope s_is_field) := ⟨rfl, rfl, rfl, by decide +kernel, rfl, by decide +kernel, by decide +kernel⟩
theorem sc_check_field : FnScope ["q"] ["q"] (defScope s_check_field) := ⟨rfl, rfl, rfl, by decide +kernel, rfl, by decide +kernel, by decide +kernel⟩
theorem sc_packed_product : FnScope ["q", "a", "b", "many", "most"] ["q", "a", "b"] (defScope s_packed_product) := ⟨rfl, rfl, rfl, by decide +kernel, rfl, by decide +kernel, by decide +kernel⟩
theorem sc_trimmed : FnScope ["row", "end"] ["row"] (defScope s_trimmed) := ⟨rfl, rfl, rfl, by decide +kernel, rfl, by decide +kernel, by decide +kernel⟩
theorem sc_row_sum : FnScope ["q", "a", "b", "sums", "shared", "x", "y"] ["q", "a", "b"] (defScope s_row_sum) := ⟨rfl, rfl, rfl, by decide +kernel, rfl, by decide +kernel, by decide +kernel⟩
theorem sc_row_opposite : FnScope ["q", "a", "opposites", "x"] ["q", "a"] (defScope s_row_opposite) := ⟨rfl, rfl, rfl, by decide +kernel, rfl, by decide +kernel, by decide +kernel⟩
theorem sc_row_less : FnScope ["q", "a", "b"] ["q", "a", "b"] (defScope s_row_less) := ⟨rfl, rfl, rfl, by decide +kernel, rfl, by decide +kernel, by decide +kernel⟩
theorem sc_many_terms : FnScope ["a"] ["a"] (defScope s_many_terms) := ⟨rfl, rfl, rfl, by decide +kernel, rfl, by decide +kernel, by decide +kernel⟩
theorem sc_row_product : FnScope ["q", "a", "b"] ["q", "a", "b"] (defScope s_row_product) := ⟨rfl, rfl, rfl, by decide +kernel, rfl, by decide +kernel, by decide +kernel⟩
theorem sc_product_by_terms : FnScope ["q", "a", "b", "sums", "made", "at", "element", "products", "end", "x", "y"] ["q", "a", "b"] (defScope s_product_by_terms) := ⟨rfl, rfl, rfl, by decide +kernel, rfl, by decide +kernel, by decide +kernel⟩
theorem sc_check_made : FnScope ["degree"] ["degree"] (defScope s_check_made) := ⟨rfl, rfl, rfl, by decide +kernel, rfl, by decide +kernel, by decide +kernel⟩
theorem sc_two_powers : FnScope ["q", "i", "j"] ["q", "i", "j"] (defScope s_two_powers) := ⟨rfl, rfl, rfl, by decide +kernel, rfl, by decide +kernel, by decide +kernel⟩
theorem sc_product_of_all : FnScope ["q", "d", "made", "j"] ["q", "d"] (defScope s_product_of_all) := ⟨rfl, rfl, rfl, by decide +kernel, rfl, by decide +kernel, by decide +kernel⟩
theorem sc_all_product : FnScope ["q", "d"] ["q", "d"] (defScope s_all_product) := ⟨rfl, rfl, rfl, by decide +kernel, rfl, by decide +kernel, by decide +kernel⟩
theorem sc_multiple_degree : FnScope ["q", "d", "j"] ["q", "d"] (defScope s_multiple_degree) := ⟨rfl, rfl, rfl, by decide +kernel, rfl, by decide +kernel, by decide +kernel⟩
theorem sc_multiple_of_all : FnScope ["q", "d", "made", "j"] ["q", "d"] (defScope s_multiple_of_all) := ⟨rfl, rfl, rfl, by decide +kernel, rfl, by decide +kernel, by decide +kernel⟩
theorem sc_least_multiple : FnScope ["q", "d"] ["q", "d"] (defScope s_least_multiple) := ⟨rfl, rfl, rfl, by decide +kernel, rfl, by decide +kernel, by decide +kernel⟩
theorem sc__law_dice : FnScope ["_law_script", "_law_at", "_law_cell", "_law_great", "_law_left", "_law_mixed"] ["_law_script", "_law_at"] (defScope s__law_dice) := ⟨rfl, rfl, rfl, by decide +kernel, rfl, by decide +kernel, by decide +kernel⟩
theorem sc__law_roll : FnScope ["_law_dice_here", "_law_total", "_law_size_here", "_law_drawn", "_law_one", "_law_two"] ["_law_dice_here", "_law_total"] (defScope s__law_roll) := ⟨rfl, rfl, rfl, by decide +kernel, rfl, by decide +kernel, by decide +kernel⟩
theorem sc__law_one_of : FnScope ["_law_dice_here", "_law_items"] ["_law_dice_here", "_law_items"] (defScope s__law_one_of) := ⟨rfl, rfl, rfl, by decide +kernel, rfl, by decide +kernel, by decide +kernel⟩
theorem sc__law_raised : FnScope ["_law_base", "_law_count", "_law_found", "_law_turn"] ["_law_base", "_law_count"] (defScope s__law_raised) := ⟨rfl, rfl, rfl, by decide +kernel, rfl, by decide +kernel, by decide +kernel⟩
theorem sc__law_digits : FnScope ["_law_base", "_law_number", "_law_found", "_law_left"] ["_law_base", "_law_number"] (defScope s__law_digits) := ⟨rfl, rfl, rfl, by decide +kernel, rfl, by decide +kernel, by decide +kernel⟩
theorem sc__law_element_product : FnScope ["_law_p", "_law_f", "_law_one", "_law_other", "_law_found", "_law_i", "_law_left", "_law_j", "_law_right_here", "_law_value", "_law_digit"] ["_law_p", "_law_f", "_law_one", "_law_other"] (defScope s__law_element_product) := ⟨rfl, rfl, rfl, by decide +kernel, rfl, by decide +kernel, by decide +kernel⟩
theorem sc__law_element_sum : FnScope ["_law_p", "_law_f", "_law_one", "_law_other", "_law_found", "_law_place", "_law_turn"] ["_law_p", "_law_f", "_law_one", "_law_other"] (defScope s__law_element_sum) := ⟨rfl, rfl, rfl, by decide +kernel, rfl, by decide +kernel, by decide +kernel⟩
theorem sc__law_field : FnScope ["_law_q_here", "_law_p", "_law_f", "_law_plus", "_law_other", "_law_one", "_law_mul", "_law_row"] ["_law_q_here"] (defScope s__law_field) := ⟨rfl, rfl, rfl, by decide +kernel, rfl, by decide +kernel, by decide +kernel⟩
theorem sc__law_trim : FnScope ["_law_row", "_law_size_here"] ["_law_row"] (defScope s__law_trim) := ⟨rfl, rfl, rfl, by decide +kernel, rfl, by decide +kernel, by decide +kernel⟩
theorem sc__law_scaled : FnScope ["_law_field_here", "_law_element", "_law_one", "_law_a"] ["_law_field_here", "_law_element", "_law_one"] (defScope s__law_scaled) := ⟨rfl, rfl, rfl, by decide +kernel, rfl, by decide +kernel, by decide +kernel⟩
theorem sc__law_product : FnScope ["_law_field_here", "_law_one", "_law_other", "_law_found", "_law_plus", "_law_mul", "_law_j", "_law_right_here", "_law_i", "_law_left"] ["_law_field_here", "_law_one", "_law_other"] (defScope s__law_product) := ⟨rfl, rfl, rfl, by decide +kernel, rfl, by decide +kernel, by decide +kernel⟩
theorem sc__law_parted : FnScope ["_law_field_here", "_law_one", "_law_other", "_law_left", "_law_size_here", "_law_back", "_law_found", "_law_at", "_law_factor", "_law_i"] ["_law_field_here", "_law_one", "_law_other"] (defScope s__law_parted) := ⟨rfl, rfl, rfl, by decide +kernel, rfl, by decide +kernel, by decide +kernel⟩
theorem sc__law_rest : FnScope ["_law_field_here", "_law_one", "_law_other"] ["_law_field_here", "_law_one", "_law_other"] (defScope s__law_rest) := ⟨rfl, rfl, rfl, by decide +kernel, rfl, by decide +kernel, by decide +kernel⟩
theorem sc__law_stretched : FnScope ["_law_q_here", "_law_one", "_law_i", "_law_step", "_law_found", "_law_at", "_law_a"] ["_law_q_here", "_law_one", "_law_i"] (defScope s__law_stretched) := ⟨rfl, rfl, rfl, by decide +kernel, rfl, by decide +kernel, by decide +kernel⟩
theorem sc__law_common : FnScope ["_law_field_here", "_law_one", "_law_other"] ["_law_field_here", "_law_one", "_law_other"] (defScope s__law_common) := ⟨rfl, rfl, rfl, by decide +kernel, rfl, by decide +kernel, by decide +kernel⟩
theorem sc__law_monic_of : FnScope ["_law_field_here", "_law_one"] ["_law_field_here", "_law_one"] (defScope s__law_monic_of) := ⟨rfl, rfl, rfl, by decide +kernel, rfl, by decide +kernel, by decide +kernel⟩
theorem sc__law_lower : FnScope ["_law_q_here", "_law_d", "_law_found", "_law_number"] ["_law_q_here", "_law_d"] (defScope s__law_lower) := ⟨rfl, rfl, rfl, by decide +kernel, rfl, by decide +kernel, by decide +kernel⟩
theorem sc__law_monics : FnScope ["_law_q_here", "_law_d", "_law_a"] ["_law_q_here", "_law_d"] (defScope s__law_monics) := ⟨rfl, rfl, rfl, by decide +kernel, rfl, by decide +kernel, by decide +kernel⟩
theorem sc__law_q : FnScope ["_law_dice_here"] ["_law_dice_here"] (defScope s__law_q) := ⟨rfl, rfl, rfl, by decide +kernel, rfl, by decide +kernel, by decide +kernel⟩
theorem sc__law_size : FnScope ["_law_q_here", "_law_most", "_law_d"] ["_law_q_here", "_law_most"] (defScope s__law_size) := ⟨rfl, rfl, rfl, by decide +kernel, rfl, by decide +kernel, by decide +kernel⟩
theorem sc__law_bracket : FnScope ["_law_field_here", "_law_j"] ["_law_field_here", "_law_j"] (defScope s__law_bracket) := ⟨rfl, rfl, rfl, by decide +kernel, rfl, by decide +kernel, by decide +kernel⟩
theorem sc__law_all_product : FnScope ["_law_field_here", "_law_d", "_law_found", "_law_j"] ["_law_field_here", "_law_d"] (defScope s__law_all_product) := ⟨rfl, rfl, rfl, by decide +kernel, rfl, by decide +kernel, by decide +kernel⟩
theorem sc__law_least_multiple : FnScope ["_law_field_here", "_law_d", "_law_found", "_law_j"] ["_law_field_here", "_law_d"] (defScope s__law_least_multiple) := ⟨rfl, rfl, rfl, by decide +kernel, rfl, by decide +kernel, by decide +kernel⟩
theorem sc__law_right : FnScope ["_law_dice_here", "_law_q_here", "_law_field_here", "_law_d", "_law_product_here", "_law_least", "_law_one", "_law_size_here", "_law_great", "_law_more"] ["_law_dice_here"] (defScope s__law_right) := ⟨rfl, rfl, rfl, by decide +kernel, rfl, by decide +kernel, by decide +kernel⟩
theorem sc_law : FnScope ["_law_script", "_law_at", "_law_dice_here", "_law_turn"] ["_law_script"] (defScope s_law) := ⟨rfl, rfl, rfl, by decide +kernel, rfl, by decide +kernel, by decide +kernel⟩
structure Txt (K : PySem.W.Frag) (mg : Str → Option Value) where
  {a_is_integer : Addr}
  {d_is_integer : FuncData}
  F_is_integer : Fun K "is_integer" "is_integer" s_is_integer a_is_integer d_is_integer
  g_is_integer : mg "is_integer" = some (.ref a_is_integer)
  b_is_integer : Binds K d_is_integer ["value"] []
  {a_is_between : Addr}
  {d_is_between : FuncData}
  F_is_between : Fun K "is_between" "is_between" s_is_between a_is_between d_is_between
  g_is_between : mg "is_between" = some (.ref a_is_between)
  b_is_between : Binds K d_is_between ["value", "low", "high"] []
  {a_check_between : Addr}
  {d_check_between : FuncData}
  F_check_between : Fun K "check_between" "check_between" s_check_between a_check_between d_check_between
  g_check_between : mg "check_between" = some (.ref a_check_between)
  b_check_between : Binds K d_check_between ["value", "low", "high"] []
  {a_check_d : Addr}
  {d_check_d : FuncData}
  F_check_d : Fun K "check_d" "check_d" s_check_d a_check_d d_check_d
  g_check_d : mg "check_d" = some (.ref a_check_d)
  b_check_d : Binds K d_check_d ["d"] []
  {a_whole_power : Addr}
  {d_whole_power : FuncData}
  F_whole_power : Fun K "whole_power" "whole_power" s_whole_power a_whole_power d_whole_power
  g_whole_power : mg "whole_power" = some (.ref a_whole_power)
  b_whole_power : Binds K d_whole_power ["base", "exponent"] []
  {a_is_field : Addr}
  {d_is_field : FuncData}
  F_is_field : Fun K "is_field" "is_field" s_is_field a_is_field d_is_field
  g_is_field : mg "is_field" = some (.ref a_is_field)
  b_is_field : Binds K d_is_field ["value"] []
  {a_check_field : Addr}
  {d_check_field : FuncData}
  F_check_field : Fun K "check_field" "check_field" s_check_field a_check_field d_check_field
  g_check_field : mg "check_field" = some (.ref a_check_field)
  b_check_field : Binds K d_check_field ["q"] []
  {a_packed_product : Addr}
  {d_packed_product : FuncData}
  F_packed_product : Fun K "packed_product" "packed_product" s_packed_product a_packed_product d_packed_product
  g_packed_product : mg "packed_product" = some (.ref a_packed_product)
  b_packed_product : Binds K d_packed_product ["q", "a", "b"] []
  {a_trimmed : Addr}
  {d_trimmed : FuncData}
  F_trimmed : Fun K "trimmed" "trimmed" s_trimmed a_trimmed d_trimmed
  g_trimmed : mg "trimmed" = some (.ref a_trimmed)
  b_trimmed : Binds K d_trimmed ["row"] []
  {a_row_sum : Addr}
  {d_row_sum : FuncData}
  F_row_sum : Fun K "row_sum" "row_sum" s_row_sum a_row_sum d_row_sum
  g_row_sum : mg "row_sum" = some (.ref a_row_sum)
  b_row_sum : Binds K d_row_sum ["q", "a", "b"] []
  {a_row_opposite : Addr}
  {d_row_opposite : FuncData}
  F_row_opposite : Fun K "row_opposite" "row_opposite" s_row_opposite a_row_opposite d_row_opposite
  g_row_opposite : mg "row_opposite" = some (.ref a_row_opposite)
  b_row_opposite : Binds K d_row_opposite ["q", "a"] []
  {a_row_less : Addr}
  {d_row_less : FuncData}
  F_row_less : Fun K "row_less" "row_less" s_row_less a_row_less d_row_less
  g_row_less : mg "row_less" = some (.ref a_row_less)
  b_row_less : Binds K d_row_less ["q", "a", "b"] []
  {a_many_terms : Addr}
  {d_many_terms : FuncData}
  F_many_terms : Fun K "many_terms" "many_terms" s_many_terms a_many_terms d_many_terms
  g_many_terms : mg "many_terms" = some (.ref a_many_terms)
  b_many_terms : Binds K d_many_terms ["a"] []
  {a_row_product : Addr}
  {d_row_product : FuncData}
  F_row_product : Fun K "row_product" "row_product" s_row_product a_row_product d_row_product
  g_row_product : mg "row_product" = some (.ref a_row_product)
  b_row_product : Binds K d_row_product ["q", "a", "b"] []
  {a_product_by_terms : Addr}
  {d_product_by_terms : FuncData}
  F_product_by_terms : Fun K "product_by_terms" "product_by_terms" s_product_by_terms a_product_by_terms d_product_by_terms
  g_product_by_terms : mg "product_by_terms" = some (.ref a_product_by_terms)
  b_product_by_terms : Binds K d_product_by_terms ["q", "a", "b"] []
  {a_check_made : Addr}
  {d_check_made : FuncData}
  F_check_made : Fun K "check_made" "check_made" s_check_made a_check_made d_check_made
  g_check_made : mg "check_made" = some (.ref a_check_made)
  b_check_made : Binds K d_check_made ["degree"] []
  {a_two_powers : Addr}
  {d_two_powers : FuncData}
  F_two_powers : Fun K "two_powers" "two_powers" s_two_powers a_two_powers d_two_powers
  g_two_powers : mg "two_powers" = some (.ref a_two_powers)
  b_two_powers : Binds K d_two_powers ["q", "i", "j"] []
  {a_product_of_all : Addr}
  {d_product_of_all : FuncData}
  F_product_of_all : Fun K "product_of_all" "product_of_all" s_product_of_all a_product_of_all d_product_of_all
  g_product_of_all : mg "product_of_all" = some (.ref a_product_of_all)
  b_product_of_all : Binds K d_product_of_all ["q", "d"] []
  {a_all_product : Addr}
  {d_all_product : FuncData}
  F_all_product : Fun K "all_product" "all_product" s_all_product a_all_product d_all_product
  g_all_product : mg "all_product" = some (.ref a_all_product)
  b_all_product : Binds K d_all_product ["q", "d"] []
  {a_multiple_degree : Addr}
  {d_multiple_degree : FuncData}
  F_multiple_degree : Fun K "multiple_degree" "multiple_degree" s_multiple_degree a_multiple_degree d_multiple_degree
  g_multiple_degree : mg "multiple_degree" = some (.ref a_multiple_degree)
  b_multiple_degree : Binds K d_multiple_degree ["q", "d"] []
  {a_multiple_of_all : Addr}
  {d_multiple_of_all : FuncData}
  F_multiple_of_all : Fun K "multiple_of_all" "multiple_of_all" s_multiple_of_all a_multiple_of_all d_multiple_of_all
  g_multiple_of_all : mg "multiple_of_all" = some (.ref a_multiple_of_all)
  b_multiple_of_all : Binds K d_multiple_of_all ["q", "d"] []
  {a_least_multiple : Addr}
  {d_least_multiple : FuncData}
  F_least_multiple : Fun K "least_multiple" "least_multiple" s_least_multiple a_least_multiple d_least_multiple
  g_least_multiple : mg "least_multiple" = some (.ref a_least_multiple)
  b_least_multiple : Binds K d_least_multiple ["q", "d"] []
  {a__law_dice : Addr}
  {d__law_dice : FuncData}
  F__law_dice : Fun K "_law_dice" "_law_dice" s__law_dice a__law_dice d__law_dice
  g__law_dice : mg "_law_dice" = some (.ref a__law_dice)
  b__law_dice : Binds K d__law_dice ["_law_script", "_law_at"] []
  {a__law_roll : Addr}
  {d__law_roll : FuncData}
  F__law_roll : Fun K "_law_roll" "_law_roll" s__law_roll a__law_roll d__law_roll
  g__law_roll : mg "_law_roll" = some (.ref a__law_roll)
  b__law_roll : Binds K d__law_roll ["_law_dice_here", "_law_total"] []
  {a__law_one_of : Addr}
  {d__law_one_of : FuncData}
  F__law_one_of : Fun K "_law_one_of" "_law_one_of" s__law_one_of a__law_one_of d__law_one_of
  g__law_one_of : mg "_law_one_of" = some (.ref a__law_one_of)
  b__law_one_of : Binds K d__law_one_of ["_law_dice_here", "_law_items"] []
  {a__law_raised : Addr}
  {d__law_raised : FuncData}
  F__law_raised : Fun K "_law_raised" "_law_raised" s__law_raised a__law_raised d__law_raised
  g__law_raised : mg "_law_raised" = some (.ref a__law_raised)
  b__law_raised : Binds K d__law_raised ["_law_base", "_law_count"] []
  {a__law_digits : Addr}
  {d__law_digits : FuncData}
  F__law_digits : Fun K "_law_digits" "_law_digits" s__law_digits a__law_digits d__law_digits
  g__law_digits : mg "_law_digits" = some (.ref a__law_digits)
  b__law_digits : Binds K d__law_digits ["_law_base", "_law_number"] []
  {a__law_element_product : Addr}
  {d__law_element_product : FuncData}
  F__law_element_product : Fun K "_law_element_product" "_law_element_product" s__law_element_product a__law_element_product d__law_element_product
  g__law_element_product : mg "_law_element_product" = some (.ref a__law_element_product)
  b__law_element_product : Binds K d__law_element_product ["_law_p", "_law_f", "_law_one", "_law_other"] []
  {a__law_element_sum : Addr}
  {d__law_element_sum : FuncData}
  F__law_element_sum : Fun K "_law_element_sum" "_law_element_sum" s__law_element_sum a__law_element_sum d__law_element_sum
  g__law_element_sum : mg "_law_element_sum" = some (.ref a__law_element_sum)
  b__law_element_sum : Binds K d__law_element_sum ["_law_p", "_law_f", "_law_one", "_law_other"] []
  {a__law_field : Addr}
  {d__law_field : FuncData}
  F__law_field : Fun K "_law_field" "_law_field" s__law_field a__law_field d__law_field
  g__law_field : mg "_law_field" = some (.ref a__law_field)
  b__law_field : Binds K d__law_field ["_law_q_here"] []
  {a__law_trim : Addr}
  {d__law_trim : FuncData}
  F__law_trim : Fun K "_law_trim" "_law_trim" s__law_trim a__law_trim d__law_trim
  g__law_trim : mg "_law_trim" = some (.ref a__law_trim)
  b__law_trim : Binds K d__law_trim ["_law_row"] []
  {a__law_scaled : Addr}
  {d__law_scaled : FuncData}
  F__law_scaled : Fun K "_law_scaled" "_law_scaled" s__law_scaled a__law_scaled d__law_scaled
  g__law_scaled : mg "_law_scaled" = some (.ref a__law_scaled)
  b__law_scaled : Binds K d__law_scaled ["_law_field_here", "_law_element", "_law_one"] []
  {a__law_product : Addr}
  {d__law_product : FuncData}
  F__law_product : Fun K "_law_product" "_law_product" s__law_product a__law_product d__law_product
  g__law_product : mg "_law_product" = some (.ref a__law_product)
  b__law_product : Binds K d__law_product ["_law_field_here", "_law_one", "_law_other"] []
  {a__law_parted : Addr}
  {d__law_parted : FuncData}
  F__law_parted : Fun K "_law_parted" "_law_parted" s__law_parted a__law_parted d__law_parted
  g__law_parted : mg "_law_parted" = some (.ref a__law_parted)
  b__law_parted : Binds K d__law_parted ["_law_field_here", "_law_one", "_law_other"] []
  {a__law_rest : Addr}
  {d__law_rest : FuncData}
  F__law_rest : Fun K "_law_rest" "_law_rest" s__law_rest a__law_rest d__law_rest
  g__law_rest : mg "_law_rest" = some (.ref a__law_rest)
  b__law_rest : Binds K d__law_rest ["_law_field_here", "_law_one", "_law_other"] []
  {a__law_stretched : Addr}
  {d__law_stretched : FuncData}
  F__law_stretched : Fun K "_law_stretched" "_law_stretched" s__law_stretched a__law_stretched d__law_stretched
  g__law_stretched : mg "_law_stretched" = some (.ref a__law_stretched)
  b__law_stretched : Binds K d__law_stretched ["_law_q_here", "_law_one", "_law_i"] []
  {a__law_common : Addr}
  {d__law_common : FuncData}
  F__law_common : Fun K "_law_common" "_law_common" s__law_common a__law_common d__law_common
  g__law_common : mg "_law_common" = some (.ref a__law_common)
  b__law_common : Binds K d__law_common ["_law_field_here", "_law_one", "_law_other"] []
  {a__law_monic_of : Addr}
  {d__law_monic_of : FuncData}
  F__law_monic_of : Fun K "_law_monic_of" "_law_monic_of" s__law_monic_of a__law_monic_of d__law_monic_of
  g__law_monic_of : mg "_law_monic_of" = some (.ref a__law_monic_of)
  b__law_monic_of : Binds K d__law_monic_of ["_law_field_here", "_law_one"] []
  {a__law_lower : Addr}
  {d__law_lower : FuncData}
  F__law_lower : Fun K "_law_lower" "_law_lower" s__law_lower a__law_lower d__law_lower
  g__law_lower : mg "_law_lower" = some (.ref a__law_lower)
  b__law_lower : Binds K d__law_lower ["_law_q_here", "_law_d"] []
  {a__law_monics : Addr}
  {d__law_monics : FuncData}
  F__law_monics : Fun K "_law_monics" "_law_monics" s__law_monics a__law_monics d__law_monics
  g__law_monics : mg "_law_monics" = some (.ref a__law_monics)
  b__law_monics : Binds K d__law_monics ["_law_q_here", "_law_d"] []
  {a__law_q : Addr}
  {d__law_q : FuncData}
  F__law_q : Fun K "_law_q" "_law_q" s__law_q a__law_q d__law_q
  g__law_q : mg "_law_q" = some (.ref a__law_q)
  b__law_q : Binds K d__law_q ["_law_dice_here"] []
  {a__law_size : Addr}
  {d__law_size : FuncData}
  F__law_size : Fun K "_law_size" "_law_size" s__law_size a__law_size d__law_size
  g__law_size : mg "_law_size" = some (.ref a__law_size)
  b__law_size : Binds K d__law_size ["_law_q_here", "_law_most"] []
  {a__law_bracket : Addr}
  {d__law_bracket : FuncData}
  F__law_bracket : Fun K "_law_bracket" "_law_bracket" s__law_bracket a__law_bracket d__law_bracket
  g__law_bracket : mg "_law_bracket" = some (.ref a__law_bracket)
  b__law_bracket : Binds K d__law_bracket ["_law_field_here", "_law_j"] []
  {a__law_all_product : Addr}
  {d__law_all_product : FuncData}
  F__law_all_product : Fun K "_law_all_product" "_law_all_product" s__law_all_product a__law_all_product d__law_all_product
  g__law_all_product : mg "_law_all_product" = some (.ref a__law_all_product)
  b__law_all_product : Binds K d__law_all_product ["_law_field_here", "_law_d"] []
  {a__law_least_multiple : Addr}
  {d__law_least_multiple : FuncData}
  F__law_least_multiple : Fun K "_law_least_multiple" "_law_least_multiple" s__law_least_multiple a__law_least_multiple d__law_least_multiple
  g__law_least_multiple : mg "_law_least_multiple" = some (.ref a__law_least_multiple)
  b__law_least_multiple : Binds K d__law_least_multiple ["_law_field_here", "_law_d"] []
  {a__law_right : Addr}
  {d__law_right : FuncData}
  F__law_right : Fun K "_law_right" "_law_right" s__law_right a__law_right d__law_right
  g__law_right : mg "_law_right" = some (.ref a__law_right)
  b__law_right : Binds K d__law_right ["_law_dice_here"] []
  {a_law : Addr}
  {d_law : FuncData}
  F_law : Fun K "law" "law" s_law a_law d_law
  g_law : mg "law" = some (.ref a_law)
  b_law : Binds K d_law ["_law_script"] []
  z_isinstance : mg "isinstance" = none
  z_int : mg "int" = none
  z_bool : mg "bool" = none
  z_range : mg "range" = none
  z_min : mg "min" = none
  z_len : mg "len" = none
  z_tuple : mg "tuple" = none
  z_zip : mg "zip" = none
  z_list : mg "list" = none
  z_enumerate : mg "enumerate" = none
  z_sum : mg "sum" = none
  z_abs : mg "abs" = none
  z_max : mg "max" = none
  {t_TOO_LONG : Tok}
  c_TOO_LONG : mg "TOO_LONG" = some (.int 1000000000000000000000000000000000000000000000000000000000000 t_TOO_LONG)
  {a_PRIMES : Addr}
  g_PRIMES : mg "PRIMES" = some (.ref a_PRIMES)
  w_PRIMES : tab0 K a_PRIMES = some W_PRIMES
  {a_POWERS : Addr}
  g_POWERS : mg "POWERS" = some (.ref a_POWERS)
  w_POWERS : tab0 K a_POWERS = some W_POWERS
  {a_SUMS : Addr}
  g_SUMS : mg "SUMS" = some (.ref a_SUMS)
  w_SUMS : tab2 K a_SUMS = some W_SUMS
  {a_PRODUCTS : Addr}
  g_PRODUCTS : mg "PRODUCTS" = some (.ref a_PRODUCTS)
  w_PRODUCTS : tab2 K a_PRODUCTS = some W_PRODUCTS
  {a_OPPOSITES : Addr}
  g_OPPOSITES : mg "OPPOSITES" = some (.ref a_OPPOSITES)
  w_OPPOSITES : tab1 K a_OPPOSITES = some W_OPPOSITES
  {a_FIELDS : Addr}
  g_FIELDS : mg "FIELDS" = some (.ref a_FIELDS)
  w_FIELDS : asRow K (.ref a_FIELDS) = some W_FIELDS
  {t_FEW : Tok}
  c_FEW : mg "FEW" = some (.int 8 t_FEW)
  {t_MAX_MADE : Tok}
  c_MAX_MADE : mg "MAX_MADE" = some (.int 2000 t_MAX_MADE)
end Own
namespace Own
open PySem PySem.Spec PyProof.Rows L2 Evl

def sp_digit_row (K : PySem.W.Frag) : Sp := fun vs H Q _ => ∃ (b n : Nat), vs = [N_ b, N_ n] ∧ Bs b ∧ Gt n ∧ RetL ((dg b n).map N_) H Q


def sp_row_integer (K : PySem.W.Frag) : Sp := fun vs H Q _ => ∃ (b : Nat) (a : Addr) (xs : List Nat), vs = [N_ b, .ref a] ∧ Bs b ∧ SqT K H a (xs.map N_) ∧ xs.length ≤ 410 ∧ (∀ d ∈ xs, d < b) ∧ RetV (N_ (od b xs)) H Q


def sp_digit_total (K : PySem.W.Frag) : Sp := fun vs H Q _ => ∃ (b n : Nat), vs = [N_ b, N_ n] ∧ Bs b ∧ Gt n ∧ RetV (N_ (ds b n)) H Q
theorem sv_digit_row {K : PySem.W.Frag} {H : Hp} {b n : Nat} (hb : Bs b) (hn : Gt n) : SpL (sp_digit_row K) [N_ b, N_ n] H ((dg b n).map N_) := fun H1 _ Q q E => ⟨b, n, rfl, hb, hn, q⟩
theorem sv_digit_total {K : PySem.W.Frag} {H : Hp} {b n : Nat} (hb : Bs b) (hn : Gt n) : SpV (sp_digit_total K) [N_ b, N_ n] H (N_ (ds b n)) := fun H1 _ Q q E => ⟨b, n, rfl, hb, hn, q⟩


def sp_are_carry_free (K : PySem.W.Frag) : Sp := fun vs H Q _ => ∃ (b : Nat) (a : Addr) (xs : List Nat), vs = [N_ b, .ref a] ∧ Bs b ∧ SqT K H a (xs.map N_) ∧ xs.length ≤ 410 ∧ Gt xs.sum ∧ RetV (.bl (decide ((xs.map (ds b)).sum = ds b xs.sum))) H Q


abbrev Sm (x : Int) : Prop := x.natAbs < 10 ^ 60
def sp_is_integer (K : PySem.W.Frag) : Sp := fun vs H Q _ => ∃ (x : Int), vs = [.int x] ∧ Sm x ∧ RetV (.bl true) H Q
theorem sv_is_integer {K : PySem.W.Frag} {H : Hp} {x : Int} (h : Sm x) : SpV (sp_is_integer K) [.int x] H (.bl true) := fun H1 _ Q q E => ⟨x, rfl, h, q⟩
theorem sm_abs {x : Int} (h : Sm x) : (decide (-1000000000000000000000000000000000000000000000000000000000000 < x) && decide (x < 1000000000000000000000000000000000000000000000000000000000000)) = true := by
  have h' : x.natAbs < 10 ^ 60 := h
  rw [decide_eq_true (by omega), decide_eq_true (by omega)]
  rfl

theorem ok_is_integer {P : Program} {w : World} {K : PySem.W.Frag} {mg : Str → Option Value} {base : Heap} (T : Txt K mg) : FnOk P w K mg base CX0 1 T.a_is_integer T.d_is_integer ["value"] (sp_is_integer K) := by
  refine T.F_is_integer.ok sc_is_integer (fun vs H Q E h => ?_) (fun cdv A outer s H vs Q E hr h => ?_)
  · obtain ⟨x, rfl, _⟩ := h
    rfl
  · obtain ⟨x, rfl, hx, k⟩ := h
    refine ⟨_, (pss_one (ps_ret (pe_and (pe_callB call_isi (by rfl) T.z_isinstance (by decide +kernel) (pa_cons (pv 0) (pa_cons (pe_bltn (v := .ty "int") (u := .type "int") (by rfl) T.z_int (by decide +kernel) rfl) pa_nil))) (pe_and (pe_not (pe_callB call_isi (by rfl) T.z_isinstance (by decide +kernel) (pa_cons (pv 0) (pa_cons (pe_bltn (v := .ty "bool") (u := .type "bool") (by rfl) T.z_bool (by decide +kernel) rfl) pa_nil)))) (pe_one (pe_chain op_lt op_lt (pe_un un_neg (pe_glob (v := .int 1000000000000000000000000000000000000000000000000000000000000) (by rfl) T.c_TOO_LONG ⟨_, rfl⟩)) (pv 0) (pe_glob (v := .int 1000000000000000000000000000000000000000000000000000000000000) (by rfl) T.c_TOO_LONG ⟨_, rfl⟩))))))), ?_⟩
    refine s_ret (ev_is (ev_andV (ev_cb (ea_cons (ev_var rfl) (ea_cons ev_c ea_nil)) (rc_isi (b := true) (.base (.int x)) (kit_ty (by decide +kernel)))) fun _ =>
      (ev_andV (ev_notV (ev_cb (ea_cons (ev_var rfl) (ea_cons ev_c ea_nil)) (rc_isi (b := false) (.base (.int x)) (kit_ty (by decide +kernel))))) fun _ =>
        (ev_chain (ev_un ev_c ru_neg) (ev_var rfl) rv_I0 (fun _ => ev_c) (fun _ => rv_I0)))) ?_) fun H1 e1 => k H1 e1
    rw [sm_abs hx]
    rfl


def sp_is_from (K : PySem.W.Frag) : Sp := fun vs H Q _ => ∃ (x l : Int), vs = [.int x, .int l] ∧ Sm x ∧ RetV (.bl (decide (l ≤ x))) H Q
theorem sv_is_from {K : PySem.W.Frag} {H : Hp} {x l : Int} (h : Sm x) : SpV (sp_is_from K) [.int x, .int l] H (.bl (decide (l ≤ x))) := fun H1 _ Q q E => ⟨x, l, rfl, h, q⟩


def sp_is_between (K : PySem.W.Frag) : Sp := fun vs H Q _ => ∃ (x l u : Int), vs = [.int x, .int l, .int u] ∧ Sm x ∧ RetV (.bl (decide (l ≤ x) && decide (x ≤ u))) H Q
theorem sv_is_between {K : PySem.W.Frag} {H : Hp} {x l u : Int} (h : Sm x) : SpV (sp_is_between K) [.int x, .int l, .int u] H (.bl (decide (l ≤ x) && decide (x ≤ u))) := fun H1 _ Q q E => ⟨x, l, u, rfl, h, q⟩

theorem ok_is_between {P : Program} {w : World} {K : PySem.W.Frag} {mg : Str → Option Value} {base : Heap} (T : Txt K mg) : FnOk P w K mg base CX0 2 T.a_is_between T.d_is_between ["value", "low", "high"] (sp_is_between K) := by
  refine T.F_is_between.ok sc_is_between (fun vs H Q E h => ?_) (fun cdv A outer s H vs Q E hr h => ?_)
  · obtain ⟨x, l, u, rfl, _⟩ := h
    rfl
  · obtain ⟨x, l, u, rfl, hx, k⟩ := h
    refine ⟨_, (pss_one (ps_ret (pe_and (pe_call (ok_is_integer T) (hr.mono (by decide)) (by rfl) T.g_is_integer T.F_is_integer.kp T.b_is_integer .nil pass0 (pa_cons (pv 0) pa_nil)) (pe_one (pe_chain op_le op_le (pv 1) (pv 0) (pv 2)))))), ?_⟩
    refine s_ret (ev_andV (ev_call (ea_cons (ev_var rfl) ea_nil) (sv_is_integer hx)) fun _ => (ev_chain (ev_var rfl) (ev_var rfl) rv_I0 (fun _ => ev_var rfl) (fun _ => rv_I0))) fun H1 e1 => k H1 e1


def sp_check_from (K : PySem.W.Frag) : Sp := fun vs H Q _ => ∃ (x l : Int), vs = [.int x, .int l] ∧ Sm x ∧ l ≤ x ∧ RetV .non H Q
theorem sv_check_from {K : PySem.W.Frag} {H : Hp} {x l : Int} (h : Sm x) (h2 : l ≤ x) : SpV (sp_check_from K) [.int x, .int l] H .non := fun H1 _ Q q E => ⟨x, l, rfl, h, h2, q⟩


def sp_check_between (K : PySem.W.Frag) : Sp := fun vs H Q _ => ∃ (x l u : Int), vs = [.int x, .int l, .int u] ∧ Sm x ∧ l ≤ x ∧ x ≤ u ∧ RetV .non H Q
theorem sv_check_between {K : PySem.W.Frag} {H : Hp} {x l u : Int} (h : Sm x) (h2 : l ≤ x) (h3 : x ≤ u) : SpV (sp_check_between K) [.int x, .int l, .int u] H .non := fun H1 _ Q q E => ⟨x, l, u, rfl, h, h2, h3, q⟩

theorem ok_check_between {P : Program} {w : World} {K : PySem.W.Frag} {mg : Str → Option Value} {base : Heap} (T : Txt K mg) : FnOk P w K mg base CX0 3 T.a_check_between T.d_check_between ["value", "low", "high"] (sp_check_between K) := by
  refine T.F_check_between.ok sc_check_between (fun vs H Q E h => ?_) (fun cdv A outer s H vs Q E hr h => ?_)
  · obtain ⟨x, l, u, rfl, _⟩ := h
    rfl
  · obtain ⟨x, l, u, rfl, hx, hl, hu, k⟩ := h
    refine ⟨_, (pss_one (ps_if (pt_not (pt_val (pe_call (ok_is_between T) (hr.mono (by decide)) (by rfl) T.g_is_between T.F_is_between.kp T.b_is_between .nil pass0 (pa_cons (pv 0) (pa_cons (pv 1) (pa_cons (pv 2) pa_nil)))))) (pss_one ps_never) pss_nil)), ?_⟩
    refine s_when (et_not (et_B (ev_call (ea_cons (ev_var rfl) (ea_cons (ev_var rfl) (ea_cons (ev_var rfl) ea_nil))) (sv_is_between hx)))) (fun hb => ?_) (fun _ H1 e1 => k H1 e1)
    rw [decide_eq_true hl, decide_eq_true hu] at hb
    cases hb


def sp_check_base (K : PySem.W.Frag) : Sp := fun vs H Q _ => ∃ (b : Nat), vs = [N_ b] ∧ Bs b ∧ RetV .non H Q
theorem sv_check_base {K : PySem.W.Frag} {H : Hp} {b : Nat} (h : Bs b) : SpV (sp_check_base K) [N_ b] H .non := fun H1 _ Q q E => ⟨b, rfl, h, q⟩
theorem sm_b {b : Nat} (h : Bs b) : Sm (b : Int) := by
  have := h.2
  show (Int.natAbs (b : Int)) < 10 ^ 60
  have e : (1001 : Nat) ≤ 10 ^ 60 := by decide
  omega


def sp_check_numbers (K : PySem.W.Frag) : Sp := fun vs H Q _ => ∃ (a : Addr) (xs : List Nat), vs = [.ref a] ∧ SqT K H a (xs.map N_) ∧ 1 ≤ xs.length ∧ xs.length ≤ 400 ∧ (∀ d ∈ xs, d < 10 ^ 60) ∧ RetV .non H Q
theorem sv_check_numbers {K : PySem.W.Frag} {H : Hp} {a : Addr} {xs : List Nat} (h : SqT K H a (xs.map N_)) (h1 : 1 ≤ xs.length) (h2 : xs.length ≤ 400) (h3 : ∀ d ∈ xs, d < 10 ^ 60) : SpV (sp_check_numbers K) [.ref a] H .non := fun H1 e Q q E => ⟨a, xs, rfl, ex_t e h, h1, h2, h3, q⟩
theorem sm_n {n : Nat} (h : n < 10 ^ 60) : Sm (n : Int) := h


def sp_digits (K : PySem.W.Frag) : Sp := fun vs H Q _ => ∃ (b n : Nat), vs = [N_ b, N_ n] ∧ Bs b ∧ n < 10 ^ 60 ∧ RetU ((dg b n).map N_) H Q
theorem gt_n {n : Nat} (h : n < 10 ^ 60) : Gt n := Nat.lt_trans h (by decide)
theorem sv_digits {K : PySem.W.Frag} {H : Hp} {b n : Nat} (hb : Bs b) (hn : n < 10 ^ 60) : SpU (sp_digits K) [N_ b, N_ n] H ((dg b n).map N_) := fun H1 _ Q q E => ⟨b, n, rfl, hb, hn, q⟩


def sp_of_digits (K : PySem.W.Frag) : Sp := fun vs H Q _ => ∃ (b : Nat) (a : Addr) (xs : List Nat), vs = [N_ b, .ref a] ∧ Bs b ∧ SqT K H a (xs.map N_) ∧ xs.length ≤ 400 ∧ (∀ d ∈ xs, d < b) ∧ RetV (N_ (od b xs)) H Q
theorem sv_of_digits {K : PySem.W.Frag} {H : Hp} {b : Nat} {a : Addr} {xs : List Nat} (hb : Bs b) (h : SqT K H a (xs.map N_)) (hl : xs.length ≤ 400) (hx : ∀ d ∈ xs, d < b) : SpV (sp_of_digits K) [N_ b, .ref a] H (N_ (od b xs)) := fun H1 e Q q E => ⟨b, a, xs, rfl, hb, ex_t e h, hl, hx, q⟩
theorem sv_row_integer {K : PySem.W.Frag} {H : Hp} {b : Nat} {a : Addr} {xs : List Nat} (hb : Bs b) (h : SqT K H a (xs.map N_)) (hl : xs.length ≤ 410) (hx : ∀ d ∈ xs, d < b) : SpV (sp_row_integer K) [N_ b, .ref a] H (N_ (od b xs)) := fun H1 e Q q E => ⟨b, a, xs, rfl, hb, ex_t e h, hl, hx, q⟩
theorem all_true {α : Type} (xs : List α) : (xs.map fun _ => true).all id = true := by
  rw [List.all_eq_true]
  intro z hz
  obtain ⟨_, _, rfl⟩ := List.mem_map.mp hz
  rfl


def sp_digit_sum (K : PySem.W.Frag) : Sp := fun vs H Q _ => ∃ (b n : Nat), vs = [N_ b, N_ n] ∧ Bs b ∧ n < 10 ^ 60 ∧ RetV (N_ (ds b n)) H Q
theorem sv_digit_sum {K : PySem.W.Frag} {H : Hp} {b n : Nat} (hb : Bs b) (hn : n < 10 ^ 60) : SpV (sp_digit_sum K) [N_ b, N_ n] H (N_ (ds b n)) := fun H1 _ Q q E => ⟨b, n, rfl, hb, hn, q⟩


def sp_carries (K : PySem.W.Frag) : Sp := fun vs H Q _ => ∃ (b x y : Nat), vs = [N_ b, N_ x, N_ y] ∧ Bs b ∧ x < 10 ^ 60 ∧ y < 10 ^ 60 ∧ RetV (N_ (cc b 0 x y)) H Q
theorem sv_carries {K : PySem.W.Frag} {H : Hp} {b x y : Nat} (hb : Bs b) (hx : x < 10 ^ 60) (hy : y < 10 ^ 60) : SpV (sp_carries K) [N_ b, N_ x, N_ y] H (N_ (cc b 0 x y)) := fun H1 _ Q q E => ⟨b, x, y, rfl, hb, hx, hy, q⟩
theorem car_eq {b x y : Nat} (hb : Bs b) : ((ds b x : Nat) + (ds b y : Nat) - (ds b (x + y) : Nat) : Int) / ((b : Int) - 1) = ((cc b 0 x y : Nat) : Int) := by
  have h := ds_plus (b := b) hb.1 x y
  have e : ((ds b x : Nat) + (ds b y : Nat) - (ds b (x + y) : Nat) : Int) = ((b : Int) - 1) * ((cc b 0 x y : Nat) : Int) := by
    have h2 : ((b : Int) - 1) = ((b - 1 : Nat) : Int) := by have := hb.1; omega
    rw [h2, ← Int.natCast_mul]
    omega
  rw [e]
  exact Int.mul_ediv_cancel_left _ (by have := hb.1; omega)


def sp_has_no_carries (K : PySem.W.Frag) : Sp := fun vs H Q _ => ∃ (b : Nat) (a : Addr) (xs : List Nat), vs = [N_ b, .ref a] ∧ Bs b ∧ SqT K H a (xs.map N_) ∧ 1 ≤ xs.length ∧ xs.length ≤ 400 ∧ (∀ d ∈ xs, d < 10 ^ 60) ∧ RetV (.bl (decide ((xs.map (ds b)).sum = ds b xs.sum))) H Q
theorem sv_has_no_carries {K : PySem.W.Frag} {H : Hp} {b : Nat} {a : Addr} {xs : List Nat} (hb : Bs b) (h : SqT K H a (xs.map N_)) (h1 : 1 ≤ xs.length) (h2 : xs.length ≤ 400) (h3 : ∀ d ∈ xs, d < 10 ^ 60) : SpV (sp_has_no_carries K) [N_ b, .ref a] H (.bl (decide ((xs.map (ds b)).sum = ds b xs.sum))) := fun H1 e Q q E => ⟨b, a, xs, rfl, hb, ex_t e h, h1, h2, h3, q⟩
theorem sv_are_carry_free {K : PySem.W.Frag} {H : Hp} {b : Nat} {a : Addr} {xs : List Nat} (hb : Bs b) (h : SqT K H a (xs.map N_)) (h2 : xs.length ≤ 410) (h3 : Gt xs.sum) : SpV (sp_are_carry_free K) [N_ b, .ref a] H (.bl (decide ((xs.map (ds b)).sum = ds b xs.sum))) := fun H1 e Q q E => ⟨b, a, xs, rfl, hb, ex_t e h, h2, h3, q⟩
theorem sum_bound {m : Nat} : ∀ xs : List Nat, (∀ d ∈ xs, d < m) → xs.sum ≤ xs.length * m
  | [], _ => Nat.zero_le _
  | x :: r, h => by
    rw [List.sum_cons, List.length_cons, Nat.succ_mul]
    have h1 := h x (List.mem_cons_self ..)
    have h2 := sum_bound r fun d hd => h d (List.mem_cons_of_mem _ hd)
    omega


def FQ : List Nat := [2, 3, 4, 5, 7, 8, 9]
def Fq (q : Nat) : Prop := q ∈ FQ
theorem Fq.b {q : Nat} (h : Fq q) : 2 ≤ q ∧ q ≤ 9 := by
  unfold Fq FQ at h
  simp only [List.mem_cons, List.not_mem_nil, or_false] at h
  omega
def g0 (t : List (Int × Int)) (q : Nat) : Option Int := t.lookup (q : Int)
def prE (q : Nat) : Nat := ((g0 W_PRIMES q).getD 0).toNat
def poE (q : Nat) : Nat := ((g0 W_POWERS q).getD 0).toNat
def chkAll (f : Nat → Bool) : Bool := FQ.all f
theorem chk_get {f : Nat → Bool} (h : chkAll f = true) {q : Nat} (hq : Fq q) : f q = true := List.all_eq_true.mp h q hq
def all1 (q : Nat) (f : Nat → Bool) : Bool := (List.range q).all f
theorem all1_get {q : Nat} {f : Nat → Bool} (h : all1 q f = true) {a : Nat} (ha : a < q) : f a = true := List.all_eq_true.mp h a (List.mem_range.mpr ha)
theorem chk_tabs : chkAll (fun q => decide (g0 W_PRIMES q = some ((prE q : Nat) : Int)) && decide (g0 W_POWERS q = some ((poE q : Nat) : Int)) && decide (2 ≤ prE q) && decide (prE q ≤ 7) && decide (1 ≤ poE q) && decide (poE q ≤ 3) && decide (prE q ^ poE q = q)) = true := by decide +kernel
structure T0 (q : Nat) : Prop where
  pr : g0 W_PRIMES q = some ((prE q : Nat) : Int)
  po : g0 W_POWERS q = some ((poE q : Nat) : Int)
  p2 : 2 ≤ prE q
  p7 : prE q ≤ 7
  f1 : 1 ≤ poE q
  f3 : poE q ≤ 3
  pw : prE q ^ poE q = q
theorem t0_of {q : Nat} (hq : Fq q) : T0 q := by
  have h := chk_get chk_tabs hq
  simp only [Bool.and_eq_true, decide_eq_true_eq] at h
  exact ⟨h.1.1.1.1.1.1, h.1.1.1.1.1.2, h.1.1.1.1.2, h.1.1.1.2, h.1.1.2, h.1.2, h.2⟩
theorem tup_of {K : PySem.W.Frag} {a : Addr} {ns : List Int} (h : asRow K (.ref a) = some ns) (H : Hp) : SqT K H a (ns.map V.int) := by
  obtain ⟨b, e, hs⟩ := asRow_eq h
  cases e
  exact hs H
theorem inV_ints (i : Int) : ∀ ns : List Int, inV (.int i) (ns.map V.int) = decide (i ∈ ns)
  | [] => rfl
  | n :: r => by
    have ih := inV_ints i r
    unfold inV at ih ⊢
    rw [List.map_cons, List.any_cons, ih]
    show ((n == i) || decide (i ∈ r)) = decide (i ∈ n :: r)
    by_cases h : n = i
    · subst h
      rw [show (n == n) = true from beq_self_eq_true n, Bool.true_or, decide_eq_true (List.mem_cons_self ..)]
    · rw [show (n == i) = false from beq_eq_false_iff_ne.mpr h, Bool.false_or]
      by_cases h2 : i ∈ r
      · rw [decide_eq_true h2, decide_eq_true (List.mem_cons_of_mem _ h2)]
      · rw [decide_eq_false h2, decide_eq_false (fun z => by
          rcases List.mem_cons.mp z with z | z
          · exact h z.symm
          · exact h2 z)]
theorem flat_ints (ns : List Int) : (ns.map V.int).all flatV = true := by
  rw [List.all_eq_true]
  intro x hx
  obtain ⟨n, _, rfl⟩ := List.mem_map.mp hx
  rfl
theorem Fq.bs {q : Nat} (h : Fq q) : Bs q := ⟨h.b.1, by have := h.b.2; omega⟩
def sp_is_field (K : PySem.W.Frag) : Sp := fun vs H Q _ => ∃ (q : Nat), vs = [N_ q] ∧ Fq q ∧ RetV (.bl true) H Q
theorem sv_is_field {K : PySem.W.Frag} {H : Hp} {q : Nat} (hq : Fq q) : SpV (sp_is_field K) [N_ q] H (.bl true) := fun H1 e Q k E => ⟨q, rfl, hq, k⟩
theorem in_F {q : Nat} (hq : Fq q) : decide ((q : Int) ∈ W_FIELDS) = true := by
  unfold Fq FQ at hq
  simp only [List.mem_cons, List.not_mem_nil, or_false] at hq
  rcases hq with rfl | rfl | rfl | rfl | rfl | rfl | rfl <;> decide

theorem ok_is_field {P : Program} {w : World} {K : PySem.W.Frag} {mg : Str → Option Value} {base : Heap} (T : Txt K mg) : FnOk P w K mg base CX0 2 T.a_is_field T.d_is_field ["value"] (sp_is_field K) := by
  refine T.F_is_field.ok sc_is_field (fun vs H Q E h => ?_) (fun cdv A outer s H vs Q E hr h => ?_)
  · obtain ⟨q, rfl, _⟩ := h
    rfl
  · obtain ⟨q, rfl, hq, k⟩ := h
    refine ⟨_, (pss_one (ps_ret (pe_and (pe_call (ok_is_integer T) (hr.mono (by decide)) (by rfl) T.g_is_integer T.F_is_integer.kp T.b_is_integer .nil pass0 (pa_cons (pv 0) pa_nil)) (pe_one (pe_cmpR op_in_seq (pv 0) (pe_glob (v := .ref T.a_FIELDS) (by rfl) T.g_FIELDS rfl) (by rfl)))))), ?_⟩
    exact s_ret (ev_andV (b := true) (ev_call (ea_cons (ev_var rfl) ea_nil) (sv_is_integer (sm_b hq.bs))) fun _ => (ev_is (ev_op (ev_var rfl) ev_c (rv_isT (tup_of T.w_FIELDS H) rfl (flat_ints _))) (congrArg V.bl ((inV_ints _ _).trans (in_F hq))))) fun H1 e1 => k H1 e1


def sp_check_field (K : PySem.W.Frag) : Sp := fun vs H Q _ => ∃ (q : Nat), vs = [N_ q] ∧ Fq q ∧ RetV .non H Q
theorem sv_check_field {K : PySem.W.Frag} {H : Hp} {q : Nat} (hq : Fq q) : SpV (sp_check_field K) [N_ q] H .non := fun H1 e Q k E => ⟨q, rfl, hq, k⟩

theorem ok_check_field {P : Program} {w : World} {K : PySem.W.Frag} {mg : Str → Option Value} {base : Heap} (T : Txt K mg) : FnOk P w K mg base CX0 3 T.a_check_field T.d_check_field ["q"] (sp_check_field K) := by
  refine T.F_check_field.ok sc_check_field (fun vs H Q E h => ?_) (fun cdv A outer s H vs Q E hr h => ?_)
  · obtain ⟨q, rfl, _⟩ := h
    rfl
  · obtain ⟨q, rfl, hq, k⟩ := h
    refine ⟨_, (pss_one (ps_if (pt_not (pt_val (pe_call (ok_is_field T) (hr.mono (by decide)) (by rfl) T.g_is_field T.F_is_field.kp T.b_is_field .nil pass0 (pa_cons (pv 0) pa_nil)))) (pss_one ps_never) pss_nil)), ?_⟩
    exact s_when (et_not (et_B (ev_call (ea_cons (ev_var rfl) ea_nil) (sv_is_field hq)))) (fun z => nomatch z) (fun _ H1 e1 => k H1 e1)


section
variable {K : PySem.W.Frag} {σ : L2.St} {H H' : Hp} {te : TE}
theorem el_slN {tl th : TO} {xs : List V} {lo hi : Option Int} (h : EvL te σ H xs) (h1 : EvO tl σ H lo) (h2 : EvO th σ H hi) : EvL (tSl (rSlL K) te tl th) σ H (cutV xs lo hi) := fun H1 e _ q =>
  h H1 e _ fun a H2 _ e2 hx => h1 H2 (e.trans e2) _ fun H3 e3 => h2 H3 ((e.trans e2).trans e3) _ fun H4 e4 =>
    ⟨a, xs, rfl, sq_of (e4 _ _ (e3 _ _ hx)), fun p hp => q p _ (fresh_back ((e2.trans e3).trans e4) hp) (((e2.trans e3).trans e4).trans (Ex.new hp)) upd_same⟩
end
theorem ev_minN {K : PySem.W.Frag} {σ : L2.St} {H : Hp} {ta : TE} {ns : List Int} {m : Int} (h : EvL ta σ H (ns.map V.int)) (hm : m ∈ ns) (hl : ∀ y ∈ ns, m ≤ y) : Ev (tCB (rMin K) (tCons ta tNil)) σ H (.int m) := fun H1 e Q q =>
  h H1 e _ fun p H2 _ e2 h2 => ⟨p, ns, rfl, sq_of h2, List.length_pos_of_mem hm, fun m' hm' hl' => by
    have : m' = m := Int.le_antisymm (hl' m hm) (hl m' hm')
    subst this
    exact q H2 e2⟩
def minL : List Nat → Nat
  | [] => 0
  | [x] => x
  | x :: y :: r => min x (minL (y :: r))
theorem minL_mem : ∀ xs : List Nat, xs ≠ [] → minL xs ∈ xs
  | [], h => absurd rfl h
  | [x], _ => List.mem_cons_self ..
  | x :: y :: r, _ => by
    have ih := minL_mem (y :: r) (by simp)
    show min x (minL (y :: r)) ∈ x :: y :: r
    rcases Nat.le_total x (minL (y :: r)) with h | h
    · rw [Nat.min_eq_left h]
      exact List.mem_cons_self ..
    · rw [Nat.min_eq_right h]
      exact List.mem_cons_of_mem _ ih
theorem minL_le : ∀ (xs : List Nat) (y : Nat), y ∈ xs → minL xs ≤ y
  | [], y, h => by simp at h
  | [x], y, h => by
    rw [List.mem_singleton.mp h]
    exact Nat.le_refl _
  | x :: z :: r, y, h => by
    show min x (minL (z :: r)) ≤ y
    rcases List.mem_cons.mp h with h | h
    · rw [h]
      exact Nat.min_le_left _ _
    · exact Nat.le_trans (Nat.min_le_right _ _) (minL_le (z :: r) y h)
def ssL (q k : Nat) : List Nat := (List.range (poE q)).map fun j => ds q (prE q ^ j * k)
def mpN (q k : Nat) : Nat := minL (ssL q k) / (q - 1)
theorem ssL_len (q k : Nat) : (ssL q k).length = poE q := by unfold ssL; rw [List.length_map, List.length_range]
theorem given_range (n : Nat) (v : Nat → V) : given n (fun _ => true) v = (List.range n).map v := by
  unfold given
  rw [List.filter_eq_self.mpr (fun _ _ => rfl)]
theorem p49 {q j : Nat} (hq : Fq q) (hj : j ≤ 2) : prE q ^ j ≤ 49 := Nat.le_trans (Nat.pow_le_pow_left (t0_of hq).p7 j) (Nat.le_trans (Nat.pow_le_pow_right (by decide) hj) (by decide))
theorem gt_pk {q j k : Nat} (hq : Fq q) (hj : j ≤ 2) (hk : k < 10 ^ 60) : Gt (prE q ^ j * k) := Nat.lt_of_le_of_lt (Nat.mul_le_mul (p49 hq hj) (Nat.le_of_lt hk)) (by decide +kernel)
def sp_shift_sum_list (K : PySem.W.Frag) : Sp := fun vs H Q _ => ∃ (q k : Nat), vs = [N_ q, N_ k] ∧ Fq q ∧ k < 10 ^ 60 ∧ RetL ((ssL q k).map N_) H Q
theorem sv_shift_sum_list {K : PySem.W.Frag} {H : Hp} {q k : Nat} (hq : Fq q) (hk : k < 10 ^ 60) : SpL (sp_shift_sum_list K) [N_ q, N_ k] H ((ssL q k).map N_) := fun H1 e Q kk E => ⟨q, k, rfl, hq, hk, kk⟩


def sp_parts_bound (K : PySem.W.Frag) : Sp := fun vs H Q _ => ∃ (q k : Nat), vs = [N_ q, N_ k] ∧ Fq q ∧ k < 10 ^ 60 ∧ RetV (N_ (mpN q k)) H Q
theorem sv_parts_bound {K : PySem.W.Frag} {H : Hp} {q k : Nat} (hq : Fq q) (hk : k < 10 ^ 60) : SpV (sp_parts_bound K) [N_ q, N_ k] H (N_ (mpN q k)) := fun H1 e Q kk E => ⟨q, k, rfl, hq, hk, kk⟩
theorem ssL_ne {q k : Nat} (hq : Fq q) : ssL q k ≠ [] := fun z => by
  have h := ssL_len q k
  rw [z] at h
  have := (t0_of hq).f1
  have e : ([] : List Nat).length = 0 := rfl
  omega
theorem ev_minS {K : PySem.W.Frag} {σ : L2.St} {H : Hp} {ta : TE} {xs : List Nat} (h : EvL ta σ H (xs.map N_)) (hn : xs ≠ []) : Ev (tCB (rMin K) (tCons ta tNil)) σ H (N_ (minL xs)) :=
  ev_minN (ns := xs.map Int.ofNat) (m := ((minL xs : Nat) : Int)) (el_is h (mapN xs)) (List.mem_map.mpr ⟨minL xs, minL_mem xs hn, rfl⟩) fun y hy => by
    obtain ⟨z, hz, rfl⟩ := List.mem_map.mp hy
    exact Int.ofNat_le.mpr (minL_le xs z hz)


def sp_shift_sums (K : PySem.W.Frag) : Sp := fun vs H Q _ => ∃ (q k : Nat), vs = [N_ q, N_ k] ∧ Fq q ∧ k < 10 ^ 60 ∧ RetU ((ssL q k).map N_) H Q
theorem sv_shift_sums {K : PySem.W.Frag} {H : Hp} {q k : Nat} (hq : Fq q) (hk : k < 10 ^ 60) : SpU (sp_shift_sums K) [N_ q, N_ k] H ((ssL q k).map N_) := fun H1 e Q kk E => ⟨q, k, rfl, hq, hk, kk⟩
def sp_most_parts (K : PySem.W.Frag) : Sp := fun vs H Q _ => ∃ (q k : Nat), vs = [N_ q, N_ k] ∧ Fq q ∧ k < 10 ^ 60 ∧ RetV (N_ (mpN q k)) H Q
theorem sv_most_parts {K : PySem.W.Frag} {H : Hp} {q k : Nat} (hq : Fq q) (hk : k < 10 ^ 60) : SpV (sp_most_parts K) [N_ q, N_ k] H (N_ (mpN q k)) := fun H1 e Q kk E => ⟨q, k, rfl, hq, hk, kk⟩



end Own
namespace Own
open PySem PySem.Spec PyProof.Rows L2 Evl

def sp__law_dice (K : PySem.W.Frag) : Sp := fun vs H Q _ => ∃ (a : Addr) (ns : List Int) (at_ : Nat), vs = [.ref a, N_ at_] ∧ SqL K H a (ns.map V.int) ∧ ns.length ≤ 63 ∧ at_ ≤ 100 ∧ ∀ p H', H p = none → Ex H H' → IsDice H' p → Q (.ref p) H'

theorem ok__law_dice {P : Program} {w : World} {K : PySem.W.Frag} {mg : Str → Option Value} {base : Heap} (T : Txt K mg) : FnOk P w K mg base CX0 1 T.a__law_dice T.d__law_dice ["_law_script", "_law_at"] (sp__law_dice K) := by
  refine T.F__law_dice.ok sc__law_dice (fun vs H Q E h => ?_) (fun cdv A outer s H vs Q E hr h => ?_)
  · obtain ⟨a, ns, at_, rfl, _⟩ := h
    rfl
  · obtain ⟨a, ns, at_, rfl, hx, hlen, hat, k⟩ := h
    refine ⟨_, (pss_cons (ps_set (i := 2) sc__law_dice.nd rfl (Or.inl rfl) (pe_op op_add (pe_op op_mul pe_int (pv 1)) pe_int))
      (pss_cons (ps_if (pt_cmpR op_lt (pv 1) (pe_callB call_len_seq (by rfl) T.z_len (by decide +kernel) (pa_cons (pv 0) pa_nil)) (nomark _)) (pss_one (ps_set (i := 2) sc__law_dice.nd rfl (Or.inl rfl) (pe_ix (r := rIxL K) ix_list (pv 0) (pv 1) (fun _ _ => rfl)))) pss_nil)
      (pss_cons (ps_set (i := 3) sc__law_dice.nd rfl (Or.inl rfl) (pe_op op_mod (pe_callTy call_int1 (by rfl) T.z_int (by decide +kernel) (pa_cons (pe_callB call_abs (by rfl) T.z_abs (by decide +kernel) (pa_cons (pv 2) pa_nil)) pa_nil)) (pe_op op_powW (pe_op op_powW pe_int pe_int) pe_int)))
      (pss_cons (ps_set (i := 4) sc__law_dice.nd rfl (Or.inl rfl) (pe_op op_fdivW (pv 3) (pe_op op_powW pe_int pe_int)))
      (pss_cons (ps_set (i := 5) sc__law_dice.nd rfl (Or.inl rfl) (pe_op op_add (pe_op op_add (pe_op op_add (pe_op op_mul (pe_op op_mod (pv 3) pe_int) pe_int) (pe_op op_mul pe_int (pv 1))) (pe_op op_mul pe_int (pe_callTy call_int1 (by rfl) T.z_int (by decide +kernel) (pa_cons (pe_cmpR op_lt (pv 2) pe_int (nomark _)) pa_nil)))) pe_int))
      (pss_one (ps_ret (pe_lst (pa_cons (pv 4) (pa_cons (pe_op op_mod (pv 5) pe_int) (pa_cons pe_int pa_nil))))))))))), ?_⟩
    refine q_asg (ev_op (ev_op ev_c (ev_var rfl) (rv_I (.inl ⟨by decide, by decide⟩))) ev_c rv_I0) fun H1 e1 => ?_
    have hz : ∃ z : Int, (decide ((at_ : Int) < ((ns.map V.int).length : Nat)) = true → (ns.map V.int)[at_]? = some (.int z)) ∧ (decide ((at_ : Int) < ((ns.map V.int).length : Nat)) = false → z = 103 * (at_ : Int) + 43) := by
      by_cases hlt : at_ < ns.length
      · refine ⟨ns[at_], fun _ => ?_, fun h => ?_⟩
        · rw [List.getElem?_map, List.getElem?_eq_getElem hlt]
          rfl
        · have := of_decide_eq_false h
          rw [List.length_map] at this
          omega
      · refine ⟨103 * (at_ : Int) + 43, fun h => ?_, fun _ => rfl⟩
        have := of_decide_eq_true h
        rw [List.length_map] at this
        omega
    obtain ⟨z, hz1, hz2⟩ := hz
    refine q_ifAsg (v := .int z) (et_test (ev_op (ev_var rfl) (ev_cb (ea_cons (ev_var rfl) ea_nil) (rc_lenL (ex_l e1 hx))) rv_I0)) (fun hb => ev_op (ev_var rfl) (ev_var rfl) (rv_ixL (ex_l e1 hx) (atI_nat (hz1 hb)))) (fun hb => ?_) (fun H2 e2' => ?_)
    · rw [hz2 hb]
      rfl
    have e2 := e1.trans e2'
    refine q_asg (ev_op (ev_cb (ea_cons (ev_cb (ea_cons (ev_var rfl) ea_nil) rc_abs) ea_nil) rc_int) (ev_op (ev_op ev_c ev_c (rv_I ⟨by decide, by decide, by decide⟩)) ev_c (rv_I ⟨by decide, by decide, by decide +kernel⟩)) (rv_I (by decide +kernel))) fun H3 e3 => ?_
    refine q_asg (ev_op (ev_var rfl) (ev_op ev_c ev_c (rv_I ⟨by decide, by decide, by decide⟩)) (rv_I (wide_div (b := 100) (by decide +kernel) (by decide +kernel) (by decide) (by decide)))) fun H4 e4 => ?_
    refine q_asg (ev_op (ev_op (ev_op (ev_op (ev_op (ev_var rfl) ev_c (rv_I (by decide))) ev_c (rv_I (.inr ⟨by decide, by decide⟩))) (ev_op ev_c (ev_var rfl) (rv_I (.inl ⟨by decide, by decide⟩))) rv_I0) (ev_op ev_c (ev_cb (ea_cons (ev_op (ev_var rfl) ev_c rv_I0) ea_nil) rc_intB) (rv_I (.inl ⟨by decide, by decide⟩))) rv_I0) ev_c rv_I0) fun H5 e5 => ?_
    exact s_retL (el_lst (ea_cons (ev_var rfl) (ea_cons (ev_op (ev_var rfl) ev_c (rv_I (by decide))) (ea_cons ev_c ea_nil))) (by show 3 ≤ 100000; decide)) fun p H6 hp e6 h6 => k p H6 (fresh_back ((((e2.trans e3).trans e4).trans e5)) hp) ((((e2.trans e3).trans e4).trans e5).trans e6) ⟨_, _, _, h6⟩


def sp__law_roll (K : PySem.W.Frag) : Sp := fun vs H Q _ => ∃ (p : Addr) (m : Nat), vs = [.ref p, N_ m] ∧ IsDice H p ∧ 0 < m ∧ m < 2 ^ 1000 ∧ ∀ (r : Nat) H', r < m → Exd p H H' → IsDice H' p → Q (N_ r) H'
theorem nat_mod (x : Int) {m : Nat} (h : 0 < m) : ∃ r : Nat, r < m ∧ x % (m : Int) = (r : Int) := by
  have h1 := Int.emod_nonneg x (by omega : (m : Int) ≠ 0)
  have h2 := Int.emod_lt_of_pos x (by omega : (0 : Int) < m)
  exact ⟨(x % (m : Int)).toNat, by omega, by omega⟩

theorem ok__law_roll {P : Program} {w : World} {K : PySem.W.Frag} {mg : Str → Option Value} {base : Heap} (T : Txt K mg) : FnOk P w K mg base CX0 1 T.a__law_roll T.d__law_roll ["_law_dice_here", "_law_total"] (sp__law_roll K) := by
  refine T.F__law_roll.ok sc__law_roll (fun vs H Q E h => ?_) (fun cdv A outer s H vs Q E hr h => ?_)
  · obtain ⟨p, m, rfl, _⟩ := h
    rfl
  · obtain ⟨p, m, rfl, hd, hm, hM, k⟩ := h
    refine ⟨_, (pss_cons (ps_set (i := 2) sc__law_roll.nd rfl (Or.inl rfl) (pe_callTy call_int1 (by rfl) T.z_int (by decide +kernel) (pa_cons (pv 1) pa_nil)))
      (pss_cons (ps_if (pt_cmpR op_gt (pe_ix (r := rIxL K) ix_list (pv 0) pe_int (fun _ _ => rfl)) pe_int (nomark _)) (pss_cons (ps_set (i := 3) sc__law_roll.nd rfl (Or.inl rfl) (pe_op op_mod (pe_ix (r := rIxL K) ix_list (pv 0) pe_int (fun _ _ => rfl)) (pv 2)))
      (pss_cons (ps_asg (pe_op op_fdivW (pe_ix (r := rIxL K) ix_list (pv 0) pe_int (fun _ _ => rfl)) (pv 2)) (pg_sub (pv 0) pe_int set_list))
      (pss_one (ps_ret (pe_callTy call_int1 (by rfl) T.z_int (by decide +kernel) (pa_cons (pv 3) pa_nil)))))) pss_nil)
      (pss_cons (ps_asg (pe_op op_add (pe_ix (r := rIxL K) ix_list (pv 0) pe_int (fun _ _ => rfl)) pe_int) (pg_sub (pv 0) pe_int set_list))
      (pss_cons (ps_set (i := 4) sc__law_roll.nd rfl (Or.inl rfl) (pe_op op_mod (pe_op op_add (pe_ix (r := rIxL K) ix_list (pv 0) pe_int (fun _ _ => rfl)) (pe_op op_mul pe_int (pe_ix (r := rIxL K) ix_list (pv 0) pe_int (fun _ _ => rfl)))) pe_int))
      (pss_cons (ps_set (i := 5) sc__law_roll.nd rfl (Or.inl rfl) (pe_op op_add (pe_op op_mulW (pe_op op_mod (pe_op op_mulW (pv 4) (pv 4)) pe_int) (pv 4)) (pe_op op_mul pe_int (pe_ix (r := rIxL K) ix_list (pv 0) pe_int (fun _ _ => rfl)))))
      (pss_cons (ps_set (i := 5) sc__law_roll.nd rfl (Or.inl rfl) (pe_op op_mod (pv 5) pe_int))
      (pss_one (ps_ret (pe_callTy call_int1 (by rfl) T.z_int (by decide +kernel) (pa_cons (pe_op op_mod (pe_op op_fdivW (pv 5) pe_int) (pv 2)) pa_nil)))))))))), ?_⟩
    obtain ⟨d0, d1, d2, hd⟩ := hd
    refine q_asg (ev_cb (ea_cons (ev_var rfl) ea_nil) rc_int) fun H1 e1 => ?_
    have h1 := e1 _ _ hd
    refine q_if (et_test (ev_op (ev_op (ev_var rfl) ev_c (rv_ixL (sq_of h1) (atI_nat (j := 0) rfl))) ev_c rv_I0)) (fun hb H2 e2 => ?_) (fun _ H2 e2 => ?_)
    · have h2 := e2 _ _ h1
      obtain ⟨r, hr1, hr2⟩ := nat_mod d0 hm
      refine q_asg (ev_op (ev_op (ev_var rfl) ev_c (rv_ixL (sq_of h2) (atI_nat (j := 0) rfl))) (ev_var rfl) (rv_I (by omega))) fun H3 e3 => ?_
      have h3 := e3 _ _ h2
      refine q_setL (j := 0) h3 (ev_op (ev_op (ev_var rfl) ev_c (rv_ixL (sq_of h3) (atI_nat (j := 0) rfl))) (ev_var rfl) (rv_I (wide_div (b := 1000) (by omega) (by exact hM) (by decide) (by decide)))) (ev_var rfl) ev_c (by show 0 < 3; decide) fun H4 e4 => ?_
      refine s_ret (ev_cb (ea_cons (ev_var rfl) ea_nil) rc_int) fun H5 e5 => ?_
      rw [hr2]
      exact k r H5 hr1 (((Exd.of (((e1.trans e2).trans e3).trans e4)).trans Exd.put).trans (Exd.of e5)) (IsDice.ex ⟨_, _, _, upd_same⟩ e5)
    · have h2 := e2 _ _ h1
      refine q_setL (j := 2) h2 (ev_op (ev_op (ev_var rfl) ev_c (rv_ixL (sq_of h2) (atI_nat (j := 2) rfl))) ev_c rv_I0) (ev_var rfl) ev_c (by show 2 < 3; decide) fun H3 e3 => ?_
      have h3 : (upd H3 p (.lst ([V.int d0, .int d1, .int d2].set 2 (.int (d2 + 1))))) p = some (.lst [.int d0, .int d1, .int (d2 + 1)]) := upd_same
      generalize hg : upd H3 p (.lst ([V.int d0, .int d1, .int d2].set 2 (.int (d2 + 1)))) = G at h3
      have eG : Exd p H G := by
        rw [← hg]
        exact (Exd.of ((e1.trans e2).trans e3)).trans Exd.put
      refine q_asg (ev_op (ev_op (ev_op (ev_var rfl) ev_c (rv_ixL (sq_of h3) (atI_nat (j := 1) rfl))) (ev_op ev_c (ev_op (ev_var rfl) ev_c (rv_ixL (sq_of h3) (atI_nat (j := 2) rfl))) (rv_I (.inl ⟨by decide, by decide⟩))) rv_I0) ev_c (rv_I (by decide))) fun H4 e4 => ?_
      have h4 := e4 _ _ h3
      have b1 : ∀ x : Int, (x % 2305843009213693951).natAbs < 2 ^ 61 := fun x => mod_abs (by decide) (by decide)
      have b2 : ∀ x : Int, (x % 2305843009213693921).natAbs < 2 ^ 61 := fun x => mod_abs (by decide) (by decide)
      refine q_asg (ev_op (ev_op (ev_op (ev_op (ev_var rfl) (ev_var rfl) (rv_I (wide_mul (b1 _) (b1 _) (by decide) (by decide) (by decide)))) ev_c (rv_I (by decide))) (ev_var rfl) (rv_I (wide_mul (b2 _) (b1 _) (by decide) (by decide) (by decide)))) (ev_op ev_c (ev_op (ev_var rfl) ev_c (rv_ixL (sq_of h4) (atI_nat (j := 2) rfl))) (rv_I (.inl ⟨by decide, by decide⟩))) rv_I0) fun H5 e5 => ?_
      refine q_asg (ev_op (ev_var rfl) ev_c (rv_I (by decide))) fun H6 e6 => ?_
      refine s_ret (ev_cb (ea_cons (ev_op (ev_op (ev_var rfl) ev_c (rv_I (wide_div (b := 20) (by decide) (by decide) (by decide) (by decide)))) (ev_var rfl) (rv_I (by omega))) ea_nil) rc_int) fun H7 e7 => ?_
      obtain ⟨r, hr1, hr2⟩ := nat_mod _ hm
      rw [hr2]
      exact k r H7 hr1 (eG.trans (Exd.of (((e4.trans e5).trans e6).trans e7))) (IsDice.ex ⟨_, _, _, h4⟩ ((e5.trans e6).trans e7))


def sp__law_one_of (K : PySem.W.Frag) : Sp := fun vs H Q _ => ∃ (p a : Addr) (xs : List V), vs = [.ref p, .ref a] ∧ IsDice H p ∧ SqL K H a xs ∧ a ≠ p ∧ 0 < xs.length ∧ xs.length ≤ 1000 ∧ ∀ (x : V) H', x ∈ xs → Exd p H H' → IsDice H' p → Q x H'

theorem ok__law_one_of {P : Program} {w : World} {K : PySem.W.Frag} {mg : Str → Option Value} {base : Heap} (T : Txt K mg) : FnOk P w K mg base CX0 2 T.a__law_one_of T.d__law_one_of ["_law_dice_here", "_law_items"] (sp__law_one_of K) := by
  refine T.F__law_one_of.ok sc__law_one_of (fun vs H Q E h => ?_) (fun cdv A outer s H vs Q E hr h => ?_)
  · obtain ⟨p, a, xs, rfl, _⟩ := h
    rfl
  · obtain ⟨p, a, xs, rfl, hd, hx, hne, hpos, hlen, k⟩ := h
    refine ⟨_, (pss_one (ps_ret (pe_ix (r := rIxL K) ix_list (pv 1) (pe_call (ok__law_roll T) (hr.mono (by decide)) (by rfl) T.g__law_roll T.F__law_roll.kp T.b__law_roll .nil pass0 (pa_cons (pv 0) (pa_cons (pe_callB call_len_seq (by rfl) T.z_len (by decide +kernel) (pa_cons (pv 1) pa_nil)) pa_nil))) (fun _ _ => rfl)))), ?_⟩
    refine ⟨.ref a, rfl, .ref p, rfl, .ref a, rfl, a, xs, rfl, .inl hx, p, xs.length, rfl, hd, hpos, Nat.lt_of_le_of_lt hlen (by decide), fun r H' hr ex hd' => ?_⟩
    exact ⟨a, xs, (r : Int), xs[r], rfl, rfl, exd_l hne ex hx, atI_nat (List.getElem?_eq_getElem hr), k _ _ (List.getElem_mem hr) ex hd'⟩


def sp__law_raised (K : PySem.W.Frag) : Sp := fun vs H Q _ => ∃ (b c : Nat), vs = [N_ b, N_ c] ∧ b ≤ 1000 ∧ c ≤ 1000 ∧ RetV (N_ (b ^ c)) H Q
theorem sv_raised {K : PySem.W.Frag} {H : Hp} {b c : Nat} (hb : b ≤ 1000) (hc : c ≤ 1000) : SpV (sp__law_raised K) [N_ b, N_ c] H (N_ (b ^ c)) := fun H1 _ Q q E => ⟨b, c, rfl, hb, hc, q⟩
theorem pow_bd {b : Nat} (hb : b ≤ 1000) : ∀ i : Nat, b ^ i ≤ 2 ^ (10 * i)
  | 0 => Nat.le_refl _
  | i + 1 => by
    have ih := pow_bd hb i
    rw [Nat.pow_succ, Nat.mul_add, Nat.pow_add]
    exact Nat.mul_le_mul ih (by show b ≤ 1024; omega)

theorem ok__law_raised {P : Program} {w : World} {K : PySem.W.Frag} {mg : Str → Option Value} {base : Heap} (T : Txt K mg) : FnOk P w K mg base CX0 1 T.a__law_raised T.d__law_raised ["_law_base", "_law_count"] (sp__law_raised K) := by
  refine T.F__law_raised.ok sc__law_raised (fun vs H Q E h => ?_) (fun cdv A outer s H vs Q E hr h => ?_)
  · obtain ⟨b, c, rfl, _⟩ := h
    rfl
  · obtain ⟨b, c, rfl, hb, hc, k⟩ := h
    refine ⟨_, (pss_cons (ps_set (i := 2) sc__law_raised.nd rfl (Or.inl rfl) pe_int)
      (pss_cons (ps_for PassesOwn.never rfl (pi_range1 rfl T.z_range (pa_cons (pv 1) pa_nil)) (pg_name (i := 3) sc__law_raised.nd rfl (Or.inl rfl)) (pss_one (ps_set (i := 2) sc__law_raised.nd rfl (Or.inl rfl) (pe_op op_mulW (pv 2) (pv 0)))))
      (pss_one (ps_ret (pv 2))))), ?_⟩
    refine q_asg ev_c fun H1 e1 => ?_
    refine q_forR1 (n := (c : Int)) (ea_cons (ev_var rfl) ea_nil) ⟨by omega, by omega⟩ (fun i σ H' => ∃ y, σ = [some (N_ b), some (N_ c), some (N_ (b ^ i)), y] ∧ Ex H H') (fun H2 e2 => ⟨none, rfl, e1.trans e2⟩) (fun i σ H' hi hw => ?_) (fun σ H' hw => ?_)
    · obtain ⟨y, rfl, e2⟩ := hw
      have hb2 : b ^ i < 2 ^ 10001 := Nat.lt_of_le_of_lt (Nat.le_trans (pow_bd hb i) (Nat.pow_le_pow_right (by decide) (by omega : 10 * i ≤ 10000))) (Nat.pow_lt_pow_right (by decide) (by decide))
      refine s_asg (ev_op (ev_var rfl) (ev_var rfl) (rv_I (wide_mul (a := 10001) (b := 10) (by exact hb2) (by show b < 1024; omega) (by decide) (by decide) (by decide)))) fun H3 e3 => ⟨some (N_ i), ?_, e2.trans e3⟩
      rw [show N_ (b ^ (i + 1)) = V.int (((b ^ i : Nat) : Int) * (b : Int)) from congrArg V.int (by rw [Nat.pow_succ, Int.natCast_mul])]
      rfl
    · obtain ⟨y, rfl, e2⟩ := hw
      rw [Int.toNat_natCast]
      exact s_ret (ev_var rfl) fun H3 e3 => k H3 (e2.trans e3)


def sp__law_digits (K : PySem.W.Frag) : Sp := fun vs H Q _ => ∃ (b n : Nat), vs = [N_ b, N_ n] ∧ Bs b ∧ Gt n ∧ RetL ((dg b n).map N_) H Q
theorem sv__law_digits {K : PySem.W.Frag} {H : Hp} {b n : Nat} (hb : Bs b) (hn : Gt n) : SpL (sp__law_digits K) [N_ b, N_ n] H ((dg b n).map N_) := fun H1 _ Q q E => ⟨b, n, rfl, hb, hn, q⟩

theorem ok__law_digits {P : Program} {w : World} {K : PySem.W.Frag} {mg : Str → Option Value} {base : Heap} (T : Txt K mg) : FnOk P w K mg base CX0 1 T.a__law_digits T.d__law_digits ["_law_base", "_law_number"] (sp__law_digits K) := by
  refine T.F__law_digits.ok sc__law_digits (fun vs H Q E h => ?_) (fun cdv A outer s H vs Q E hr h => ?_)
  · obtain ⟨b, n, rfl, _⟩ := h
    rfl
  · obtain ⟨b, n, rfl, hb, hn, k⟩ := h
    refine ⟨_, (pss_cons (ps_par (i := 2) (j := 3) (by rfl) sc__law_digits.nd rfl rfl (by decide) rfl rfl (pa_cons (pe_lst pa_nil) (pa_cons (pv 1) pa_nil)) (by rfl))
      (pss_cons (ps_while PassesOwn.never (pt_cmpR op_gt (pv 3) pe_int (nomark _)) (pss_cons (ps_expr (pe_bm PySem.F.plainAttrs_list PySem.F.slot_list_append PySem.F.type_list_append mt_append (pv 2) (pa_cons (pe_op op_mod (pv 3) (pv 0)) pa_nil)))
      (pss_one (ps_set (i := 3) sc__law_digits.nd rfl (Or.inl rfl) (pe_op op_fdivW (pv 3) (pv 0))))))
      (pss_one (ps_ret (pv 2))))), ?_⟩
    refine q_parL (el_lst ea_nil (by decide)) (fun p H1 np e1 h1 => ev_var rfl) fun p H1 np e1 h1 => ?_
    refine q_while (fun l σ H' => ∃ acc : List Nat, σ = [some (N_ b), some (N_ n), some (.ref p), some (N_ l)] ∧ acc ++ dg b l = dg b n ∧ Ex H H' ∧ H' p = some (.lst (acc.map N_))) n
      ⟨[], rfl, rfl, e1, h1⟩ fun l σ H3 hw => ?_
    obtain ⟨acc, rfl, ha, e3, h3⟩ := hw
    refine ⟨decide (0 < (l : Int)), et_test (ev_op (ev_var rfl) ev_c rv_I0), fun ht H4 e4 => ?_, fun hf H4 e4 => ?_⟩
    · have hl : 0 < l := by have := of_decide_eq_true ht; omega
      refine ⟨fun σ' H' => σ' = [some (N_ b), some (N_ n), some (.ref p), some (N_ (l / b))] ∧ Ex H H' ∧ H' p = some (.lst ((acc ++ [l % b]).map N_)), fun σ2 H2' hN => ?_, ?_⟩
      · obtain ⟨rfl, e5, h5⟩ := hN
        refine ⟨l / b, Nat.div_lt_self hl hb.1, acc ++ [l % b], rfl, ?_, e5, h5⟩
        rw [← ha, dg_pos hb.1 hl, List.append_assoc]
        rfl
      · have hlen : acc.length < 100000 := by
          have h6 := dg_len hb.1 400 n hn
          rw [← ha, List.length_append] at h6
          omega
        refine q_app (e4 p _ h3) (ev_var rfl) (ev_op (ev_var rfl) (ev_var rfl) (rv_I (by have := hb.1; omega))) (by rw [List.length_map]; exact hlen) fun H5 e5 => ?_
        refine s_asg (ev_op (ev_var rfl) (ev_var rfl) (rv_I (divW (by have := hb.1; omega) hb.2))) fun H6 e6 => ?_
        refine ⟨rfl, ((e3.trans (e4.trans e5)).mut np).trans e6, ?_⟩
        rw [e6 p _ upd_same, List.map_append]
        rfl
    · have hl : l = 0 := by have := of_decide_eq_false hf; omega
      subst hl
      rw [dg_zero, List.append_nil] at ha
      subst ha
      exact s_ret (ev_var rfl) fun H5 e5 => k p H5 np ((e3.trans e4).trans e5) (e5 p _ (e4 p _ h3))


def sp__law_size (K : PySem.W.Frag) : Sp := fun vs H Q _ => ∃ (b m : Nat), vs = [N_ b, N_ m] ∧ Bs b ∧ 0 < m ∧ m < 2 ^ 300 ∧ ∀ (d : Nat) H', b ^ d ≤ m → m < b ^ (d + 1) → d ≤ 300 → Ex H H' → Q (N_ d) H'

theorem ok__law_size {P : Program} {w : World} {K : PySem.W.Frag} {mg : Str → Option Value} {base : Heap} (T : Txt K mg) : FnOk P w K mg base CX0 2 T.a__law_size T.d__law_size ["_law_q_here", "_law_most"] (sp__law_size K) := by
  refine T.F__law_size.ok sc__law_size (fun vs H Q E h => ?_) (fun cdv A outer s H vs Q E hr h => ?_)
  · obtain ⟨b, m, rfl, _⟩ := h
    rfl
  · obtain ⟨b, m, rfl, hb, hm0, hm, k⟩ := h
    refine ⟨_, (pss_cons (ps_set (i := 2) sc__law_size.nd rfl (Or.inl rfl) pe_int)
      (pss_cons (ps_while PassesOwn.never (pt_cmpR op_le (pe_call (ok__law_raised T) (hr.mono (by decide)) (by rfl) T.g__law_raised T.F__law_raised.kp T.b__law_raised .nil pass0 (pa_cons (pv 0) (pa_cons (pe_op op_add (pv 2) pe_int) pa_nil))) (pv 1) (nomark _)) (pss_one (ps_set (i := 2) sc__law_size.nd rfl (Or.inl rfl) (pe_op op_add (pv 2) pe_int))))
      (pss_one (ps_ret (pv 2))))), ?_⟩
    have bd : ∀ d : Nat, b ^ d ≤ m → d ≤ 300 := fun d h => by
      by_cases h2 : d ≤ 300
      · exact h2
      · have h3 : 2 ^ d ≤ b ^ d := Nat.pow_le_pow_left hb.1 d
        have h4 : 2 ^ 300 ≤ 2 ^ d := Nat.pow_le_pow_right (by decide) (by omega)
        exact absurd (Nat.le_trans h4 (Nat.le_trans h3 h)) (Nat.not_le_of_lt hm)
    refine q_asg ev_c fun H1 e1 => ?_
    refine q_while (fun l σ H' => ∃ d : Nat, σ = [some (N_ b), some (N_ m), some (N_ d)] ∧ l + d = 301 ∧ b ^ d ≤ m ∧ Ex H H') 301 ⟨0, rfl, rfl, by rw [Nat.pow_zero]; omega, e1⟩ fun l σ H3 hw => ?_
    obtain ⟨d, rfl, hl, hd, e3⟩ := hw
    have hd300 := bd d hd
    refine ⟨decide (((b ^ (d + 1) : Nat) : Int) ≤ (m : Int)), et_test (ev_op (ev_call (ea_cons (ev_var rfl) (ea_cons (ev_op (ev_var rfl) ev_c rv_I0) ea_nil)) (sv_raised (c := d + 1) hb.2 (by omega))) (ev_var rfl) rv_I0), fun ht H4 e4 => ?_, fun hf H4 e4 => ?_⟩
    · have hle : b ^ (d + 1) ≤ m := by have := of_decide_eq_true ht; exact Int.ofNat_le.mp this
      have := bd _ hle
      refine ⟨fun σ' H' => σ' = [some (N_ b), some (N_ m), some (N_ (d + 1))] ∧ Ex H H', fun σ2 H2' hN => ?_, ?_⟩
      · obtain ⟨rfl, e5⟩ := hN
        exact ⟨l - 1, by omega, d + 1, rfl, by omega, hle, e5⟩
      · exact s_asg (ev_op (ev_var rfl) ev_c rv_I0) fun H5 e5 => ⟨rfl, (e3.trans e4).trans e5⟩
    · have hlt : m < b ^ (d + 1) := by have := of_decide_eq_false hf; exact Nat.lt_of_not_le fun z => this (Int.ofNat_le.mpr z)
      exact s_ret (ev_var rfl) fun H5 e5 => k d H5 hd hlt hd300 ((e3.trans e4).trans e5)


/-! the law's own sums and products of elements, as plain functions -/
def esR (p a b : Nat) : Nat → Nat × Nat
  | 0 => (0, 1)
  | i + 1 => ((esR p a b i).1 + (a / (esR p a b i).2 + b / (esR p a b i).2) % p * (esR p a b i).2, (esR p a b i).2 * p)
theorem esR_pow (p a b : Nat) : ∀ i, (esR p a b i).2 = p ^ i
  | 0 => rfl
  | i + 1 => by
    show (esR p a b i).2 * p = p ^ (i + 1)
    rw [esR_pow p a b i, Nat.pow_succ]
def esL (p f a b : Nat) : Nat := (esR p a b f).1
/-- p and f of a field, small -/
structure PF_ (p f : Nat) : Prop where
  p2 : 2 ≤ p
  p7 : p ≤ 7
  f1 : 1 ≤ f
  f3 : f ≤ 3
def sp__law_element_sum (K : PySem.W.Frag) : Sp := fun vs H Q _ => ∃ (p f a b : Nat), vs = [N_ p, N_ f, N_ a, N_ b] ∧ PF_ p f ∧ RetV (N_ (esL p f a b)) H Q
theorem sv__law_element_sum {K : PySem.W.Frag} {H : Hp} {p f a b : Nat} (h : PF_ p f) : SpV (sp__law_element_sum K) [N_ p, N_ f, N_ a, N_ b] H (N_ (esL p f a b)) := fun H1 _ Q kk E => ⟨p, f, a, b, rfl, h, kk⟩

theorem ok__law_element_sum {P : Program} {w : World} {K : PySem.W.Frag} {mg : Str → Option Value} {base : Heap} (T : Txt K mg) : FnOk P w K mg base CX0 1 T.a__law_element_sum T.d__law_element_sum ["_law_p", "_law_f", "_law_one", "_law_other"] (sp__law_element_sum K) := by
  refine T.F__law_element_sum.ok sc__law_element_sum (fun vs H Q E h => ?_) (fun cdv A outer s H vs Q E hr h => ?_)
  · obtain ⟨p, f, a, b, rfl, _⟩ := h
    rfl
  · obtain ⟨p, f, a, b, rfl, hp, k⟩ := h
    refine ⟨_, (pss_cons (ps_asg (pe_tup (pa_cons pe_int (pa_cons pe_int pa_nil))) (pg_tup (by rfl) (pgs_cons (pg_name (i := 4) sc__law_element_sum.nd rfl (Or.inl rfl)) (pgs_cons (pg_name (i := 5) sc__law_element_sum.nd rfl (Or.inl rfl)) pgs_nil))))
      (pss_cons (ps_for PassesOwn.never rfl (pi_range1 rfl T.z_range (pa_cons (pv 1) pa_nil)) (pg_name (i := 6) sc__law_element_sum.nd rfl (Or.inl rfl)) (pss_cons (ps_set (i := 4) sc__law_element_sum.nd rfl (Or.inl rfl) (pe_op op_add (pv 4) (pe_op op_mulW (pe_op op_mod (pe_op op_add (pe_op op_fdivW (pv 2) (pv 5)) (pe_op op_fdivW (pv 3) (pv 5))) (pv 0)) (pv 5))))
      (pss_one (ps_set (i := 5) sc__law_element_sum.nd rfl (Or.inl rfl) (pe_op op_mulW (pv 5) (pv 0))))))
      (pss_one (ps_ret (pv 4))))), ?_⟩
    refine q_tupNN ev_c ev_c fun H1 e1 => ?_
    refine q_forR1 (n := (f : Int)) (ea_cons (ev_var rfl) ea_nil) ⟨by omega, by have := hp.f3; omega⟩ (fun i σ H' => ∃ y, σ = [some (N_ p), some (N_ f), some (N_ a), some (N_ b), some (N_ (esR p a b i).1), some (N_ (esR p a b i).2), y] ∧ Ex H H') (fun H2 e2 => ⟨none, rfl, e1.trans e2⟩) (fun i σ H' hi hw => ?_) (fun σ H' hw => ?_)
    · obtain ⟨y, rfl, e2⟩ := hw
      have h2 := esR_pow p a b i
      have hpl : (esR p a b i).2 ≤ 343 := by
        rw [h2]
        exact Nat.le_trans (Nat.pow_le_pow_left hp.p7 i) (Nat.le_trans (Nat.pow_le_pow_right (by decide) (show i ≤ 3 by have := hp.f3; omega)) (by decide))
      have hpl0 : 0 < (esR p a b i).2 := by rw [h2]; exact Nat.pow_pos (by have := hp.p2; omega)
      have hdv : ∀ x : Nat, CDivW (x : Int) (((esR p a b i).2 : Nat) : Int) := fun x => wide_div (b := 10) (by omega) (by show (esR p a b i).2 < 1024; omega) (by decide) (by decide)
      refine q_asg (ev_op (ev_var rfl) (ev_op (ev_op (ev_op (ev_op (ev_var rfl) (ev_var rfl) (rv_I (hdv a))) (ev_op (ev_var rfl) (ev_var rfl) (rv_I (hdv b))) rv_I0) (ev_var rfl) (rv_I (by have := hp.p2; omega))) (ev_var rfl) (rv_I (wide_mul (a := 10) (b := 10) (mod_abs (by have := hp.p2; omega) (by show p ≤ 1024; have := hp.p7; omega)) (by show (esR p a b i).2 < 1024; omega) (by decide) (by decide) (by decide)))) rv_I0) fun H3 e3 => ?_
      exact s_asg (ev_op (ev_var rfl) (ev_var rfl) (rv_I (wide_mul (a := 10) (b := 10) (by show (esR p a b i).2 < 1024; omega) (by show p < 1024; have := hp.p7; omega) (by decide) (by decide) (by decide)))) fun H4 e4 => ⟨some (.int (i : Int)), rfl, (e2.trans e3).trans e4⟩
    · obtain ⟨y, rfl, e2⟩ := hw
      rw [Int.toNat_natCast]
      exact s_ret (ev_var rfl) fun H3 e3 => k H3 (e2.trans e3)


def inL (p i l : Nat) : Nat → List Nat → List Nat → List Nat
  | _, [], fd => fd
  | j, r :: rs, fd => inL p i l (j + 1) rs (fd.set (i + j) ((fd.getD (i + j) 0 + l * r) % p))
def ouL (p : Nat) (os : List Nat) : Nat → List Nat → List Nat → List Nat
  | _, [], fd => fd
  | i, l :: ls, fd => ouL p os (i + 1) ls (inL p i l 0 os fd)
def rdL (p f i : Nat) (fd : List Nat) : List Nat :=
  if 1 < f then
    let f1 := fd.set (i - f) ((fd.getD (i - f) 0 + fd.getD i 0) % p)
    let f2 := f1.set (i - f + 1) ((f1.getD (i - f + 1) 0 + f1.getD i 0) % p)
    f2.set i 0
  else fd
def dnL (p f : Nat) (fd : List Nat) : Nat → List Nat
  | 0 => fd
  | k + 1 => rdL p f (2 * f - 1 - k) (dnL p f fd k)
def epL (p f a b : Nat) : Nat := od p ((dnL p f (ouL p (dg p b) 0 (dg p a) (List.replicate (2 * f) 0)) f).take f)
theorem inL_len (p i l : Nat) : ∀ (rs : List Nat) (j : Nat) (fd : List Nat), (inL p i l j rs fd).length = fd.length
  | [], _, _ => rfl
  | r :: rs, j, fd => by
    show (inL p i l (j + 1) rs _).length = _
    rw [inL_len p i l rs, List.length_set]
theorem ouL_len (p : Nat) (os : List Nat) : ∀ (ls : List Nat) (i : Nat) (fd : List Nat), (ouL p os i ls fd).length = fd.length
  | [], _, _ => rfl
  | l :: ls, i, fd => by
    show (ouL p os (i + 1) ls _).length = _
    rw [ouL_len p os ls, inL_len]
theorem rdL_len (p f i : Nat) (fd : List Nat) : (rdL p f i fd).length = fd.length := by
  unfold rdL
  split
  · simp
  · rfl
theorem dnL_len (p f : Nat) (fd : List Nat) : ∀ k, (dnL p f fd k).length = fd.length
  | 0 => rfl
  | k + 1 => by
    show (rdL p f _ _).length = _
    rw [rdL_len, dnL_len]
def lt_all (p : Nat) (fd : List Nat) : Prop := ∀ x ∈ fd, x < p
theorem lt_all_set {p i x : Nat} {fd : List Nat} (h : lt_all p fd) (hx : x < p) : lt_all p (fd.set i x) := fun y hy => by
  rcases List.mem_or_eq_of_mem_set hy with h1 | h1
  · exact h y h1
  · rw [h1]; exact hx
theorem inL_lt {p : Nat} (h0 : 0 < p) (i l : Nat) : ∀ (rs : List Nat) (j : Nat) (fd : List Nat), lt_all p fd → lt_all p (inL p i l j rs fd)
  | [], _, _, h => h
  | r :: rs, j, fd, h => inL_lt h0 i l rs (j + 1) _ (lt_all_set h (Nat.mod_lt _ h0))
theorem ouL_lt {p : Nat} (h0 : 0 < p) (os : List Nat) : ∀ (ls : List Nat) (i : Nat) (fd : List Nat), lt_all p fd → lt_all p (ouL p os i ls fd)
  | [], _, _, h => h
  | l :: ls, i, fd, h => ouL_lt h0 os ls (i + 1) _ (inL_lt h0 i l os 0 fd h)
theorem rdL_lt {p : Nat} (h0 : 0 < p) (f i : Nat) {fd : List Nat} (h : lt_all p fd) : lt_all p (rdL p f i fd) := by
  unfold rdL
  split
  · exact lt_all_set (lt_all_set (lt_all_set h (Nat.mod_lt _ h0)) (Nat.mod_lt _ h0)) h0
  · exact h
theorem dnL_lt {p : Nat} (h0 : 0 < p) (f : Nat) {fd : List Nat} (h : lt_all p fd) : ∀ k, lt_all p (dnL p f fd k)
  | 0 => h
  | k + 1 => rdL_lt h0 f _ (dnL_lt h0 f h k)
theorem inL_snoc (p i l : Nat) : ∀ (rs : List Nat) (j : Nat) (fd : List Nat) (r : Nat), inL p i l j (rs ++ [r]) fd = (inL p i l j rs fd).set (i + (j + rs.length)) (((inL p i l j rs fd).getD (i + (j + rs.length)) 0 + l * r) % p)
  | [], j, fd, r => rfl
  | z :: rs, j, fd, r => by
    show inL p i l (j + 1) (rs ++ [r]) _ = _
    rw [inL_snoc p i l rs (j + 1) _ r]
    show (inL p i l (j + 1) rs _).set _ _ = (inL p i l (j + 1) rs _).set _ _
    rw [show j + 1 + rs.length = j + (z :: rs).length by rw [List.length_cons]; omega]
    rfl
theorem ouL_snoc (p : Nat) (os : List Nat) : ∀ (ls : List Nat) (i : Nat) (fd : List Nat) (l : Nat), ouL p os i (ls ++ [l]) fd = inL p (i + ls.length) l 0 os (ouL p os i ls fd)
  | [], i, fd, l => rfl
  | z :: ls, i, fd, l => by
    show ouL p os (i + 1) (ls ++ [l]) _ = _
    rw [ouL_snoc p os ls (i + 1) _ l, show i + 1 + ls.length = i + (z :: ls).length by rw [List.length_cons]; omega]
    rfl
theorem take_snoc {xs : List Nat} {i x : Nat} (h : xs[i]? = some x) : xs.take (i + 1) = xs.take i ++ [x] := by
  rw [List.take_add_one, h]
  rfl
theorem dg_len2 {p f a : Nat} (hp : 2 ≤ p) : ∀ (f a : Nat), a < p ^ f → (dg p a).length ≤ f
  | 0, a, h => by
    have : a = 0 := by rw [Nat.pow_zero] at h; omega
    subst this
    rw [dg_zero]
    exact Nat.le_refl _
  | f + 1, a, h => by
    by_cases ha : 0 < a
    · rw [dg_pos hp ha, List.length_cons]
      have : a / p < p ^ f := by
        rw [Nat.pow_succ] at h
        exact Nat.div_lt_of_lt_mul (by rw [Nat.mul_comm]; exact h)
      have := dg_len2 (f := f) (a := a) hp f (a / p) this
      omega
    · have : a = 0 := by omega
      subst this
      rw [dg_zero]
      exact Nat.zero_le _
theorem getD_some {xs : List Nat} {i : Nat} (h : i < xs.length) : xs[i]? = some (xs.getD i 0) := by
  rw [List.getElem?_eq_getElem h, List.getD_eq_getElem?_getD, List.getElem?_eq_getElem h]
  rfl
theorem get_N {xs : List Nat} {i : Nat} (h : i < xs.length) : (xs.map N_)[i]? = some (N_ (xs.getD i 0)) := by
  rw [List.getElem?_map, getD_some h]
  rfl
theorem getD_lt {p i : Nat} {fd : List Nat} (h : lt_all p fd) (hi : i < fd.length) : fd.getD i 0 < p := h _ (List.mem_of_getElem? (getD_some hi))
theorem exl {l : Addr} {H H' : Hp} (n : H l = none) (x : Exd l H H') : Ex H H' := fun a o h => x a o (fun z => by rw [z, n] at h; cases h) h
def sp__law_element_product (K : PySem.W.Frag) : Sp := fun vs H Q _ => ∃ (p f a b : Nat), vs = [N_ p, N_ f, N_ a, N_ b] ∧ PF_ p f ∧ a < p ^ f ∧ b < p ^ f ∧ RetV (N_ (epL p f a b)) H Q
theorem sv__law_element_product {K : PySem.W.Frag} {H : Hp} {p f a b : Nat} (h : PF_ p f) (ha : a < p ^ f) (hb : b < p ^ f) : SpV (sp__law_element_product K) [N_ p, N_ f, N_ a, N_ b] H (N_ (epL p f a b)) := fun H1 _ Q kk E => ⟨p, f, a, b, rfl, h, ha, hb, kk⟩
theorem pf_343 {p f a : Nat} (h : PF_ p f) (ha : a < p ^ f) : a < 343 := Nat.lt_of_lt_of_le ha (Nat.le_trans (Nat.pow_le_pow_left h.p7 f) (Nat.le_trans (Nat.pow_le_pow_right (by decide) h.f3) (by decide)))

theorem ok__law_element_product {P : Program} {w : World} {K : PySem.W.Frag} {mg : Str → Option Value} {base : Heap} (T : Txt K mg) : FnOk P w K mg base CX0 2 T.a__law_element_product T.d__law_element_product ["_law_p", "_law_f", "_law_one", "_law_other"] (sp__law_element_product K) := by
  refine T.F__law_element_product.ok sc__law_element_product (fun vs H Q E h => ?_) (fun cdv A outer s H vs Q E hr h => ?_)
  · obtain ⟨p, f, a, b, rfl, _⟩ := h
    rfl
  · obtain ⟨p, f, a, b, rfl, hp, ha, hb, k⟩ := h
    refine ⟨_, (pss_cons (ps_set (i := 4) sc__law_element_product.nd rfl (Or.inl rfl) (pe_op op_rep (pe_lst (pa_cons pe_int pa_nil)) (pe_op op_mul pe_int (pv 1))))
      (pss_cons (ps_for PassesOwn.never rfl (pi_enum (by rfl) T.z_enumerate (pa_cons (pe_call (ok__law_digits T) (hr.mono (by decide)) (by rfl) T.g__law_digits T.F__law_digits.kp T.b__law_digits .nil pass0 (pa_cons (pv 0) (pa_cons (pv 2) pa_nil))) pa_nil)) (pg_tup (by rfl) (pgs_cons (pg_name (i := 5) sc__law_element_product.nd rfl (Or.inl rfl)) (pgs_cons (pg_name (i := 6) sc__law_element_product.nd rfl (Or.inl rfl)) pgs_nil))) (pss_one (ps_for PassesOwn.never rfl (pi_enum (by rfl) T.z_enumerate (pa_cons (pe_call (ok__law_digits T) (hr.mono (by decide)) (by rfl) T.g__law_digits T.F__law_digits.kp T.b__law_digits .nil pass0 (pa_cons (pv 0) (pa_cons (pv 3) pa_nil))) pa_nil)) (pg_tup (by rfl) (pgs_cons (pg_name (i := 7) sc__law_element_product.nd rfl (Or.inl rfl)) (pgs_cons (pg_name (i := 8) sc__law_element_product.nd rfl (Or.inl rfl)) pgs_nil))) (pss_one (ps_asg (pe_op op_mod (pe_op op_add (pe_ix (r := rIxL K) ix_list (pv 4) (pe_op op_add (pv 5) (pv 7)) (fun _ _ => rfl)) (pe_op op_mulW (pv 6) (pv 8))) (pv 0)) (pg_sub (pv 4) (pe_op op_add (pv 5) (pv 7)) set_list))))))
      (pss_cons (ps_for PassesOwn.never rfl (pi_range3 rfl T.z_range (pa_cons (pe_op op_sub (pe_op op_mul pe_int (pv 1)) pe_int) (pa_cons (pe_op op_sub (pv 1) pe_int) (pa_cons (pe_un un_neg pe_int) pa_nil)))) (pg_name (i := 5) sc__law_element_product.nd rfl (Or.inl rfl)) (pss_one (ps_if (pt_cmpR op_gt (pv 1) pe_int (nomark _)) (pss_cons (ps_asg (pe_op op_mod (pe_op op_add (pe_ix (r := rIxL K) ix_list (pv 4) (pe_op op_sub (pv 5) (pv 1)) (fun _ _ => rfl)) (pe_ix (r := rIxL K) ix_list (pv 4) (pv 5) (fun _ _ => rfl))) (pv 0)) (pg_sub (pv 4) (pe_op op_sub (pv 5) (pv 1)) set_list))
      (pss_cons (ps_asg (pe_op op_mod (pe_op op_add (pe_ix (r := rIxL K) ix_list (pv 4) (pe_op op_add (pe_op op_sub (pv 5) (pv 1)) pe_int) (fun _ _ => rfl)) (pe_ix (r := rIxL K) ix_list (pv 4) (pv 5) (fun _ _ => rfl))) (pv 0)) (pg_sub (pv 4) (pe_op op_add (pe_op op_sub (pv 5) (pv 1)) pe_int) set_list))
      (pss_one (ps_asg pe_int (pg_sub (pv 4) (pv 5) set_list))))) pss_nil)))
      (pss_cons (ps_set (i := 9) sc__law_element_product.nd rfl (Or.inl rfl) pe_int)
      (pss_cons (ps_for PassesOwn.never rfl (pi_list (pe_revL (pe_slice sl_list (pv 4) po_none (po_some (pv 1))))) (pg_name (i := 10) sc__law_element_product.nd rfl (Or.inl rfl)) (pss_one (ps_set (i := 9) sc__law_element_product.nd rfl (Or.inl rfl) (pe_op op_add (pe_op op_mulW (pv 9) (pv 0)) (pv 10)))))
      (pss_one (ps_ret (pv 9)))))))), ?_⟩
    have hp2 := hp.p2
    have hp7 := hp.p7
    have hf1 := hp.f1
    have hf3 := hp.f3
    have ha343 := pf_343 hp ha
    have hb343 := pf_343 hp hb
    have h0 : 0 < p := by omega
    have hBs : Bs p := ⟨hp2, by omega⟩
    have hla : (dg p a).length ≤ f := dg_len2 (f := f) (a := a) hp2 f a ha
    have hlb : (dg p b).length ≤ f := dg_len2 (f := f) (a := b) hp2 f b hb
    have hGa : Gt a := Nat.lt_trans ha343 (show 343 < 2 ^ 400 from Nat.lt_of_lt_of_le (show 343 < 2 ^ 10 by decide) (Nat.pow_le_pow_right (by decide) (by decide : 10 ≤ 400)))
    have hGb : Gt b := Nat.lt_trans hb343 (show 343 < 2 ^ 400 from Nat.lt_of_lt_of_le (show 343 < 2 ^ 10 by decide) (Nat.pow_le_pow_right (by decide) (by decide : 10 ≤ 400)))
    -- found = [0] * (2 * f)
    refine q_asgL (el_rep (k := ((2 * f : Nat) : Int)) (el_lst (ea_cons ev_c ea_nil) (by show 1 ≤ 100000; decide)) (ev_is (ev_op ev_c (ev_var rfl) (rv_I (.inl ⟨by decide, by decide⟩))) (congrArg V.int (by omega))) (by omega) (by show 1 * _ ≤ _; omega) (by omega)) fun l H1 nl e1 h1 => ?_
    rw [Int.toNat_natCast, rep_zero] at h1
    -- the double loop
    generalize hfd : ouL p (dg p b) 0 (dg p a) (List.replicate (2 * f) 0) = fd
    have hrl : lt_all p (List.replicate (2 * f) 0) := fun x hx => by rw [(List.mem_replicate.mp hx).2]; exact h0
    have hfl : fd.length = 2 * f := by rw [← hfd, ouL_len, List.length_replicate]
    have hft : lt_all p fd := by rw [← hfd]; exact ouL_lt h0 _ _ _ _ hrl
    refine q_forEN (xs := (dg p a).map N_) (el_call (ea_cons (ev_var rfl) (ea_cons (ev_var rfl) ea_nil)) (sv__law_digits hBs hGa)) (fun q i σ H' => ∃ y5 y6 y7 y8 : Option V, σ = [some (N_ p), some (N_ f), some (N_ a), some (N_ b), some (.ref l), y5, y6, y7, y8, none, none] ∧ Exd l H H' ∧ SqL K H' q ((dg p a).map N_) ∧ q ≠ l ∧ H' l = some (.lst ((ouL p (dg p b) 0 ((dg p a).take i) (List.replicate (2 * f) 0)).map N_)))
      (fun q H2 nq e2 h2 => ⟨none, none, none, none, rfl, (Exd.of (e1.trans e2)), sq_of h2, (fun z => by rw [z, h1] at nq; cases nq), e2 _ _ h1⟩) (fun q i σ H2 hi hw => ?_) (fun q i x σ H2 H3 hx hw e3 => ?_) (fun q σ H2 hw => ?_)
    · obtain ⟨y5, y6, y7, y8, rfl, x2, s2, n2, h2⟩ := hw
      exact s2
    · obtain ⟨y5, y6, y7, y8, rfl, x2, s2, n2, h2⟩ := hw
      rw [List.getElem?_map] at hx
      obtain ⟨d, hd, rfl⟩ := Option.map_eq_some_iff.mp hx
      have hil : i < (dg p a).length := (List.getElem?_eq_some_iff.mp hd).1
      have hdp : d < p := dg_lt hp2 a d (List.mem_of_getElem? hd)
      have h3 := e3 _ _ h2
      have s3 := ex_l e3 s2
      generalize hA : ouL p (dg p b) 0 ((dg p a).take i) (List.replicate (2 * f) 0) = fA at h3
      have hAl : fA.length = 2 * f := by rw [← hA, ouL_len, List.length_replicate]
      have hAt : lt_all p fA := by rw [← hA]; exact ouL_lt h0 _ _ _ _ hrl
      refine s_forEN (xs := (dg p b).map N_) (el_call (ea_cons (ev_var rfl) (ea_cons (ev_var rfl) ea_nil)) (sv__law_digits hBs hGb)) (fun q2 j σ H' => ∃ y7 y8 : Option V, σ = [some (N_ p), some (N_ f), some (N_ a), some (N_ b), some (.ref l), some (N_ i), some (N_ d), y7, y8, none, none] ∧ Exd l H H' ∧ SqL K H' q ((dg p a).map N_) ∧ SqL K H' q2 ((dg p b).map N_) ∧ q2 ≠ l ∧ H' l = some (.lst ((inL p i d 0 ((dg p b).take j) fA).map N_)))
        (fun q2 H4 nq4 e4 h4 => ⟨y7, y8, rfl, (x2.trans (Exd.of e3)).trans (Exd.of e4), ex_l e4 s3, sq_of h4, (fun z => by rw [z, h3] at nq4; cases nq4), e4 _ _ h3⟩) (fun q2 j σ H4 hj hw4 => ?_) (fun q2 j x σ H4 H5 hxj hw4 e5 => ?_) (fun q2 σ H4 hw4 => ?_)
      · obtain ⟨y7, y8, rfl, x4, s4, s42, n42, h4⟩ := hw4
        exact s42
      · obtain ⟨y7, y8, rfl, x4, s4, s42, n42, h4⟩ := hw4
        rw [List.getElem?_map] at hxj
        obtain ⟨g, hg, rfl⟩ := Option.map_eq_some_iff.mp hxj
        have hjl : j < (dg p b).length := (List.getElem?_eq_some_iff.mp hg).1
        have hgp : g < p := dg_lt hp2 b g (List.mem_of_getElem? hg)
        have h5 := e5 _ _ h4
        generalize hB : inL p i d 0 ((dg p b).take j) fA = fB at h5
        have hBl : fB.length = 2 * f := by rw [← hB, inL_len, hAl]
        have hij : i + j < fB.length := by omega
        have hget := get_N hij
        refine s_setL (l := l) (j := i + j) h5 (ev_op (ev_op (ev_op (ev_var rfl) (ev_op (ev_var rfl) (ev_var rfl) rv_I0) (rv_ixL (sq_of h5) (atI_nat hget))) (ev_op (ev_var rfl) (ev_var rfl) (rv_I (wide_mul (a := 10) (b := 10) (by show d < 1024; omega) (by show g < 1024; omega) (by decide) (by decide) (by decide)))) rv_I0) (ev_var rfl) (rv_I (by omega))) (ev_var rfl) (ev_op (ev_var rfl) (ev_var rfl) rv_I0) (by rw [List.length_map]; exact hij) fun H6 e6 => ?_
        refine ⟨some (N_ j), some (N_ g), rfl, ((x4.trans (Exd.of e5)).trans (Exd.of e6)).trans Exd.put, exd_l n2 ((Exd.of (e5.trans e6)).trans Exd.put) s4, exd_l n42 ((Exd.of (e5.trans e6)).trans Exd.put) s42, n42, ?_⟩
        rw [upd_same, take_snoc hg, inL_snoc, hB, List.length_take, Nat.min_eq_left (Nat.le_of_lt hjl), Nat.zero_add, List.map_set]
        rfl
      · obtain ⟨y7, y8, rfl, x4, s4, s42, n42, h4⟩ := hw4
        rw [List.length_map, List.take_length] at h4
        refine ⟨some (N_ i), some (N_ d), y7, y8, rfl, x4, s4, n2, ?_⟩
        rw [h4, take_snoc hd, ouL_snoc, hA, List.length_take, Nat.min_eq_left (Nat.le_of_lt hil), Nat.zero_add]
    · obtain ⟨y5, y6, y7, y8, rfl, x2, s2, n2, h2⟩ := hw
      rw [List.length_map, List.take_length, hfd] at h2
      -- the powers of u from f on
      refine q_forRd (lo := ((2 * f : Nat) : Int) - 1) (n := (f : Int) - 1) (ea_cons (ev_is (ev_op (ev_op ev_c (ev_var rfl) (rv_I (.inl ⟨by decide, by decide⟩))) ev_c rv_I0) (congrArg V.int (by omega))) (ea_cons (ev_op (ev_var rfl) ev_c rv_I0) (ea_cons (ev_un ev_c ru_neg) ea_nil))) ⟨by omega, by omega, by omega, by omega⟩ (fun i σ H' => ∃ y5 y6 y7 y8 : Option V, σ = [some (N_ p), some (N_ f), some (N_ a), some (N_ b), some (.ref l), y5, y6, y7, y8, none, none] ∧ Exd l H H' ∧ H' l = some (.lst ((dnL p f fd i).map N_)))
        (fun H3 e3 => ⟨y5, y6, y7, y8, rfl, x2.trans (Exd.of e3), e3 _ _ h2⟩) (fun i σ H3 hi hw3 => ?_) (fun σ H3 hw3 => ?_)
      · obtain ⟨y5, y6, y7, y8, rfl, x3, h3⟩ := hw3
        have hif : i < f := by omega
        have hm : ((2 * f : Nat) : Int) - 1 - (i : Int) = ((2 * f - 1 - i : Nat) : Int) := by omega
        rw [hm]
        generalize hmm : 2 * f - 1 - i = m
        have hmf : f ≤ m ∧ m < 2 * f := by omega
        generalize hG : dnL p f fd i = g0 at h3
        have hgl : g0.length = 2 * f := by rw [← hG, dnL_len, hfl]
        have hstep : dnL p f fd (i + 1) = rdL p f m g0 := by rw [← hG, ← hmm]; rfl
        refine s_when (et_test (ev_op (ev_var rfl) ev_c rv_I0)) (fun hb H4 e4 => ?_) (fun hb H4 e4 => ?_)
        · have hf2 : 1 < f := by have := of_decide_eq_true hb; omega
          have h4 := e4 _ _ h3
          have em : ∀ H, Ev (tOp (rI0 fun i j => V.int (i - j)) (tVar 5) (tVar 1)) [some (N_ p), some (N_ f), some (N_ a), some (N_ b), some (.ref l), some (N_ m), y6, y7, y8, none, none] H (N_ (m - f)) := fun H => ev_is (ev_op (ev_var rfl) (ev_var rfl) rv_I0) (congrArg V.int (by omega))
          have em1 : ∀ H, Ev (tOp (rI0 fun i j => V.int (i + j)) (tOp (rI0 fun i j => V.int (i - j)) (tVar 5) (tVar 1)) (tC (.int 1))) [some (N_ p), some (N_ f), some (N_ a), some (N_ b), some (.ref l), some (N_ m), y6, y7, y8, none, none] H (N_ (m - f + 1)) := fun H => ev_is (ev_op (em H) ev_c rv_I0) (congrArg V.int (by omega))
          refine q_setL (l := l) (j := m - f) h4 (ev_op (ev_op (ev_op (ev_var rfl) (em _) (rv_ixL (sq_of h4) (atI_nat (get_N (by omega))))) (ev_op (ev_var rfl) (ev_var rfl) (rv_ixL (sq_of h4) (atI_nat (get_N (i := m) (by omega))))) rv_I0) (ev_var rfl) (rv_I (by omega))) (ev_var rfl) (em _) (by rw [List.length_map]; omega) fun H5 e5 => ?_
          have h5 : (upd H5 l (.lst ((g0.map N_).set (m - f) (N_ ((g0.getD (m - f) 0 + g0.getD m 0) % p))))) l = some (.lst ((g0.set (m - f) ((g0.getD (m - f) 0 + g0.getD m 0) % p)).map N_)) := by rw [upd_same, List.map_set]
          have x5 : Exd l H (upd H5 l (.lst ((g0.map N_).set (m - f) (N_ ((g0.getD (m - f) 0 + g0.getD m 0) % p))))) := (x3.trans (Exd.of (e4.trans e5))).trans Exd.put
          generalize hg1 : g0.set (m - f) ((g0.getD (m - f) 0 + g0.getD m 0) % p) = g1 at h5
          have hl1 : g1.length = 2 * f := by rw [← hg1, List.length_set, hgl]
          refine q_setL (l := l) (j := m - f + 1) h5 (ev_op (ev_op (ev_op (ev_var rfl) (em1 _) (rv_ixL (sq_of h5) (atI_nat (get_N (by omega))))) (ev_op (ev_var rfl) (ev_var rfl) (rv_ixL (sq_of h5) (atI_nat (get_N (i := m) (by omega))))) rv_I0) (ev_var rfl) (rv_I (by omega))) (ev_var rfl) (em1 _) (by rw [List.length_map]; omega) fun H6 e6 => ?_
          have h6 : (upd H6 l (.lst ((g1.map N_).set (m - f + 1) (N_ ((g1.getD (m - f + 1) 0 + g1.getD m 0) % p))))) l = some (.lst ((g1.set (m - f + 1) ((g1.getD (m - f + 1) 0 + g1.getD m 0) % p)).map N_)) := by rw [upd_same, List.map_set]
          have x6 := (x5.trans (Exd.of e6)).trans (Exd.put (o := .lst ((g1.map N_).set (m - f + 1) (N_ ((g1.getD (m - f + 1) 0 + g1.getD m 0) % p)))))
          generalize hg2 : g1.set (m - f + 1) ((g1.getD (m - f + 1) 0 + g1.getD m 0) % p) = g2' at h6
          have hl2 : g2'.length = 2 * f := by rw [← hg2, List.length_set, hl1]
          refine s_setL (l := l) (j := m) h6 ev_c (ev_var rfl) (ev_var rfl) (by rw [List.length_map]; omega) fun H7 e7 => ⟨some (N_ m), y6, y7, y8, rfl, (x6.trans (Exd.of e7)).trans Exd.put, ?_⟩
          rw [upd_same, hstep]
          unfold rdL
          rw [if_pos hf2]
          show some (HO.lst ((g2'.map N_).set m (N_ 0))) = some (.lst (((((g0.set (m - f) ((g0.getD (m - f) 0 + g0.getD m 0) % p)).set (m - f + 1) (((g0.set (m - f) ((g0.getD (m - f) 0 + g0.getD m 0) % p)).getD (m - f + 1) 0 + (g0.set (m - f) ((g0.getD (m - f) 0 + g0.getD m 0) % p)).getD m 0) % p)).set m 0)).map N_))
          rw [hg1, hg2, List.map_set]
        · have hf2 : ¬ 1 < f := by have := of_decide_eq_false hb; omega
          refine ⟨some (N_ m), y6, y7, y8, rfl, x3.trans (Exd.of e4), ?_⟩
          rw [hstep]
          unfold rdL
          rw [if_neg hf2]
          exact e4 _ _ h3
      · obtain ⟨y5, y6, y7, y8, rfl, x3, h3⟩ := hw3
        have hn : (((2 * f : Nat) : Int) - 1 - ((f : Int) - 1)).toNat = f := by omega
        rw [hn] at h3
        generalize hG : dnL p f fd f = g0 at h3
        have hgl : g0.length = 2 * f := by rw [← hG, dnL_len, hfl]
        have hgt : lt_all p g0 := by rw [← hG]; exact dnL_lt h0 f hft f
        refine q_asg ev_c fun H4 e4 => ?_
        have h4 := e4 _ _ h3
        generalize hys : g0.take f = ys
        have hyl : ys.length = f := by rw [← hys, List.length_take, hgl]; omega
        have hyt : ∀ d ∈ ys, d < p := fun d hd => hgt d (by rw [← hys] at hd; exact List.mem_of_mem_take hd)
        have ek : epL p f a b = od p ys := by
          unfold epL
          rw [hfd, hG, hys]
        rw [ek] at k
        refine q_forNLn (xs := (ys.map N_).reverse) (el_is (el_revN (el_sl (ev_var rfl) eo_none (eo_some (ev_var rfl)) (sq_of h4))) (by rw [cutTake, ← List.map_take, hys])) (fun q i σ H' => ∃ y10, σ = [some (N_ p), some (N_ f), some (N_ a), some (N_ b), some (.ref l), y5, y6, y7, y8, some (N_ (od p (ys.drop (ys.length - i)))), y10] ∧ Exd l H H' ∧ SqL K H' q (ys.map N_).reverse)
          (fun q H5 nq e5 h5 => ⟨none, by rw [Nat.sub_zero, List.drop_length]; rfl, x3.trans (Exd.of (e4.trans e5)), sq_of h5⟩) (fun q i σ H5 hi hw => ?_) (fun q i x σ H5 hx hw => ?_) (fun q σ H5 hw => ?_)
        · obtain ⟨y10, rfl, x5, s5⟩ := hw
          exact s5
        · obtain ⟨y10, rfl, x5, s5⟩ := hw
          rw [← List.map_reverse, List.getElem?_map] at hx
          obtain ⟨d, hd, rfl⟩ := Option.map_eq_some_iff.mp hx
          have hil : i < ys.length := by
            have := (List.getElem?_eq_some_iff.mp hd).1
            rwa [List.length_reverse] at this
          have hlt := od_lt (b := p) (by omega) (ys.drop (ys.length - i)) fun z hz => hyt z (List.mem_of_mem_drop hz)
          have hlt2 : od p (ys.drop (ys.length - i)) < 2 ^ 40 := Nat.lt_of_lt_of_le hlt (Nat.pow_le_pow_right (by decide) (by rw [List.length_drop]; omega))
          refine s_asg (ev_op (ev_op (ev_var rfl) (ev_var rfl) (rv_I (wide_mul (a := 40) (b := 10) (by exact hlt2) (by show p < 1024; omega) (by decide) (by decide) (by decide)))) (ev_var rfl) rv_I0) fun H6 e6 => ⟨some (N_ d), ?_, x5.trans (Exd.of e6), ex_l e6 s5⟩
          rw [od_drop hil hd, show N_ (d + p * od p (ys.drop (ys.length - i))) = V.int (((od p (ys.drop (ys.length - i)) : Nat) : Int) * (p : Int) + (d : Int)) from congrArg V.int (by rw [Int.natCast_add, Int.natCast_mul, Int.mul_comm, Int.add_comm])]
          rfl
        · obtain ⟨y10, rfl, x5, s5⟩ := hw
          rw [List.length_reverse, List.length_map, Nat.sub_self, List.drop_zero]
          exact s_ret (ev_var rfl) fun H6 e6 => k H6 (exl nl (x5.trans (Exd.of e6)))


end Own
namespace Own
open PySem PySem.Spec PyProof.Rows L2 Evl
def sE (q a b : Nat) : Nat := esL (prE q) (poE q) a b
def pE (q a b : Nat) : Nat := epL (prE q) (poE q) a b
def oE (q a : Nat) : Nat := ((List.range q).find? fun b => decide (sE q a b = 0)).getD 0
theorem chk_own : chkAll (fun q => all1 q fun a => decide (oE q a < q) && decide (sE q a (oE q a) = 0) && (all1 (oE q a) fun b => decide (sE q a b ≠ 0))) = true := by decide +kernel
theorem pow_q {q : Nat} (hq : Fq q) : prE q ^ poE q = q := (t0_of hq).pw
theorem pf_q {q : Nat} (hq : Fq q) : PF_ (prE q) (poE q) := ⟨(t0_of hq).p2, (t0_of hq).p7, (t0_of hq).f1, (t0_of hq).f3⟩
structure T1 (q a : Nat) : Prop where
  oL : oE q a < q
theorem t1_of {q a : Nat} (hq : Fq q) (ha : a < q) : T1 q a := by
  have h := all1_get (chk_get chk_own hq) ha
  simp only [Bool.and_eq_true, decide_eq_true_eq] at h
  exact ⟨h.1.1⟩
theorem op_q {q a : Nat} (hq : Fq q) (ha : a < q) : sE q a (oE q a) = 0 ∧ ∀ b, b < oE q a → sE q a b ≠ 0 := by
  have h := all1_get (chk_get chk_own hq) ha
  simp only [Bool.and_eq_true, decide_eq_true_eq] at h
  exact ⟨h.1.2, fun b hb => of_decide_eq_true (all1_get h.2 hb)⟩
def row2 (g : Nat → Nat → Nat → Nat) (q : Nat) : List (List Nat) := (List.range q).map fun a => (List.range q).map fun b => g q a b
/-- a list of lists of natural numbers that stands in the heap, all at addresses of the kind N -/
def LLt (N : Addr → Prop) (H : Hp) (a : Addr) (xss : List (List Nat)) : Prop := ∃ rs : List Addr, N a ∧ H a = some (.lst (rs.map V.ref)) ∧ rs.length = xss.length ∧ ∀ (i : Nat) (r : Addr) (xs : List Nat), rs[i]? = some r → xss[i]? = some xs → N r ∧ H r = some (.lst (xs.map N_))
structure FldAt (N : Addr → Prop) (H : Hp) (d : Addr) (q : Nat) : Prop where
  nd : N d
  dc : ∃ (kvs : List (Key × V)) (a1 a2 a3 : Addr), H d = some (.dK kvs) ∧ valV kvs (Sum.inr "q") = some (N_ q) ∧ valV kvs (Sum.inr "p") = some (N_ (prE q)) ∧ valV kvs (Sum.inr "f") = some (N_ (poE q)) ∧ valV kvs (Sum.inr "plus") = some (.ref a1) ∧ valV kvs (Sum.inr "mul") = some (.ref a2) ∧ valV kvs (Sum.inr "minus") = some (.ref a3) ∧
    LLt N H a1 (row2 sE q) ∧ LLt N H a2 (row2 pE q) ∧ N a3 ∧ H a3 = some (.lst (((List.range q).map (oE q)).map N_))
theorem LLt.keep {N M : Addr → Prop} {H H' : Hp} {a : Addr} {xss : List (List Nat)} (h : LLt N H a xss) (hk : ∀ b o, N b → H b = some o → M b ∧ H' b = some o) : LLt M H' a xss := by
  obtain ⟨rs, n, h1, h2, h3⟩ := h
  exact ⟨rs, (hk _ _ n h1).1, (hk _ _ n h1).2, h2, fun i r xs e1 e2 => hk _ _ (h3 i r xs e1 e2).1 (h3 i r xs e1 e2).2⟩
theorem FldAt.keep {N M : Addr → Prop} {H H' : Hp} {d : Addr} {q : Nat} (h : FldAt N H d q) (hk : ∀ b o, N b → H b = some o → M b ∧ H' b = some o) : FldAt M H' d q := by
  obtain ⟨nd, kvs, a1, a2, a3, h1, g1, g2, g3, g4, g5, g6, l1, l2, n3, h3⟩ := h
  exact ⟨(hk _ _ nd h1).1, kvs, a1, a2, a3, (hk _ _ nd h1).2, g1, g2, g3, g4, g5, g6, l1.keep hk, l2.keep hk, (hk _ _ n3 h3).1, (hk _ _ n3 h3).2⟩
theorem FldAt.ex {N : Addr → Prop} {H H' : Hp} {d : Addr} {q : Nat} (h : FldAt N H d q) (e : Ex H H') : FldAt N H' d q := h.keep fun b o n q => ⟨n, e _ _ q⟩
section
variable {K : PySem.W.Frag} {σ : L2.St} {H H' : Hp} {ta tb te : TE} {D : Ends} {tz : TS}
theorem q_asgLL {i : Nat} {xss : List (List V)} (h : EvLL te σ H xss) (k : ∀ (p : Addr) (rs : List Addr) H1, H p = none → Ex H H1 → H1 p = some (.lst (rs.map V.ref)) → rs.length = xss.length → (∀ (i : Nat) (r : Addr) (xs : List V), rs[i]? = some r → xss[i]? = some xs → H r = none ∧ H1 r = some (.lst xs)) → tz D (σ.set i (some (.ref p))) H1) : tSeq (tAsg te (gName i)) tz D σ H := h H (Ex.refl H) _ k
end
theorem ll_of {H0 H1 : Hp} {p : Addr} {rs : List Addr} {g : Nat → Nat → Nat → Nat} {q : Nat} (hp : H0 p = none) (h1 : H1 p = some (.lst (rs.map V.ref))) (hl : rs.length = ((row2 g q).map (·.map N_)).length) (hr : ∀ (i : Nat) (r : Addr) (xs : List V), rs[i]? = some r → ((row2 g q).map (·.map N_))[i]? = some xs → H0 r = none ∧ H1 r = some (.lst xs)) : LLt (fun x => H0 x = none) H1 p (row2 g q) :=
  ⟨rs, hp, h1, by rw [hl, List.length_map], fun i r xs e1 e2 => hr i r _ e1 (by rw [List.getElem?_map, e2]; rfl)⟩

theorem valV_merge : ∀ (more acc : List (Key × V)) (k : Key) (v : V), valV more.reverse k = some v → valV (mergeK acc more) k = some v
  | [], acc, k, v, h => by cases h
  | (k', v') :: r, acc, k, v, h => by
    show valV (mergeK (putK acc k' v') r) k = some v
    by_cases hr : (valV r.reverse k).isSome
    · obtain ⟨v2, h2⟩ := Option.isSome_iff_exists.mp hr
      have : valV ((k', v') :: r).reverse k = some v2 := by
        rw [List.reverse_cons]
        unfold valV at h2 ⊢
        rw [List.find?_append]
        obtain ⟨p, hp, hp2⟩ := Option.map_eq_some_iff.mp h2
        rw [hp]
        exact congrArg some hp2
      rw [this] at h
      exact valV_merge r _ k v (by rw [h2]; exact h)
    · have hn : valV r.reverse k = none := by
        cases e : valV r.reverse k with
        | none => rfl
        | some x => rw [e] at hr; exact absurd rfl hr
      have hk : k' = k ∧ v' = v := by
        rw [List.reverse_cons] at h
        unfold valV at h hn
        rw [List.find?_append] at h
        have h0 : (r.reverse.find? fun kv => decide (kv.1 = k)) = none := Option.map_eq_none_iff.mp hn
        rw [h0, Option.none_or, List.find?_cons] at h
        by_cases e : k' = k
        · rw [decide_eq_true e] at h
          exact ⟨e, Option.some.inj h⟩
        · rw [decide_eq_false e] at h
          cases h
      obtain ⟨rfl, rfl⟩ := hk
      have hany : ∀ (r : List (Key × V)) (acc : List (Key × V)), valV r.reverse k' = none → valV (mergeK acc r) k' = valV acc k' := by
        intro r
        induction r with
        | nil => intro acc _; rfl
        | cons p r ih =>
          intro acc h
          rw [List.reverse_cons] at h
          unfold valV at h
          rw [List.find?_append] at h
          have h1 := Option.map_eq_none_iff.mp h
          rw [Option.or_eq_none_iff] at h1
          have h2 : ¬ p.1 = k' := fun e => by
            have := h1.2
            rw [List.find?_cons, decide_eq_true e] at this
            cases this
          show valV (mergeK (putK acc p.1 p.2) r) k' = _
          rw [ih (putK acc p.1 p.2) (by unfold valV; rw [h1.1]; rfl), valV_put, if_neg (fun e => h2 e.symm)]
      rw [hany r _ hn, valV_put, if_pos rfl]
theorem pairs_go {te : TE} {σ : L2.St} {H : Hp} {xs : List V} {kx : V} {Q : List (V × V) → Hp → Prop} (h : EvL te σ H xs) (k : ∀ p H2, H p = none → Ex H H2 → H2 p = some (.lst xs) → Q [(kx, .ref p)] H2) : tPairs [(tC kx, te)] σ H Q := h H (Ex.refl H) _ k
def sp__law_field (K : PySem.W.Frag) : Sp := fun vs H Q _ => ∃ (q : Nat), vs = [N_ q] ∧ Fq q ∧ ∀ d H', Ex H H' → FldAt (fun x => H x = none) H' d q → Q (.ref d) H'

theorem ok__law_field {P : Program} {w : World} {K : PySem.W.Frag} {mg : Str → Option Value} {base : Heap} (T : Txt K mg) : FnOk P w K mg base CX0 3 T.a__law_field T.d__law_field ["_law_q_here"] (sp__law_field K) := by
  refine T.F__law_field.ok sc__law_field (fun vs H Q E h => ?_) (fun cdv A outer s H vs Q E hr h => ?_)
  · obtain ⟨q, rfl, _⟩ := h
    rfl
  · obtain ⟨q, rfl, hq, k⟩ := h
    refine ⟨_, (pss_cons (ps_asg (pe_dget (hu_of hr) (pe_disp (pps_cons pe_int (pe_tup (pa_cons pe_int (pa_cons pe_int pa_nil))) (pps_cons pe_int (pe_tup (pa_cons pe_int (pa_cons pe_int pa_nil))) (pps_cons pe_int (pe_tup (pa_cons pe_int (pa_cons pe_int pa_nil))) (pps_cons pe_int (pe_tup (pa_cons pe_int (pa_cons pe_int pa_nil))) (pps_cons pe_int (pe_tup (pa_cons pe_int (pa_cons pe_int pa_nil))) (pps_cons pe_int (pe_tup (pa_cons pe_int (pa_cons pe_int pa_nil))) (pps_cons pe_int (pe_tup (pa_cons pe_int (pa_cons pe_int pa_nil))) pps_nil))))))) (by rfl) (by rfl) (fun z => by cases z) (by decide)) (pv 0) (fun _ _ => rfl)) (pg_tup (by rfl) (pgs_cons (pg_name (i := 1) sc__law_field.nd rfl (Or.inr rfl)) (pgs_cons (pg_name (i := 2) sc__law_field.nd rfl (Or.inr rfl)) pgs_nil))))
      (pss_cons (ps_setLc (i := 3) (own := [("_law_one", 5)]) (g := gName 5) (by rfl) sc__law_field.nd rfl rfl (sw_true rfl rfl rfl (by decide +kernel)) (pi_range1 rfl T.z_range (pa_cons (pv 0) pa_nil)) (blkOk_by (N := ["_law_q_here", "_law_p", "_law_f", "_law_plus", "_law_other", "_law_one", "_law_mul", "_law_row"]) (sc := defScope s__law_field) (by decide +kernel)) (fun _ _ _ _ _ => pg_name (i := 5) sc__law_field.nd rfl (Or.inr rfl)) (fun _ _ _ _ _ => pts_nil) (fun _ _ _ _ _ => (pe_lc (own := [("_law_other", 4)]) (g := gName 4) rfl sc__law_field.nd (pi_range1 rfl T.z_range (pa_cons (pv 0) pa_nil)) (blkOk_by (by kernel_rfl)) (fun _ _ _ _ _ => pg_name (i := 4) sc__law_field.nd rfl (Or.inl rfl)) (fun _ _ _ _ _ => pts_nil) (fun _ _ _ _ _ => (pe_call (ok__law_element_sum T) (hr.mono (by decide)) (by rfl) T.g__law_element_sum T.F__law_element_sum.kp T.b__law_element_sum .nil pass0 (pa_cons (pv 1) (pa_cons (pv 2) (pa_cons (pv 5) (pa_cons (pv 4) pa_nil)))))))))
      (pss_cons (ps_setLc (i := 6) (own := [("_law_one", 5)]) (g := gName 5) (by rfl) sc__law_field.nd rfl rfl (sw_true rfl rfl rfl (by decide +kernel)) (pi_range1 rfl T.z_range (pa_cons (pv 0) pa_nil)) (blkOk_by (N := ["_law_q_here", "_law_p", "_law_f", "_law_plus", "_law_other", "_law_one", "_law_mul", "_law_row"]) (sc := defScope s__law_field) (by decide +kernel)) (fun _ _ _ _ _ => pg_name (i := 5) sc__law_field.nd rfl (Or.inr rfl)) (fun _ _ _ _ _ => pts_nil) (fun _ _ _ _ _ => (pe_lc (own := [("_law_other", 4)]) (g := gName 4) rfl sc__law_field.nd (pi_range1 rfl T.z_range (pa_cons (pv 0) pa_nil)) (blkOk_by (by kernel_rfl)) (fun _ _ _ _ _ => pg_name (i := 4) sc__law_field.nd rfl (Or.inl rfl)) (fun _ _ _ _ _ => pts_nil) (fun _ _ _ _ _ => (pe_call (ok__law_element_product T) (hr.mono (by decide)) (by rfl) T.g__law_element_product T.F__law_element_product.kp T.b__law_element_product .nil pass0 (pa_cons (pv 1) (pa_cons (pv 2) (pa_cons (pv 5) (pa_cons (pv 4) pa_nil)))))))))
      (pss_one (ps_ret (pe_disp (pps_cons pe_str (pv 0) (pps_cons pe_str (pv 1) (pps_cons pe_str (pv 2) (pps_cons pe_str (pv 3) (pps_cons pe_str (pv 6) (pps_cons pe_str (pe_lc (own := [("_law_row", 7)]) (g := gName 7) rfl sc__law_field.nd (pi_list (pv 3)) (blkOk_by (N := ["_law_q_here", "_law_p", "_law_f", "_law_plus", "_law_other", "_law_one", "_law_mul", "_law_row"]) (sc := defScope s__law_field) (by decide +kernel)) (fun _ _ _ _ _ => pg_name (i := 7) sc__law_field.nd rfl (Or.inl rfl)) (fun _ _ _ _ _ => pts_nil) (fun _ _ _ _ _ => (show PE _ _ (tBM K "list" (rIndex K) (tVar 7) (tCons (tC (.int 0)) tNil)) from (pe_bm PySem.F.plainAttrs_list PySem.F.slot_list_index PySem.F.type_list_index mt_index (pv 7) (pa_cons pe_int pa_nil))))) pps_nil)))))) (by rfl) (by rfl) (fun z => by cases z) (by decide))))))), ?_⟩
    have hpf := pf_q hq
    have hqb := hq.b
    intro d0 nd0
    refine ⟨by show 2 ≤ sizeLine; decide, fun t1 n1 => ⟨by show 2 ≤ sizeLine; decide, fun t2 n2 => ⟨by show 2 ≤ sizeLine; decide, fun t3 n3 => ⟨by show 2 ≤ sizeLine; decide, fun t4 n4 => ⟨by show 2 ≤ sizeLine; decide, fun t5 n5 => ⟨by show 2 ≤ sizeLine; decide, fun t6 n6 => ⟨by show 2 ≤ sizeLine; decide, fun t7 n7 => ?_⟩⟩⟩⟩⟩⟩⟩
    generalize hD : upd (upd (upd (upd (upd (upd (upd (upd H d0 (.dK [])) t1 (.tup [.int 2, .int 1])) t2 (.tup [.int 3, .int 1])) t3 (.tup [.int 2, .int 2])) t4 (.tup [.int 5, .int 1])) t5 (.tup [.int 7, .int 1])) t6 (.tup [.int 2, .int 3])) t7 (.tup [.int 3, .int 2]) = HD
    have x0 : Ex H (upd H d0 (.dK [])) := Ex.new nd0
    have eD : Ex H HD := by rw [← hD]; exact ((((((x0.trans (Ex.new n1)).trans (Ex.new n2)).trans (Ex.new n3)).trans (Ex.new n4)).trans (Ex.new n5)).trans (Ex.new n6)).trans (Ex.new n7)
    have eD0 : Ex (upd H d0 (.dK [])) HD := by rw [← hD]; exact (((((((Ex.new n1).trans (Ex.new n2)).trans (Ex.new n3)).trans (Ex.new n4)).trans (Ex.new n5)).trans (Ex.new n6)).trans (Ex.new n7))
    have g7 : HD t7 = some (.tup [.int 3, .int 2]) := by rw [← hD]; exact upd_same
    have g6 : HD t6 = some (.tup [.int 2, .int 3]) := by rw [← hD]; exact (Ex.new n7) _ _ upd_same
    have g5 : HD t5 = some (.tup [.int 7, .int 1]) := by rw [← hD]; exact ((Ex.new n6).trans (Ex.new n7)) _ _ upd_same
    have g4 : HD t4 = some (.tup [.int 5, .int 1]) := by rw [← hD]; exact (((Ex.new n5).trans (Ex.new n6)).trans (Ex.new n7)) _ _ upd_same
    have g3 : HD t3 = some (.tup [.int 2, .int 2]) := by rw [← hD]; exact ((((Ex.new n4).trans (Ex.new n5)).trans (Ex.new n6)).trans (Ex.new n7)) _ _ upd_same
    have g2' : HD t2 = some (.tup [.int 3, .int 1]) := by rw [← hD]; exact (((((Ex.new n3).trans (Ex.new n4)).trans (Ex.new n5)).trans (Ex.new n6)).trans (Ex.new n7)) _ _ upd_same
    have g1' : HD t1 = some (.tup [.int 2, .int 1]) := by rw [← hD]; exact ((((((Ex.new n2).trans (Ex.new n3)).trans (Ex.new n4)).trans (Ex.new n5)).trans (Ex.new n6)).trans (Ex.new n7)) _ _ upd_same
    clear hD
    have hd0 : HD d0 = some (.dK []) := eD0 _ _ upd_same
    have hnew : ∀ x o, HD x = some o → x ≠ d0 → (upd HD d0 (.dK (mergeK [] [(Sum.inl 2, .ref t1), (Sum.inl 3, .ref t2), (Sum.inl 4, .ref t3), (Sum.inl 5, .ref t4), (Sum.inl 7, .ref t5), (Sum.inl 8, .ref t6), (Sum.inl 9, .ref t7)]))) x = some o := fun x o h n => by rw [upd_ne n]; exact h
    refine ⟨hd0, [(Sum.inl 2, .ref t1), (Sum.inl 3, .ref t2), (Sum.inl 4, .ref t3), (Sum.inl 5, .ref t4), (Sum.inl 7, .ref t5), (Sum.inl 8, .ref t6), (Sum.inl 9, .ref t7)], rfl, by show 7 ≤ 15; decide, ?_⟩
    have hv : ∃ t, valV (mergeK [] ([(Sum.inl 2, .ref t1), (Sum.inl 3, .ref t2), (Sum.inl 4, .ref t3), (Sum.inl 5, .ref t4), (Sum.inl 7, .ref t5), (Sum.inl 8, .ref t6), (Sum.inl 9, .ref t7)] : List (Key × V))) (Sum.inl (q : Int)) = some (.ref t) ∧ HD t = some (.tup [N_ (prE q), N_ (poE q)]) := by
      have hq' := hq
      unfold Fq FQ at hq'
      simp only [List.mem_cons, List.not_mem_nil, or_false] at hq'
      rcases hq' with rfl | rfl | rfl | rfl | rfl | rfl | rfl
      · exact ⟨t1, valV_merge _ _ _ _ rfl, g1'⟩
      · exact ⟨t2, valV_merge _ _ _ _ rfl, g2'⟩
      · exact ⟨t3, valV_merge _ _ _ _ rfl, g3⟩
      · exact ⟨t4, valV_merge _ _ _ _ rfl, g4⟩
      · exact ⟨t5, valV_merge _ _ _ _ rfl, g5⟩
      · exact ⟨t6, valV_merge _ _ _ _ rfl, g6⟩
      · exact ⟨t7, valV_merge _ _ _ _ rfl, g7⟩
    obtain ⟨t, hv1, hv2⟩ := hv
    have htd : t ≠ d0 := fun z => by rw [z, hd0] at hv2; cases hv2
    refine ⟨N_ q, rfl, d0, .ref t, rfl, hv1 ▸ DGet.k (k := Sum.inl (q : Int)) upd_same, t, [N_ (prE q), N_ (poE q)], rfl, st_of (hnew _ _ hv2 htd), rfl, N_ (prE q), [N_ (poE q)], rfl, N_ (poE q), [], rfl, rfl, ?_⟩
    have eF : Ex H (upd HD d0 (.dK (mergeK [] [(Sum.inl 2, .ref t1), (Sum.inl 3, .ref t2), (Sum.inl 4, .ref t3), (Sum.inl 5, .ref t4), (Sum.inl 7, .ref t5), (Sum.inl 8, .ref t6), (Sum.inl 9, .ref t7)]))) := Ex.mut eD nd0
    generalize (upd HD d0 (.dK (mergeK [] [(Sum.inl 2, .ref t1), (Sum.inl 3, .ref t2), (Sum.inl 4, .ref t3), (Sum.inl 5, .ref t4), (Sum.inl 7, .ref t5), (Sum.inl 8, .ref t6), (Sum.inl 9, .ref t7)]))) = HF at eF
    clear hnew
    -- plus, mul
    refine q_asgLL (ell_is (ell_lcR1 (n := q) (ea_cons (ev_var rfl) ea_nil) (by omega) (xss := (row2 sE q).map (·.map N_)) (by rw [List.length_map]; unfold row2; rw [List.length_map, List.length_range]) (fun _ => rfl) (fun i xs H1 e1 hi hx => ?_)) rfl) fun a1 rs1 H1 na1 e1 h1 hl1 hr1 => ?_
    · unfold row2 at hx
      rw [List.getElem?_map, List.getElem?_map, List.getElem?_range hi] at hx
      cases (Option.some.inj hx : _ = xs)
      refine el_is (el_lcR1 (n := (q : Int)) (fun _ => true) (fun j => N_ (esL (prE q) (poE q) i j)) (ea_cons (ev_var rfl) ea_nil) ⟨by omega, by omega⟩ (fun _ => rfl) (fun _ _ _ _ => et_nil) (fun j H2 e2 hj _ => ev_call (ea_cons (ev_var rfl) (ea_cons (ev_var rfl) (ea_cons (ev_var rfl) (ea_cons (ev_var rfl) ea_nil)))) (sv__law_element_sum hpf))) ?_
      rw [Int.toNat_natCast, given_range]
      show _ = ((List.range q).map fun b => sE q i b).map N_
      rw [List.map_map]
      exact List.map_congr_left fun j hj => rfl
    refine q_asgLL (ell_is (ell_lcR1 (n := q) (ea_cons (ev_var rfl) ea_nil) (by omega) (xss := (row2 pE q).map (·.map N_)) (by rw [List.length_map]; unfold row2; rw [List.length_map, List.length_range]) (fun _ => rfl) (fun i xs H2 e2 hi hx => ?_)) rfl) fun a2 rs2 H2 na2 e2 h2 hl2 hr2 => ?_
    · unfold row2 at hx
      rw [List.getElem?_map, List.getElem?_map, List.getElem?_range hi] at hx
      cases (Option.some.inj hx : _ = xs)
      have hpq := pow_q hq
      refine el_is (el_lcR1 (n := (q : Int)) (fun j => true) (fun j => N_ (epL (prE q) (poE q) i j)) (ea_cons (ev_var rfl) ea_nil) ⟨by omega, by omega⟩ (fun _ => rfl) (fun _ _ _ _ => et_nil) (fun j H3 e3 hj _ => ev_call (ea_cons (ev_var rfl) (ea_cons (ev_var rfl) (ea_cons (ev_var rfl) (ea_cons (ev_var rfl) ea_nil)))) (sv__law_element_product hpf (by rw [hpq]; exact hi) (by rw [hpq]; omega)))) ?_
      rw [Int.toNat_natCast, given_range]
      show _ = ((List.range q).map fun b => pE q i b).map N_
      rw [List.map_map]
      exact List.map_congr_left fun j hj => rfl
    have L1 : LLt (fun x => H x = none) H1 a1 (row2 sE q) := (ll_of na1 h1 hl1 hr1).keep fun b o n h => ⟨fresh_back eF n, h⟩
    have L2' : LLt (fun x => H x = none) H2 a2 (row2 pE q) := (ll_of na2 h2 hl2 hr2).keep fun b o n h => ⟨fresh_back (eF.trans e1) n, h⟩
    -- the dict
    intro d nd
    have xd : Ex H2 (upd H2 d (.dK [])) := Ex.new nd
    have hq9 := hqb.2
    have hl1' : rs1.length = q := by rw [hl1, List.length_map]; unfold row2; rw [List.length_map, List.length_range]
    refine ⟨N_ q, rfl, N_ (prE q), rfl, N_ (poE q), rfl, .ref a1, rfl, .ref a2, rfl, ?_⟩
    show tPairs [_] _ _ _
    refine pairs_go (el_is (ys := ((List.range q).map (oE q)).map N_) (el_lcL (xs := rs1.map V.ref) (fun _ => true) (fun i => N_ (oE q i)) (ev_var rfl) (sq_of (xd _ _ (e2 _ _ h1))) (by rw [List.length_map]; omega) (fun _ => rfl) (fun _ _ _ _ _ => et_nil) (fun i x H3 e3 hx _ => ?_)) ?_) fun a3 H3 na3 e3 h3 => ?_
    · rw [List.getElem?_map] at hx
      obtain ⟨r, hr, hx2⟩ := Option.map_eq_some_iff.mp hx
      subst hx2
      have hi : i < q := by rw [← hl1']; exact (List.getElem?_eq_some_iff.mp hr).1
      have ho := op_q hq hi
      have hoL := (t1_of hq hi).oL
      have hrow : (row2 sE q)[i]? = some ((List.range q).map fun b => sE q i b) := by unfold row2; rw [List.getElem?_map, List.getElem?_range hi]; rfl
      have hst := (hr1 i r _ hr (by rw [List.getElem?_map, hrow]; rfl)).2
      refine fun H4 e4 Q' q' => ⟨.ref r, rfl, Or.inl ⟨rfl, _, sq_of (e4 _ _ (e3 _ _ (xd _ _ (e2 _ _ hst))))⟩, r, _, .int 0, oE q i, N_ (sE q i (oE q i)), rfl, rfl, sq_of (e4 _ _ (e3 _ _ (xd _ _ (e2 _ _ hst)))), rfl, ?_, ?_, ?_, fun m z hm hz => ?_, q' H4 (Ex.refl H4)⟩
      · rw [List.all_eq_true]
        intro y hy
        obtain ⟨b, _, rfl⟩ := List.mem_map.mp hy
        rfl
      · rw [List.getElem?_map, List.getElem?_map, List.getElem?_range hoL]
        rfl
      · rw [ho.1]
        rfl
      · rw [List.getElem?_map, List.getElem?_map, List.getElem?_range (by omega)] at hz
        cases (Option.some.inj hz : N_ (sE q i m) = z)
        show ((((sE q i m : Nat) : Int)) == (0 : Int)) = false
        have := ho.2 m hm
        exact beq_eq_false_iff_ne.mpr (by omega)
    · rw [List.length_map, hl1', given_range, List.map_map]
      rfl
    have eX : Ex H2 H3 := xd.trans e3
    have hd3 : H3 d = some (.dK []) := e3 _ _ upd_same
    have na3' : (upd H2 d (.dK [])) a3 = none := na3
    have nd3 : a3 ≠ d := fun z => by rw [z, upd_same] at na3'; cases na3'
    have nH2 : ∀ b, H2 b = none → H b = none := fun b n => fresh_back ((eF.trans e1).trans e2) n
    refine ⟨hd3, [(Sum.inr (Str.ofString "q"), N_ q), (Sum.inr (Str.ofString "p"), N_ (prE q)), (Sum.inr (Str.ofString "f"), N_ (poE q)), (Sum.inr (Str.ofString "plus"), .ref a1), (Sum.inr (Str.ofString "mul"), .ref a2), (Sum.inr (Str.ofString "minus"), .ref a3)], rfl, by show 6 ≤ 15; decide, ?_⟩
    have hkeep : ∀ b o, H3 b = some o → b ≠ d → (upd H3 d (.dK (mergeK [] [(Sum.inr (Str.ofString "q"), N_ q), (Sum.inr (Str.ofString "p"), N_ (prE q)), (Sum.inr (Str.ofString "f"), N_ (poE q)), (Sum.inr (Str.ofString "plus"), .ref a1), (Sum.inr (Str.ofString "mul"), .ref a2), (Sum.inr (Str.ofString "minus"), .ref a3)]))) b = some o := fun b o h n => by rw [upd_ne n]; exact h
    have hne : ∀ b o, H2 b = some o → b ≠ d := fun b o h z => by rw [z, nd] at h; cases h
    refine k d _ (Ex.mut (((eF.trans e1).trans e2).trans eX) (nH2 d nd)) ⟨nH2 d nd, _, a1, a2, a3, upd_same, valV_merge _ _ _ _ rfl, valV_merge _ _ _ _ rfl, valV_merge _ _ _ _ rfl, valV_merge _ _ _ _ rfl, valV_merge _ _ _ _ rfl, valV_merge _ _ _ _ rfl, L1.keep fun b o n h => ⟨n, hkeep b o (eX _ _ (e2 _ _ h)) (hne b o (e2 _ _ h))⟩, L2'.keep fun b o n h => ⟨n, hkeep b o (eX _ _ h) (hne b o h)⟩, nH2 a3 (fresh_back xd na3), ?_⟩
    rw [upd_ne nd3]
    exact h3


end Own
namespace Own
open PySem PySem.Spec PyProof.Rows L2 Evl

section
variable {K : PySem.W.Frag} {σ : L2.St} {H H' : Hp} {td : TE}
theorem ev_dg {d : Addr} {kvs : List (Key × V)} {s : Str} {v : V} (h : Ev td σ H (.ref d)) (hd : H d = some (.dK kvs)) (hv : valV kvs (Sum.inr s) = some v) : Ev (tDGet td (tC (.str s))) σ H v := fun H1 e Q q =>
  h H1 e _ fun H2 e2 => ⟨d, v, rfl, hv ▸ DGet.k (k := Sum.inr s) (e2 _ _ (e _ _ hd)), q H2 e2⟩
end
theorem q_of {x : V} (h : x ∈ ([.int 2, .int 2, .int 3, .int 3, .int 4, .int 5, .int 7, .int 8, .int 9] : List V)) : ∃ q : Nat, Fq q ∧ x = N_ q := by
  simp only [List.mem_cons, List.not_mem_nil, or_false] at h
  rcases h with h | h | h | h | h | h | h | h | h <;> subst h
  · exact ⟨2, by unfold Fq FQ; decide, rfl⟩
  · exact ⟨2, by unfold Fq FQ; decide, rfl⟩
  · exact ⟨3, by unfold Fq FQ; decide, rfl⟩
  · exact ⟨3, by unfold Fq FQ; decide, rfl⟩
  · exact ⟨4, by unfold Fq FQ; decide, rfl⟩
  · exact ⟨5, by unfold Fq FQ; decide, rfl⟩
  · exact ⟨7, by unfold Fq FQ; decide, rfl⟩
  · exact ⟨8, by unfold Fq FQ; decide, rfl⟩
  · exact ⟨9, by unfold Fq FQ; decide, rfl⟩
theorem lt1000 {n : Nat} (h : n < 2 ^ 40) : n < 2 ^ 1000 := Nat.lt_of_lt_of_le h (Nat.pow_le_pow_right (by decide) (by decide : 40 ≤ 1000))
def sp__law_q (K : PySem.W.Frag) : Sp := fun vs H Q _ => ∃ (p : Addr), vs = [.ref p] ∧ IsDice H p ∧ ∀ (q : Nat) H', Fq q → Exd p H H' → IsDice H' p → Q (N_ q) H'

theorem ok__law_q {P : Program} {w : World} {K : PySem.W.Frag} {mg : Str → Option Value} {base : Heap} (T : Txt K mg) : FnOk P w K mg base CX0 3 T.a__law_q T.d__law_q ["_law_dice_here"] (sp__law_q K) := by
  refine T.F__law_q.ok sc__law_q (fun vs H Q E h => ?_) (fun cdv A outer s H vs Q E hr h => ?_)
  · obtain ⟨p, rfl, _⟩ := h
    rfl
  · obtain ⟨p, rfl, hd, k⟩ := h
    refine ⟨_, (pss_one (ps_ret (pe_call (ok__law_one_of T) (hr.mono (by decide)) (by rfl) T.g__law_one_of T.F__law_one_of.kp T.b__law_one_of .nil pass0 (pa_cons (pv 0) (pa_cons (pe_lst (pa_cons pe_int (pa_cons pe_int (pa_cons pe_int (pa_cons pe_int (pa_cons pe_int (pa_cons pe_int (pa_cons pe_int (pa_cons pe_int (pa_cons pe_int pa_nil)))))))))) pa_nil))))), ?_⟩
    refine ⟨.ref p, rfl, by show 9 ≤ sizeLine; decide, fun l nl => ⟨p, l, _, rfl, hd.ex (Ex.new nl), sq_of upd_same, new_ne nl hd, by show 0 < 9; decide, by show 9 ≤ 1000; decide, fun x H1 hx x1' d1 => ?_⟩⟩
    obtain ⟨q, hq, rfl⟩ := q_of hx
    exact k q H1 hq ((Exd.of (Ex.new nl)).trans x1') d1


def sp__law_digit_sum (K : PySem.W.Frag) : Sp := fun vs H Q _ => ∃ (b n : Nat), vs = [N_ b, N_ n] ∧ Bs b ∧ Gt n ∧ RetV (N_ (ds b n)) H Q
theorem sv__law_digit_sum {K : PySem.W.Frag} {H : Hp} {b n : Nat} (hb : Bs b) (hn : Gt n) : SpV (sp__law_digit_sum K) [N_ b, N_ n] H (N_ (ds b n)) := fun H1 e Q q E => ⟨b, n, rfl, hb, hn, q⟩


def sp__law_own_shifts (K : PySem.W.Frag) : Sp := fun vs H Q _ => ∃ (d : Addr) (q k : Nat), vs = [.ref d, N_ k] ∧ Fq q ∧ FldAt (fun _ => True) H d q ∧ k < 10 ^ 60 ∧ RetL ((ssL q k).map N_) H Q
theorem sv__law_own_shifts {K : PySem.W.Frag} {H : Hp} {d : Addr} {q k : Nat} (hq : Fq q) (h : FldAt (fun _ => True) H d q) (hk : k < 10 ^ 60) : SpL (sp__law_own_shifts K) [.ref d, N_ k] H ((ssL q k).map N_) := fun H1 e Q kk E => ⟨d, q, k, rfl, hq, h.ex e, hk, kk⟩


section
variable {K : PySem.W.Frag} {σ : L2.St} {H : Hp} {D : Ends} {tu tz : TS}
theorem q_forRaw1 {j : Nat} {ta : TA} (M : Nat → Hp → Prop) (h : ∀ Q : List V → Hp → Prop, (∀ n H1, M n H1 → Q [N_ n] H1) → ta σ H Q) (k : ∀ n H1, M n H1 → tSeq (tFor (iRng1 (tCons (tC (N_ n)) tNil)) (gName j) tu) tz D σ H1) : tSeq (tFor (iRng1 ta) (gName j) tu) tz D σ H := h _ (fun n H1 m => k n H1 m)
end
def sp__law_small_k (K : PySem.W.Frag) : Sp := fun vs H Q _ => ∃ (p : Addr) (q m : Nat), vs = [.ref p, N_ q, N_ m] ∧ Fq q ∧ m ≤ 100 ∧ 0 < m ∧ IsDice H p ∧ ∀ (r : Nat) H', r ≤ m → Exd p H H' → IsDice H' p → Q (N_ r) H'


def sp__law_great_k (K : PySem.W.Frag) : Sp := fun vs H Q _ => ∃ (p d : Addr) (q : Nat), vs = [.ref p, .ref d] ∧ Fq q ∧ IsDice H p ∧ FldAt (fun b => b ≠ p) H d q ∧ ∀ (r : Nat) H', r < 10 ^ 60 → Exd p H H' → IsDice H' p → Q (N_ r) H'


theorem od_snocL (b r : Nat) : ∀ es : List Nat, od b (es ++ [r]) = od b es + b ^ es.length * r
  | [] => by
    show r + b * 0 = 0 + b ^ 0 * r
    rw [Nat.pow_zero]
    omega
  | e :: es => by
    rw [List.cons_append, od, od, od_snocL b r es, List.length_cons, Nat.pow_succ, Nat.mul_add, Nat.mul_comm (b ^ es.length) b, Nat.mul_assoc]
    omega
theorem Le2.len : ∀ {es xs : List Nat}, Le2 es xs → es.length = xs.length
  | _, _, .nil => rfl
  | _, _, .cons _ r => by rw [List.length_cons, List.length_cons, r.len]
theorem pow_wide {b j : Nat} (hb : b ≤ 1000) (hj : j ≤ 200) : b ^ j < 2 ^ 2001 := by
  have h1 : b ^ j ≤ (2 ^ 10) ^ j := Nat.pow_le_pow_left (by omega) j
  rw [← Nat.pow_mul] at h1
  exact Nat.lt_of_le_of_lt h1 (Nat.pow_lt_pow_right (by decide) (by omega))
section
variable {K : PySem.W.Frag} {σ : L2.St} {H : Hp} {D : Ends} {ta tb : TE}
theorem el_cat {l : Addr} {xs ys : List V} (h : Ev ta σ H (.ref l)) (hl : H l = some (.lst xs)) (h2 : EvL tb σ H ys) (hz : xs.length + ys.length ≤ 100000) : EvL (tOp rCat ta tb) σ H (xs ++ ys) := fun H1 e Q q =>
  h H1 e _ fun H2 e2 => h2 H2 (e.trans e2) _ fun p H3 hp e3 h3 => ⟨l, p, xs, ys, rfl, rfl, e3 _ _ (e2 _ _ (e _ _ hl)), h3, sz_of hz, fun r hr => q r _ (fresh_back (e2.trans e3) hr) ((e2.trans e3).trans (Ex.new hr)) upd_same⟩
theorem s_parL {i j : Nat} {xs : List V} {y : V} (h : EvL ta σ H xs) (h2 : ∀ p H1, H p = none → Ex H H1 → H1 p = some (.lst xs) → Ev tb σ H1 y) (k : ∀ p H1, H p = none → Ex H H1 → H1 p = some (.lst xs) → D.nx ((σ.set i (some (.ref p))).set j (some y)) H1) : tPar i j (tCons ta (tCons tb tNil)) D σ H :=
  h H (Ex.refl H) _ fun p H1 hp e1 hx => h2 p H1 hp e1 hx H1 (Ex.refl H1) _ fun H2 e2 => ⟨.ref p, y, rfl, k p H2 hp (e1.trans e2) (e2 _ _ hx)⟩
end
def sp__law_parts_of (K : PySem.W.Frag) : Sp := fun vs H Q _ => ∃ (p : Addr) (b n : Nat), vs = [.ref p, N_ b, N_ n] ∧ Bs b ∧ n < 10 ^ 60 ∧ IsDice H p ∧ ∀ (t : Addr) (xs : List Nat) H', Exd p H H' → IsDice H' p → SqT K H' t (xs.map N_) → CF b xs → xs.sum = n → 1 ≤ xs.length → xs.length ≤ 5 → Q (.ref t) H'


end Own
/-! own rules that the law's sums use -/
namespace Own
open PySem PySem.Spec PyProof.Rows L2 Evl
section
variable {K : PySem.W.Frag} {σ : L2.St} {H H' : Hp} {t : TT} {te ta tb : TE} {x y v : V} {D : Ends} {tu tz : TS} {g : TG}
theorem s_par9 {i j : Nat} (h : Ev ta σ H x) (h2 : Ev tb σ H y) (k : ∀ H1, Ex H H1 → D.nx ((σ.set i (some x)).set j (some y)) H1) : tPar i j (tCons ta (tCons tb tNil)) D σ H :=
  h H (Ex.refl H) _ fun H1 e1 => h2 H1 e1 _ fun H2 e2 => ⟨x, y, rfl, k H2 (e1.trans e2)⟩
theorem q_parXL {i j : Nat} {xs : List V} (h : Ev ta σ H x) (h2 : EvL tb σ H xs) (k : ∀ p H1, H p = none → Ex H H1 → H1 p = some (.lst xs) → tz D ((σ.set i (some x)).set j (some (.ref p))) H1) : tSeq (tPar i j (tCons ta (tCons tb tNil))) tz D σ H :=
  h H (Ex.refl H) _ fun H1 e1 => h2 H1 e1 _ fun p H2 np e2 hx => ⟨x, .ref p, rfl, k p H2 (fresh_back e1 np) (e1.trans e2) hx⟩
theorem el_listA {a : Addr} {xs : List V} (h : Ev ta σ H (.ref a)) (hx : SqL K H a xs ∨ SqT K H a xs) : EvL (tCB (rLstQ K) (tCons ta tNil)) σ H xs := fun H1 e Q q =>
  h H1 e _ fun H2 e2 => ⟨a, xs, rfl, hx.imp (ex_l (e.trans e2)) (ex_t (e.trans e2)), fun l hl => q l _ (fresh_back e2 hl) (e2.trans (Ex.new hl)) upd_same⟩
/-- [..][j] of a new list -/
theorem ev_ixNew {xs : List V} {j : Nat} (h : EvL ta σ H xs) (h2 : ∀ H1, Ex H H1 → Ev tb σ H1 (.int (j : Nat))) (hv : xs[j]? = some v) : Ev (tOp (rIxL K) ta tb) σ H v := fun H1 e Q q =>
  h H1 e _ fun p H2 np e2 hx => h2 H2 (e.trans e2) H2 (Ex.refl H2) _ fun H3 e3 => rv_ixL (K := K) (sq_of (e3 _ _ hx)) (atI_nat hv) H3 (Ex.refl H3) Q fun H4 e4 => q H4 ((e2.trans e3).trans e4)
theorem el_catN9 {xs ys : List V} (h : EvL ta σ H xs) (h2 : EvL tb σ H ys) (hz : xs.length + ys.length ≤ 100000) : EvL (tOp rCat ta tb) σ H (xs ++ ys) := fun H1 e Q q =>
  h H1 e _ fun p H2 hp e2 hx => h2 H2 (e.trans e2) _ fun r H3 hr e3 hy => ⟨p, r, xs, ys, rfl, rfl, e3 _ _ hx, hy, sz_of hz, fun z hz => q z _ (fresh_back (e2.trans e3) hz) ((e2.trans e3).trans (Ex.new hz)) upd_same⟩
/-- [.. for a, b in zip(list variable, new list)] -/
theorem el_lcZV {a : Addr} {xs ys : List V} {i1 i2 : Nat} {vs : List Nat} (v : Nat → V) (h1 : Ev ta σ H (.ref a)) (hx : SqL K H a xs) (h2 : EvL tb σ H ys) (hz : xs.length ≤ 40000) (hw : ∀ x y, wipe (((wipe σ vs).set i1 (some x)).set i2 (some y)) vs = wipe σ vs)
    (he : ∀ (i : Nat) (x y : V) H1, Ex H H1 → xs[i]? = some x → ys[i]? = some y → Ev te (((wipe σ vs).set i1 (some x)).set i2 (some y)) H1 (v i)) :
    EvL (tLc (iZip K (tCons ta (tCons tb tNil))) (gTup K 2 (gCons (gName i1) (gCons (gName i2) gNil))) tYes te vs) σ H (given (min xs.length ys.length) (fun _ => true) v) := fun H0 e Q q => h1 H0 e _ fun H1 e1 => h2 H1 (e.trans e1) _ fun b H2 nb e2 hy => ⟨a, b, xs, ys, rfl, ex_l ((e.trans e1).trans e2) hx, sq_of hy, fun Dl hD =>
  lc_it (walk_zip (xs := xs) (ys := ys) rfl) (Cw H2 (fun _ => true) v Dl) ⟨hD, Ex.new hD, upd_same⟩ (fun i H' _ p => ⟨ex_l (((e.trans e1).trans e2).trans p.2.1) hx, sq_of (p.2.1 _ _ hy)⟩) (fun i x H' H'' hi p y => by
    obtain ⟨T, u, u', rfl, nT, rfl, g1, g2⟩ := y
    obtain ⟨p1, p2, p3⟩ := p
    have p' : Cw H2 (fun _ => true) v Dl i (upd H' T (.tup [u, u'])) := ⟨p1, p2.trans (Ex.new nT), (Ex.new nT) _ _ p3⟩
    exact ⟨T, [u, u'], rfl, st_of upd_same, rfl, u, [u'], rfl, u', [], rfl, rfl, hw _ _, cw_turn p' (by omega) et_nil (fun _ => he i u u' H2 ((e.trans e1).trans e2) g1 g2)⟩)
    (fun H' p => q Dl H' (fresh_back (e1.trans e2) p.1) ((e1.trans e2).trans p.2.1) p.2.2)⟩
end
def dgF (b : Nat) : Nat → Nat → List Nat
  | 0, _ => []
  | n + 1, k => if k = 0 then [] else (k % b) :: dgF b n (k / b)
theorem dgF_eq {b : Nat} (hb : 1 < b) : ∀ (n k : Nat), k < 2 ^ n → dgF b n k = dg b k
  | 0, k, h => by
    have : k = 0 := by rw [Nat.pow_zero] at h; omega
    subst this
    rw [dg_zero]
    rfl
  | n + 1, k, h => by
    unfold dgF
    by_cases hk : k = 0
    · rw [if_pos hk, hk, dg_zero]
    · rw [if_neg hk, dg_pos hb (by omega), dgF_eq hb n (k / b) (by
        have h1 : k / b ≤ k / 2 := Nat.div_le_div_left hb (by decide)
        rw [Nat.pow_succ] at h
        omega)]
theorem op_catAK {X : Cx} {K : PySem.W.Frag} (hK : X.K = K) : OpR X (binaryOp .Add) (rCatA K) := hK ▸ op_catA
theorem op_eqDK {X : Cx} {K : PySem.W.Frag} (hK : X.K = K) (hu : X.A.units + 64 < cLine) : OpR X (compareOp .Eq) (rEqD K) := hK ▸ op_eqD hu
end Own
/-! polynomials as the law makes them: sums, products, powers, one by one -/
namespace Own
open PySem PySem.Spec PyProof.Rows L2 Evl

section
variable {K : PySem.W.Frag} {σ : L2.St} {H H' : Hp} {ta tb te tl : TE} {t : TT} {D : Ends} {tu tz : TS}
/-- a place in a list of lists -/
theorem ev_ll {N : Addr → Prop} {a : Addr} {rows : List (List Nat)} {x y z : Nat} {row : List Nat} (h : LLt N H a rows) (ht : Ev tl σ H (.ref a)) (ha : Ev ta σ H (N_ x)) (hb : Ev tb σ H (N_ y)) (hx : rows[x]? = some row) (hy : row[y]? = some z) : Ev (tOp (rIxL K) (tOp (rIxL K) tl ta) tb) σ H (N_ z) := by
  obtain ⟨rs, _, h1, hl, hr⟩ := h
  have hxl : x < rs.length := by rw [hl]; exact (List.getElem?_eq_some_iff.mp hx).1
  have hxr : rs[x]? = some (rs.getD x 0) := getD_get (xs := rs) hxl
  exact ev_op (ev_op ht ha (rv_ixL (sq_of h1) (atI_nat (by rw [List.getElem?_map, hxr]; rfl)))) hb (rv_ixL (sq_of (hr x _ row hxr hx).2) (atI_nat (by rw [List.getElem?_map, hy]; rfl)))
theorem row2_get {g : Nat → Nat → Nat → Nat} {q x : Nat} (hx : x < q) : (row2 g q)[x]? = some ((List.range q).map fun b => g q x b) := by
  unfold row2
  rw [List.getElem?_map, List.getElem?_range hx]
  rfl
theorem col2_get {g : Nat → Nat → Nat → Nat} {q x y : Nat} (hy : y < q) : ((List.range q).map fun b => g q x b)[y]? = some (g q x y) := by
  rw [List.getElem?_map, List.getElem?_range hy]
  rfl
theorem ev_t2 {N : Addr → Prop} {g : Nat → Nat → Nat → Nat} {q : Nat} {a : Addr} {x y : Nat} (h : LLt N H a (row2 g q)) (ht : Ev tl σ H (.ref a)) (ha : Ev ta σ H (N_ x)) (hb : Ev tb σ H (N_ y)) (hx : x < q) (hy : y < q) : Ev (tOp (rIxL K) (tOp (rIxL K) tl ta) tb) σ H (N_ (g q x y)) := ev_ll h ht ha hb (row2_get hx) (col2_get hy)
theorem LLt.ex {N : Addr → Prop} {H H' : Hp} {a : Addr} {xss : List (List Nat)} (h : LLt N H a xss) (e : Ex H H') : LLt N H' a xss := h.keep fun b o n q => ⟨n, e _ _ q⟩
/-- x == (), x != () -/
theorem nilI (xs : List Nat) : (decide (xs.map Int.ofNat = [])) = decide (xs = []) := by cases xs <;> rfl
theorem ev_eqNil {a : Addr} {xs : List Nat} (h : Ev ta σ H (.ref a)) (hx : SqT K H a (xs.map N_)) : Ev (tOp (rEqD K) ta (tTup tNil)) σ H (.bl (decide (xs = []))) := fun H1 e Q q =>
  h H1 e _ fun H2 e2 => (eu_tup (σ := σ) (H := H2) (vs := []) ea_nil (by decide)) H2 (Ex.refl H2) _ fun p H3 np e3 h3 =>
    rv_eqT (K := K) (a := a) (b := p) (ns := xs.map Int.ofNat) (ms := []) (by rw [← mapN]; exact ex_t ((e.trans e2).trans e3) hx) (st_of h3) H3 (Ex.refl H3) Q fun H4 e4 => by
      rw [nilI]
      exact q H4 ((e2.trans e3).trans e4)
theorem ev_neNil {a : Addr} {xs : List Nat} (h : Ev ta σ H (.ref a)) (hx : SqT K H a (xs.map N_)) : Ev (tOp (rNeD K) ta (tTup tNil)) σ H (.bl (!decide (xs = []))) := fun H1 e Q q =>
  h H1 e _ fun H2 e2 => (eu_tup (σ := σ) (H := H2) (vs := []) ea_nil (by decide)) H2 (Ex.refl H2) _ fun p H3 np e3 h3 =>
    rv_neT (K := K) (a := a) (b := p) (ns := xs.map Int.ofNat) (ms := []) (by rw [← mapN]; exact ex_t ((e.trans e2).trans e3) hx) (st_of h3) H3 (Ex.refl H3) Q fun H4 e4 => by
      rw [nilI]
      exact q H4 ((e2.trans e3).trans e4)
/-- for i, x in enumerate(tuple) -/
theorem for_enumT {a : Addr} {xs : List V} {g : TG} {tb : TS} {D : Ends} {σ : L2.St} {H : Hp} (Pv : Nat → L2.St → Hp → Prop) (h0 : Pv 0 σ H) (hl : ∀ i σ H, i ≤ xs.length → Pv i σ H → SqT K H a xs)
    (hs : ∀ i x T σ H, xs[i]? = some x → Pv i σ H → H T = none → g (.ref T) σ (upd H T (.tup [.int (i : Nat), x])) fun σ2 H2 => tb { D with nx := Pv (i + 1), ct := Pv (i + 1), bk := D.nx } σ2 H2) (hd : ∀ σ H, Pv xs.length σ H → D.nx σ H) :
    ∃ W : Nat → Nat → L2.St → Hp → Prop, (∃ m, W 0 m σ H) ∧ ∀ i m σ H, W i m σ H →
      ((Itet K a).stop i H ∧ D.nx σ H) ∨ ((Itet K a).go i H ∧ ∃ N : L2.St → Hp → Prop, (∀ σ' H', N σ' H' → ∃ m', m' < m ∧ W (i + 1) m' σ' H') ∧ ∀ x H', (Itet K a).yld i H x H' → g x σ H' fun σ2 H2 => tb { D with nx := N, ct := N, bk := D.nx } σ2 H2) := by
  refine ⟨fun i m σ H => m = xs.length - i ∧ i ≤ xs.length ∧ Pv i σ H, ⟨xs.length, by simp, Nat.zero_le _, h0⟩, ?_⟩
  rintro i m σ H ⟨rfl, hi, p⟩
  have q := hl i σ H hi p
  by_cases hlt : i < xs.length
  · refine .inr ⟨⟨xs, xs[i], q, by simp [hlt]⟩, Pv (i + 1), fun σ' H' p' => ⟨xs.length - (i + 1), by omega, rfl, hlt, p'⟩, fun x H' y => ?_⟩
    obtain ⟨T, z, rfl, nT, rfl, f⟩ := y
    have hz := f xs q
    exact hs i z T σ H hz p nT
  · exact .inl ⟨⟨xs, q, by omega⟩, by
      have : i = xs.length := by omega
      subst this
      exact hd σ H p⟩
theorem s_forET {a : Addr} {xs : List V} {tl : TA} {i1 i2 : Nat} (h : EvA tl σ H [.ref a]) (hx : SqT K H a xs) (Pv : Nat → L2.St → Hp → Prop) (h0 : ∀ H1, Ex H H1 → Pv 0 σ H1) (hl : ∀ i σ' H', i ≤ xs.length → Pv i σ' H' → SqT K H' a xs)
    (hs : ∀ i x σ' H' H2, xs[i]? = some x → Pv i σ' H' → Ex H' H2 → tu { D with nx := Pv (i + 1), ct := Pv (i + 1), bk := D.nx } ((σ'.set i1 (some (.int (i : Nat)))).set i2 (some x)) H2) (hd : ∀ σ' H', Pv xs.length σ' H' → D.nx σ' H') :
    tFor (iEnumT K tl) (gTup K 2 (gCons (gName i1) (gCons (gName i2) gNil))) tu D σ H :=
  h H (Ex.refl H) _ fun H1 e => ⟨a, xs, rfl, ex_t e hx, for_enumT (xs := xs) Pv (h0 H1 e) hl (fun i x T σ' H' hx hp nT => ⟨T, [.int (i : Nat), x], rfl, st_of upd_same, rfl, .int (i : Nat), [x], rfl, x, [], rfl, rfl, hs i x σ' H' _ hx hp (Ex.new nT)⟩) hd⟩
theorem q_forET {a : Addr} {xs : List V} {tl : TA} {i1 i2 : Nat} (h : EvA tl σ H [.ref a]) (hx : SqT K H a xs) (Pv : Nat → L2.St → Hp → Prop) (h0 : ∀ H1, Ex H H1 → Pv 0 σ H1) (hl : ∀ i σ' H', i ≤ xs.length → Pv i σ' H' → SqT K H' a xs)
    (hs : ∀ i x σ' H' H2, xs[i]? = some x → Pv i σ' H' → Ex H' H2 → tu { D with nx := Pv (i + 1), ct := Pv (i + 1), bk := tz D } ((σ'.set i1 (some (.int (i : Nat)))).set i2 (some x)) H2) (hd : ∀ σ' H', Pv xs.length σ' H' → tz D σ' H') :
    tSeq (tFor (iEnumT K tl) (gTup K 2 (gCons (gName i1) (gCons (gName i2) gNil))) tu) tz D σ H := s_forET (D := { D with nx := tz D }) h hx Pv h0 hl hs hd
end
/-! the elements: what sums and products are within q -/
def epF (p f a b : Nat) : Nat := od p ((dnL p f (ouL p (dgF p 4 b) 0 (dgF p 4 a) (List.replicate (2 * f) 0)) f).take f)
theorem pE_F {q a b : Nat} (hq : Fq q) (ha : a < q) (hb : b < q) : pE q a b = epF (prE q) (poE q) a b := by
  unfold pE epL epF
  have hp : 1 < prE q := by have := (pf_q hq).p2; omega
  have h9 := hq.b
  rw [dgF_eq hp 4 a (by omega), dgF_eq hp 4 b (by omega)]
theorem chk_cl : chkAll (fun q => all1 q fun a => all1 q fun b => decide (sE q a b < q) && decide (epF (prE q) (poE q) a b < q)) = true := by decide +kernel
theorem sE_lt {q a b : Nat} (hq : Fq q) (ha : a < q) (hb : b < q) : sE q a b < q := by
  have h := all1_get (all1_get (chk_get chk_cl hq) ha) hb
  rw [Bool.and_eq_true, decide_eq_true_eq, decide_eq_true_eq] at h
  exact h.1
theorem pE_lt {q a b : Nat} (hq : Fq q) (ha : a < q) (hb : b < q) : pE q a b < q := by
  have h := all1_get (all1_get (chk_get chk_cl hq) ha) hb
  rw [Bool.and_eq_true, decide_eq_true_eq, decide_eq_true_eq] at h
  rw [pE_F hq ha hb]
  exact h.2
/-! rows of coefficients -/
def trN : List Nat → List Nat
  | [] => []
  | x :: r => match trN r with
    | [] => if x = 0 then [] else [x]
    | y :: s => x :: y :: s
theorem tr_take : ∀ xs : List Nat, xs.take (trN xs).length = trN xs ∧ (trN xs).length ≤ xs.length ∧ ((trN xs).length ≠ 0 → xs.getD ((trN xs).length - 1) 0 ≠ 0) ∧ ∀ i, (trN xs).length ≤ i → xs.getD i 0 = 0
  | [] => ⟨rfl, Nat.le_refl _, fun h => absurd rfl h, fun i _ => rfl⟩
  | x :: r => by
    obtain ⟨h1, h2, h3, h4⟩ := tr_take r
    unfold trN
    cases e : trN r with
    | nil =>
      rw [e] at h1 h2 h3 h4
      dsimp only
      by_cases hx : x = 0
      · rw [if_pos hx]
        refine ⟨rfl, Nat.zero_le _, fun h => absurd rfl h, fun i _ => ?_⟩
        cases i with
        | zero => exact hx
        | succ i => exact h4 i (Nat.zero_le _)
      · rw [if_neg hx]
        refine ⟨rfl, Nat.succ_le_succ (Nat.zero_le _), fun _ => hx, fun i hi => ?_⟩
        cases i with
        | zero => exact absurd hi (Nat.not_succ_le_zero 0)
        | succ i => exact h4 i (Nat.zero_le _)
    | cons y s =>
      rw [e] at h1 h2 h3 h4
      dsimp only
      refine ⟨?_, ?_, fun _ => ?_, fun i hi => ?_⟩
      · rw [List.length_cons (a := x), List.take_succ_cons, h1]
      · rw [List.length_cons (a := x), List.length_cons (as := r)]; omega
      · have := h3 (by rw [List.length_cons]; omega)
        rw [List.length_cons (a := x), Nat.add_sub_cancel]
        rw [List.length_cons, Nat.add_sub_cancel] at this
        rw [List.length_cons]
        exact this
      · cases i with
        | zero => rw [List.length_cons] at hi; omega
        | succ i =>
          rw [List.length_cons (a := x)] at hi
          exact h4 i (by omega)
theorem tr_mem {xs : List Nat} {z : Nat} (h : z ∈ trN xs) : z ∈ xs := by
  rw [← (tr_take xs).1] at h
  exact List.mem_of_mem_take h
def plN (q : Nat) (xs ys : List Nat) : List Nat := trN ((List.range (max xs.length ys.length)).map fun i => sE q (xs.getD i 0) (ys.getD i 0))
/-- c times a row, onto what begins at a place -/
def adR (q c : Nat) : List Nat → List Nat → List Nat
  | x :: xs, a :: acc => sE q a (pE q x c) :: adR q c xs acc
  | _, acc => acc
def adA (q c : Nat) (xs : List Nat) : Nat → List Nat → List Nat
  | 0, acc => adR q c xs acc
  | j + 1, a :: acc => a :: adA q c xs j acc
  | _ + 1, [] => []
def muS (q : Nat) (xs ys : List Nat) : Nat → List Nat
  | 0 => List.replicate (xs.length + ys.length - 1) 0
  | j + 1 => if ys.getD j 0 = 0 then muS q xs ys j else adA q (ys.getD j 0) xs j (muS q xs ys j)
def muN (q : Nat) (xs ys : List Nat) : List Nat := if xs = [] ∨ ys = [] then [] else muS q xs ys ys.length
def Lq (q : Nat) (xs : List Nat) : Prop := ∀ x ∈ xs, x < q
theorem Lq.get {q : Nat} {xs : List Nat} (h : Lq q xs) (h0 : 0 < q) (i : Nat) : xs.getD i 0 < q := by
  by_cases hi : i < xs.length
  · exact h _ (List.mem_of_getElem? (getD_get hi))
  · rw [List.getD_eq_getElem?_getD, List.getElem?_eq_none (by omega)]
    exact h0
theorem adR_len (q c : Nat) : ∀ (xs acc : List Nat), (adR q c xs acc).length = acc.length
  | [], acc => by unfold adR; rfl
  | x :: xs, [] => rfl
  | x :: xs, a :: acc => by
    show (_ :: adR q c xs acc).length = _
    rw [List.length_cons, List.length_cons, adR_len q c xs acc]
theorem adA_len (q c : Nat) (xs : List Nat) : ∀ (j : Nat) (acc : List Nat), (adA q c xs j acc).length = acc.length
  | 0, acc => by show (adR q c xs acc).length = _; exact adR_len q c xs acc
  | j + 1, [] => rfl
  | j + 1, a :: acc => by
    show (_ :: adA q c xs j acc).length = _
    rw [List.length_cons, List.length_cons, adA_len q c xs j acc]
theorem adR_lq {q c : Nat} (hq : Fq q) (hc : c < q) : ∀ (xs acc : List Nat), Lq q xs → Lq q acc → Lq q (adR q c xs acc)
  | [], acc, _, h => by unfold adR; exact h
  | x :: xs, [], _, h => fun z hz => by cases hz
  | x :: xs, a :: acc, hx, h => fun z hz => by
    rcases List.mem_cons.mp (show z ∈ sE q a (pE q x c) :: adR q c xs acc from hz) with rfl | hz
    · exact sE_lt hq (h _ (.head _)) (pE_lt hq (hx _ (.head _)) hc)
    · exact adR_lq hq hc xs acc (fun y hy => hx y (.tail _ hy)) (fun y hy => h y (.tail _ hy)) z hz
theorem adA_lq {q c : Nat} (hq : Fq q) (hc : c < q) {xs : List Nat} (hx : Lq q xs) : ∀ (j : Nat) (acc : List Nat), Lq q acc → Lq q (adA q c xs j acc)
  | 0, acc, h => adR_lq hq hc xs acc hx h
  | j + 1, [], h => fun z hz => by cases hz
  | j + 1, a :: acc, h => fun z hz => by
    rcases List.mem_cons.mp (show z ∈ a :: adA q c xs j acc from hz) with rfl | hz
    · exact h _ (.head _)
    · exact adA_lq hq hc hx j acc (fun y hy => h y (.tail _ hy)) z hz
theorem muS_len (q : Nat) (xs ys : List Nat) : ∀ j, (muS q xs ys j).length = xs.length + ys.length - 1
  | 0 => by unfold muS; rw [List.length_replicate]
  | j + 1 => by
    unfold muS
    split
    · exact muS_len q xs ys j
    · rw [adA_len]; exact muS_len q xs ys j
theorem muS_lq {q : Nat} (hq : Fq q) {xs ys : List Nat} (hx : Lq q xs) (hy : Lq q ys) : ∀ j, Lq q (muS q xs ys j)
  | 0 => fun z hz => by
    unfold muS at hz
    rw [(List.mem_replicate.mp hz).2]
    have := hq.b
    omega
  | j + 1 => by
    unfold muS
    split
    · exact muS_lq hq hx hy j
    · exact adA_lq hq (hy.get (by have := hq.b; omega) j) hx j _ (muS_lq hq hx hy j)
/-- one more member of a row that is added -/
theorem adR_step (q c : Nat) : ∀ (xs acc : List Nat) (i x a : Nat), xs[i]? = some x → acc[i]? = some a → (adR q c (xs.take i) acc)[i]? = some a ∧ adR q c (xs.take (i + 1)) acc = (adR q c (xs.take i) acc).set i (sE q a (pE q x c))
  | [], _, i, x, a, h, _ => by simp at h
  | y :: xs, [], i, x, a, _, h => by simp at h
  | y :: xs, b :: acc, 0, x, a, h, h2 => by
    simp only [List.getElem?_cons_zero, Option.some.injEq] at h h2
    subst h h2
    refine ⟨rfl, ?_⟩
    show sE q b (pE q y c) :: adR q c (xs.take 0) acc = _
    rw [List.take_zero, List.take_zero]
    show sE q b (pE q y c) :: adR q c [] acc = sE q b (pE q y c) :: acc
    unfold adR
    rfl
  | y :: xs, b :: acc, i + 1, x, a, h, h2 => by
    rw [List.getElem?_cons_succ] at h h2
    obtain ⟨h3, h4⟩ := adR_step q c xs acc i x a h h2
    rw [List.take_succ_cons]
    refine ⟨?_, ?_⟩
    · show (sE q b (pE q y c) :: adR q c (xs.take i) acc)[i + 1]? = _
      rw [List.getElem?_cons_succ]
      exact h3
    · show sE q b (pE q y c) :: adR q c (xs.take (i + 1)) acc = (sE q b (pE q y c) :: adR q c (xs.take i) acc).set (i + 1) _
      rw [List.set_cons_succ, h4]
theorem adA_step (q c : Nat) (xs : List Nat) : ∀ (j : Nat) (acc : List Nat) (i x a : Nat), xs[i]? = some x → acc[i + j]? = some a → (adA q c (xs.take i) j acc)[i + j]? = some a ∧ adA q c (xs.take (i + 1)) j acc = (adA q c (xs.take i) j acc).set (i + j) (sE q a (pE q x c))
  | 0, acc, i, x, a, h, h2 => adR_step q c xs acc i x a h h2
  | j + 1, [], i, x, a, _, h => by simp at h
  | j + 1, b :: acc, i, x, a, h, h2 => by
    rw [show i + (j + 1) = (i + j) + 1 from rfl, List.getElem?_cons_succ] at h2
    obtain ⟨h3, h4⟩ := adA_step q c xs j acc i x a h h2
    refine ⟨?_, ?_⟩
    · show (b :: adA q c (xs.take i) j acc)[(i + j) + 1]? = _
      rw [List.getElem?_cons_succ]
      exact h3
    · show b :: adA q c (xs.take (i + 1)) j acc = (b :: adA q c (xs.take i) j acc).set ((i + j) + 1) _
      rw [List.set_cons_succ, h4]
theorem adA_zero (q c : Nat) : ∀ (j : Nat) (acc : List Nat), adA q c [] j acc = acc
  | 0, acc => by unfold adA adR; rfl
  | j + 1, [] => rfl
  | j + 1, b :: acc => by
    show b :: adA q c [] j acc = _
    rw [adA_zero q c j acc]

def sp__law_trim (K : PySem.W.Frag) : Sp := fun vs H Q _ => ∃ (a : Addr) (xs : List Nat) (m : Nat), vs = [.ref a] ∧ SqL K H a (xs.map N_) ∧ xs.length ≤ 10000 ∧ m ≤ xs.length ∧ (m ≠ 0 → xs.getD (m - 1) 0 ≠ 0) ∧ (∀ i, m ≤ i → xs.getD i 0 = 0) ∧ RetU ((xs.take m).map N_) H Q

theorem ok__law_trim {P : Program} {w : World} {K : PySem.W.Frag} {mg : Str → Option Value} {base : Heap} (T : Txt K mg) : FnOk P w K mg base CX0 1 T.a__law_trim T.d__law_trim ["_law_row"] (sp__law_trim K) := by
  refine T.F__law_trim.ok sc__law_trim (fun vs H Q E h => ?_) (fun cdv A outer s H vs Q E hr h => ?_)
  · obtain ⟨a, xs, m, rfl, _⟩ := h
    rfl
  · obtain ⟨a, xs, m, rfl, hx, hl, hm, hnz, hz, kk⟩ := h
    refine ⟨_, (pss_cons (ps_set (i := 1) sc__law_trim.nd rfl (Or.inl rfl) (pe_callB call_len_seq (by rfl) T.z_len (by decide +kernel) (pa_cons (pv 0) pa_nil)))
      (pss_cons (ps_while PassesOwn.never (PW.pt (pw_and (pt_cmpR op_gt (pv 1) pe_int (nomark _)) (pw_and1 (pt_cmpR op_eq (pe_ix (r := rIxL K) ix_list (pv 0) (pe_op op_sub (pv 1) pe_int) (fun _ _ => rfl)) pe_int (nomark _))))) (pss_one (ps_set (i := 1) sc__law_trim.nd rfl (Or.inl rfl) (pe_op op_sub (pv 1) pe_int))))
      (pss_one (ps_ret (pe_callTy call_tuple_of (by rfl) T.z_tuple (by decide +kernel) (pa_cons (pe_slice sl_list (pv 0) po_none (po_some (pv 1))) pa_nil)))))), ?_⟩
    refine q_asg (v := N_ xs.length) (ev_is (ev_cb (r := rLenQ K) (ea_cons (ev_var rfl) ea_nil) (rc_lenL hx)) (by rw [List.length_map])) fun H1 e1 => ?_
    refine q_while (fun n σ H' => σ = [some (.ref a), some (N_ n)] ∧ m ≤ n ∧ n ≤ xs.length ∧ Ex H H') xs.length ⟨rfl, hm, Nat.le_refl _, e1⟩ fun n σ H2 hw => ?_
    obtain ⟨rfl, hmn, hnl, e2⟩ := hw
    refine ⟨decide (0 < n) && decide (xs.getD (n - 1) 0 = 0), et_is (et_and (et_test (ev_op (ev_var rfl) ev_c rv_I0)) (b := decide (xs.getD (n - 1) 0 = 0)) fun hb => ?_) (by congr 1; exact decide_eq_decide.mpr (by omega)), fun hb H3 e3 => ?_, fun hb H3 e3 => ?_⟩
    · have hn0 : 0 < n := by have := of_decide_eq_true hb; omega
      exact et_is (et_test (ev_op (ev_op (r := rIxL K) (ev_var rfl) (ev_is (w := N_ (n - 1)) (ev_op (ev_var rfl) ev_c rv_I0) (congrArg V.int (by omega))) (rv_ixL (ex_l e2 hx) (atI_nat (get_N (by omega))))) ev_c (rv_eq rfl))) (dec_int (y := 0))
    · rw [Bool.and_eq_true, decide_eq_true_eq, decide_eq_true_eq] at hb
      have hne : m ≠ n := fun e => hnz (by omega) (by rw [e]; exact hb.2)
      refine ⟨fun σ' H' => σ' = [some (.ref a), some (N_ (n - 1))] ∧ Ex H H', fun σ2 H2' hN => ?_, ?_⟩
      · obtain ⟨rfl, e⟩ := hN
        exact ⟨n - 1, by omega, rfl, by omega, by omega, e⟩
      · exact s_asg (v := N_ (n - 1)) (ev_is (ev_op (ev_var rfl) ev_c rv_I0) (congrArg V.int (by omega))) fun H4 e4 => ⟨rfl, (e2.trans e3).trans e4⟩
    · have hmn2 : n = m := by
        rw [Bool.and_eq_false_iff, decide_eq_false_iff_not, decide_eq_false_iff_not] at hb
        by_cases h : m = n
        · exact h.symm
        · have := hz (n - 1) (by omega)
          rcases hb with hb | hb
          · omega
          · exact absurd this hb
      subst hmn2
      have e03 := e2.trans e3
      refine s_retU (eu_is (eu_tupleN (el_sl (K := K) (ev_var rfl) eo_none (eo_some (ev_var rfl)) (ex_l e03 hx))) (by rw [cutTake, List.map_take])) fun p H4 np e4 h4 => kk p H4 (fresh_back e03 np) (e03.trans e4) h4


theorem sv__law_trim {K : PySem.W.Frag} {H : Hp} {a : Addr} {xs : List Nat} (hx : SqL K H a (xs.map N_)) (hl : xs.length ≤ 10000) : SpU (sp__law_trim K) [.ref a] H ((trN xs).map N_) := fun H1 e Q kk E => by
  obtain ⟨h1, h2, h3, h4⟩ := tr_take xs
  exact ⟨a, xs, (trN xs).length, rfl, ex_l e hx, hl, h2, h3, fun i hi => h4 i hi, fun p H2 np e2 hp => kk p H2 np e2 (by rw [← h1]; exact hp)⟩
def sp__law_plus (K : PySem.W.Frag) : Sp := fun vs H Q _ => ∃ (d a b : Addr) (q : Nat) (xs ys : List Nat), vs = [.ref d, .ref a, .ref b] ∧ Fq q ∧ FldAt (fun _ => True) H d q ∧ SqT K H a (xs.map N_) ∧ SqT K H b (ys.map N_) ∧ Lq q xs ∧ Lq q ys ∧ xs.length ≤ 5000 ∧ ys.length ≤ 5000 ∧ RetU ((plN q xs ys).map N_) H Q
theorem sv__law_plus {K : PySem.W.Frag} {H : Hp} {d a b : Addr} {q : Nat} {xs ys : List Nat} (hq : Fq q) (hf : FldAt (fun _ => True) H d q) (hx : SqT K H a (xs.map N_)) (hy : SqT K H b (ys.map N_)) (lx : Lq q xs) (ly : Lq q ys) (hl : xs.length ≤ 5000) (hm : ys.length ≤ 5000) : SpU (sp__law_plus K) [.ref d, .ref a, .ref b] H ((plN q xs ys).map N_) := fun H1 e Q kk E => ⟨d, a, b, q, xs, ys, rfl, hq, hf.ex e, ex_t e hx, ex_t e hy, lx, ly, hl, hm, kk⟩
theorem pad_get (xs : List Nat) (n i : Nat) (hn : xs.length ≤ n) (hi : i < n) : ((xs.map N_) ++ List.replicate (n - xs.length) (N_ 0))[i]? = some (N_ (xs.getD i 0)) := by
  by_cases h : i < xs.length
  · rw [List.getElem?_append_left (by rw [List.length_map]; exact h)]
    exact get_N h
  · rw [List.getElem?_append_right (by rw [List.length_map]; omega), List.getElem?_replicate, List.length_map, if_pos (by omega), List.getD_eq_getElem?_getD, List.getElem?_eq_none (by omega)]
    rfl
section
variable {K : PySem.W.Frag} {σ : L2.St} {H H' : Hp} {ta tb te tl : TE} {t : TT} {D : Ends} {tu tz : TS}
theorem el_repZ {xs : List V} {k : Int} (h : EvL ta σ H xs) (h2 : ∀ H1, Ex H H1 → Ev tb σ H1 (.int k)) (hk0 : -100000 ≤ k) (hk : xs.length * k.toNat ≤ 100000) (hk2 : k ≤ 100000) : EvL (tOp rRep ta tb) σ H (List.replicate k.toNat xs).flatten := fun H1 e Q q =>
  h H1 e _ fun p H2 hp e2 hx => h2 H2 (e.trans e2) H2 (Ex.refl H2) _ fun H3 e3 => ⟨p, k, xs, rfl, rfl, e3 _ _ hx, by omega, by omega, sz_of hk, fun l hl => q l _ (fresh_back (e2.trans e3) hl) ((e2.trans e3).trans (Ex.new hl)) upd_same⟩
theorem eu_call1L {sp : Sp} {xs ys : List V} {E : XK} (h : EvL te σ H xs) (hs : ∀ p H1, Ex H H1 → H1 p = some (.lst xs) → SpU sp [.ref p] H1 ys) : EvU (tCall sp [] E (tCons te tNil)) σ H ys := fun H1 e Q q =>
  h H1 e _ fun p H2 np e2 hp => hs p H2 (e.trans e2) hp H2 (Ex.refl H2) Q (fun r H3 nr e3 hr => q r H3 (fresh_back e2 nr) (e2.trans e3) hr) _
theorem el_lcZL {a b : Addr} {xs ys : List V} {tl : TA} {i1 i2 : Nat} {vs : List Nat} (v : Nat → V) (h : EvA tl σ H [.ref a, .ref b]) (hx : SqL K H a xs) (hy : SqL K H b ys) (hz : xs.length ≤ 40000) (hw : ∀ x y, wipe (((wipe σ vs).set i1 (some x)).set i2 (some y)) vs = wipe σ vs)
    (he : ∀ (i : Nat) (x y : V) H1, Ex H H1 → xs[i]? = some x → ys[i]? = some y → Ev te (((wipe σ vs).set i1 (some x)).set i2 (some y)) H1 (v i)) :
    EvL (tLc (iZip K tl) (gTup K 2 (gCons (gName i1) (gCons (gName i2) gNil))) tYes te vs) σ H (given (min xs.length ys.length) (fun _ => true) v) := fun H0 e Q q => h H0 e _ fun H1 e1 => ⟨a, b, xs, ys, rfl, ex_l (e.trans e1) hx, ex_l (e.trans e1) hy, fun Dl hD =>
  lc_it (walk_zip (xs := xs) (ys := ys) rfl) (Cw H1 (fun _ => true) v Dl) ⟨hD, Ex.new hD, upd_same⟩ (fun i H' _ p => ⟨ex_l ((e.trans e1).trans p.2.1) hx, ex_l ((e.trans e1).trans p.2.1) hy⟩) (fun i x H' H'' hi p y => by
    obtain ⟨T, u, u', rfl, nT, rfl, g1, g2⟩ := y
    obtain ⟨p1, p2, p3⟩ := p
    have p' : Cw H1 (fun _ => true) v Dl i (upd H' T (.tup [u, u'])) := ⟨p1, p2.trans (Ex.new nT), (Ex.new nT) _ _ p3⟩
    exact ⟨T, [u, u'], rfl, st_of upd_same, rfl, u, [u'], rfl, u', [], rfl, rfl, hw _ _, cw_turn p' (by omega) et_nil (fun _ => he i u u' H1 (e.trans e1) g1 g2)⟩)
    (fun H' p => q Dl H' (fresh_back e1 p.1) (e1.trans p.2.1) p.2.2)⟩
theorem el_pad {a : Addr} {xs : List Nat} {n : Nat} {tc : TE} (ha : Ev ta σ H (.ref a)) (hx : SqT K H a (xs.map N_)) (hn : xs.length ≤ n) (hz : n ≤ 20000) (hc : ∀ H1, Ex H H1 → Ev tc σ H1 (.int ((n : Int) - (xs.length : Int)))) :
    EvL (tOp rCat (tCB (rLstQ K) (tCons ta tNil)) (tOp rRep (tLst (tCons (tC (.int 0)) tNil)) tc)) σ H (xs.map N_ ++ List.replicate (n - xs.length) (N_ 0)) :=
  el_catN9 (el_listA ha (.inr hx)) (el_is (el_repZ (xs := [V.int 0]) (k := (n : Int) - (xs.length : Int)) (el_lst (ea_cons ev_c ea_nil) (by show 1 ≤ 100000; decide)) hc (by omega) (by show 1 * _ ≤ 100000; omega) (by omega)) (by
    rw [show ((n : Int) - (xs.length : Int)).toNat = n - xs.length by omega]
    induction (n - xs.length) with
    | zero => rfl
    | succ m ih => rw [List.replicate_succ, List.flatten_cons, ih, List.replicate_succ]; rfl)) (by rw [List.length_map, List.length_replicate]; omega)
end


section
variable {K : PySem.W.Frag} {σ : L2.St} {H H' : Hp} {ta tb tc te tl : TE} {t : TT} {D : Ends} {tu tz : TS} {y z : V}
theorem q_par3L {i j l : Nat} {xs : List V} (h : EvL ta σ H xs) (h2 : Ev tb σ H y) (h3 : Ev tc σ H z) (k : ∀ p H1, H p = none → Ex H H1 → H1 p = some (.lst xs) → tz D (((σ.set i (some (.ref p))).set j (some y)).set l (some z)) H1) : tSeq (tPar3 i j l (tCons ta (tCons tb (tCons tc tNil)))) tz D σ H :=
  h H (Ex.refl H) _ fun p H1 np e1 hx => h2 H1 e1 _ fun H2 e2 => h3 H2 (e1.trans e2) _ fun H3 e3 => ⟨.ref p, y, z, rfl, k p H3 np ((e1.trans e2).trans e3) ((e2.trans e3) _ _ hx)⟩
theorem rep_flat (m : Nat) : (List.replicate m [V.int 0]).flatten = (List.replicate m 0).map N_ := by
  induction m with
  | zero => rfl
  | succ m ih => rw [List.replicate_succ, List.flatten_cons, ih, List.replicate_succ]; rfl
end
def sp__law_product (K : PySem.W.Frag) : Sp := fun vs H Q _ => ∃ (d a b : Addr) (q : Nat) (xs ys : List Nat), vs = [.ref d, .ref a, .ref b] ∧ Fq q ∧ FldAt (fun _ => True) H d q ∧ SqT K H a (xs.map N_) ∧ SqT K H b (ys.map N_) ∧ Lq q xs ∧ Lq q ys ∧ xs.length ≤ 3000 ∧ ys.length ≤ 3000 ∧ RetU ((muN q xs ys).map N_) H Q
theorem sv__law_product {K : PySem.W.Frag} {H : Hp} {d a b : Addr} {q : Nat} {xs ys : List Nat} (hq : Fq q) (hf : FldAt (fun _ => True) H d q) (hx : SqT K H a (xs.map N_)) (hy : SqT K H b (ys.map N_)) (lx : Lq q xs) (ly : Lq q ys) (hl : xs.length ≤ 3000) (hm : ys.length ≤ 3000) : SpU (sp__law_product K) [.ref d, .ref a, .ref b] H ((muN q xs ys).map N_) := fun H1 e Q kk E => ⟨d, a, b, q, xs, ys, rfl, hq, hf.ex e, ex_t e hx, ex_t e hy, lx, ly, hl, hm, kk⟩

theorem ok__law_product {P : Program} {w : World} {K : PySem.W.Frag} {mg : Str → Option Value} {base : Heap} (T : Txt K mg) : FnOk P w K mg base CX0 1 T.a__law_product T.d__law_product ["_law_field_here", "_law_one", "_law_other"] (sp__law_product K) := by
  refine T.F__law_product.ok sc__law_product (fun vs H Q E h => ?_) (fun cdv A outer s H vs Q E hr h => ?_)
  · obtain ⟨d, a, b, q, xs, ys, rfl, _⟩ := h
    rfl
  · obtain ⟨d, a, b, q, xs, ys, rfl, hq, hf, hx, hy, lx, ly, hl, hm, kk⟩ := h
    refine ⟨_, (pss_cons (ps_if (PW.pt (pw_or (pt_cmpR (op_eqD hr.units) (pv 1) (pe_tup pa_nil) (nomark _)) (pw_or1 (pt_cmpR (op_eqD hr.units) (pv 2) (pe_tup pa_nil) (nomark _))))) (pss_one (ps_ret (pe_tup pa_nil))) pss_nil)
      (pss_cons (ps_par3 (i := 3) (j := 4) (l := 5) (by rfl) sc__law_product.nd rfl rfl rfl (by decide) (by decide) (by decide) rfl rfl rfl (pa_cons (pe_op op_rep (pe_lst (pa_cons pe_int pa_nil)) (pe_op op_sub (pe_op op_add (pe_callB call_len_seq (by rfl) T.z_len (by decide +kernel) (pa_cons (pv 1) pa_nil)) (pe_callB call_len_seq (by rfl) T.z_len (by decide +kernel) (pa_cons (pv 2) pa_nil))) pe_int)) (pa_cons (pe_dget (hu_of hr) (pv 0) pe_str (fun _ _ => rfl)) (pa_cons (pe_dget (hu_of hr) (pv 0) pe_str (fun _ _ => rfl)) pa_nil))) (by rfl))
      (pss_cons (ps_for PassesOwn.never rfl (pi_enumT (K := K) (by rfl) (by rfl) T.z_enumerate (pa_cons (pv 2) pa_nil)) (pg_tup (by rfl) (pgs_cons (pg_name (i := 6) sc__law_product.nd rfl (Or.inl rfl)) (pgs_cons (pg_name (i := 7) sc__law_product.nd rfl (Or.inl rfl)) pgs_nil))) (pss_one (ps_if (pt_cmpR op_ne (pv 7) pe_int (nomark _)) (pss_one (ps_for PassesOwn.never rfl (pi_enumT (K := K) (by rfl) (by rfl) T.z_enumerate (pa_cons (pv 1) pa_nil)) (pg_tup (by rfl) (pgs_cons (pg_name (i := 8) sc__law_product.nd rfl (Or.inl rfl)) (pgs_cons (pg_name (i := 9) sc__law_product.nd rfl (Or.inl rfl)) pgs_nil))) (pss_one (ps_asg (pe_ix (r := rIxL K) ix_list (pe_ix (r := rIxL K) ix_list (pv 4) (pe_ix (r := rIxL K) ix_list (pv 3) (pe_op op_add (pv 8) (pv 6)) (fun _ _ => rfl)) (fun _ _ => rfl)) (pe_ix (r := rIxL K) ix_list (pe_ix (r := rIxL K) ix_list (pv 5) (pv 9) (fun _ _ => rfl)) (pv 7) (fun _ _ => rfl)) (fun _ _ => rfl)) (pg_sub (pv 3) (pe_op op_add (pv 8) (pv 6)) set_list))))) pss_nil)))
      (pss_one (ps_ret (pe_callTy call_tuple_of (by rfl) T.z_tuple (by decide +kernel) (pa_cons (pv 3) pa_nil))))))), ?_⟩
    refine q_when (b := decide (xs = []) || decide (ys = [])) (et_or (et_test (ev_eqNil (K := K) (ev_var rfl) hx)) fun _ => et_test (ev_eqNil (K := K) (ev_var rfl) hy)) (fun hb H1 e1 => ?_) (fun hb H1 e1 => ?_)
    · rw [Bool.or_eq_true, decide_eq_true_eq, decide_eq_true_eq] at hb
      refine s_retU (eu_tup ea_nil (by decide)) fun p H2 np e2 h2 => kk p H2 (fresh_back e1 np) (e1.trans e2) ?_
      unfold muN
      rw [if_pos hb]
      exact h2
    rw [Bool.or_eq_false_iff, decide_eq_false_iff_not, decide_eq_false_iff_not] at hb
    have hmu : muN q xs ys = muS q xs ys ys.length := by unfold muN; rw [if_neg (fun z => z.elim hb.1 hb.2)]
    have hxp : 0 < xs.length := List.length_pos_iff.mpr hb.1
    have hyp : 0 < ys.length := List.length_pos_iff.mpr hb.2
    have hq0 := hq.b
    obtain ⟨_, kvs, a1, a2, a3, hdk, gq, gp, gf, g1, g2, g3, l1, l2, _, hm_⟩ := hf.ex e1
    have hx1 := ex_t e1 hx
    have hy1 := ex_t e1 hy
    refine q_par3L (xs := (muS q xs ys 0).map N_) (y := .ref a1) (z := .ref a2) (el_is (el_rep (xs := [V.int 0]) (k := ((xs.length + ys.length - 1 : Nat) : Int)) (el_lst (ea_cons ev_c ea_nil) (by show 1 ≤ 100000; decide)) (ev_is (ev_op (ev_op (ev_is (ev_cb (r := rLenQ K) (ea_cons (ev_var rfl) ea_nil) (rc_lenT hx1)) (by rw [List.length_map])) (ev_is (ev_cb (r := rLenQ K) (ea_cons (ev_var rfl) ea_nil) (rc_lenT hy1)) (by rw [List.length_map])) rv_I0) ev_c rv_I0) (congrArg V.int (by omega))) (by omega) (by show 1 * _ ≤ 100000; omega) (by omega)) (by rw [Int.toNat_natCast, rep_flat]; unfold muS; rfl)) (ev_dg (ev_var rfl) hdk g1) (ev_dg (ev_var rfl) hdk g2) fun l H2 nl e2 h2 => ?_
    have l1' := l1.ex e2
    have l2' := l2.ex e2
    refine q_forET (K := K) (a := b) (xs := ys.map N_) (ea_cons (ev_var rfl) ea_nil) (ex_t e2 hy1) (fun j σ H' => ∃ y6 y7 y8 y9 : Option V, σ = [some (.ref d), some (.ref a), some (.ref b), some (.ref l), some (.ref a1), some (.ref a2), y6, y7, y8, y9] ∧ Ex H1 H' ∧ H' l = some (.lst ((muS q xs ys j).map N_))) (fun H3 e3 => ⟨none, none, none, none, rfl, e2.trans e3, e3 _ _ h2⟩) (fun j σ H3 _ hw => ?_) (fun j x σ H3 H4 hj hw e4 => ?_) (fun σ H3 hw => ?_)
    · obtain ⟨y6, y7, y8, y9, rfl, e3, h3⟩ := hw
      exact ex_t e3 hy1
    · obtain ⟨y6, y7, y8, y9, rfl, e3, h3⟩ := hw
      have hjl : j < ys.length := by
        have := (List.getElem?_eq_some_iff.mp hj).1
        rwa [List.length_map] at this
      rw [get_N hjl] at hj
      cases hj
      have e34 := e3.trans e4
      have h4 := e4 _ _ h3
      refine s_when (b := !decide (ys.getD j 0 = 0)) (et_is (et_test (ev_op (ev_var rfl) ev_c (rv_ne rfl))) (congrArg (fun b => !b) (dec_int (y := 0)))) (fun hb2 H5 e5 => ?_) (fun hb2 H5 e5 => ?_)
      · have hc0 : ys.getD j 0 ≠ 0 := by
          rw [Bool.not_eq_true', decide_eq_false_iff_not] at hb2
          exact hb2
        have hc := ly.get (by omega) j
        have hstep : muS q xs ys (j + 1) = adA q (ys.getD j 0) xs j (muS q xs ys j) := by
          show (if ys.getD j 0 = 0 then _ else _) = _
          rw [if_neg hc0]
        have e15 := e34.trans e5
        have hlen := muS_len q xs ys j
        have hlq := muS_lq hq lx ly j
        refine s_forET (K := K) (a := a) (xs := xs.map N_) (ea_cons (ev_var rfl) ea_nil) (ex_t e15 hx1) (fun i σ H' => ∃ y8 y9 : Option V, σ = [some (.ref d), some (.ref a), some (.ref b), some (.ref l), some (.ref a1), some (.ref a2), some (N_ j), some (N_ (ys.getD j 0)), y8, y9] ∧ Ex H1 H' ∧ H' l = some (.lst ((adA q (ys.getD j 0) (xs.take i) j (muS q xs ys j)).map N_))) (fun H6 e6 => ⟨_, _, rfl, e15.trans e6, by rw [List.take_zero, adA_zero]; exact e6 _ _ (e5 _ _ h4)⟩) (fun i σ H6 _ hw => ?_) (fun i x σ H6 H7 hi hw e7 => ?_) (fun σ H6 hw => ?_)
        · obtain ⟨y8, y9, rfl, e6, h6⟩ := hw
          exact ex_t e6 hx1
        · obtain ⟨y8, y9, rfl, e6, h6⟩ := hw
          have hil : i < xs.length := by
            have := (List.getElem?_eq_some_iff.mp hi).1
            rwa [List.length_map] at this
          rw [get_N hil] at hi
          cases hi
          have e67 := e6.trans e7
          have h7 := e7 _ _ h6
          have hij : i + j < (muS q xs ys j).length := by rw [hlen]; omega
          obtain ⟨hg, hs⟩ := adA_step q (ys.getD j 0) xs j (muS q xs ys j) i _ _ (getD_get hil) (getD_get hij)
          have hla : (adA q (ys.getD j 0) (xs.take i) j (muS q xs ys j)).length = (muS q xs ys j).length := adA_len ..
          have hga : (adA q (ys.getD j 0) (xs.take i) j (muS q xs ys j)).getD (i + j) 0 = (muS q xs ys j).getD (i + j) 0 := by
            rw [List.getD_eq_getElem?_getD, hg]
            rfl
          have hplus : ∀ H8, Ex H7 H8 → Ev (tOp (rI0 fun i j => V.int (i + j)) (tVar 8) (tVar 6)) [some (.ref d), some (.ref a), some (.ref b), some (.ref l), some (.ref a1), some (.ref a2), some (N_ j), some (N_ (ys.getD j 0)), some (N_ i), some (N_ (xs.getD i 0))] H8 (.int ((i + j : Nat) : Int)) := fun H8 e8 => ev_is (ev_op (ev_var rfl) (ev_var rfl) rv_I0) (congrArg V.int (by omega))
          refine s_setL (j := i + j) (v := N_ (sE q ((muS q xs ys j).getD (i + j) 0) (pE q (xs.getD i 0) (ys.getD j 0)))) h7 (ev_t2 (K := K) (N := fun _ => True) (l1.ex e67) (ev_var rfl) (ev_op (ev_var rfl) (hplus H7 (Ex.refl H7)) (rv_ixL (sq_of h7) (atI_nat (by rw [get_N (by rw [hla]; exact hij), hga])))) (ev_t2 (K := K) (N := fun _ => True) (l2.ex e67) (ev_var rfl) (ev_var rfl) (ev_var rfl) (lx.get (by omega) i) hc) (hlq.get (by omega) _) (pE_lt hq (lx.get (by omega) i) hc)) (ev_var rfl) (hplus H7 (Ex.refl H7)) (by rw [List.length_map, hla]; exact hij) fun H8 e8 => ?_
          refine ⟨_, _, rfl, Ex.mut (e67.trans e8) nl, ?_⟩
          rw [upd_same, hs, List.map_set]
        · obtain ⟨y8, y9, rfl, e6, h6⟩ := hw
          rw [List.length_map, List.take_length] at h6
          exact ⟨_, _, _, _, rfl, e6, by rw [hstep]; exact h6⟩
      · have hc0 : ys.getD j 0 = 0 := by
          rw [Bool.not_eq_false', decide_eq_true_eq] at hb2
          exact hb2
        have hstep : muS q xs ys (j + 1) = muS q xs ys j := by
          show (if ys.getD j 0 = 0 then _ else _) = _
          rw [if_pos hc0]
        exact ⟨_, _, _, _, rfl, e34.trans e5, by rw [hstep]; exact e5 _ _ h4⟩
    · obtain ⟨y6, y7, y8, y9, rfl, e3, h3⟩ := hw
      rw [List.length_map] at h3
      exact s_retU (eu_tupleL (K := K) (ev_var rfl) (sq_of h3)) fun p H4 np e4 h4 => kk p H4 (fresh_back (e1.trans e3) np) ((e1.trans e3).trans e4) (by rw [hmu]; exact h4)


def skF (s : Nat) (xs : List Nat) (i : Nat) : List Nat := (List.range (s * (xs.length - 1) + 1)).map fun t => if t % s = 0 ∧ t / s < i then xs.getD (t / s) 0 else 0
def skN (s : Nat) (xs : List Nat) : List Nat := if xs = [] then [] else skF s xs xs.length
theorem range_map_set {n j : Nat} (f : Nat → Nat) (v : Nat) (hj : j < n) : ((List.range n).map f).set j v = (List.range n).map fun t => if t = j then v else f t := by
  refine List.ext_getElem? fun t => ?_
  rw [List.getElem?_set, List.length_map, List.length_range, List.getElem?_map, List.getElem?_map]
  by_cases ht : t < n
  · rw [List.getElem?_range ht]
    by_cases e : j = t
    · subst e
      rw [if_pos rfl, if_pos hj]
      show some v = some (if j = j then v else f j)
      rw [if_pos rfl]
    · rw [if_neg e]
      show some (f t) = some (if t = j then v else f t)
      rw [if_neg (Ne.symm e)]
  · have : (List.range n)[t]? = none := List.getElem?_eq_none (by rw [List.length_range]; omega)
    rw [this, if_neg (by omega)]
    rfl
theorem skF_step {s : Nat} {xs : List Nat} {i : Nat} (hs : 0 < s) (hi : i < xs.length) : (skF s xs i).set (s * i) (xs.getD i 0) = skF s xs (i + 1) := by
  have hle : s * i ≤ s * (xs.length - 1) := Nat.mul_le_mul_left s (by omega)
  unfold skF
  rw [range_map_set _ _ (by omega)]
  refine List.map_congr_left fun t _ => ?_
  by_cases e : t = s * i
  · subst e
    rw [if_pos rfl, Nat.mul_mod_right, Nat.mul_div_cancel_left i hs, if_pos ⟨rfl, by omega⟩]
  · rw [if_neg e]
    by_cases h1 : t % s = 0
    · have ht : s * (t / s) = t := by
        have := Nat.div_add_mod t s
        omega
      by_cases h2 : t / s < i
      · rw [if_pos ⟨h1, h2⟩, if_pos ⟨h1, by omega⟩]
      · rw [if_neg (fun z => h2 z.2), if_neg (fun z => by
          have : t / s = i := by omega
          rw [this] at ht
          exact e ht.symm)]
    · rw [if_neg (fun z => h1 z.1), if_neg (fun z => h1 z.1)]
theorem skF_zero (s : Nat) (xs : List Nat) : skF s xs 0 = List.replicate (s * (xs.length - 1) + 1) 0 := by
  unfold skF
  refine List.ext_getElem? fun t => ?_
  rw [List.getElem?_map, List.getElem?_replicate]
  by_cases ht : t < s * (xs.length - 1) + 1
  · rw [List.getElem?_range ht, if_pos ht]
    show some (if _ then _ else 0) = _
    rw [if_neg (fun z => absurd z.2 (Nat.not_lt_zero _))]
  · rw [List.getElem?_eq_none (by rw [List.length_range]; omega), if_neg ht]
    rfl
theorem skF_len (s : Nat) (xs : List Nat) (i : Nat) : (skF s xs i).length = s * (xs.length - 1) + 1 := by
  unfold skF
  rw [List.length_map, List.length_range]
theorem skN_len (s : Nat) (xs : List Nat) : (skN s xs).length ≤ s * (xs.length - 1) + 1 := by
  unfold skN
  split
  · exact Nat.zero_le _
  · rw [skF_len]; exact Nat.le_refl _
theorem skN_lq {q s : Nat} {xs : List Nat} (h0 : 0 < q) (h : Lq q xs) : Lq q (skN s xs) := by
  intro z hz
  unfold skN at hz
  split at hz
  · cases hz
  · unfold skF at hz
    obtain ⟨t, _, rfl⟩ := List.mem_map.mp hz
    split
    · exact h.get h0 _
    · exact h0
section
variable {K : PySem.W.Frag} {σ : L2.St} {H H' : Hp} {ta tb tc te tl : TE} {t : TT} {D : Ends} {tu tz : TS} {y z : V}
theorem el_ifB {b : Bool} {xs : List V} (ht : EvT t σ H b) (h1 : b = true → ∀ H1, Ex H H1 → EvL ta σ H1 xs) (h2 : b = false → ∀ H1, Ex H H1 → EvL tb σ H1 xs) : EvL (tIf t ta tb) σ H xs := fun H1 e Q q =>
  ht H1 e _ fun H2 e2 => by
    cases b with
    | true => exact h1 rfl H2 (e.trans e2) H2 (Ex.refl H2) Q fun p H3 np e3 h3 => q p H3 (fresh_back e2 np) (e2.trans e3) h3
    | false => exact h2 rfl H2 (e.trans e2) H2 (Ex.refl H2) Q fun p H3 np e3 h3 => q p H3 (fresh_back e2 np) (e2.trans e3) h3
end
def sp__law_stretched (K : PySem.W.Frag) : Sp := fun vs H Q _ => ∃ (a : Addr) (q i : Nat) (xs : List Nat), vs = [N_ q, .ref a, N_ i] ∧ Fq q ∧ SqT K H a (xs.map N_) ∧ i ≤ 300 ∧ q ^ i ≤ 3000 ∧ q ^ i * (xs.length - 1) ≤ 2999 ∧ xs.length ≤ 3000 ∧ RetU ((skN (q ^ i) xs).map N_) H Q
theorem sv__law_stretched {K : PySem.W.Frag} {H : Hp} {a : Addr} {q i : Nat} {xs : List Nat} (hq : Fq q) (hx : SqT K H a (xs.map N_)) (hi : i ≤ 300) (hs : q ^ i ≤ 3000) (hz : q ^ i * (xs.length - 1) ≤ 2999) (hl : xs.length ≤ 3000) : SpU (sp__law_stretched K) [N_ q, .ref a, N_ i] H ((skN (q ^ i) xs).map N_) := fun H1 e Q kk E => ⟨a, q, i, xs, rfl, hq, ex_t e hx, hi, hs, hz, hl, kk⟩

theorem ok__law_stretched {P : Program} {w : World} {K : PySem.W.Frag} {mg : Str → Option Value} {base : Heap} (T : Txt K mg) : FnOk P w K mg base CX0 2 T.a__law_stretched T.d__law_stretched ["_law_q_here", "_law_one", "_law_i"] (sp__law_stretched K) := by
  refine T.F__law_stretched.ok sc__law_stretched (fun vs H Q E h => ?_) (fun cdv A outer s H vs Q E hr h => ?_)
  · obtain ⟨a, q, i, xs, rfl, _⟩ := h
    rfl
  · obtain ⟨a, q, i, xs, rfl, hq, hx, hi, hs, hz, hl, kk⟩ := h
    refine ⟨_, (pss_cons (ps_set (i := 3) sc__law_stretched.nd rfl (Or.inl rfl) (pe_call (ok__law_raised T) (hr.mono (by decide)) (by rfl) T.g__law_raised T.F__law_raised.kp T.b__law_raised .nil pass0 (pa_cons (pv 0) (pa_cons (pv 2) pa_nil))))
      (pss_cons (ps_set (i := 4) sc__law_stretched.nd rfl (Or.inl rfl) (pe_ifExp (pt_cmpR (op_neD hr.units) (pv 1) (pe_tup pa_nil) (nomark _)) (pe_op op_rep (pe_lst (pa_cons pe_int pa_nil)) (pe_op op_add (pe_op op_mulW (pv 3) (pe_op op_sub (pe_callB call_len_seq (by rfl) T.z_len (by decide +kernel) (pa_cons (pv 1) pa_nil)) pe_int)) pe_int)) (pe_lst pa_nil)))
      (pss_cons (ps_for PassesOwn.never rfl (pi_enumT (K := K) (by rfl) (by rfl) T.z_enumerate (pa_cons (pv 1) pa_nil)) (pg_tup (by rfl) (pgs_cons (pg_name (i := 5) sc__law_stretched.nd rfl (Or.inl rfl)) (pgs_cons (pg_name (i := 6) sc__law_stretched.nd rfl (Or.inl rfl)) pgs_nil))) (pss_one (ps_asg (pv 6) (pg_sub (pv 4) (pe_op op_mulW (pv 3) (pv 5)) set_list))))
      (pss_one (ps_ret (pe_callTy call_tuple_of (by rfl) T.z_tuple (by decide +kernel) (pa_cons (pv 4) pa_nil))))))), ?_⟩
    have hq0 := hq.b
    refine q_asg (v := N_ (q ^ i)) (ev_call (ea_cons (ev_var rfl) (ea_cons (ev_var rfl) ea_nil)) (sv_raised (by omega) (by omega))) fun H1 e1 => ?_
    have hs0 : 0 < q ^ i := Nat.pow_pos (by omega)
    generalize hs' : q ^ i = s at *
    have hx1 := ex_t e1 hx
    have hmul : V.int ((s : Int) * ((xs.length : Int) - 1) + 1) = N_ (s * (xs.length - 1) + 1) ∨ xs = [] := by
      by_cases h : xs = []
      · exact .inr h
      · have := List.length_pos_iff.mpr h
        refine .inl (congrArg V.int ?_)
        rw [show (xs.length : Int) - 1 = ((xs.length - 1 : Nat) : Int) by omega]
        push_cast
        rfl
    refine q_asgL (xs := (if xs = [] then [] else skF s xs 0).map N_) (el_ifB (b := !decide (xs = [])) (et_test (ev_neNil (K := K) (ev_var rfl) hx1)) (fun hb H2 e2 => ?_) (fun hb H2 e2 => ?_)) fun l H2 nl e2 h2 => ?_
    · rw [Bool.not_eq_true', decide_eq_false_iff_not] at hb
      have hm := hmul.resolve_right hb
      have hx2 := ex_t e2 hx1
      have hn1 := List.length_pos_iff.mpr hb
      refine el_is (el_rep (xs := [V.int 0]) (k := ((s * (xs.length - 1) + 1 : Nat) : Int)) (el_lst (ea_cons ev_c ea_nil) (by show 1 ≤ 100000; decide)) (ev_is (ev_op (ev_op (ev_var rfl) (ev_is (w := N_ (xs.length - 1)) (ev_op (ev_is (ev_cb (r := rLenQ K) (ea_cons (ev_var rfl) ea_nil) (rc_lenT hx2)) (by rw [List.length_map])) ev_c rv_I0) (congrArg V.int (by omega))) (rv_I (wide_mul (a := 12) (b := 12) (by show s < 4096; omega) (by show xs.length - 1 < 4096; omega) (by decide) (by decide) (by decide)))) ev_c rv_I0) (congrArg V.int (by push_cast; rfl))) (by omega) (by show 1 * _ ≤ 100000; omega) (by omega)) (by rw [Int.toNat_natCast, rep_flat, if_neg hb, skF_zero])
    · rw [Bool.not_eq_false', decide_eq_true_eq] at hb
      exact el_is (el_lst ea_nil (by decide)) (by rw [if_pos hb]; rfl)
    have e12 := e1.trans e2
    refine q_forET (K := K) (a := a) (xs := xs.map N_) (ea_cons (ev_var rfl) ea_nil) (ex_t e2 hx1) (fun j σ H' => ∃ y5 y6 : Option V, σ = [some (N_ q), some (.ref a), some (N_ i), some (N_ s), some (.ref l), y5, y6] ∧ Ex H1 H' ∧ H' l = some (.lst ((if xs = [] then [] else skF s xs j).map N_))) (fun H3 e3 => ⟨none, none, rfl, e2.trans e3, e3 _ _ h2⟩) (fun j σ H3 _ hw => ?_) (fun j x σ H3 H4 hj hw e4 => ?_) (fun σ H3 hw => ?_)
    · obtain ⟨y5, y6, rfl, e3, h3⟩ := hw
      exact ex_t e3 hx1
    · obtain ⟨y5, y6, rfl, e3, h3⟩ := hw
      have hjl : j < xs.length := by
        have := (List.getElem?_eq_some_iff.mp hj).1
        rwa [List.length_map] at this
      rw [get_N hjl] at hj
      cases hj
      have hne : xs ≠ [] := List.length_pos_iff.mp (by omega)
      rw [if_neg hne] at h3
      have hle : s * j ≤ s * (xs.length - 1) := Nat.mul_le_mul_left s (by omega)
      refine s_setL (j := s * j) (v := N_ (xs.getD j 0)) (e4 _ _ h3) (ev_var rfl) (ev_var rfl) (ev_is (ev_op (ev_var rfl) (ev_var rfl) (rv_I (wide_mul (a := 12) (b := 12) (by show s < 4096; omega) (by show j < 4096; omega) (by decide) (by decide) (by decide)))) (congrArg V.int (Int.natCast_mul _ _).symm)) (by rw [List.length_map, skF_len]; omega) fun H5 e5 => ⟨_, _, rfl, Ex.mut ((e3.trans e4).trans e5) nl, ?_⟩
      rw [upd_same, if_neg hne, ← skF_step hs0 hjl, List.map_set]
    · obtain ⟨y5, y6, rfl, e3, h3⟩ := hw
      rw [List.length_map] at h3
      exact s_retU (eu_tupleL (K := K) (ev_var rfl) (sq_of h3)) fun p H4 np e4 h4 => kk p H4 (fresh_back (e1.trans e3) np) ((e1.trans e3).trans e4) h4


def pwT (q : Nat) (big found : List Nat) : Nat → List Nat
  | 0 => found
  | m + 1 => muN q (pwT q big found m) big
def pwS (q : Nat) (xs ds : List Nat) : Nat → List Nat
  | 0 => [1]
  | i + 1 => pwT q (skN (q ^ i) xs) (pwS q xs ds i) (ds.getD i 0)
def pwN (q : Nat) (xs : List Nat) (k : Nat) : List Nat := pwS q xs (dg q k) (dg q k).length
theorem mu_len (q : Nat) (xs ys : List Nat) : (muN q xs ys).length ≤ xs.length + (ys.length - 1) := by
  unfold muN
  split
  · exact Nat.zero_le _
  · rename_i h
    rw [muS_len]
    have : ys ≠ [] := fun z => h (.inr z)
    have := List.length_pos_iff.mpr this
    omega
theorem mu_lq {q : Nat} (hq : Fq q) {xs ys : List Nat} (hx : Lq q xs) (hy : Lq q ys) : Lq q (muN q xs ys) := by
  unfold muN
  split
  · exact fun z hz => by cases hz
  · exact muS_lq hq hx hy _
theorem pwT_len (q : Nat) (big found : List Nat) : ∀ m, (pwT q big found m).length ≤ found.length + m * (big.length - 1)
  | 0 => by rw [Nat.zero_mul]; exact Nat.le_refl _
  | m + 1 => by
    have h1 := mu_len q (pwT q big found m) big
    have h2 := pwT_len q big found m
    show (muN q (pwT q big found m) big).length ≤ _
    rw [Nat.succ_mul]
    omega
theorem pwT_lq {q : Nat} (hq : Fq q) {big found : List Nat} (hb : Lq q big) (hf : Lq q found) : ∀ m, Lq q (pwT q big found m)
  | 0 => hf
  | m + 1 => mu_lq hq (pwT_lq hq hb hf m) hb
theorem od_take (b : Nat) : ∀ (xs : List Nat) (i : Nat), od b (xs.take i) ≤ od b xs
  | [], i => by rw [List.take_nil]; exact Nat.le_refl _
  | x :: xs, 0 => Nat.zero_le _
  | x :: xs, i + 1 => by
    rw [List.take_succ_cons]
    show x + b * od b (xs.take i) ≤ x + b * od b xs
    exact Nat.add_le_add_left (Nat.mul_le_mul_left b (od_take b xs i)) x
theorem od_take_succ {b : Nat} {xs : List Nat} {i : Nat} (hi : i < xs.length) : od b (xs.take (i + 1)) = od b (xs.take i) + xs.getD i 0 * b ^ i := by
  rw [take_succ hi, od_snoc, List.length_take, Nat.min_eq_left (Nat.le_of_lt hi)]
theorem pwS_lq {q : Nat} (hq : Fq q) {xs : List Nat} (hx : Lq q xs) (ds : List Nat) : ∀ i, Lq q (pwS q xs ds i)
  | 0 => fun z hz => by
    rw [List.mem_singleton.mp (show z ∈ [1] from hz)]
    have := hq.b
    omega
  | i + 1 => pwT_lq hq (skN_lq (by have := hq.b; omega) hx) (pwS_lq hq hx ds i) _
theorem big_len (q i : Nat) (xs : List Nat) : (skN (q ^ i) xs).length - 1 ≤ q ^ i * (xs.length - 1) := by
  have := skN_len (q ^ i) xs
  omega
theorem pwS_len (q : Nat) (xs ds : List Nat) : ∀ i, i ≤ ds.length → (pwS q xs ds i).length ≤ 1 + (xs.length - 1) * od q (ds.take i)
  | 0, _ => by rw [List.take_zero]; exact Nat.le_add_right 1 _
  | i + 1, h => by
    have h1 := pwT_len q (skN (q ^ i) xs) (pwS q xs ds i) (ds.getD i 0)
    have h2 := pwS_len q xs ds i (by omega)
    have h3 := Nat.mul_le_mul_left (ds.getD i 0) (big_len q i xs)
    show (pwT q (skN (q ^ i) xs) (pwS q xs ds i) (ds.getD i 0)).length ≤ _
    rw [od_take_succ (by omega), Nat.mul_add, show (xs.length - 1) * (ds.getD i 0 * q ^ i) = ds.getD i 0 * (q ^ i * (xs.length - 1)) by rw [Nat.mul_comm, Nat.mul_assoc]]
    omega
theorem pwT_bound {q k : Nat} (hq : 1 < q) {xs : List Nat} {i m : Nat} (hi : i < (dg q k).length) (hm : m ≤ (dg q k).getD i 0) : (pwT q (skN (q ^ i) xs) (pwS q xs (dg q k) i) m).length ≤ 1 + (xs.length - 1) * k := by
  have h1 := pwT_len q (skN (q ^ i) xs) (pwS q xs (dg q k) i) m
  have h2 := pwS_len q xs (dg q k) i (by omega)
  have h3 := Nat.mul_le_mul hm (big_len q i xs)
  have h4 := od_take_succ (b := q) hi
  have h5 := od_take q (dg q k) (i + 1)
  rw [od_dg hq, h4] at h5
  have h6 := Nat.mul_le_mul_left (xs.length - 1) h5
  rw [Nat.mul_add, show (xs.length - 1) * ((dg q k).getD i 0 * q ^ i) = (dg q k).getD i 0 * (q ^ i * (xs.length - 1)) by rw [Nat.mul_comm, Nat.mul_assoc]] at h6
  omega
theorem pow_le_dg {q k i : Nat} (hq : 2 ≤ q) (hi : i < (dg q k).length) : q ^ i ≤ k := by
  apply Decidable.byContradiction
  intro h
  have := dg_len2 (f := i) (a := k) hq i k (by omega)
  omega
def sp__law_power (K : PySem.W.Frag) : Sp := fun vs H Q _ => ∃ (d a : Addr) (q k : Nat) (xs : List Nat), vs = [.ref d, .ref a, N_ k] ∧ Fq q ∧ FldAt (fun _ => True) H d q ∧ SqT K H a (xs.map N_) ∧ Lq q xs ∧ k ≤ 2900 ∧ xs.length ≤ 2900 ∧ (xs.length - 1) * k ≤ 2900 ∧ RetU ((pwN q xs k).map N_) H Q
theorem sv__law_power {K : PySem.W.Frag} {H : Hp} {d a : Addr} {q k : Nat} {xs : List Nat} (hq : Fq q) (hf : FldAt (fun _ => True) H d q) (hx : SqT K H a (xs.map N_)) (lx : Lq q xs) (hk : k ≤ 2900) (hl : xs.length ≤ 2900) (hz : (xs.length - 1) * k ≤ 2900) : SpU (sp__law_power K) [.ref d, .ref a, N_ k] H ((pwN q xs k).map N_) := fun H1 e Q kk E => ⟨d, a, q, k, xs, rfl, hq, hf.ex e, ex_t e hx, lx, hk, hl, hz, kk⟩


theorem op_repUK {X : Cx} {K : PySem.W.Frag} (hK : X.K = K) : OpR X (binaryOp .Mult) (rRepU K) := hK ▸ op_repU
section
variable {K : PySem.W.Frag} {σ : L2.St} {H H' : Hp} {ta tb tc te tl tn : TE} {t : TT} {D : Ends} {tu tz : TS} {P : Nat → Addr → Hp → Prop} {g : TG}
/-- a + (0,) * m + (1,) -/
theorem er_monic {a : Addr} {ms : List Nat} {m : Nat} {P : Addr → Hp → Prop} (h1 : Ev ta σ H (.ref a)) (hm : SqT K H a (ms.map N_)) (hl : ms.length + m ≤ 300) (h2 : ∀ H1, Ex H H1 → Ev tn σ H1 (N_ m)) (hP : ∀ r H1, SqT K H1 r ((ms ++ List.replicate m 0 ++ [1]).map N_) → P r H1) :
    EvR (tOp (rCatA K) (tOp (rCatA K) ta (tOp (rRepU K) (tTup (tCons (tC (.int 0)) tNil)) tn)) (tTup (tCons (tC (.int 1)) tNil))) σ H P := fun H1 e Q q =>
  h1 H1 e _ fun H2 e2 => ⟨by show 1 ≤ sizeLine; decide, fun t1 n1 => (h2 _ ((e.trans e2).trans (Ex.new n1))) _ (Ex.refl _) _ fun H3 e3 => ⟨t1, m, [V.int 0], rfl, rfl, st_of (e3 _ _ upd_same), by simp, by omega, by omega, by show 1 ≤ 1000; decide, fun z H4 e4 hz =>
    catA_go (K := K) (xs := ms.map N_) (ys := (List.replicate (m : Int).toNat [V.int 0]).flatten) (ex_t ((((e.trans e2).trans (Ex.new n1)).trans e3).trans e4) hm) hz (by rw [Int.toNat_natCast, rep_flat, List.length_map, List.length_map, List.length_replicate]; omega) fun b H5 e5 sb => ⟨by show 1 ≤ sizeLine; decide, fun t2 n2 =>
      catA_go (K := K) (xs := ms.map N_ ++ (List.replicate (m : Int).toNat [V.int 0]).flatten) (ys := [V.int 1]) (ex_t (Ex.new n2) sb) (st_of upd_same) (by rw [Int.toNat_natCast, rep_flat, List.length_append, List.length_map, List.length_map, List.length_replicate]; show _ + 1 ≤ _; omega) fun c H6 e6 sc =>
        q c H6 (((((e2.trans (Ex.new n1)).trans e3).trans e4).trans e5).trans ((Ex.new n2).trans e6)) (hP c H6 (by
          rw [Int.toNat_natCast, rep_flat] at sc
          rw [List.map_append, List.map_append]
          exact sc))⟩⟩⟩
end
def sp__law_lower (K : PySem.W.Frag) : Sp := fun vs H Q _ => ∃ (q d : Nat), vs = [N_ q, N_ d] ∧ Fq q ∧ d ≤ 10 ∧ q ^ d ≤ 1000 ∧ RetPs K ((List.range (q ^ d)).map (dg q)) H Q
def moN (q d : Nat) : List (List Nat) := (List.range (q ^ d)).map fun n => dg q n ++ List.replicate (d - (dg q n).length) 0 ++ [1]
def sp__law_monics (K : PySem.W.Frag) : Sp := fun vs H Q _ => ∃ (q d : Nat), vs = [N_ q, N_ d] ∧ Fq q ∧ d ≤ 10 ∧ q ^ d ≤ 1000 ∧ RetPs K (moN q d) H Q

theorem ok__law_lower {P : Program} {w : World} {K : PySem.W.Frag} {mg : Str → Option Value} {base : Heap} (T : Txt K mg) : FnOk P w K mg base CX0 2 T.a__law_lower T.d__law_lower ["_law_q_here", "_law_d"] (sp__law_lower K) := by
  refine T.F__law_lower.ok sc__law_lower (fun vs H Q E h => ?_) (fun cdv A outer s H vs Q E hr h => ?_)
  · obtain ⟨q, d, rfl, _⟩ := h
    rfl
  · obtain ⟨q, d, rfl, hq, hd, hz, kk⟩ := h
    refine ⟨_, (pss_cons (ps_set (i := 2) sc__law_lower.nd rfl (Or.inl rfl) (pe_lst pa_nil))
      (pss_cons (ps_for PassesOwn.never rfl (pi_range1 rfl T.z_range (pa_cons (pe_call (ok__law_raised T) (hr.mono (by decide)) (by rfl) T.g__law_raised T.F__law_raised.kp T.b__law_raised .nil pass0 (pa_cons (pv 0) (pa_cons (pv 1) pa_nil))) pa_nil)) (pg_name (i := 3) sc__law_lower.nd rfl (Or.inl rfl)) (pss_one (ps_expr (pe_bm PySem.F.plainAttrs_list PySem.F.slot_list_append PySem.F.type_list_append mt_append (pv 2) (pa_cons (pe_callTy call_tuple_of (by rfl) T.z_tuple (by decide +kernel) (pa_cons (pe_call (ok__law_digits T) (hr.mono (by decide)) (by rfl) T.g__law_digits T.F__law_digits.kp T.b__law_digits .nil pass0 (pa_cons (pv 0) (pa_cons (pv 3) pa_nil))) pa_nil)) pa_nil)))))
      (pss_one (ps_ret (pv 2))))), ?_⟩
    have hq0 := hq.b
    refine q_asgL (xs := []) (el_lst ea_nil (by decide)) fun l H1 nl e1 h1 => ?_
    refine q_forR1 (n := ((q ^ d : Nat) : Int)) (ea_cons (ev_call (ea_cons (ev_var rfl) (ea_cons (ev_var rfl) ea_nil)) (sv_raised (by omega) (by omega))) ea_nil) ⟨by omega, by omega⟩ (fun i σ H' => ∃ (rs : List Addr) (y3 : Option V), σ = [some (N_ q), some (N_ d), some (.ref l), y3] ∧ Ex H H' ∧ H' l = some (.lst (rs.map V.ref)) ∧ Tps K H' rs ((List.range i).map (dg q))) (fun H2 e2 => ⟨[], none, rfl, e1.trans e2, e2 _ _ h1, Tps.nil K H2⟩) (fun i σ H2 hi hw => ?_) (fun σ H2 hw => ?_)
    · obtain ⟨rs, y3, rfl, e2, h2, t2⟩ := hw
      have hil : i < q ^ d := by omega
      have hrl : rs.length = i := by rw [t2.1, List.length_map, List.length_range]
      refine s_appU (xs := rs.map V.ref) (ys := (dg q i).map N_) h2 (ev_var rfl) (eu_tupleN (K := K) (el_call (ea_cons (ev_var rfl) (ea_cons (ev_var rfl) ea_nil)) (sv__law_digits hq.bs (Nat.lt_of_lt_of_le (show i < 2 ^ 10 by show i < 1024; omega) (Nat.pow_le_pow_right (by decide) (by decide)))))) (by rw [List.length_map]; omega) fun p H3 np e3 h3 => ?_
      have hx3 : Exd l H2 (upd H3 l (.lst (rs.map V.ref ++ [.ref p]))) := (Exd.of e3).trans Exd.put
      have hpl : p ≠ l := fun z => by rw [z] at np; rw [h2] at np; cases np
      refine ⟨rs ++ [p], _, rfl, Ex.mut (e2.trans e3) nl, by rw [upd_same, List.map_append]; rfl, ?_⟩
      rw [List.range_succ, List.map_append]
      refine Tps.app (t2.put h2 hx3) ⟨rfl, fun j r xs ej ex => ?_⟩
      cases j with
      | zero =>
        cases ej
        cases ex
        exact sqt_put (e3 _ _ h2) Exd.put (st_of h3)
      | succ j => simp at ej
    · obtain ⟨rs, y3, rfl, e2, h2, t2⟩ := hw
      rw [Int.toNat_natCast] at t2
      exact s_ret (ev_var rfl) fun H3 e3 => kk l rs H3 (fresh_back (Ex.refl H) nl) (e2.trans e3) (e3 _ _ h2) (t2.ex e3)


theorem ok__law_monics {P : Program} {w : World} {K : PySem.W.Frag} {mg : Str → Option Value} {base : Heap} (T : Txt K mg) : FnOk P w K mg base CX0 3 T.a__law_monics T.d__law_monics ["_law_q_here", "_law_d"] (sp__law_monics K) := by
  refine T.F__law_monics.ok sc__law_monics (fun vs H Q E h => ?_) (fun cdv A outer s H vs Q E hr h => ?_)
  · obtain ⟨q, d, rfl, _⟩ := h
    rfl
  · obtain ⟨q, d, rfl, hq, hd, hz, kk⟩ := h
    refine ⟨_, (pss_one (ps_ret (pe_lc (own := [("_law_a", 2)]) (g := gName 2) rfl sc__law_monics.nd (pi_list (pe_call (ok__law_lower T) (hr.mono (by decide)) (by rfl) T.g__law_lower T.F__law_lower.kp T.b__law_lower .nil pass0 (pa_cons (pv 0) (pa_cons (pv 1) pa_nil)))) (blkOk_by (N := ["_law_q_here", "_law_d", "_law_a"]) (sc := defScope s__law_monics) (by decide +kernel)) (fun _ _ _ _ _ => pg_name (i := 2) sc__law_monics.nd rfl (Or.inl rfl)) (fun _ _ _ _ _ => pts_nil) (fun _ _ _ _ _ => (pe_op (op_catAK (K := K) (by rfl)) (pe_op (op_catAK (K := K) (by rfl)) (pv 2) (pe_op (op_repUK (K := K) (by rfl)) (pe_tup (pa_cons pe_int pa_nil)) (pe_op op_sub (pv 1) (pe_callB (r := rLenQ K) call_len_seq (by rfl) T.z_len (by decide +kernel) (pa_cons (pv 2) pa_nil))))) (pe_tup (pa_cons pe_int pa_nil))))))), ?_⟩
    have hq0 := hq.b
    refine (lr_lcPs (K := K) (P := PRow K (fun i => (moN q d).getD i [])) (xss := (List.range (q ^ d)).map (dg q)) (kp_row K _) (ep_call (ea_cons (ev_var rfl) (ea_cons (ev_var rfl) ea_nil)) (fun H1 e1 Q q1 E => ⟨q, d, rfl, hq, hd, hz, q1⟩)) (by rw [List.length_map, List.length_range]; omega) (fun _ => rfl) (fun i r xs H1 e1 hx s1 => ?_)) H (Ex.refl H) _ fun p rs H1 np e1 h1 hl hP => kk p rs H1 np e1 h1 (tps_of (by rw [hl]; unfold moN; rw [List.length_map, List.length_map]) hP)
    have hil : i < q ^ d := by
      have := (List.getElem?_eq_some_iff.mp hx).1
      rwa [List.length_map, List.length_range] at this
    rw [List.getElem?_map, List.getElem?_range hil] at hx
    cases hx
    have hdl : (dg q i).length ≤ d := dg_len2 (f := d) (a := i) (by omega) d i hil
    refine er_monic (K := K) (m := d - (dg q i).length) (ev_var rfl) s1 (by omega) (fun H2 e2 => ev_is (ev_op (ev_var rfl) (ev_is (ev_cb (r := rLenQ K) (ea_cons (ev_var rfl) ea_nil) (rc_lenT (ex_t e2 s1))) (by rw [List.length_map])) rv_I0) (congrArg V.int (by omega))) fun r2 H2 s2 => ?_
    show SqT K H2 r2 (((moN q d).getD i []).map N_)
    unfold moN
    rw [List.getD_eq_getElem?_getD, List.getElem?_map, List.getElem?_range hil]
    exact s2


end Own
/-! the law's sums of powers, told by great numbers -/
namespace Own
open PySem PySem.Spec PyProof.Rows L2 Evl
def opT (T q a b : Nat) : Nat := Nat.shiftRight T (4 * (q * a + b)) % 16
/-- what the two numbers S and P tell of the field -/
structure Tab (S P q : Nat) : Prop where
  s : ∀ a b, a < q → b < q → opT S q a b = sE q a b
  p : ∀ a b, a < q → b < q → opT P q a b = pE q a b
def SN (q : Nat) : Nat := if q = 2 then 272 else if q = 3 then 4328657424 else if q = 4 then 81927025744491024 else if q = 5 then 247902484485588772559745462800 else if q = 7 then 33031507011770334954012677623655500133022363305842895499792 else if q = 8 then 514631494928646303341455936939146235248427799039887685160188751890747765264 else 8986690708024339884259668388453865091868182506470258411551265922896781674643265104972283578167824
def PN (q : Nat) : Nat := if q = 2 then 4096 else if q = 3 then 4834000896 else if q = 4 then 2391432431133523968 else if q = 5 then 90137679466370109728138199040 else if q = 7 then 7141944096324814997458722369008857060984214660764397469696 else if q = 8 then 23691910682714665197238709536041582193718400246807875409196429481426745819136 else 4734049774630918473256024888239444905659466140379552277893836662696841424659872706965699808985088
theorem sE_zero {q a : Nat} (hq : Fq q) (ha : a < q) : sE q a 0 = a ∧ sE q 0 a = a := by
  have h : chkAll (fun q => all1 q fun a => decide (sE q a 0 = a) && decide (sE q 0 a = a)) = true := by decide +kernel
  have h := all1_get (chk_get h hq) ha
  rw [Bool.and_eq_true, decide_eq_true_eq, decide_eq_true_eq] at h
  exact h
theorem tr_getD (xs : List Nat) (i : Nat) : (trN xs).getD i 0 = xs.getD i 0 := by
  obtain ⟨h1, h2, h3, h4⟩ := tr_take xs
  by_cases hi : i < (trN xs).length
  · rw [← h1, List.getD_eq_getElem?_getD, List.getD_eq_getElem?_getD, List.getElem?_take_of_lt hi]
  · rw [h4 i (by omega), List.getD_eq_getElem?_getD, List.getElem?_eq_none (by omega)]
    rfl
theorem plN_get {q : Nat} (hq : Fq q) (xs ys : List Nat) (i : Nat) : (plN q xs ys).getD i 0 = sE q (xs.getD i 0) (ys.getD i 0) := by
  unfold plN
  rw [tr_getD, List.getD_eq_getElem?_getD, List.getElem?_map]
  by_cases hi : i < max xs.length ys.length
  · rw [List.getElem?_range hi]
    rfl
  · rw [List.getElem?_eq_none (by rw [List.length_range]; omega), List.getD_eq_getElem?_getD, List.getD_eq_getElem?_getD, List.getElem?_eq_none (by omega), List.getElem?_eq_none (by omega)]
    exact ((sE_zero hq (show 0 < q by have := hq.b; omega)).1).symm
theorem chk_tab : chkAll (fun q => all1 q fun a => all1 q fun b => decide (opT (SN q) q a b = sE q a b) && decide (opT (PN q) q a b = epF (prE q) (poE q) a b)) = true := by decide +kernel
theorem tab_of {q : Nat} (hq : Fq q) : Tab (SN q) (PN q) q := by
  have h := chk_get chk_tab hq
  refine ⟨fun a b ha hb => ?_, fun a b ha hb => ?_⟩
  · have h2 := all1_get (all1_get h ha) hb
    rw [Bool.and_eq_true, decide_eq_true_eq, decide_eq_true_eq] at h2
    exact h2.1
  · have h2 := all1_get (all1_get h ha) hb
    rw [Bool.and_eq_true, decide_eq_true_eq, decide_eq_true_eq] at h2
    rw [pE_F hq ha hb]
    exact h2.2
def adQ (q a b : Nat) : Nat := opT (SN q) q a b
def muQ (q a b : Nat) : Nat := opT (PN q) q a b
def uQ (q : Nat) : Nat := if poE q = 1 then 0 else prE q
theorem chk_fa1 : chkAll (fun q => decide (0 < prE q) && decide (prE q ≤ q) && decide (uQ q < q)) = true := by decide +kernel
theorem chk_fa2 : chkAll (fun q => all1 q fun a => decide (adQ q a 0 = a) && decide (muQ q a 0 = 0) && all1 q fun b => decide (adQ q a b < q) && decide (muQ q a b < q) && decide (adQ q a b = adQ q b a) && decide (muQ q a b = muQ q b a)) = true := by decide +kernel
theorem chk_fa3 : chkAll (fun q => all1 q fun a => all1 q fun b => all1 q fun c => decide (adQ q (adQ q a b) c = adQ q a (adQ q b c)) && decide (muQ q (muQ q a b) c = muQ q a (muQ q b c)) && decide (muQ q a (adQ q b c) = adQ q (muQ q a b) (muQ q a c))) = true := by decide +kernel
theorem chk_fa4 : chkAll (fun q => all1 (prE q) fun a => all1 (prE q) fun b => decide (adQ q a b = (a + b) % prE q) && decide (muQ q a b = a * b % prE q)) = true := by decide +kernel
theorem fa_of {q : Nat} (hq : Fq q) : FA q (prE q) (uQ q) (adQ q) (muQ q) := by
  have h1 := chk_get chk_fa1 hq
  have h2 := chk_get chk_fa2 hq
  have h3 := chk_get chk_fa3 hq
  have h4 := chk_get chk_fa4 hq
  simp only [Bool.and_eq_true, decide_eq_true_eq] at h1
  have g2 : ∀ a, a < q → (adQ q a 0 = a ∧ muQ q a 0 = 0) ∧ ∀ b, b < q → ((adQ q a b < q ∧ muQ q a b < q) ∧ adQ q a b = adQ q b a) ∧ muQ q a b = muQ q b a := fun a ha => by
    have h := all1_get h2 ha
    rw [Bool.and_eq_true] at h
    refine ⟨by simpa only [Bool.and_eq_true, decide_eq_true_eq] using h.1, fun b hb => by simpa only [Bool.and_eq_true, decide_eq_true_eq] using all1_get h.2 hb⟩
  have g3 : ∀ a b c, a < q → b < q → c < q → (adQ q (adQ q a b) c = adQ q a (adQ q b c) ∧ muQ q (muQ q a b) c = muQ q a (muQ q b c)) ∧ muQ q a (adQ q b c) = adQ q (muQ q a b) (muQ q a c) := fun a b c ha hb hc => by simpa only [Bool.and_eq_true, decide_eq_true_eq] using all1_get (all1_get (all1_get h3 ha) hb) hc
  have g4 : ∀ a b, a < prE q → b < prE q → adQ q a b = (a + b) % prE q ∧ muQ q a b = a * b % prE q := fun a b ha hb => by simpa only [Bool.and_eq_true, decide_eq_true_eq] using all1_get (all1_get h4 ha) hb
  exact ⟨h1.1.1, h1.1.2, h1.2, fun a b ha hb => ((g2 a ha).2 b hb).1.1.1, fun a b ha hb => ((g2 a ha).2 b hb).1.1.2, fun a b ha hb => ((g2 a ha).2 b hb).1.2, fun a b c ha hb hc => (g3 a b c ha hb hc).1.1, fun a ha => (g2 a ha).1.1, fun a b ha hb => ((g2 a ha).2 b hb).2, fun a b c ha hb hc => (g3 a b c ha hb hc).1.2, fun a ha => (g2 a ha).1.2, fun a b c ha hb hc => (g3 a b c ha hb hc).2, fun a b ha hb => (g4 a b ha hb).1, fun a b ha hb => (g4 a b ha hb).2⟩
def Ps (q : Nat) (x : TP) (t : Nat) : Nat := psi (prE q) (uQ q) (adQ q) (muQ q) x t
def Rp (q : Nat) (xs : List Nat) (x : TP) : Prop := ∀ t, xs.getD t 0 = Ps q x t
theorem Rp.lt {q : Nat} (hq : Fq q) {xs : List Nat} {x : TP} (h : Rp q xs x) (t : Nat) : xs.getD t 0 < q := by rw [h t]; exact psi_lt (fa_of hq) x t
theorem rp_plus {q : Nat} (hq : Fq q) {xs ys : List Nat} {x y : TP} (h1 : Rp q xs x) (h2 : Rp q ys y) : Rp q (plN q xs ys) (tAdd x y) := fun t => by
  rw [plN_get hq, ← (tab_of hq).s _ _ (h1.lt hq t) (h2.lt hq t), h1 t, h2 t]
  exact (psi_add (fa_of hq) x y t).symm
theorem adR_get {q c : Nat} : ∀ (xs acc : List Nat) (t : Nat), xs.length ≤ acc.length → (adR q c xs acc).getD t 0 = if t < xs.length then sE q (acc.getD t 0) (pE q (xs.getD t 0) c) else acc.getD t 0
  | [], acc, t, _ => by
    have : adR q c [] acc = acc := by unfold adR; rfl
    rw [this]
    exact (if_neg (Nat.not_lt_zero t)).symm
  | x :: xs, [], t, h => by cases h
  | x :: xs, a :: acc, 0, h => by
    exact (if_pos (Nat.succ_pos _)).symm
  | x :: xs, a :: acc, t + 1, h => by
    have ih := adR_get (q := q) (c := c) xs acc t (Nat.le_of_succ_le_succ h)
    show (adR q c xs acc).getD t 0 = if t + 1 < xs.length + 1 then sE q (acc.getD t 0) (pE q (xs.getD t 0) c) else acc.getD t 0
    rw [ih]
    by_cases h : t < xs.length
    · rw [if_pos h, if_pos (by omega)]
    · rw [if_neg h, if_neg (by omega)]
theorem adA_get {q c : Nat} (xs : List Nat) : ∀ (j : Nat) (acc : List Nat) (t : Nat), xs.length + j ≤ acc.length → (adA q c xs j acc).getD t 0 = if t < j then acc.getD t 0 else if t - j < xs.length then sE q (acc.getD t 0) (pE q (xs.getD (t - j) 0) c) else acc.getD t 0
  | 0, acc, t, h => by
    rw [if_neg (Nat.not_lt_zero t), Nat.sub_zero]
    exact adR_get xs acc t h
  | j + 1, [], t, h => by
    rw [List.length_nil] at h
    omega
  | j + 1, a :: acc, 0, h => by
    rw [if_pos (Nat.succ_pos j)]
    rfl
  | j + 1, a :: acc, t + 1, h => by
    have ih := adA_get (q := q) (c := c) xs j acc t (by rw [List.length_cons] at h; omega)
    show (adA q c xs j acc).getD t 0 = if t + 1 < j + 1 then acc.getD t 0 else if t + 1 - (j + 1) < xs.length then sE q (acc.getD t 0) (pE q (xs.getD (t + 1 - (j + 1)) 0) c) else acc.getD t 0
    rw [ih, show t + 1 - (j + 1) = t - j by omega]
    by_cases h : t < j
    · rw [if_pos h, if_pos (show t + 1 < j + 1 by omega)]
    · rw [if_neg h, if_neg (show ¬ t + 1 < j + 1 by omega)]
theorem getD_zero {xs : List Nat} {t : Nat} (h : xs.length ≤ t) : xs.getD t 0 = 0 := by
  rw [List.getD_eq_getElem?_getD, List.getElem?_eq_none h]
  rfl
theorem rep_getD (n t : Nat) : (List.replicate n 0).getD t 0 = 0 := by
  rw [List.getD_eq_getElem?_getD, List.getElem?_replicate]
  split <;> rfl
theorem muS_get {q : Nat} (hq : Fq q) {xs ys : List Nat} (hx : ∀ t, xs.getD t 0 < q) (hy : ∀ t, ys.getD t 0 < q) (hx0 : xs ≠ []) : ∀ j, j ≤ ys.length → ∀ t, (muS q xs ys j).getD t 0 = cvn (adQ q) (muQ q) j (fun i => ys.getD i 0) (fun i => xs.getD i 0) t
  | 0, _, t => rep_getD _ t
  | j + 1, hj, t => by
    have F := fa_of hq
    have T := tab_of hq
    have ih := muS_get hq hx hy hx0 j (by omega)
    have hc : ∀ t, cvn (adQ q) (muQ q) j (fun i => ys.getD i 0) (fun i => xs.getD i 0) t < q := fun t => cvn_lt F j _ _ hy hx t
    rw [cvn_snoc F j _ _ hy hx t]
    show (if ys.getD j 0 = 0 then muS q xs ys j else adA q (ys.getD j 0) xs j (muS q xs ys j)).getD t 0 = _
    by_cases h0 : ys.getD j 0 = 0
    · rw [if_pos h0, ih t, h0]
      split
      · exact (F.ad0 _ (hc t)).symm
      · rw [F.mu0 _ (hx _), F.ad0 _ (hc t)]
    · rw [if_neg h0]
      have hxl := List.length_pos_iff.mpr hx0
      rw [adA_get xs j _ t (by rw [muS_len]; omega), ih t]
      by_cases h1 : t < j
      · rw [if_pos h1, if_pos h1, F.ad0 _ (hc t)]
      · rw [if_neg h1, if_neg h1]
        by_cases h2 : t - j < xs.length
        · rw [if_pos h2, ← T.p _ _ (hx _) (hy _), ← T.s _ _ (hc t) (show opT (PN q) q (xs.getD (t - j) 0) (ys.getD j 0) < q from F.muL _ _ (hx _) (hy _))]
          rfl
        · rw [if_neg h2, getD_zero (xs := xs) (t := t - j) (by omega), F.mz _ (hy _), F.ad0 _ (hc t)]
theorem cvn_f0 {q : Nat} (hq : Fq q) {f : Nat → Nat} (hf : ∀ t, f t = 0) : ∀ (n : Nat) (g : Nat → Nat) (t : Nat), (∀ j, g j < q) → cvn (adQ q) (muQ q) n g f t = 0
  | 0, _, _, _ => rfl
  | n + 1, g, t, hg => by
    have F := fa_of hq
    show adQ q (muQ q (f t) (g 0)) (if t = 0 then 0 else cvn (adQ q) (muQ q) n (fun j => g (j + 1)) f (t - 1)) = 0
    rw [hf t, F.mz _ (hg 0), cvn_f0 hq hf n _ (t - 1) (fun j => hg (j + 1))]
    split <;> exact F.ad0 _ F.q0
theorem rp_mul {q : Nat} (hq : Fq q) {xs ys : List Nat} {x y : TP} (h1 : Rp q xs x) (h2 : Rp q ys y) : Rp q (muN q xs ys) (tMul y x) := fun t => by
  have F := fa_of hq
  have hy : ∀ j, Ps q y j < q := fun j => psi_lt F y j
  have hx : ∀ j, Ps q x j < q := fun j => psi_lt F x j
  show (muN q xs ys).getD t 0 = psi (prE q) (uQ q) (adQ q) (muQ q) (tMul y x) t
  rw [psi_mul F]
  have hyz : ∀ j, y.length ≤ j → Ps q y j = 0 := fun j hj => by
    unfold Ps psi
    rw [List.getD_eq_getElem?_getD, List.getElem?_eq_none hj]
    rfl
  have hyz2 : ∀ j, ys.length ≤ j → Ps q y j = 0 := fun j hj => by rw [← h2 j]; exact getD_zero hj
  unfold muN
  by_cases he : xs = [] ∨ ys = []
  · rw [if_pos he]
    show 0 = cvn _ _ y.length (Ps q y) (Ps q x) t
    rcases he with he | he
    · exact (cvn_f0 hq (fun j => by rw [← h1 j, he]; rfl) _ _ t hy).symm
    · have := cvn_more F hy hx (n := 0) (fun j _ => hyz2 j (by rw [he]; exact Nat.zero_le _)) t y.length
      rw [Nat.zero_add] at this
      exact this.symm
  · rw [if_neg he, muS_get hq (h1.lt hq) (h2.lt hq) (fun z => he (.inl z)) ys.length (Nat.le_refl _) t]
    rw [cvn_congr h2 h1]
    have e1 := cvn_more F hy hx hyz t ys.length
    have e2 := cvn_more F hy hx hyz2 t y.length
    rw [Nat.add_comm] at e2
    exact e2.symm.trans e1
theorem chk_one : chkAll (fun q => decide (phi (prE q) (uQ q) (adQ q) (muQ q) [1] = 1)) = true := by decide +kernel
theorem rp_one {q : Nat} (hq : Fq q) : Rp q [1] [[1]] := fun t => by
  cases t with
  | zero => exact (of_decide_eq_true (chk_get chk_one hq)).symm
  | succ t => rfl

/-! rows of elements of the prime field, and what one great number tells of them -/
def EB : Nat := 4294967296
def Ev3 (q : Nat) (xs : List Nat) (f : Nat → Nat) : Prop := ∃ x : TP, Rp q xs x ∧ ∀ X, evT EB X x = f X
theorem e3_one {q : Nat} (hq : Fq q) : Ev3 q [1] (fun _ => 1) := ⟨[[1]], rp_one hq, fun X => by
  show 1 + EB * 0 + X * 0 = 1
  rw [Nat.mul_zero, Nat.mul_zero]⟩
theorem e3_mul {q : Nat} (hq : Fq q) {xs ys : List Nat} {f g : Nat → Nat} (h1 : Ev3 q xs f) (h2 : Ev3 q ys g) : Ev3 q (muN q xs ys) (fun X => g X * f X) := by
  obtain ⟨x, a1, a2⟩ := h1
  obtain ⟨y, b1, b2⟩ := h2
  exact ⟨tMul y x, rp_mul hq a1 b1, fun X => by rw [ev_tmul, a2, b2]⟩
theorem e3_plus {q : Nat} (hq : Fq q) {xs ys : List Nat} {f g : Nat → Nat} (h1 : Ev3 q xs f) (h2 : Ev3 q ys g) : Ev3 q (plN q xs ys) (fun X => f X + g X) := by
  obtain ⟨x, a1, a2⟩ := h1
  obtain ⟨y, b1, b2⟩ := h2
  exact ⟨tAdd x y, rp_plus hq a1 b1, fun X => by rw [ev_tadd, a2, b2]⟩
theorem e3_shift {q n : Nat} {xs : List Nat} {f : Nat → Nat} (h : Ev3 q xs f) : Ev3 q (List.replicate n 0 ++ xs) (fun X => X ^ n * f X) := by
  obtain ⟨x, a1, a2⟩ := h
  refine ⟨List.replicate n [] ++ x, fun t => ?_, fun X => by rw [ev_rep, a2]⟩
  show _ = psi _ _ _ _ _ t
  rw [psi_rep]
  by_cases ht : t < n
  · rw [if_pos ht, List.getD_eq_getElem?_getD, List.getElem?_append_left (by rw [List.length_replicate]; exact ht), List.getElem?_replicate, if_pos ht]
    rfl
  · rw [if_neg ht, List.getD_eq_getElem?_getD, List.getElem?_append_right (by rw [List.length_replicate]; omega), List.length_replicate, ← List.getD_eq_getElem?_getD]
    exact a1 (t - n)
theorem chk_opp : chkAll (fun q => decide (oE q 0 = 0) && all1 q fun a => decide (oE q a = muQ q (phi (prE q) (uQ q) (adQ q) (muQ q) [prE q - 1]) a)) = true := by decide +kernel
theorem e3_opp {q : Nat} (hq : Fq q) {xs : List Nat} {f : Nat → Nat} (h : Ev3 q xs f) : Ev3 q (xs.map (oE q)) (fun X => (prE q - 1) * f X) := by
  obtain ⟨x, a1, a2⟩ := h
  have hc := chk_get chk_opp hq
  rw [Bool.and_eq_true, decide_eq_true_eq] at hc
  refine ⟨x.map fun b => uMul [prE q - 1] b, fun t => ?_, fun X => by rw [ev_tscale, a2]; rfl⟩
  show _ = psi _ _ _ _ _ t
  rw [psi_scale (fa_of hq)]
  have hg : (xs.map (oE q)).getD t 0 = oE q (xs.getD t 0) := by
    rw [List.getD_eq_getElem?_getD, List.getD_eq_getElem?_getD, List.getElem?_map]
    cases xs[t]? with
    | none => exact hc.1.symm
    | some a => rfl
  rw [hg, of_decide_eq_true (all1_get hc.2 (Rp.lt hq a1 t)), a1 t]
  rfl
theorem psi_low {q : Nat} (hq : Fq q) {x : TP} {t : Nat} (h1 : evU EB (x.getD t []) < EB) (h2 : ∀ z ∈ x.getD t [], z < EB) : Ps q x t = evU EB (x.getD t []) % prE q := by
  have F := fa_of hq
  have h := hor_phi F (show 0 < EB by decide) 1 (x.getD t []) h2 (by rw [Nat.pow_one]; exact h1)
  show phi _ _ _ _ (x.getD t []) = _
  rw [← h]
  unfold hor
  by_cases hz : evU EB (x.getD t []) = 0
  · rw [if_pos hz, hz, Nat.zero_mod]
  · rw [if_neg hz, Nat.mod_eq_of_lt h1]
    show adQ q _ (muQ q (uQ q) 0) = _
    rw [F.mu0 _ F.uq, F.ad0 _ (F.md _)]
def eqK (p : Nat) : Nat → Nat → Nat → Bool
  | 0, _, _ => true
  | n + 1, a, b => Nat.beq (a % EB % p) (b % EB % p) && eqK p n (a / EB) (b / EB)
theorem eq_read {q : Nat} (hq : Fq q) : ∀ (n : Nat) (x y : TP), (∀ t, evU EB (x.getD t []) < EB) → (∀ t, ∀ z ∈ x.getD t [], z < EB) → (∀ t, evU EB (y.getD t []) < EB) → (∀ t, ∀ z ∈ y.getD t [], z < EB) → eqK (prE q) n (evT EB EB x) (evT EB EB y) = true → ∀ t, t < n → Ps q x t = Ps q y t
  | 0, x, y, _, _, _, _, _, t, ht => absurd ht (Nat.not_lt_zero t)
  | n + 1, x, y, h1, h2, h3, h4, h, t, ht => by
    obtain ⟨e1, e2⟩ := evT_div x h1
    obtain ⟨e3, e4⟩ := evT_div y h3
    have tl : ∀ (x : TP) t, x.tail.getD t [] = x.getD (t + 1) [] := fun x t => by cases x <;> rfl
    unfold eqK at h
    rw [Bool.and_eq_true, Nat.beq_eq, e1, e2, e3, e4] at h
    cases t with
    | zero => rw [psi_low hq (h1 0) (h2 0), psi_low hq (h3 0) (h4 0)]; exact h.1
    | succ t =>
      have ih := eq_read hq n x.tail y.tail (fun t => by rw [tl]; exact h1 (t + 1)) (fun t => by rw [tl]; exact h2 (t + 1)) (fun t => by rw [tl]; exact h3 (t + 1)) (fun t => by rw [tl]; exact h4 (t + 1)) h.2 t (by omega)
      unfold Ps psi at ih ⊢
      rwa [tl, tl] at ih
theorem ext_getD {xs ys : List Nat} (hl : xs.length = ys.length) (h : ∀ t, t < xs.length → xs.getD t 0 = ys.getD t 0) : xs = ys := by
  refine List.ext_getElem hl fun t h1 h2 => ?_
  have := h t h1
  rw [List.getD_eq_getElem?_getD, List.getD_eq_getElem?_getD, List.getElem?_eq_getElem h1, List.getElem?_eq_getElem h2] at this
  exact this
theorem rows_eq {q : Nat} (hq : Fq q) {xs ys : List Nat} {f g : Nat → Nat} (h1 : Ev3 q xs f) (h2 : Ev3 q ys g) (hl : xs.length = ys.length) (b1 : f 1 < EB) (b2 : g 1 < EB) (h : eqK (prE q) xs.length (f EB) (g EB) = true) : xs = ys := by
  obtain ⟨x, a1, a2⟩ := h1
  obtain ⟨y, c1, c2⟩ := h2
  have hx : ∀ t, evU EB (x.getD t []) < EB := fun t => Nat.lt_of_le_of_lt (evU_le_T EB x t) (by rw [a2]; exact b1)
  have hy : ∀ t, evU EB (y.getD t []) < EB := fun t => Nat.lt_of_le_of_lt (evU_le_T EB y t) (by rw [c2]; exact b2)
  have hle : ∀ (c : UP) (z : Nat), z ∈ c → z ≤ evU EB c := fun c => by
    induction c with
    | nil => exact fun z hz => by cases hz
    | cons a c ih =>
      intro z hz
      show z ≤ a + EB * evU EB c
      rcases List.mem_cons.mp hz with rfl | hz
      · exact Nat.le_add_right _ _
      · have h5 := ih z hz
        have h6 : 1 * evU EB c ≤ EB * evU EB c := Nat.mul_le_mul_right _ (show 1 ≤ EB by decide)
        omega
  refine ext_getD hl fun t ht => ?_
  rw [a1 t, c1 t]
  exact eq_read hq xs.length x y hx (fun t z hz => Nat.lt_of_le_of_lt (hle _ z hz) (hx t)) hy (fun t z hz => Nat.lt_of_le_of_lt (hle _ z hz) (hy t)) (by rw [a2, c2]; exact h) t ht
end Own
/-! the package: rows, products by terms, products of all monic polynomials -/
namespace Own
open PySem PySem.Spec PyProof.Rows L2 Evl

section
variable {K : PySem.W.Frag} {σ : L2.St} {H H' : Hp} {te ta tb tc : TE} {x y : V} {xs zs : List V}
theorem tf_tupleN (h : EvL ta σ H xs) : EvTf (tCB (rTupF K) (tCons ta tNil)) σ H xs := fun H1 e Q q =>
  h H1 e _ fun p H2 np e2 hp => ⟨p, xs, rfl, sq_of hp, fun l o nl hd => q l _ (e2.trans (Ex.new nl)) (tf_new hd)⟩
theorem tf_call1L {sp : Sp} {E : XK} (h : EvL te σ H zs) (hs : ∀ p H1, Ex H H1 → H1 p = some (.lst zs) → ∀ Q : VK, RetTf xs H1 Q → ∀ E, sp [.ref p] H1 Q E) : EvTf (tCall sp [] E (tCons te tNil)) σ H xs := fun H1 e Q q =>
  h H1 e _ fun p H2 np e2 hp => hs p H2 (e.trans e2) hp Q (q.go e2) _
theorem tf_call2T {sp : Sp} {E : XK} (h1 : Ev ta σ H x) (h2 : Ev tb σ H y) (h : EvTt K te σ H zs) (hs : ∀ p H1, Ex H H1 → SqT K H1 p zs → ∀ Q : VK, RetTf xs H1 Q → ∀ E, sp [x, y, .ref p] H1 Q E) : EvTf (tCall sp [] E (tCons ta (tCons tb (tCons te tNil)))) σ H xs := fun H1 e Q q =>
  h1 H1 e _ fun H2 e2 => h2 H2 (e.trans e2) _ fun H3 e3 => h H3 ((e.trans e2).trans e3) _ fun p H4 e4 hp => hs p H4 (((e.trans e2).trans e3).trans e4) hp Q (q.go ((e2.trans e3).trans e4)) _
theorem tf_call2F {sp : Sp} {E : XK} (h1 : Ev ta σ H x) (h2 : Ev tb σ H y) (h : EvTf te σ H zs) (hs : ∀ p H1, Ex H H1 → TfAt H1 p zs → ∀ Q : VK, RetTf xs H1 Q → ∀ E, sp [x, y, .ref p] H1 Q E) : EvTf (tCall sp [] E (tCons ta (tCons tb (tCons te tNil)))) σ H xs := fun H1 e Q q =>
  h1 H1 e _ fun H2 e2 => h2 H2 (e.trans e2) _ fun H3 e3 => h H3 ((e.trans e2).trans e3) _ fun p H4 e4 hp => hs p H4 (((e.trans e2).trans e3).trans e4) hp Q (q.go ((e2.trans e3).trans e4)) _
theorem tf_call3T {sp : Sp} {E : XK} {ws : List V} (h1 : Ev ta σ H x) (h2 : EvTt K tb σ H zs) (h3 : EvTt K tc σ H ws) (hs : ∀ p r H1, Ex H H1 → SqT K H1 p zs → SqT K H1 r ws → ∀ Q : VK, RetTf xs H1 Q → ∀ E, sp [x, .ref p, .ref r] H1 Q E) : EvTf (tCall sp [] E (tCons ta (tCons tb (tCons tc tNil)))) σ H xs := fun H1 e Q q =>
  h1 H1 e _ fun H2 e2 => h2 H2 (e.trans e2) _ fun p H3 e3 hp => h3 H3 ((e.trans e2).trans e3) _ fun r H4 e4 hr => hs p r H4 (((e.trans e2).trans e3).trans e4) (ex_t e4 hp) hr Q (q.go ((e2.trans e3).trans e4)) _
end

/-- a written table of sums, by its rows -/
def TbR (K : PySem.W.Frag) (a : Addr) (f : Nat → Nat → Nat) (q : Nat) : Prop := ∃ rs : List Addr, q ≤ rs.length ∧ (∀ H, SqT K H a (rs.map V.ref)) ∧ ∀ x r, x < q → rs[x]? = some r → ∃ row : List Int, (∀ H, SqT K H r (row.map V.int)) ∧ ∀ y, y < q → row[y]? = some ((f x y : Nat) : Int)
def tabE (t : List (Int × List (List Int))) (q a b : Nat) : Option Int := (t.lookup (q : Int)).bind fun w => w[a]?.bind fun xs => xs[b]?
theorem tb_of {K : PySem.W.Frag} {d : Addr} {t : List (Int × List (List Int))} {q : Nat} {f : Nat → Nat → Nat} (h : tab2 K d = some t) (h0 : 0 < q) (hf : ∀ a b, a < q → b < q → tabE t q a b = some ((f a b : Nat) : Int)) : ∃ a, TbR K a f q ∧ ∀ H, RV (rIxW K) (.ref d) (N_ q) H (.ref a) := by
  have key : ∀ a b, a < q → b < q → ∃ w xs, t.lookup (q : Int) = some w ∧ w[a]? = some xs ∧ xs[b]? = some ((f a b : Nat) : Int) := fun a b ha hb => by
    have := hf a b ha hb
    unfold tabE at this
    obtain ⟨w, hw, h2⟩ := Option.bind_eq_some_iff.mp this
    obtain ⟨xs, hx, h3⟩ := Option.bind_eq_some_iff.mp h2
    exact ⟨w, xs, hw, hx, h3⟩
  obtain ⟨w, _, hw, _, _⟩ := key 0 0 h0 h0
  obtain ⟨a, rs, hs, hr⟩ := tab2_get h hw
  have hwl : q ≤ w.length := by
    obtain ⟨w2, xs, hw2, hx, _⟩ := key (q - 1) 0 (by omega) h0
    rw [hw] at hw2
    cases hw2
    have := (List.getElem?_eq_some_iff.mp hx).1
    omega
  refine ⟨a, ⟨rs, by rw [(hs (fun _ => none)).2.1]; exact hwl, fun H => (hs H).1, fun x r hx hr => ?_⟩, hr⟩
  obtain ⟨w2, xs, hw2, hxs, _⟩ := key x 0 hx h0
  rw [hw] at hw2
  cases hw2
  refine ⟨xs, fun H => (hs H).2.2 x r xs hr hxs, fun y hy => ?_⟩
  obtain ⟨w3, xs3, hw3, hxs3, h3⟩ := key x y hx hy
  rw [hw] at hw3
  cases hw3
  rw [hxs] at hxs3
  cases hxs3
  exact h3
section
variable {K : PySem.W.Frag} {σ : L2.St} {H H' : Hp} {ta tb tl te : TE} {D : Ends} {tu tz : TS}
theorem ev_tb {a : Addr} {f : Nat → Nat → Nat} {q x y : Nat} (h : TbR K a f q) (ht : Ev tl σ H (.ref a)) (ha : Ev ta σ H (N_ x)) (hb : Ev tb σ H (N_ y)) (hx : x < q) (hy : y < q) : Ev (tOp (rIxT K) (tOp (rIxT K) tl ta) tb) σ H (N_ (f x y)) := by
  obtain ⟨rs, h1, h2, h3⟩ := h
  have hr : rs[x]? = some rs[x] := List.getElem?_eq_getElem (by omega)
  obtain ⟨row, hs, hv⟩ := h3 x _ hx hr
  exact ev_op (ev_op ht ha (rv_ixT (v := .ref rs[x]) (h2 H) (atI_nat (by rw [List.getElem?_map, hr]; rfl)))) hb (rv_ixT (hs H) (atI_nat (by rw [List.getElem?_map, hv y hy]; rfl)))
end
theorem chk_sums : chkAll (fun q => all1 q fun a => all1 q fun b => decide (tabE W_SUMS q a b = some ((sE q a b : Nat) : Int))) = true := by decide +kernel
theorem chk_opps : chkAll (fun q => all1 q fun a => decide ((W_OPPOSITES.lookup (q : Int)).bind (fun w => w[a]?) = some ((oE q a : Nat) : Int))) = true := by decide +kernel
theorem chk_oL : chkAll (fun q => all1 q fun a => decide (oE q a < q)) = true := by decide +kernel
theorem oE_lt {q a : Nat} (hq : Fq q) (ha : a < q) : oE q a < q := of_decide_eq_true (all1_get (chk_get chk_oL hq) ha)
theorem sums_tb {K : PySem.W.Frag} {d : Addr} {q : Nat} (hq : Fq q) (h : tab2 K d = some W_SUMS) : ∃ a, TbR K a (sE q) q ∧ ∀ H, RV (rIxW K) (.ref d) (N_ q) H (.ref a) :=
  tb_of h (by have := hq.b; omega) fun a b ha hb => of_decide_eq_true (all1_get (all1_get (chk_get chk_sums hq) ha) hb)
theorem opps_row {K : PySem.W.Frag} {d : Addr} {q : Nat} (hq : Fq q) (h : tab1 K d = some W_OPPOSITES) : ∃ (a : Addr) (w : List Int), (∀ H, SqT K H a (w.map V.int)) ∧ (∀ x, x < q → w[x]? = some ((oE q x : Nat) : Int)) ∧ ∀ H, RV (rIxW K) (.ref d) (N_ q) H (.ref a) := by
  have key : ∀ x, x < q → ∃ w, W_OPPOSITES.lookup (q : Int) = some w ∧ w[x]? = some ((oE q x : Nat) : Int) := fun x hx => Option.bind_eq_some_iff.mp (of_decide_eq_true (all1_get (chk_get chk_opps hq) hx))
  obtain ⟨w, hw, _⟩ := key 0 (by have := hq.b; omega)
  obtain ⟨a, hs, hr⟩ := tab1_get h hw
  refine ⟨a, w, hs, fun x hx => ?_, hr⟩
  obtain ⟨w2, hw2, h2⟩ := key x hx
  rw [hw] at hw2
  cases hw2
  exact h2

def sp_trimmed (K : PySem.W.Frag) : Sp := fun vs H Q _ => ∃ (a : Addr) (xs : List Nat) (m : Nat), vs = [.ref a] ∧ SqL K H a (xs.map N_) ∧ xs.length ≤ 10000 ∧ m ≤ xs.length ∧ (m ≠ 0 → xs.getD (m - 1) 0 ≠ 0) ∧ (∀ i, m ≤ i → xs.getD i 0 = 0) ∧ RetTf ((xs.take m).map N_) H Q

theorem ok_trimmed {P : Program} {w : World} {K : PySem.W.Frag} {mg : Str → Option Value} {base : Heap} (T : Txt K mg) : FnOk P w K mg base CX0 1 T.a_trimmed T.d_trimmed ["row"] (sp_trimmed K) := by
  refine T.F_trimmed.ok sc_trimmed (fun vs H Q E h => ?_) (fun cdv A outer s H vs Q E hr h => ?_)
  · obtain ⟨a, xs, m, rfl, _⟩ := h
    rfl
  · obtain ⟨a, xs, m, rfl, hx, hl, hm, hnz, hz, kk⟩ := h
    refine ⟨_, (pss_cons (ps_set (i := 1) sc_trimmed.nd rfl (Or.inl rfl) (pe_callB call_len_seq (by rfl) T.z_len (by decide +kernel) (pa_cons (pv 0) pa_nil)))
      (pss_cons (ps_while PassesOwn.never (PW.pt (pw_and (pt_cmpR op_gt (pv 1) pe_int (nomark _)) (pw_and1 (pt_cmpR op_eq (pe_ix (r := rIxL K) ix_list (pv 0) (pe_op op_sub (pv 1) pe_int) (fun _ _ => rfl)) pe_int (nomark _))))) (pss_one (ps_aug (i := 1) sc_trimmed.nd rfl (Or.inl rfl) pe_int ip_sub)))
      (pss_one (ps_ret (pe_callTy (call_tuple_ofFK (K := K) (by rfl)) (by rfl) T.z_tuple (by decide +kernel) (pa_cons (pe_slice sl_list (pv 0) po_none (po_some (pv 1))) pa_nil)))))), ?_⟩
    refine q_asg (v := N_ xs.length) (ev_is (ev_cb (r := rLenQ K) (ea_cons (ev_var rfl) ea_nil) (rc_lenL hx)) (by rw [List.length_map])) fun H1 e1 => ?_
    refine q_while (fun n σ H' => σ = [some (.ref a), some (N_ n)] ∧ m ≤ n ∧ n ≤ xs.length ∧ Ex H H') xs.length ⟨rfl, hm, Nat.le_refl _, e1⟩ fun n σ H2 hw => ?_
    obtain ⟨rfl, hmn, hnl, e2⟩ := hw
    refine ⟨decide (0 < n) && decide (xs.getD (n - 1) 0 = 0), et_is (et_and (et_test (ev_op (ev_var rfl) ev_c rv_I0)) (b := decide (xs.getD (n - 1) 0 = 0)) fun hb => ?_) (by congr 1; exact decide_eq_decide.mpr (by omega)), fun hb H3 e3 => ?_, fun hb H3 e3 => ?_⟩
    · have hn0 : 0 < n := by have := of_decide_eq_true hb; omega
      exact et_is (et_test (ev_op (ev_op (r := rIxL K) (ev_var rfl) (ev_is (w := N_ (n - 1)) (ev_op (ev_var rfl) ev_c rv_I0) (congrArg V.int (by omega))) (rv_ixL (ex_l e2 hx) (atI_nat (get_N (by omega))))) ev_c (rv_eq rfl))) (dec_int (y := 0))
    · rw [Bool.and_eq_true, decide_eq_true_eq, decide_eq_true_eq] at hb
      have hne : m ≠ n := fun e => hnz (by omega) (by rw [e]; exact hb.2)
      refine ⟨fun σ' H' => σ' = [some (.ref a), some (N_ (n - 1))] ∧ Ex H H', fun σ2 H2' hN => ?_, ?_⟩
      · obtain ⟨rfl, e⟩ := hN
        exact ⟨n - 1, by omega, rfl, by omega, by omega, e⟩
      · exact s_aug (a := (n : Int)) (b := 1) rfl ev_c fun H4 e4 => ⟨by rw [show ((n : Int) - 1) = ((n - 1 : Nat) : Int) by omega]; rfl, (e2.trans e3).trans e4⟩
    · have hmn2 : n = m := by
        rw [Bool.and_eq_false_iff, decide_eq_false_iff_not, decide_eq_false_iff_not] at hb
        by_cases h : m = n
        · exact h.symm
        · have := hz (n - 1) (by omega)
          rcases hb with hb | hb
          · omega
          · exact absurd this hb
      subst hmn2
      have e03 := e2.trans e3
      refine s_retF (tf_is (tf_tupleN (K := K) (el_sl (K := K) (ev_var rfl) eo_none (eo_some (ev_var rfl)) (ex_l e03 hx))) (by rw [cutTake, List.map_take])) (kk.go e03)


theorem tt_trimmed {K : PySem.W.Frag} {σ : L2.St} {H : Hp} {te : TE} {E : XK} {xs : List Nat} (h : EvL te σ H (xs.map N_)) (hl : xs.length ≤ 10000) : EvTf (tCall (sp_trimmed K) [] E (tCons te tNil)) σ H ((trN xs).map N_) :=
  tf_call1L h fun p H1 _ hp Q q E => by
    obtain ⟨h1, h2, h3, h4⟩ := tr_take xs
    exact ⟨p, xs, (trN xs).length, rfl, sq_of hp, hl, h2, h3, fun i hi => h4 i hi, by rw [h1]; exact q⟩
theorem cutDrop' (xs : List V) (f : Nat) : cutV xs (some (f : Int)) none = xs.drop f := by
  unfold cutV
  rw [HT.sIx_nat, HT.sIx_none]
  by_cases h : f ≤ xs.length
  · rw [Nat.min_eq_left h, List.take_of_length_le (by rw [List.length_drop]; exact Nat.le_refl _)]
  · rw [Nat.min_eq_right (by omega), List.drop_eq_nil_of_le (show xs.length ≤ f by omega), List.drop_length, List.take_nil]
theorem pl_rows {q : Nat} (hq : Fq q) {xs ys : List Nat} (lx : Lq q xs) (ly : Lq q ys) : ((List.range (min xs.length ys.length)).map fun i => sE q (xs.getD i 0) (ys.getD i 0)) ++ xs.drop ys.length ++ ys.drop xs.length = (List.range (max xs.length ys.length)).map fun i => sE q (xs.getD i 0) (ys.getD i 0) := by
  have h0 : 0 < q := by have := hq.b; omega
  refine ext_getD ?_ fun t ht => ?_
  · simp only [List.length_append, List.length_map, List.length_range, List.length_drop]
    omega
  · have hR : ((List.range (max xs.length ys.length)).map fun i => sE q (xs.getD i 0) (ys.getD i 0)).getD t 0 = sE q (xs.getD t 0) (ys.getD t 0) := by
      have hlt : t < max xs.length ys.length := by
        simp only [List.length_append, List.length_map, List.length_range, List.length_drop] at ht
        omega
      rw [List.getD_eq_getElem?_getD, List.getElem?_map, List.getElem?_range hlt]
      rfl
    rw [hR, List.append_assoc, List.getD_eq_getElem?_getD]
    by_cases h1 : t < min xs.length ys.length
    · rw [List.getElem?_append_left (by rw [List.length_map, List.length_range]; exact h1), List.getElem?_map, List.getElem?_range h1]
      rfl
    · rw [List.getElem?_append_right (by rw [List.length_map, List.length_range]; omega), List.length_map, List.length_range]
      by_cases h2 : ys.length ≤ xs.length
      · rw [List.drop_eq_nil_of_le h2, List.append_nil, List.getElem?_drop, show ys.length + (t - min xs.length ys.length) = t by omega, ← List.getD_eq_getElem?_getD]
        have : ys.getD t 0 = 0 := by rw [List.getD_eq_getElem?_getD, List.getElem?_eq_none (by omega)]; rfl
        rw [this]
        exact ((sE_zero hq (lx.get h0 t)).1).symm
      · rw [List.drop_eq_nil_of_le (show xs.length ≤ ys.length by omega), List.nil_append, List.getElem?_drop, show xs.length + (t - min xs.length ys.length) = t by omega, ← List.getD_eq_getElem?_getD]
        have : xs.getD t 0 = 0 := by rw [List.getD_eq_getElem?_getD, List.getElem?_eq_none (by omega)]; rfl
        rw [this]
        exact ((sE_zero hq (ly.get h0 t)).2).symm
def sp_row_sum (K : PySem.W.Frag) : Sp := fun vs H Q _ => ∃ (a b : Addr) (q : Nat) (xs ys : List Nat), vs = [N_ q, .ref a, .ref b] ∧ Fq q ∧ SqT K H a (xs.map N_) ∧ SqT K H b (ys.map N_) ∧ Lq q xs ∧ Lq q ys ∧ xs.length ≤ 4000 ∧ ys.length ≤ 4000 ∧ RetTf ((plN q xs ys).map N_) H Q

theorem ok_row_sum {P : Program} {w : World} {K : PySem.W.Frag} {mg : Str → Option Value} {base : Heap} (T : Txt K mg) : FnOk P w K mg base CX0 2 T.a_row_sum T.d_row_sum ["q", "a", "b"] (sp_row_sum K) := by
  refine T.F_row_sum.ok sc_row_sum (fun vs H Q E h => ?_) (fun cdv A outer s H vs Q E hr h => ?_)
  · obtain ⟨a, b, q, xs, ys, rfl, _⟩ := h
    rfl
  · obtain ⟨a, b, q, xs, ys, rfl, hq, hx, hy, lx, ly, hl, hm, kk⟩ := h
    refine ⟨_, (pss_cons (ps_set (i := 3) sc_row_sum.nd rfl (Or.inr rfl) (pe_ix (r := rIxW K) ix_tab (pe_glob (v := .ref T.a_SUMS) (by rfl) T.g_SUMS rfl) (pv 0) (fun _ _ => rfl)))
      (pss_cons (ps_setLc (i := 4) (own := [("x", 5), ("y", 6)]) (g := (gTup K 2 (gCons (gName 5) (gCons (gName 6) gNil)))) (by rfl) sc_row_sum.nd rfl rfl (sw_true rfl rfl rfl (by decide +kernel)) (RZ.pi_zipA (by rfl) T.z_zip (pa_cons (pv 1) (pa_cons (pv 2) pa_nil))) (blkOk_by (N := ["q", "a", "b", "sums", "shared", "x", "y"]) (sc := defScope s_row_sum) (by decide +kernel)) (fun _ _ _ _ _ => (pg_tup (by rfl) (pgs_cons (pg_name (i := 5) sc_row_sum.nd rfl (Or.inl rfl)) (pgs_cons (pg_name (i := 6) sc_row_sum.nd rfl (Or.inl rfl)) pgs_nil)))) (fun _ _ _ _ _ => pts_nil) (fun _ _ _ _ _ => (pe_ix (r := rIxT K) ix_tup (pe_ix (r := rIxT K) ix_tup (pv 3) (pv 5) (fun _ _ => rfl)) (pv 6) (fun _ _ => rfl))))
      (pss_one (ps_ret (pe_call (ok_trimmed T) (hr.mono (by decide)) (by rfl) T.g_trimmed T.F_trimmed.kp T.b_trimmed .nil pass0 (pa_cons (pe_op op_cat (pe_op op_cat (pv 4) (pe_callTy call_list_of (by rfl) T.z_list (by decide +kernel) (pa_cons (pe_slice sl_tupA (pv 1) (po_some (pe_callB call_len_seq (by rfl) T.z_len (by decide +kernel) (pa_cons (pv 2) pa_nil))) po_none) pa_nil))) (pe_callTy call_list_of (by rfl) T.z_list (by decide +kernel) (pa_cons (pe_slice sl_tupA (pv 2) (po_some (pe_callB call_len_seq (by rfl) T.z_len (by decide +kernel) (pa_cons (pv 1) pa_nil))) po_none) pa_nil))) pa_nil)))))), ?_⟩
    have hq0 := hq.b
    obtain ⟨sa, htb, hrv⟩ := sums_tb hq T.w_SUMS
    refine q_asg (v := .ref sa) (ev_op ev_c (ev_var rfl) (hrv H)) fun H1 e1 => ?_
    have hx1 := ex_t e1 hx
    have hy1 := ex_t e1 hy
    refine q_asgL (xs := ((List.range (min xs.length ys.length)).map fun i => sE q (xs.getD i 0) (ys.getD i 0)).map N_) (el_is (el_lcZT (K := K) (a := a) (b := b) (xs := xs.map N_) (ys := ys.map N_) (fun _ => true) (fun i => N_ (sE q (xs.getD i 0) (ys.getD i 0))) (fun H2 e2 Q k => (ea_cons (ev_var rfl) (ea_cons (ev_var rfl) ea_nil)) H2 e2 _ fun H3 e3 => k b H3 e3 (ex_t (e2.trans e3) hy1)) hx1 (by rw [List.length_map]; omega) (fun _ _ => rfl) (fun _ _ _ _ _ _ _ => et_nil) (fun i x y H2 e2 h5 h6 _ => ?_)) ?_) fun l H2 nl e2 hl2 => ?_
    · have hi1 : i < xs.length := by
        have := (List.getElem?_eq_some_iff.mp h5).1
        rwa [List.length_map] at this
      have hi2 : i < ys.length := by
        have := (List.getElem?_eq_some_iff.mp h6).1
        rwa [List.length_map] at this
      rw [get_N hi1] at h5
      rw [get_N hi2] at h6
      cases h5
      cases h6
      exact ev_tb htb (ev_var rfl) (ev_var rfl) (ev_var rfl) (lx.get (by omega) i) (ly.get (by omega) i)
    · rw [given_range, List.length_map, List.length_map, List.map_map]
      rfl
    · have e12 := e1.trans e2
      refine s_retF (tf_is (tt_trimmed (K := K) (xs := ((List.range (min xs.length ys.length)).map fun i => sE q (xs.getD i 0) (ys.getD i 0)) ++ xs.drop ys.length ++ ys.drop xs.length) (el_is (el_catN9 (el_cat (ev_var rfl) hl2 (el_listTt (tt_sl (K := K) (ev_var rfl) (ex_t e12 hx) (eo_some (ev_is (ev_cb (r := rLenQ K) (ea_cons (ev_var rfl) ea_nil) (rc_lenT (ex_t e12 hy))) (by rw [List.length_map]))) eo_none)) ?_) (el_listTt (tt_sl (K := K) (ev_var rfl) (ex_t e12 hy) (eo_some (ev_is (ev_cb (r := rLenQ K) (ea_cons (ev_var rfl) ea_nil) (rc_lenT (ex_t e12 hx))) (by rw [List.length_map]))) eo_none)) ?_) ?_) ?_) ?_) (kk.go e12)
      · rw [cutDrop', List.length_drop, List.length_map, List.length_map, List.length_range]
        simp only [List.length_map]
        omega
      · simp only [cutDrop', List.length_append, List.length_drop, List.length_map, List.length_range]
        omega
      · rw [cutDrop', cutDrop', List.map_append, List.map_append, List.map_drop, List.map_drop]
      · simp only [List.length_append, List.length_drop, List.length_map, List.length_range]
        omega
      · rw [pl_rows hq lx ly]
        rfl


def sp_row_opposite (K : PySem.W.Frag) : Sp := fun vs H Q _ => ∃ (a : Addr) (q : Nat) (xs : List Nat), vs = [N_ q, .ref a] ∧ Fq q ∧ SqT K H a (xs.map N_) ∧ Lq q xs ∧ xs.length ≤ 4000 ∧ RetTt K ((xs.map (oE q)).map N_) H Q

theorem ok_row_opposite {P : Program} {w : World} {K : PySem.W.Frag} {mg : Str → Option Value} {base : Heap} (T : Txt K mg) : FnOk P w K mg base CX0 1 T.a_row_opposite T.d_row_opposite ["q", "a"] (sp_row_opposite K) := by
  refine T.F_row_opposite.ok sc_row_opposite (fun vs H Q E h => ?_) (fun cdv A outer s H vs Q E hr h => ?_)
  · obtain ⟨a, q, xs, rfl, _⟩ := h
    rfl
  · obtain ⟨a, q, xs, rfl, hq, hx, lx, hl, kk⟩ := h
    refine ⟨_, (pss_cons (ps_set (i := 2) sc_row_opposite.nd rfl (Or.inr rfl) (pe_ix (r := rIxW K) ix_tab (pe_glob (v := .ref T.a_OPPOSITES) (by rfl) T.g_OPPOSITES rfl) (pv 0) (fun _ _ => rfl)))
      (pss_one (ps_ret (pe_callTy call_tuple_of (by rfl) T.z_tuple (by decide +kernel) (pa_cons (pe_lc (own := [("x", 3)]) (g := gName 3) rfl sc_row_opposite.nd (pi_tup (pv 1)) (blkOk_by (N := ["q", "a", "opposites", "x"]) (sc := defScope s_row_opposite) (by decide +kernel)) (fun _ _ _ _ _ => pg_name (i := 3) sc_row_opposite.nd rfl (Or.inl rfl)) (fun _ _ _ _ _ => pts_nil) (fun _ _ _ _ _ => (pe_ix (r := rIxT K) ix_tup (pv 2) (pv 3) (fun _ _ => rfl)))) pa_nil))))), ?_⟩
    have hq0 := hq.b
    obtain ⟨oa, w, hsw, hw, hrv⟩ := opps_row hq T.w_OPPOSITES
    refine q_asg (v := .ref oa) (ev_op ev_c (ev_var rfl) (hrv H)) fun H1 e1 => ?_
    have hx1 := ex_t e1 hx
    refine s_retT (tt_is (tt_new (eu_tupleN (el_lcT (K := K) (a := a) (xs := xs.map N_) (fun _ => true) (fun i => N_ (oE q (xs.getD i 0))) (ev_var rfl) hx1 (by rw [List.length_map]; omega) (fun _ => rfl) (fun _ _ _ _ _ => et_nil) (fun i x H2 e2 h5 _ => ?_)))) ?_) (kk.go e1)
    · have hi1 : i < xs.length := by
        have := (List.getElem?_eq_some_iff.mp h5).1
        rwa [List.length_map] at this
      rw [get_N hi1] at h5
      cases h5
      exact ev_op (ev_var rfl) (ev_var rfl) (rv_ixT (hsw H2) (atI_nat (by rw [List.getElem?_map, hw _ (lx.get (by omega) i)]; rfl)))
    · rw [given_range, List.length_map]
      refine List.ext_getElem? fun i => ?_
      rw [List.getElem?_map, List.getElem?_map, List.getElem?_map]
      by_cases hi : i < xs.length
      · rw [List.getElem?_range hi, getD_get hi]
        rfl
      · rw [List.getElem?_eq_none (by rw [List.length_range]; omega), List.getElem?_eq_none (by omega)]
        rfl


theorem opp_lq {q : Nat} (hq : Fq q) {xs : List Nat} (h : Lq q xs) : Lq q (xs.map (oE q)) := fun z hz => by
  obtain ⟨x, hx, rfl⟩ := List.mem_map.mp hz
  exact oE_lt hq (h x hx)
def leN (q : Nat) (xs ys : List Nat) : List Nat := plN q xs (ys.map (oE q))
def sp_row_less (K : PySem.W.Frag) : Sp := fun vs H Q _ => ∃ (a b : Addr) (q : Nat) (xs ys : List Nat), vs = [N_ q, .ref a, .ref b] ∧ Fq q ∧ SqT K H a (xs.map N_) ∧ SqT K H b (ys.map N_) ∧ Lq q xs ∧ Lq q ys ∧ xs.length ≤ 4000 ∧ ys.length ≤ 4000 ∧ RetTf ((leN q xs ys).map N_) H Q

theorem ok_row_less {P : Program} {w : World} {K : PySem.W.Frag} {mg : Str → Option Value} {base : Heap} (T : Txt K mg) : FnOk P w K mg base CX0 3 T.a_row_less T.d_row_less ["q", "a", "b"] (sp_row_less K) := by
  refine T.F_row_less.ok sc_row_less (fun vs H Q E h => ?_) (fun cdv A outer s H vs Q E hr h => ?_)
  · obtain ⟨a, b, q, xs, ys, rfl, _⟩ := h
    rfl
  · obtain ⟨a, b, q, xs, ys, rfl, hq, hx, hy, lx, ly, hl, hm, kk⟩ := h
    refine ⟨_, (pss_one (ps_ret (pe_call (ok_row_sum T) (hr.mono (by decide)) (by rfl) T.g_row_sum T.F_row_sum.kp T.b_row_sum .nil pass0 (pa_cons (pv 0) (pa_cons (pv 1) (pa_cons (pe_call (ok_row_opposite T) (hr.mono (by decide)) (by rfl) T.g_row_opposite T.F_row_opposite.kp T.b_row_opposite .nil pass0 (pa_cons (pv 0) (pa_cons (pv 2) pa_nil))) pa_nil)))))), ?_⟩
    exact s_retF (tf_call2T (K := K) (x := N_ q) (y := .ref a) (zs := (ys.map (oE q)).map N_) (ev_var rfl) (ev_var rfl) (tt_call (ea_cons (ev_var rfl) (ea_cons (ev_var rfl) ea_nil)) fun H1 e1 Q q1 E => ⟨b, q, ys, rfl, hq, ex_t e1 hy, ly, hm, q1⟩) fun p H1 e1 s1 Q q1 E => ⟨a, p, q, xs, ys.map (oE q), rfl, hq, ex_t e1 hx, s1, lx, opp_lq hq ly, hl, by rw [List.length_map]; exact hm, q1⟩) kk


theorem chk_pds : chkAll (fun q => all1 q fun a => all1 q fun b => decide (tabE W_PRODUCTS q a b = some ((epF (prE q) (poE q) a b : Nat) : Int))) = true := by decide +kernel
theorem pds_tb {K : PySem.W.Frag} {d : Addr} {q : Nat} (hq : Fq q) (h : tab2 K d = some W_PRODUCTS) : ∃ a, TbR K a (pE q) q ∧ ∀ H, RV (rIxW K) (.ref d) (N_ q) H (.ref a) :=
  tb_of h (by have := hq.b; omega) fun a b ha hb => by rw [pE_F hq ha hb]; exact of_decide_eq_true (all1_get (all1_get (chk_get chk_pds hq) ha) hb)
theorem chk_pc : chkAll (fun q => all1 q fun a => all1 q fun b => decide (epF (prE q) (poE q) a b = epF (prE q) (poE q) b a)) = true := by decide +kernel
theorem pE_comm {q a b : Nat} (hq : Fq q) (ha : a < q) (hb : b < q) : pE q a b = pE q b a := by
  rw [pE_F hq ha hb, pE_F hq hb ha]
  exact of_decide_eq_true (all1_get (all1_get (chk_get chk_pc hq) ha) hb)
/-- the number of terms -/
def nzN (xs : List Nat) : Nat := xs.length - (xs.map Int.ofNat).count 0
def sp_many_terms (K : PySem.W.Frag) : Sp := fun vs H Q _ => ∃ (a : Addr) (xs : List Nat), vs = [.ref a] ∧ TfAt H a (xs.map N_) ∧ RetV (N_ (nzN xs)) H Q
theorem sv_many_terms {K : PySem.W.Frag} {H : Hp} {a : Addr} {xs : List Nat} (h : TfAt H a (xs.map N_)) : SpV (sp_many_terms K) [.ref a] H (N_ (nzN xs)) := fun H1 e Q k E => ⟨a, xs, rfl, h.ex e, k⟩

theorem ok_many_terms {P : Program} {w : World} {K : PySem.W.Frag} {mg : Str → Option Value} {base : Heap} (T : Txt K mg) : FnOk P w K mg base CX0 1 T.a_many_terms T.d_many_terms ["a"] (sp_many_terms K) := by
  refine T.F_many_terms.ok sc_many_terms (fun vs H Q E h => ?_) (fun cdv A outer s H vs Q E hr h => ?_)
  · obtain ⟨a, xs, rfl, _⟩ := h
    rfl
  · obtain ⟨a, xs, rfl, hx, kk⟩ := h
    refine ⟨_, (pss_one (ps_ret (pe_op op_sub (pe_callB call_len_seq (by rfl) T.z_len (by decide +kernel) (pa_cons (pv 0) pa_nil)) (pe_bmF PySem.F.plainAttrs_tuple PySem.F.slot_tuple_count PySem.F.type_tuple_count mt_tcountF (pv 0) (pa_cons pe_int pa_nil))))), ?_⟩
    have hc : (xs.map Int.ofNat).count 0 ≤ xs.length := by
      have := List.count_le_length (a := (0 : Int)) (l := xs.map Int.ofNat)
      rwa [List.length_map] at this
    exact s_ret (ev_is (ev_op (ev_is (ev_cb (r := rLenQ K) (ea_cons (ev_var rfl) ea_nil) (rc_lenT hx.sq)) (by rw [List.length_map])) (ev_tcount (ns := xs.map Int.ofNat) (k := 0) (ev_var rfl) (by rw [← mapN]; exact hx) ev_c) rv_I0) (congrArg V.int (by unfold nzN; omega))) fun H1 e1 => kk H1 e1


/-- one term's row onto what begins at its place, in one cut -/
theorem adA_cut {q c : Nat} (hq : Fq q) {b made : List Nat} {j : Nat} (lb : Lq q b) (hc : c < q) (hl : j + b.length ≤ made.length) : made.take j ++ ((List.range b.length).map fun i => sE q (made.getD (j + i) 0) (pE q c (b.getD i 0))) ++ made.drop (j + b.length) = adA q c b j made := by
  have h0 : 0 < q := by have := hq.b; omega
  have hlen : (made.take j ++ ((List.range b.length).map fun i => sE q (made.getD (j + i) 0) (pE q c (b.getD i 0))) ++ made.drop (j + b.length)).length = made.length := by
    simp only [List.length_append, List.length_take, List.length_map, List.length_range, List.length_drop]
    omega
  refine ext_getD (by rw [hlen, adA_len]) fun t ht => ?_
  rw [hlen] at ht
  rw [adA_get b j made t (by omega), List.append_assoc, List.getD_eq_getElem?_getD]
  by_cases h1 : t < j
  · rw [if_pos h1, List.getElem?_append_left (by rw [List.length_take]; omega), List.getElem?_take_of_lt h1, ← List.getD_eq_getElem?_getD]
  · rw [if_neg h1, List.getElem?_append_right (by rw [List.length_take]; omega), List.length_take, Nat.min_eq_left (by omega)]
    by_cases h2 : t - j < b.length
    · rw [if_pos h2, List.getElem?_append_left (by rw [List.length_map, List.length_range]; exact h2), List.getElem?_map, List.getElem?_range h2, pE_comm hq (lb.get h0 _) hc]
      show sE q (made.getD (j + (t - j)) 0) _ = _
      rw [show j + (t - j) = t by omega]
    · rw [if_neg h2, List.getElem?_append_right (by rw [List.length_map, List.length_range]; omega), List.length_map, List.length_range, List.getElem?_drop, ← List.getD_eq_getElem?_getD, show j + b.length + (t - j - b.length) = t by omega]
def sp_product_by_terms (K : PySem.W.Frag) : Sp := fun vs H Q _ => ∃ (a b : Addr) (q : Nat) (xs ys : List Nat), vs = [N_ q, .ref a, .ref b] ∧ Fq q ∧ SqT K H a (xs.map N_) ∧ SqT K H b (ys.map N_) ∧ Lq q xs ∧ Lq q ys ∧ xs ≠ [] ∧ ys ≠ [] ∧ xs.length ≤ 3000 ∧ ys.length ≤ 3000 ∧ RetTf ((muN q ys xs).map N_) H Q

section
variable {K : PySem.W.Frag} {σ : L2.St} {H H' : Hp} {ta tb te : TE} {t : TT}
/-- [.. for x, y in zip(new list, tuple)] -/
theorem el_lcZMN {b : Addr} {xs ys : List V} {i1 i2 : Nat} {vs : List Nat} (v : Nat → V) (h : EvL ta σ H xs) (h2 : ∀ H1, Ex H H1 → Ev tb σ H1 (.ref b)) (hy : SqT K H b ys) (hz : xs.length ≤ 40000) (hw : ∀ x y, wipe (((wipe σ vs).set i1 (some x)).set i2 (some y)) vs = wipe σ vs)
    (he : ∀ (i : Nat) (x y : V) H1, Ex H H1 → xs[i]? = some x → ys[i]? = some y → Ev te (((wipe σ vs).set i1 (some x)).set i2 (some y)) H1 (v i)) :
    EvL (tLc (iZipM K (tCons ta (tCons tb tNil))) (gTup K 2 (gCons (gName i1) (gCons (gName i2) gNil))) tYes te vs) σ H (given (min xs.length ys.length) (fun _ => true) v) := fun H0 e Q q => h H0 e _ fun a H1 na e1 ha => (h2 H1 (e.trans e1)) H1 (Ex.refl _) _ fun H2 e2 => ⟨a, b, xs, ys, rfl, sq_of (e2 _ _ ha), ex_t ((e.trans e1).trans e2) hy, fun Dl hD =>
  lc_it (walk_zm (xs := xs) (ys := ys) rfl) (Cw H2 (fun _ => true) v Dl) ⟨hD, Ex.new hD, upd_same⟩ (fun i H' _ p => ⟨sq_of ((e2.trans p.2.1) _ _ ha), ex_t (((e.trans e1).trans e2).trans p.2.1) hy⟩) (fun i x H' H'' hi p y => by
    obtain ⟨T, u, u', rfl, nT, rfl, g1, g2⟩ := y
    obtain ⟨p1, p2, p3⟩ := p
    have p' : Cw H2 (fun _ => true) v Dl i (upd H' T (.tup [u, u'])) := ⟨p1, p2.trans (Ex.new nT), (Ex.new nT) _ _ p3⟩
    exact ⟨T, [u, u'], rfl, st_of upd_same, rfl, u, [u'], rfl, u', [], rfl, rfl, hw _ _, cw_turn p' (by omega) et_nil (fun _ => he i u u' H2 ((e.trans e1).trans e2) g1 g2)⟩)
    (fun H' p => q Dl H' (fresh_back (e1.trans e2) p.1) ((e1.trans e2).trans p.2.1) p.2.2)⟩
theorem ev_tbR {a : Addr} {f : Nat → Nat → Nat} {q x : Nat} {tl : TE} (h : TbR K a f q) (hx : x < q) : ∃ (r : Addr) (row : List Int), (∀ H, SqT K H r (row.map V.int)) ∧ (∀ y, y < q → row[y]? = some ((f x y : Nat) : Int)) ∧ ∀ (σ : L2.St) (H : Hp) (ta : TE), Ev tl σ H (.ref a) → Ev ta σ H (N_ x) → Ev (tOp (rIxT K) tl ta) σ H (.ref r) := by
  obtain ⟨rs, h1, h2, h3⟩ := h
  have hr : rs[x]? = some rs[x] := List.getElem?_eq_getElem (by omega)
  obtain ⟨row, hs, hv⟩ := h3 x _ hx hr
  exact ⟨rs[x], row, hs, hv, fun σ H ta a1 a2 => ev_op a1 a2 (rv_ixT (v := .ref rs[x]) (h2 H) (atI_nat (by rw [List.getElem?_map, hr]; rfl)))⟩
theorem cutMid (xs : List V) {a b : Nat} (h : a ≤ b) (hb : b ≤ xs.length) : cutV xs (some (a : Int)) (some (b : Int)) = (xs.drop a).take (b - a) := by
  unfold cutV
  rw [HT.sIx_nat, HT.sIx_nat, Nat.min_eq_left hb, Nat.min_eq_left (show a ≤ xs.length by omega)]
end

theorem ok_product_by_terms {P : Program} {w : World} {K : PySem.W.Frag} {mg : Str → Option Value} {base : Heap} (T : Txt K mg) : FnOk P w K mg base CX0 1 T.a_product_by_terms T.d_product_by_terms ["q", "a", "b"] (sp_product_by_terms K) := by
  refine T.F_product_by_terms.ok sc_product_by_terms (fun vs H Q E h => ?_) (fun cdv A outer s H vs Q E hr h => ?_)
  · obtain ⟨a, b, q, xs, ys, rfl, _⟩ := h
    rfl
  · obtain ⟨a, b, q, xs, ys, rfl, hq, hx, hy, lx, ly, hx0, hy0, hlx, hly, kk⟩ := h
    refine ⟨_, (pss_cons (ps_set (i := 3) sc_product_by_terms.nd rfl (Or.inr rfl) (pe_ix (r := rIxW K) ix_tab (pe_glob (v := .ref T.a_SUMS) (by rfl) T.g_SUMS rfl) (pv 0) (fun _ _ => rfl)))
      (pss_cons (ps_set (i := 4) sc_product_by_terms.nd rfl (Or.inl rfl) (pe_op op_rep (pe_lst (pa_cons pe_int pa_nil)) (pe_op op_sub (pe_op op_add (pe_callB call_len_seq (by rfl) T.z_len (by decide +kernel) (pa_cons (pv 1) pa_nil)) (pe_callB call_len_seq (by rfl) T.z_len (by decide +kernel) (pa_cons (pv 2) pa_nil))) pe_int)))
      (pss_cons (ps_for PassesOwn.never rfl (pi_enumT (K := K) (by rfl) (by rfl) T.z_enumerate (pa_cons (pv 1) pa_nil)) (pg_tup (by rfl) (pgs_cons (pg_name (i := 5) sc_product_by_terms.nd rfl (Or.inl rfl)) (pgs_cons (pg_name (i := 6) sc_product_by_terms.nd rfl (Or.inl rfl)) pgs_nil))) (pss_one (ps_if (pt_cmpR op_ne (pv 6) pe_int (nomark _)) (pss_cons (ps_set (i := 7) sc_product_by_terms.nd rfl (Or.inr rfl) (pe_ix (r := rIxT K) ix_tup (pe_ix (r := rIxW K) ix_tab (pe_glob (v := .ref T.a_PRODUCTS) (by rfl) T.g_PRODUCTS rfl) (pv 0) (fun _ _ => rfl)) (pv 6) (fun _ _ => rfl)))
      (pss_cons (ps_set (i := 8) sc_product_by_terms.nd rfl (Or.inl rfl) (pe_op op_add (pv 5) (pe_callB call_len_seq (by rfl) T.z_len (by decide +kernel) (pa_cons (pv 2) pa_nil))))
      (pss_one (ps_set (i := 4) sc_product_by_terms.nd rfl (Or.inl rfl) (pe_op op_cat (pe_op op_cat (pe_slice sl_list (pv 4) po_none (po_some (pv 5))) (pe_lc (own := [("x", 9), ("y", 10)]) (g := (gTup K 2 (gCons (gName 9) (gCons (gName 10) gNil)))) rfl sc_product_by_terms.nd (pi_zipMK (K := K) (by rfl) (by rfl) T.z_zip (pa_cons (pe_slice sl_list (pv 4) (po_some (pv 5)) (po_some (pv 8))) (pa_cons (pv 2) pa_nil))) (blkOk_by (N := ["q", "a", "b", "sums", "made", "at", "element", "products", "end", "x", "y"]) (sc := defScope s_product_by_terms) (by decide +kernel)) (fun _ _ _ _ _ => (pg_tup (by rfl) (pgs_cons (pg_name (i := 9) sc_product_by_terms.nd rfl (Or.inl rfl)) (pgs_cons (pg_name (i := 10) sc_product_by_terms.nd rfl (Or.inl rfl)) pgs_nil)))) (fun _ _ _ _ _ => pts_nil) (fun _ _ _ _ _ => (pe_ix (r := rIxT K) ix_tup (pe_ix (r := rIxT K) ix_tup (pv 3) (pv 9) (fun _ _ => rfl)) (pe_ix (r := rIxT K) ix_tup (pv 7) (pv 10) (fun _ _ => rfl)) (fun _ _ => rfl))))) (pe_slice sl_list (pv 4) (po_some (pv 8)) po_none)))))) pss_nil)))
      (pss_one (ps_ret (pe_callTy (call_tuple_ofFK (K := K) (by rfl)) (by rfl) T.z_tuple (by decide +kernel) (pa_cons (pv 4) pa_nil))))))), ?_⟩
    have hq0 := hq.b
    have hxp : 0 < xs.length := List.length_pos_iff.mpr hx0
    have hyp : 0 < ys.length := List.length_pos_iff.mpr hy0
    obtain ⟨sa, htb, hrv⟩ := sums_tb hq T.w_SUMS
    obtain ⟨pa, hpb, hprv⟩ := pds_tb hq T.w_PRODUCTS
    have hmu : muN q ys xs = muS q ys xs xs.length := by unfold muN; rw [if_neg (fun z => z.elim hy0 hx0)]
    refine q_asg (v := .ref sa) (ev_op ev_c (ev_var rfl) (hrv H)) fun H1 e1 => ?_
    have hx1 := ex_t e1 hx
    have hy1 := ex_t e1 hy
    refine q_asgL (xs := (muS q ys xs 0).map N_) (el_is (el_rep (xs := [V.int 0]) (k := ((ys.length + xs.length - 1 : Nat) : Int)) (el_lst (ea_cons ev_c ea_nil) (by show 1 ≤ 100000; decide)) (ev_is (ev_op (ev_op (ev_is (ev_cb (r := rLenQ K) (ea_cons (ev_var rfl) ea_nil) (rc_lenT hx1)) (by rw [List.length_map])) (ev_is (ev_cb (r := rLenQ K) (ea_cons (ev_var rfl) ea_nil) (rc_lenT hy1)) (by rw [List.length_map])) rv_I0) ev_c rv_I0) (congrArg V.int (by omega))) (by omega) (by show 1 * _ ≤ 100000; omega) (by omega)) (by rw [Int.toNat_natCast, rep_flat]; unfold muS; rfl)) fun l0 H2 nl0 e2 h2 => ?_
    have e12 := e1.trans e2
    refine q_forET (K := K) (a := a) (xs := xs.map N_) (ea_cons (ev_var rfl) ea_nil) (ex_t e12 hx) (fun j σ H' => ∃ (l : Addr) (y5 y6 y7 y8 : Option V), σ = [some (N_ q), some (.ref a), some (.ref b), some (.ref sa), some (.ref l), y5, y6, y7, y8, none, none] ∧ Ex H H' ∧ H' l = some (.lst ((muS q ys xs j).map N_))) (fun H3 e3 => ⟨l0, none, none, none, none, rfl, e12.trans e3, e3 _ _ h2⟩) (fun j σ H3 _ hw => ?_) (fun j x σ H3 H4 hj hw e4 => ?_) (fun σ H3 hw => ?_)
    · obtain ⟨l, y5, y6, y7, y8, rfl, e3, h3⟩ := hw
      exact ex_t e3 hx
    · obtain ⟨l, y5, y6, y7, y8, rfl, e3, h3⟩ := hw
      have hjl : j < xs.length := by
        have := (List.getElem?_eq_some_iff.mp hj).1
        rwa [List.length_map] at this
      rw [get_N hjl] at hj
      cases hj
      have e34 := e3.trans e4
      have h4 := e4 _ _ h3
      have hc := lx.get (by omega) j
      have hlen := muS_len q ys xs j
      have hlq := muS_lq hq ly lx j
      refine s_when (b := !decide (xs.getD j 0 = 0)) (et_is (et_test (ev_op (ev_var rfl) ev_c (rv_ne rfl))) (congrArg (fun b => !b) (dec_int (y := 0)))) (fun hb2 H5 e5 => ?_) (fun hb2 H5 e5 => ?_)
      · have hc0 : xs.getD j 0 ≠ 0 := by
          rw [Bool.not_eq_true', decide_eq_false_iff_not] at hb2
          exact hb2
        have hstep : muS q ys xs (j + 1) = adA q (xs.getD j 0) ys j (muS q ys xs j) := by
          show (if xs.getD j 0 = 0 then _ else _) = _
          rw [if_neg hc0]
        obtain ⟨r, row, hrow, hget, hevr⟩ := ev_tbR (tl := tOp (rIxW K) (tC (.ref T.a_PRODUCTS)) (tVar 0)) hpb hc
        have e05 := e34.trans e5
        refine q_asg (v := .ref r) (hevr _ _ _ (ev_op ev_c (ev_var rfl) (hprv _)) (ev_var rfl)) fun H6 e6 => ?_
        refine q_asg (v := N_ (j + ys.length)) (ev_is (ev_op (ev_var rfl) (ev_is (ev_cb (r := rLenQ K) (ea_cons (ev_var rfl) ea_nil) (rc_lenT (ex_t (e05.trans e6) hy))) (by rw [List.length_map])) rv_I0) (congrArg V.int (by omega))) fun H7 e7 => ?_
        have e57 := (e5.trans e6).trans e7
        have e07 := e34.trans e57
        have h7 := e57 _ _ h4
        have hjy : j + ys.length ≤ (muS q ys xs j).length := by omega
        generalize hM : muS q ys xs j = M at *
        refine s_asgL (xs := (muS q ys xs (j + 1)).map N_) (el_is (el_catN9 (xs := (M.take j).map N_ ++ ((List.range ys.length).map fun i => sE q (M.getD (j + i) 0) (pE q (xs.getD j 0) (ys.getD i 0))).map N_) (ys := (M.drop (j + ys.length)).map N_) (el_catN9 (xs := (M.take j).map N_) (ys := ((List.range ys.length).map fun i => sE q (M.getD (j + i) 0) (pE q (xs.getD j 0) (ys.getD i 0))).map N_) (el_is (el_sl (K := K) (ev_var rfl) eo_none (eo_some (ev_var rfl)) (sq_of h7)) (by rw [cutTake, List.map_take])) (el_is (el_lcZMN (K := K) (b := b) (xs := ((M.map N_).drop j).take ys.length) (ys := ys.map N_) (fun i => N_ (sE q (M.getD (j + i) 0) (pE q (xs.getD j 0) (ys.getD i 0)))) (el_is (el_sl (K := K) (ev_var rfl) (eo_some (ev_var rfl)) (eo_some (ev_var rfl)) (sq_of h7)) ?_) (fun _ _ => ev_var rfl) (ex_t e07 hy) ?_ (fun _ _ => rfl) (fun i u w H8 e8 hu hw2 => ?_)) ?_) ?_) (el_is (el_sl (K := K) (ev_var rfl) (eo_some (ev_var rfl)) eo_none (sq_of h7)) (by rw [cutDrop', List.map_drop])) ?_) ?_) fun l2 H8 nl2 e8 h8 => ⟨l2, _, _, _, _, rfl, e07.trans e8, h8⟩
        · rw [cutMid _ (Nat.le_add_right j ys.length) (by rw [List.length_map]; exact hjy), Nat.add_sub_cancel_left]
        · rw [List.length_take, List.length_drop, List.length_map]; omega
        · have hil : i < ys.length := by
            have := (List.getElem?_eq_some_iff.mp hw2).1
            rwa [List.length_map] at this
          rw [get_N hil] at hw2
          cases hw2
          rw [List.getElem?_take_of_lt hil, List.getElem?_drop, get_N (by omega)] at hu
          cases hu
          exact ev_tb htb (ev_var rfl) (ev_var rfl) (ev_op (ev_var rfl) (ev_var rfl) (rv_ixT (hrow _) (atI_nat (by rw [List.getElem?_map, hget _ (ly.get (by omega) i)]; rfl)))) (hlq.get (by omega) _) (pE_lt hq hc (ly.get (by omega) i))
        · rw [given_range, List.length_take, List.length_drop, List.length_map, List.length_map, show min (min ys.length (M.length - j)) ys.length = ys.length by omega, List.map_map]
          rfl
        · simp only [List.length_map, List.length_take, List.length_range]; omega
        · simp only [List.length_append, List.length_map, List.length_take, List.length_range, List.length_drop]; omega
        · rw [hstep, ← adA_cut hq ly hc hjy, List.map_append, List.map_append]
      · have hc0 : xs.getD j 0 = 0 := by
          rw [Bool.not_eq_false', decide_eq_true_eq] at hb2
          exact hb2
        have hstep : muS q ys xs (j + 1) = muS q ys xs j := by
          show (if xs.getD j 0 = 0 then _ else _) = _
          rw [if_pos hc0]
        exact ⟨l, _, _, _, _, rfl, e34.trans e5, by rw [hstep]; exact e5 _ _ h4⟩
    · obtain ⟨l, y5, y6, y7, y8, rfl, e3, h3⟩ := hw
      rw [List.length_map, ← hmu] at h3
      exact s_retF (tf_tupleL (K := K) (ev_var rfl) (sq_of h3)) (kk.go e3)


section
variable {K : PySem.W.Frag} {σ : L2.St} {H H' : Hp} {tn : TE}
theorem op_repUK' {X : Cx} {K : PySem.W.Frag} (hK : X.K = K) : OpR X (binaryOp .Mult) (rRepU K) := hK ▸ op_repU
/-- (0,) * n -/
theorem tt_rep {n : Nat} (h1 : Ev tn σ H (N_ n)) (hn : n ≤ 1000) : EvTt K (tOp (rRepU K) (tTup (tCons (tC (.int 0)) tNil)) tn) σ H ((List.replicate n 0).map N_) := fun H1 e Q q =>
  ⟨by show 1 ≤ sizeLine; decide, fun t1 n1 => h1 _ (e.trans (Ex.new n1)) _ fun H3 e3 => ⟨t1, n, [V.int 0], rfl, rfl, st_of (e3 _ _ upd_same), by simp, by omega, by omega, by show 1 ≤ 1000; decide, fun z H4 e4 hz => q z H4 (((Ex.new n1).trans e3).trans e4) (by
    rw [Int.toNat_natCast, rep_flat] at hz
    exact hz)⟩⟩
end

def rwP (q : Nat) (xs ys : List Nat) : List Nat := if nzN xs ≤ 8 then muN q ys xs else muN q xs ys
def sp_row_product (K : PySem.W.Frag) : Sp := fun vs H Q _ => ∃ (a b : Addr) (q : Nat) (xs ys : List Nat), vs = [N_ q, .ref a, .ref b] ∧ Fq q ∧ TfAt H a (xs.map N_) ∧ TfAt H b (ys.map N_) ∧ Lq q xs ∧ Lq q ys ∧ xs ≠ [] ∧ ys ≠ [] ∧ xs.length ≤ 3000 ∧ ys.length ≤ 3000 ∧ nzN ys ≤ 8 ∧ RetTf ((rwP q xs ys).map N_) H Q

def sp_packed_product (K : PySem.W.Frag) : Sp := fun _ _ _ _ => False
theorem ok_packed_product {P : Program} {w : World} {K : PySem.W.Frag} {mg : Str → Option Value} {base : Heap} (T : Txt K mg) : FnOk P w K mg base CX0 5 T.a_packed_product T.d_packed_product ["q", "a", "b"] (sp_packed_product K) :=
  T.F_packed_product.ok sc_packed_product (fun vs H Q E h => h.elim) (fun cdv A outer s H vs Q E hr h => h.elim)

theorem ok_row_product {P : Program} {w : World} {K : PySem.W.Frag} {mg : Str → Option Value} {base : Heap} (T : Txt K mg) : FnOk P w K mg base CX0 6 T.a_row_product T.d_row_product ["q", "a", "b"] (sp_row_product K) := by
  refine T.F_row_product.ok sc_row_product (fun vs H Q E h => ?_) (fun cdv A outer s H vs Q E hr h => ?_)
  · obtain ⟨a, b, q, xs, ys, rfl, _⟩ := h
    rfl
  · obtain ⟨a, b, q, xs, ys, rfl, hq, hx, hy, lx, ly, hx0, hy0, hlx, hly, hnz, kk⟩ := h
    refine ⟨_, (pss_cons (ps_if (PW.pt (pw_or (pt_cmpR op_eq (pe_callB call_len_seq (by rfl) T.z_len (by decide +kernel) (pa_cons (pv 1) pa_nil)) pe_int (nomark _)) (pw_or1 (pt_cmpR op_eq (pe_callB call_len_seq (by rfl) T.z_len (by decide +kernel) (pa_cons (pv 2) pa_nil)) pe_int (nomark _))))) (pss_one (ps_ret (pe_tup pa_nil))) pss_nil)
      (pss_cons (ps_if (pt_cmpR op_le (pe_call (ok_many_terms T) (hr.mono (by decide)) (by rfl) T.g_many_terms T.F_many_terms.kp T.b_many_terms .nil pass0 (pa_cons (pv 1) pa_nil)) (pe_glob (v := .int 8) (by rfl) T.c_FEW ⟨_, rfl⟩) (nomark _)) (pss_one (ps_ret (pe_call (ok_product_by_terms T) (hr.mono (by decide)) (by rfl) T.g_product_by_terms T.F_product_by_terms.kp T.b_product_by_terms .nil pass0 (pa_cons (pv 0) (pa_cons (pv 1) (pa_cons (pv 2) pa_nil)))))) pss_nil)
      (pss_cons (ps_if (pt_cmpR op_le (pe_call (ok_many_terms T) (hr.mono (by decide)) (by rfl) T.g_many_terms T.F_many_terms.kp T.b_many_terms .nil pass0 (pa_cons (pv 2) pa_nil)) (pe_glob (v := .int 8) (by rfl) T.c_FEW ⟨_, rfl⟩) (nomark _)) (pss_one (ps_ret (pe_call (ok_product_by_terms T) (hr.mono (by decide)) (by rfl) T.g_product_by_terms T.F_product_by_terms.kp T.b_product_by_terms .nil pass0 (pa_cons (pv 0) (pa_cons (pv 2) (pa_cons (pv 1) pa_nil)))))) pss_nil)
      (pss_one (ps_ret (pe_callTy call_tuple_of (by rfl) T.z_tuple (by decide +kernel) (pa_cons (pe_call (ok_packed_product T) (hr.mono (by decide)) (by rfl) T.g_packed_product T.F_packed_product.kp T.b_packed_product .nil pass0 (pa_cons (pv 0) (pa_cons (pv 1) (pa_cons (pv 2) pa_nil)))) pa_nil))))))), ?_⟩
    have hxp : 0 < xs.length := List.length_pos_iff.mpr hx0
    have hyp : 0 < ys.length := List.length_pos_iff.mpr hy0
    refine q_when (b := false) (et_is (et_or (a := false) (b := false) (et_is (et_test (ev_op (ev_is (ev_cb (r := rLenQ K) (ea_cons (ev_var rfl) ea_nil) (rc_lenT hx.sq)) (by rw [List.length_map])) ev_c (rv_eq rfl))) ((dec_int (y := 0)).trans (decide_eq_false (by omega)))) (fun _ => et_is (et_test (ev_op (ev_is (ev_cb (r := rLenQ K) (ea_cons (ev_var rfl) ea_nil) (rc_lenT hy.sq)) (by rw [List.length_map])) ev_c (rv_eq rfl))) ((dec_int (y := 0)).trans (decide_eq_false (by omega))))) rfl) (fun h => nomatch h) (fun _ H1 e1 => ?_)
    refine q_when (b := decide (nzN xs ≤ 8)) (et_is (et_test (ev_op (ev_call (ea_cons (ev_var rfl) ea_nil) (sv_many_terms (K := K) (hx.ex e1))) ev_c rv_I0)) (decide_eq_decide.mpr (by omega))) (fun hb H2 e2 => ?_) (fun hb H2 e2 => ?_)
    · have e12 := e1.trans e2
      exact s_retF (tf_call (ea_cons (ev_var rfl) (ea_cons (ev_var rfl) (ea_cons (ev_var rfl) ea_nil))) fun H3 e3 Q q3 E => ⟨a, b, q, xs, ys, rfl, hq, (hx.ex (e12.trans e3)).sq, (hy.ex (e12.trans e3)).sq, lx, ly, hx0, hy0, hlx, hly, by unfold rwP at kk; rw [if_pos (of_decide_eq_true hb)] at kk; exact q3⟩) (by unfold rwP at kk; rw [if_pos (of_decide_eq_true hb)] at kk; exact kk.go e12)
    · refine q_when (b := true) (et_is (et_test (ev_op (ev_call (ea_cons (ev_var rfl) ea_nil) (sv_many_terms (K := K) (hy.ex (e1.trans e2)))) ev_c rv_I0)) (decide_eq_true (show ((nzN ys : Nat) : Int) ≤ 8 by omega))) (fun _ H3 e3 => ?_) (fun h => nomatch h)
      have e13 := (e1.trans e2).trans e3
      exact s_retF (tf_call (ea_cons (ev_var rfl) (ea_cons (ev_var rfl) (ea_cons (ev_var rfl) ea_nil))) fun H4 e4 Q q4 E => ⟨b, a, q, ys, xs, rfl, hq, (hy.ex (e13.trans e4)).sq, (hx.ex (e13.trans e4)).sq, ly, lx, hy0, hx0, hly, hlx, q4⟩) (by unfold rwP at kk; rw [if_neg (of_decide_eq_false hb)] at kk; exact kk.go e13)


def sp_whole_power (K : PySem.W.Frag) : Sp := fun vs H Q _ => ∃ (b e : Nat), vs = [N_ b, N_ e] ∧ b ≤ 9 ∧ e ≤ 10 ∧ RetV (N_ (b ^ e)) H Q
theorem sv_whole_power {K : PySem.W.Frag} {H : Hp} {b e : Nat} (hb : b ≤ 9) (he : e ≤ 10) : SpV (sp_whole_power K) [N_ b, N_ e] H (N_ (b ^ e)) := fun H1 _ Q q E => ⟨b, e, rfl, hb, he, q⟩
theorem pow7 {b e : Nat} (hb : b ≤ 7) (he : e ≤ 10) : b ^ e < 2 ^ 30 := Nat.lt_of_le_of_lt (Nat.pow_le_pow_left hb e) (Nat.lt_of_le_of_lt (Nat.pow_le_pow_right (by decide) he) (by decide))
theorem pow9 {b e : Nat} (hb : b ≤ 9) (he : e ≤ 10) : b ^ e < 2 ^ 40 := Nat.lt_of_le_of_lt (Nat.pow_le_pow_left hb e) (Nat.lt_of_le_of_lt (Nat.pow_le_pow_right (by decide) he) (by decide))

theorem ok_whole_power {P : Program} {w : World} {K : PySem.W.Frag} {mg : Str → Option Value} {base : Heap} (T : Txt K mg) : FnOk P w K mg base CX0 1 T.a_whole_power T.d_whole_power ["base", "exponent"] (sp_whole_power K) := by
  refine T.F_whole_power.ok sc_whole_power (fun vs H Q E h => ?_) (fun cdv A outer s H vs Q E hr h => ?_)
  · obtain ⟨b, e, rfl, _⟩ := h
    rfl
  · obtain ⟨b, e, rfl, hb, he, kk⟩ := h
    refine ⟨_, (pss_cons (ps_set (i := 2) sc_whole_power.nd rfl (Or.inl rfl) pe_int)
      (pss_cons (ps_for PassesOwn.never rfl (pi_range1 rfl T.z_range (pa_cons (pv 1) pa_nil)) (pg_name (i := 3) sc_whole_power.nd rfl (Or.inl rfl)) (pss_one (ps_set (i := 2) sc_whole_power.nd rfl (Or.inl rfl) (pe_op op_mulW (pv 2) (pv 0)))))
      (pss_one (ps_ret (pv 2))))), ?_⟩
    refine q_asg (v := N_ (b ^ 0)) ev_c fun H1 e1 => ?_
    refine q_forR1 (n := (e : Int)) (ea_cons (ev_var rfl) ea_nil) ⟨by omega, by omega⟩ (fun i σ H' => ∃ y3, σ = [some (N_ b), some (N_ e), some (N_ (b ^ i)), y3] ∧ Ex H H') (fun H2 e2 => ⟨none, rfl, e1.trans e2⟩) (fun i σ H2 hi hw => ?_) (fun σ H2 hw => ?_)
    · obtain ⟨y3, rfl, e2⟩ := hw
      exact s_asg (v := N_ (b ^ (i + 1))) (ev_is (ev_op (ev_var rfl) (ev_var rfl) (rv_I (wide_mul (a := 40) (b := 10) (pow9 hb (by omega)) (by show b < 1024; omega) (by decide) (by decide) (by decide)))) (congrArg V.int (by rw [Nat.pow_succ, Int.natCast_mul]))) fun H3 e3 => ⟨_, rfl, e2.trans e3⟩
    · obtain ⟨y3, rfl, e2⟩ := hw
      rw [Int.toNat_natCast]
      exact s_ret (ev_var rfl) fun H3 e3 => kk H3 (e2.trans e3)


def sp_check_d (K : PySem.W.Frag) : Sp := fun vs H Q _ => ∃ (d : Nat), vs = [N_ d] ∧ d ≤ 300 ∧ RetV .non H Q
theorem sv_check_d {K : PySem.W.Frag} {H : Hp} {d : Nat} (hd : d ≤ 300) : SpV (sp_check_d K) [N_ d] H .non := fun H1 _ Q q E => ⟨d, rfl, hd, q⟩
theorem sm_d {d : Nat} (h : d ≤ 1000) : Sm (d : Int) := by
  show Int.natAbs (d : Int) < 10 ^ 60
  have e : (1001 : Nat) ≤ 10 ^ 60 := by decide
  omega

theorem ok_check_d {P : Program} {w : World} {K : PySem.W.Frag} {mg : Str → Option Value} {base : Heap} (T : Txt K mg) : FnOk P w K mg base CX0 4 T.a_check_d T.d_check_d ["d"] (sp_check_d K) := by
  refine T.F_check_d.ok sc_check_d (fun vs H Q E h => ?_) (fun cdv A outer s H vs Q E hr h => ?_)
  · obtain ⟨d, rfl, _⟩ := h
    rfl
  · obtain ⟨d, rfl, hd, k⟩ := h
    refine ⟨_, (pss_one (ps_expr (pe_call (ok_check_between T) (hr.mono (by decide)) (by rfl) T.g_check_between T.F_check_between.kp T.b_check_between .nil pass0 (pa_cons (pv 0) (pa_cons pe_int (pa_cons pe_int pa_nil)))))), ?_⟩
    refine s_drop (ev_call (ea_cons (ev_var rfl) (ea_cons ev_c (ea_cons ev_c ea_nil))) (sv_check_between (sm_d (by omega)) (by omega) (by omega))) fun H1 e1 => k H1 e1


def tbS (q : Nat) (m x : List Nat) : List Nat := leN q (List.replicate (x.getD 0 0) 0 ++ m) (List.replicate (x.getD 1 0) 0 ++ m)
theorem rep_lq {q n : Nat} {m : List Nat} (h0 : 0 < q) (h : Lq q m) : Lq q (List.replicate n 0 ++ m) := fun z hz => by
  rcases List.mem_append.mp hz with hz | hz
  · rw [(List.mem_replicate.mp hz).2]; exact h0
  · exact h z hz
theorem pl_lq {q : Nat} (hq : Fq q) {xs ys : List Nat} (hx : Lq q xs) (hy : Lq q ys) : Lq q (plN q xs ys) := fun z hz => by
  have h0 := hq.b
  unfold plN at hz
  obtain ⟨i, _, rfl⟩ := List.mem_map.mp (tr_mem hz)
  exact sE_lt hq (hx.get (by omega) i) (hy.get (by omega) i)
theorem pl_len (q : Nat) (xs ys : List Nat) : (plN q xs ys).length ≤ max xs.length ys.length := by
  unfold plN
  refine Nat.le_trans (tr_take _).2.1 ?_
  rw [List.length_map, List.length_range]
  exact Nat.le_refl _
theorem tbS_lq {q : Nat} (hq : Fq q) {m x : List Nat} (h : Lq q m) : Lq q (tbS q m x) := pl_lq hq (rep_lq (by have := hq.b; omega) h) (opp_lq hq (rep_lq (by have := hq.b; omega) h))

def Mon (m : List Nat) : Prop := m.length ≠ 0 ∧ m.getD (m.length - 1) 0 = 1
theorem mon_one : Mon [1] := ⟨by decide, rfl⟩
theorem getD_out {xs : List Nat} {i : Nat} (h : xs.length ≤ i) : xs.getD i 0 = 0 := by
  rw [List.getD_eq_getElem?_getD, List.getElem?_eq_none h]
  rfl
theorem getD_rep {n : Nat} {m : List Nat} (i : Nat) : (List.replicate n 0 ++ m).getD (n + i) 0 = m.getD i 0 := by
  rw [List.getD_eq_getElem?_getD, List.getElem?_append_right (by rw [List.length_replicate]; omega), List.length_replicate, Nat.add_sub_cancel_left, ← List.getD_eq_getElem?_getD]
theorem mon_step {q : Nat} (hq : Fq q) {m x : List Nat} (h : Mon m) (hlt : x.getD 1 0 < x.getD 0 0) : Mon (tbS q m x) ∧ (tbS q m x).length = x.getD 0 0 + m.length := by
  obtain ⟨h0, h1⟩ := h
  have hb := hq.b
  unfold tbS leN
  generalize x.getD 0 0 = hi at *
  generalize x.getD 1 0 = lo at *
  have hA : (List.replicate hi 0 ++ m).length = hi + m.length := by rw [List.length_append, List.length_replicate]
  have hB : ((List.replicate lo 0 ++ m).map (oE q)).length = lo + m.length := by rw [List.length_map, List.length_append, List.length_replicate]
  have hlast : (plN q (List.replicate hi 0 ++ m) ((List.replicate lo 0 ++ m).map (oE q))).getD (hi + (m.length - 1)) 0 = 1 := by
    rw [plN_get hq, getD_rep, h1, getD_out (show _ ≤ _ by rw [hB]; omega)]
    exact (sE_zero hq (show 1 < q by omega)).1
  have hlen : (plN q (List.replicate hi 0 ++ m) ((List.replicate lo 0 ++ m).map (oE q))).length = hi + m.length := by
    have h2 := pl_len q (List.replicate hi 0 ++ m) ((List.replicate lo 0 ++ m).map (oE q))
    rw [hA, hB] at h2
    by_cases h3 : hi + (m.length - 1) < (plN q (List.replicate hi 0 ++ m) ((List.replicate lo 0 ++ m).map (oE q))).length
    · omega
    · rw [getD_out (by omega)] at hlast
      cases hlast
  refine ⟨⟨?_, ?_⟩, hlen⟩
  · show (plN q (List.replicate hi 0 ++ m) ((List.replicate lo 0 ++ m).map (oE q))).length ≠ 0
    omega
  · show (plN q (List.replicate hi 0 ++ m) ((List.replicate lo 0 ++ m).map (oE q))).getD ((plN q (List.replicate hi 0 ++ m) ((List.replicate lo 0 ++ m).map (oE q))).length - 1) 0 = 1
    rw [hlen, show hi + m.length - 1 = hi + (m.length - 1) by omega]
    exact hlast

theorem nz_cons (x : Nat) (xs : List Nat) : nzN (x :: xs) = (if x = 0 then 0 else 1) + nzN xs := by
  have h := List.count_le_length (a := (0 : Int)) (l := xs.map Int.ofNat)
  rw [List.length_map] at h
  unfold nzN
  rw [List.map_cons, List.count_cons, List.length_cons]
  by_cases hx : x = 0
  · subst hx
    rw [if_pos rfl, if_pos (by rfl)]
    omega
  · rw [if_neg hx, if_neg (by
      intro z
      exact hx (Int.ofNat.inj (show Int.ofNat x = Int.ofNat 0 from eq_of_beq z)))]
    omega
theorem nz_zero : ∀ xs : List Nat, (∀ t, xs.getD t 0 = 0) → nzN xs = 0
  | [], _ => rfl
  | x :: xs, h => by
    have h0 : x = 0 := h 0
    rw [nz_cons, if_pos h0, nz_zero xs (fun t => h (t + 1))]
theorem nz_one : ∀ (xs : List Nat) (a : Nat), (∀ t, xs.getD t 0 ≠ 0 → t = a) → nzN xs ≤ 1
  | [], _, _ => Nat.zero_le _
  | x :: xs, a, h => by
    rw [nz_cons]
    by_cases hx : x = 0
    · rw [if_pos hx]
      have := nz_one xs (a - 1) (fun t ht => by
        have := h (t + 1) ht
        omega)
      omega
    · rw [if_neg hx]
      have h0 : 0 = a := h 0 hx
      have := nz_zero xs (fun t => by
        apply Decidable.byContradiction
        intro n
        have := h (t + 1) n
        omega)
      omega
theorem nz_two : ∀ (xs : List Nat) (a b : Nat), (∀ t, xs.getD t 0 ≠ 0 → t = a ∨ t = b) → nzN xs ≤ 2
  | [], _, _, _ => Nat.zero_le _
  | x :: xs, a, b, h => by
    rw [nz_cons]
    by_cases hx : x = 0
    · rw [if_pos hx]
      have := nz_two xs (a - 1) (b - 1) (fun t ht => by
        have := h (t + 1) ht
        omega)
      omega
    · rw [if_neg hx]
      have h0 : 0 = a ∨ 0 = b := h 0 hx
      rcases h0 with h0 | h0
      · have := nz_one xs (b - 1) (fun t ht => by
          have := h (t + 1) ht
          omega)
        omega
      · have := nz_one xs (a - 1) (fun t ht => by
          have := h (t + 1) ht
          omega)
        omega
theorem rep1_get (n t : Nat) : (List.replicate n 0 ++ [1]).getD t 0 = if t = n then 1 else 0 := by
  rw [List.getD_eq_getElem?_getD]
  by_cases h : t < n
  · rw [List.getElem?_append_left (by rw [List.length_replicate]; exact h), List.getElem?_replicate, if_pos h, if_neg (by omega)]
    rfl
  · rw [List.getElem?_append_right (by rw [List.length_replicate]; omega), List.length_replicate]
    by_cases he : t = n
    · subst he
      rw [Nat.sub_self, if_pos rfl]
      rfl
    · rw [if_neg he, List.getElem?_eq_none (by show 1 ≤ t - n; omega)]
      rfl
theorem chk_o0 : chkAll (fun q => decide (oE q 0 = 0) && decide (sE q 0 0 = 0)) = true := by decide +kernel
def twN (q i j : Nat) : List Nat := leN q (List.replicate (q ^ i) 0 ++ [1]) (List.replicate (q ^ j) 0 ++ [1])
theorem tw_nz {q i j : Nat} (hq : Fq q) : nzN (twN q i j) ≤ 2 := by
  have hc := chk_get chk_o0 hq
  rw [Bool.and_eq_true, decide_eq_true_eq, decide_eq_true_eq] at hc
  refine nz_two _ (q ^ i) (q ^ j) fun t ht => ?_
  unfold twN leN at ht
  rw [plN_get hq, rep1_get] at ht
  have hm : ((List.replicate (q ^ j) 0 ++ [1]).map (oE q)).getD t 0 = oE q (if t = q ^ j then 1 else 0) := by
    rw [← rep1_get, List.getD_eq_getElem?_getD, List.getD_eq_getElem?_getD, List.getElem?_map]
    cases (List.replicate (q ^ j) 0 ++ [1])[t]? with
    | none => exact hc.1.symm
    | some a => rfl
  rw [hm] at ht
  by_cases h1 : t = q ^ i
  · exact .inl h1
  · by_cases h2 : t = q ^ j
    · exact .inr h2
    · rw [if_neg h1, if_neg h2, hc.1, hc.2] at ht
      exact absurd rfl ht
theorem pow_lt {q i j : Nat} (hq : 2 ≤ q) (h : j < i) : q ^ j < q ^ i := Nat.pow_lt_pow_right hq h
theorem tw_mon {q i j : Nat} (hq : Fq q) (h : j < i) : Mon (twN q i j) ∧ (twN q i j).length = q ^ i + 1 := by
  have := mon_step hq (x := [q ^ i, q ^ j]) mon_one (pow_lt hq.b.1 h)
  exact this
theorem one_lq {q : Nat} (hq : Fq q) : Lq q [1] := fun z hz => by
  rw [List.mem_singleton.mp hz]
  have := hq.b
  omega
theorem tw_lq {q i j : Nat} (hq : Fq q) : Lq q (twN q i j) := tbS_lq hq (x := [q ^ i, q ^ j]) (one_lq hq)
section
variable {K : PySem.W.Frag} {σ : L2.St} {H H' : Hp} {ta tb tc te tl tn : TE} {t : TT} {D : Ends} {tu tz : TS}
/-- (0,) * n + (1,) -/
theorem tt_rep1 {n : Nat} (h1 : Ev tn σ H (N_ n)) (hn : n ≤ 1000) : EvTt K (tOp (rCatA K) (tOp (rRepU K) (tTup (tCons (tC (.int 0)) tNil)) tn) (tTup (tCons (tC (.int 1)) tNil))) σ H ((List.replicate n 0 ++ [1]).map N_) :=
  tt_is (tt_cat (K := K) (xs := (List.replicate n 0).map N_) (ys := [N_ 1]) (tt_rep (K := K) h1 hn) (tt_new (eu_tup (ea_cons ev_c ea_nil) (by show 1 ≤ 100000; decide))) (by rw [List.length_map, List.length_replicate]; show _ + 1 ≤ _; omega)) (by rw [List.map_append]; rfl)
end
def sp_two_powers (K : PySem.W.Frag) : Sp := fun vs H Q _ => ∃ (q i j : Nat), vs = [N_ q, N_ i, N_ j] ∧ Fq q ∧ j < i ∧ i ≤ 10 ∧ q ^ i ≤ 1000 ∧ RetTf ((twN q i j).map N_) H Q

theorem ok_two_powers {P : Program} {w : World} {K : PySem.W.Frag} {mg : Str → Option Value} {base : Heap} (T : Txt K mg) : FnOk P w K mg base CX0 4 T.a_two_powers T.d_two_powers ["q", "i", "j"] (sp_two_powers K) := by
  refine T.F_two_powers.ok sc_two_powers (fun vs H Q E h => ?_) (fun cdv A outer s H vs Q E hr h => ?_)
  · obtain ⟨q, i, j, rfl, _⟩ := h
    rfl
  · obtain ⟨q, i, j, rfl, hq, hji, hi, hz, kk⟩ := h
    refine ⟨_, (pss_one (ps_ret (pe_call (ok_row_less T) (hr.mono (by decide)) (by rfl) T.g_row_less T.F_row_less.kp T.b_row_less .nil pass0 (pa_cons (pv 0) (pa_cons (pe_op (op_catAK (K := K) (by rfl)) (pe_op (op_repUK (K := K) (by rfl)) (pe_tup (pa_cons pe_int pa_nil)) (pe_call (ok_whole_power T) (hr.mono (by decide)) (by rfl) T.g_whole_power T.F_whole_power.kp T.b_whole_power .nil pass0 (pa_cons (pv 0) (pa_cons (pv 1) pa_nil)))) (pe_tup (pa_cons pe_int pa_nil))) (pa_cons (pe_op (op_catAK (K := K) (by rfl)) (pe_op (op_repUK (K := K) (by rfl)) (pe_tup (pa_cons pe_int pa_nil)) (pe_call (ok_whole_power T) (hr.mono (by decide)) (by rfl) T.g_whole_power T.F_whole_power.kp T.b_whole_power .nil pass0 (pa_cons (pv 0) (pa_cons (pv 2) pa_nil)))) (pe_tup (pa_cons pe_int pa_nil))) pa_nil)))))), ?_⟩
    have hq0 := hq.b
    have hlt := pow_lt hq0.1 hji
    exact s_retF (tf_call3T (K := K) (x := N_ q) (zs := (List.replicate (q ^ i) 0 ++ [1]).map N_) (ws := (List.replicate (q ^ j) 0 ++ [1]).map N_) (ev_var rfl) (tt_rep1 (K := K) (ev_call (ea_cons (ev_var rfl) (ea_cons (ev_var rfl) ea_nil)) (sv_whole_power (by omega) hi)) hz) (tt_rep1 (K := K) (ev_call (ea_cons (ev_var rfl) (ea_cons (ev_var rfl) ea_nil)) (sv_whole_power (by omega) (by omega))) (by omega)) (fun p r H1 e1 s1 s2 Q q1 E => ⟨p, r, q, _, _, rfl, hq, s1, s2, rep_lq (by omega) (one_lq hq), rep_lq (by omega) (one_lq hq), by rw [List.length_append, List.length_replicate]; show _ + 1 ≤ _; omega, by rw [List.length_append, List.length_replicate]; show _ + 1 ≤ _; omega, q1⟩)) kk


def paI (q d : Nat) : Nat → List Nat
  | 0 => [1]
  | j + 1 => rwP q (paI q d j) (twN q d j)
def paN (q d : Nat) : List Nat := paI q d d
def mlI (q : Nat) : Nat → List Nat
  | 0 => [1]
  | n + 1 => rwP q (mlI q n) (twN q (n + 1) 0)
theorem mu_leng {q : Nat} {xs ys : List Nat} (hx : xs ≠ []) (hy : ys ≠ []) : (muN q xs ys).length = xs.length + ys.length - 1 := by
  unfold muN
  rw [if_neg (fun z => z.elim hx hy), muS_len]
theorem rw_len {q : Nat} {xs ys : List Nat} (hx : xs ≠ []) (hy : ys ≠ []) : (rwP q xs ys).length = xs.length + ys.length - 1 := by
  unfold rwP
  split
  · rw [mu_leng hy hx, Nat.add_comm]
  · rw [mu_leng hx hy]
theorem rw_lq {q : Nat} (hq : Fq q) {xs ys : List Nat} (hx : Lq q xs) (hy : Lq q ys) : Lq q (rwP q xs ys) := by
  unfold rwP
  split
  · exact mu_lq hq hy hx
  · exact mu_lq hq hx hy
theorem tw_ne {q i j : Nat} (hq : Fq q) (h : j < i) : twN q i j ≠ [] := List.length_pos_iff.mp (by rw [(tw_mon hq h).2]; omega)
theorem pa_ok {q d : Nat} (hq : Fq q) : ∀ j, j ≤ d → Lq q (paI q d j) ∧ (paI q d j).length = 1 + j * q ^ d
  | 0, _ => ⟨one_lq hq, by rw [Nat.zero_mul]; rfl⟩
  | j + 1, h => by
    obtain ⟨h1, h2⟩ := pa_ok (q := q) (d := d) hq j (by omega)
    have hl := (tw_mon (i := d) (j := j) hq (by omega)).2
    refine ⟨rw_lq hq h1 (tw_lq hq), ?_⟩
    show (rwP q (paI q d j) (twN q d j)).length = _
    rw [rw_len (List.length_pos_iff.mp (by omega)) (tw_ne hq (by omega)), h2, hl, Nat.succ_mul]
    omega
def mdN (q n : Nat) : Nat := ((List.range n).map fun i => q ^ (i + 1)).sum
theorem md_succ (q n : Nat) : mdN q (n + 1) = mdN q n + q ^ (n + 1) := by
  unfold mdN
  rw [List.range_succ, List.map_append, List.sum_append]
  rfl
theorem ml_ok {q : Nat} (hq : Fq q) : ∀ n, Lq q (mlI q n) ∧ (mlI q n).length = 1 + mdN q n
  | 0 => ⟨one_lq hq, rfl⟩
  | n + 1 => by
    obtain ⟨h1, h2⟩ := ml_ok hq n
    have hl := (tw_mon (i := n + 1) (j := 0) hq (by omega)).2
    refine ⟨rw_lq hq h1 (tw_lq hq), ?_⟩
    show (rwP q (mlI q n) (twN q (n + 1) 0)).length = _
    rw [rw_len (List.length_pos_iff.mp (by omega)) (tw_ne hq (by omega)), h2, hl, md_succ]
    omega
theorem md_le (q : Nat) : ∀ {m n : Nat}, m ≤ n → mdN q m ≤ mdN q n := fun {m n} h => by
  induction n with
  | zero => rw [show m = 0 by omega]; exact Nat.le_refl _
  | succ n ih =>
    by_cases hm : m = n + 1
    · rw [hm]; exact Nat.le_refl _
    · have := ih (by omega)
      rw [md_succ]
      omega
theorem md_pow {q m n : Nat} (hm : 1 ≤ m) (h : m ≤ n) : q ^ m ≤ mdN q n := by
  have h1 := md_le q h
  have h2 := md_succ q (m - 1)
  rw [show m - 1 + 1 = m by omega] at h2
  omega
def sp_product_of_all (K : PySem.W.Frag) : Sp := fun vs H Q _ => ∃ (q d : Nat), vs = [N_ q, N_ d] ∧ Fq q ∧ d ≤ 10 ∧ q ^ d ≤ 1000 ∧ d * q ^ d ≤ 2000 ∧ RetTf ((paN q d).map N_) H Q

theorem ok_product_of_all {P : Program} {w : World} {K : PySem.W.Frag} {mg : Str → Option Value} {base : Heap} (T : Txt K mg) : FnOk P w K mg base CX0 7 T.a_product_of_all T.d_product_of_all ["q", "d"] (sp_product_of_all K) := by
  refine T.F_product_of_all.ok sc_product_of_all (fun vs H Q E h => ?_) (fun cdv A outer s H vs Q E hr h => ?_)
  · obtain ⟨q, d, rfl, _⟩ := h
    rfl
  · obtain ⟨q, d, rfl, hq, hd, hz, hdz, kk⟩ := h
    refine ⟨_, (pss_cons (ps_set (i := 2) sc_product_of_all.nd rfl (Or.inl rfl) (pe_tupF (pa_cons pe_int pa_nil)))
      (pss_cons (ps_for PassesOwn.never rfl (pi_range1 rfl T.z_range (pa_cons (pv 1) pa_nil)) (pg_name (i := 3) sc_product_of_all.nd rfl (Or.inl rfl)) (pss_one (ps_set (i := 2) sc_product_of_all.nd rfl (Or.inl rfl) (pe_call (ok_row_product T) (hr.mono (by decide)) (by rfl) T.g_row_product T.F_row_product.kp T.b_row_product .nil pass0 (pa_cons (pv 0) (pa_cons (pv 2) (pa_cons (pe_call (ok_two_powers T) (hr.mono (by decide)) (by rfl) T.g_two_powers T.F_two_powers.kp T.b_two_powers .nil pass0 (pa_cons (pv 0) (pa_cons (pv 1) (pa_cons (pv 3) pa_nil)))) pa_nil)))))))
      (pss_one (ps_ret (pv 2))))), ?_⟩
    refine q_asgF (xs := [1].map N_) (tf_tup (vs := [N_ 1]) (ea_cons ev_c ea_nil) (by show 1 ≤ 100000; decide)) fun m0 H1 e1 h1 => ?_
    refine q_forR1 (n := (d : Int)) (ea_cons (ev_var rfl) ea_nil) ⟨by omega, by omega⟩ (fun j σ H' => ∃ (m : Addr) (y3 : Option V), σ = [some (N_ q), some (N_ d), some (.ref m), y3] ∧ Ex H H' ∧ TfAt H' m ((paI q d j).map N_)) (fun H2 e2 => ⟨m0, none, rfl, e1.trans e2, h1.ex e2⟩) (fun j σ H2 hj hw => ?_) (fun σ H2 hw => ?_)
    · obtain ⟨m, y3, rfl, e2, h2⟩ := hw
      have hjd : j < d := by omega
      obtain ⟨hl1, hl2⟩ := pa_ok (q := q) (d := d) hq j (by omega)
      have htw := (tw_mon (i := d) (j := j) hq hjd).2
      have hb : j * q ^ d ≤ d * q ^ d := Nat.mul_le_mul_right _ (by omega)
      refine s_asgF (tf_call2F (x := N_ q) (y := .ref m) (zs := (twN q d j).map N_) (ev_var rfl) (ev_var rfl) (tf_call (ea_cons (ev_var rfl) (ea_cons (ev_var rfl) (ea_cons (ev_var rfl) ea_nil))) (fun H3 e3 Q q3 E => ⟨q, d, j, rfl, hq, hjd, hd, hz, q3⟩)) (fun p H3 e3 s3 Q q3 E => ⟨m, p, q, paI q d j, twN q d j, rfl, hq, h2.ex e3, s3, hl1, tw_lq hq, List.length_pos_iff.mp (by omega), tw_ne hq hjd, by omega, by omega, Nat.le_trans (tw_nz hq) (by decide), q3⟩)) fun m2 H3 e3 h3 => ⟨m2, _, rfl, e2.trans e3, h3⟩
    · obtain ⟨m, y3, rfl, e2, h2⟩ := hw
      rw [Int.toNat_natCast] at h2
      exact s_retF (fun H3 e3 Q q3 => (ev_var (v := .ref m) rfl) H3 e3 _ fun H4 e4 => q3 m H4 e4 ((h2.ex e3).ex e4)) (kk.go e2)


def sp_multiple_of_all (K : PySem.W.Frag) : Sp := fun vs H Q _ => ∃ (q d : Nat), vs = [N_ q, N_ d] ∧ Fq q ∧ d ≤ 10 ∧ q ^ d ≤ 1000 ∧ mdN q d ≤ 2000 ∧ RetTf ((mlI q d).map N_) H Q

theorem ok_multiple_of_all {P : Program} {w : World} {K : PySem.W.Frag} {mg : Str → Option Value} {base : Heap} (T : Txt K mg) : FnOk P w K mg base CX0 7 T.a_multiple_of_all T.d_multiple_of_all ["q", "d"] (sp_multiple_of_all K) := by
  refine T.F_multiple_of_all.ok sc_multiple_of_all (fun vs H Q E h => ?_) (fun cdv A outer s H vs Q E hr h => ?_)
  · obtain ⟨q, d, rfl, _⟩ := h
    rfl
  · obtain ⟨q, d, rfl, hq, hd, hz, hdz, kk⟩ := h
    refine ⟨_, (pss_cons (ps_set (i := 2) sc_multiple_of_all.nd rfl (Or.inl rfl) (pe_tupF (pa_cons pe_int pa_nil)))
      (pss_cons (ps_for PassesOwn.never rfl (pi_range2 rfl T.z_range (pa_cons pe_int (pa_cons (pe_op op_add (pv 1) pe_int) pa_nil))) (pg_name (i := 3) sc_multiple_of_all.nd rfl (Or.inl rfl)) (pss_one (ps_set (i := 2) sc_multiple_of_all.nd rfl (Or.inl rfl) (pe_call (ok_row_product T) (hr.mono (by decide)) (by rfl) T.g_row_product T.F_row_product.kp T.b_row_product .nil pass0 (pa_cons (pv 0) (pa_cons (pv 2) (pa_cons (pe_call (ok_two_powers T) (hr.mono (by decide)) (by rfl) T.g_two_powers T.F_two_powers.kp T.b_two_powers .nil pass0 (pa_cons (pv 0) (pa_cons (pv 3) (pa_cons pe_int pa_nil)))) pa_nil)))))))
      (pss_one (ps_ret (pv 2))))), ?_⟩
    have hq0 := hq.b
    refine q_asgF (xs := [1].map N_) (tf_tup (vs := [N_ 1]) (ea_cons ev_c ea_nil) (by show 1 ≤ 100000; decide)) fun m0 H1 e1 h1 => ?_
    refine q_forR2 (lo := 1) (n := ((d : Int) + 1)) (ea_cons ev_c (ea_cons (ev_op (ev_var rfl) ev_c rv_I0) ea_nil)) ⟨by omega, by omega, by omega, by omega⟩ (fun j σ H' => ∃ (m : Addr) (y3 : Option V), σ = [some (N_ q), some (N_ d), some (.ref m), y3] ∧ Ex H H' ∧ TfAt H' m ((mlI q j).map N_)) (fun H2 e2 => ⟨m0, none, rfl, e1.trans e2, h1.ex e2⟩) (fun j σ H2 hj hw => ?_) (fun σ H2 hw => ?_)
    · obtain ⟨m, y3, rfl, e2, h2⟩ := hw
      have hjd : j + 1 ≤ d := by omega
      obtain ⟨hl1, hl2⟩ := ml_ok hq j
      have htw := (tw_mon (i := j + 1) (j := 0) hq (by omega)).2
      have hb := md_le q (show j ≤ d by omega)
      have hpw : q ^ (j + 1) ≤ 1000 := Nat.le_trans (Nat.pow_le_pow_right (by omega) hjd) hz
      refine s_asgF (tf_call2F (x := N_ q) (y := .ref m) (zs := (twN q (j + 1) 0).map N_) (ev_var rfl) (ev_var rfl) (tf_call (ea_cons (ev_var rfl) (ea_cons (ev_is (ev_var rfl) (congrArg V.int (by omega))) (ea_cons ev_c ea_nil))) (fun H3 e3 Q q3 E => ⟨q, j + 1, 0, rfl, hq, by omega, by omega, hpw, q3⟩)) (fun p H3 e3 s3 Q q3 E => ⟨m, p, q, mlI q j, twN q (j + 1) 0, rfl, hq, h2.ex e3, s3, hl1, tw_lq hq, List.length_pos_iff.mp (by omega), tw_ne hq (by omega), by omega, by omega, Nat.le_trans (tw_nz hq) (by decide), q3⟩)) fun m2 H3 e3 h3 => ⟨m2, _, rfl, e2.trans e3, h3⟩
    · obtain ⟨m, y3, rfl, e2, h2⟩ := hw
      rw [show ((d : Int) + 1 - 1).toNat = d by omega] at h2
      exact s_retF (fun H3 e3 Q q3 => (ev_var (v := .ref m) rfl) H3 e3 _ fun H4 e4 => q3 m H4 e4 ((h2.ex e3).ex e4)) (kk.go e2)


def sp_check_made (K : PySem.W.Frag) : Sp := fun vs H Q _ => ∃ (n : Nat), vs = [N_ n] ∧ n ≤ 2000 ∧ RetV .non H Q
theorem sv_check_made {K : PySem.W.Frag} {H : Hp} {n : Nat} (h : n ≤ 2000) : SpV (sp_check_made K) [N_ n] H .non := fun H1 e Q k E => ⟨n, rfl, h, k⟩

theorem ok_check_made {P : Program} {w : World} {K : PySem.W.Frag} {mg : Str → Option Value} {base : Heap} (T : Txt K mg) : FnOk P w K mg base CX0 1 T.a_check_made T.d_check_made ["degree"] (sp_check_made K) := by
  refine T.F_check_made.ok sc_check_made (fun vs H Q E h => ?_) (fun cdv A outer s H vs Q E hr h => ?_)
  · obtain ⟨n, rfl, _⟩ := h
    rfl
  · obtain ⟨n, rfl, hn, kk⟩ := h
    refine ⟨_, (pss_one (ps_if (pt_cmpR op_gt (pv 0) (pe_glob (v := .int 2000) (by rfl) T.c_MAX_MADE ⟨_, rfl⟩) (nomark _)) (pss_one ps_never) pss_nil)), ?_⟩
    exact s_when (b := false) (et_is (et_test (ev_op (ev_var rfl) ev_c rv_I0)) (decide_eq_false (by omega))) (fun h => nomatch h) fun _ H1 e1 => kk H1 e1


def sp_all_product (K : PySem.W.Frag) : Sp := fun vs H Q _ => ∃ (q d : Nat), vs = [N_ q, N_ d] ∧ Fq q ∧ d ≤ 10 ∧ q ^ d ≤ 1000 ∧ d * q ^ d ≤ 2000 ∧ RetTf ((paN q d).map N_) H Q

theorem ok_all_product {P : Program} {w : World} {K : PySem.W.Frag} {mg : Str → Option Value} {base : Heap} (T : Txt K mg) : FnOk P w K mg base CX0 8 T.a_all_product T.d_all_product ["q", "d"] (sp_all_product K) := by
  refine T.F_all_product.ok sc_all_product (fun vs H Q E h => ?_) (fun cdv A outer s H vs Q E hr h => ?_)
  · obtain ⟨q, d, rfl, _⟩ := h
    rfl
  · obtain ⟨q, d, rfl, hq, hd, hz, hdz, kk⟩ := h
    refine ⟨_, (pss_cons (ps_expr (pe_call (ok_check_field T) (hr.mono (by decide)) (by rfl) T.g_check_field T.F_check_field.kp T.b_check_field .nil pass0 (pa_cons (pv 0) pa_nil)))
      (pss_cons (ps_expr (pe_call (ok_check_d T) (hr.mono (by decide)) (by rfl) T.g_check_d T.F_check_d.kp T.b_check_d .nil pass0 (pa_cons (pv 1) pa_nil)))
      (pss_cons (ps_expr (pe_call (ok_check_made T) (hr.mono (by decide)) (by rfl) T.g_check_made T.F_check_made.kp T.b_check_made .nil pass0 (pa_cons (pe_op op_mulW (pv 1) (pe_call (ok_whole_power T) (hr.mono (by decide)) (by rfl) T.g_whole_power T.F_whole_power.kp T.b_whole_power .nil pass0 (pa_cons (pv 0) (pa_cons (pv 1) pa_nil)))) pa_nil)))
      (pss_one (ps_ret (pe_call (ok_product_of_all T) (hr.mono (by decide)) (by rfl) T.g_product_of_all T.F_product_of_all.kp T.b_product_of_all .nil pass0 (pa_cons (pv 0) (pa_cons (pv 1) pa_nil)))))))), ?_⟩
    have hq0 := hq.b
    refine q_drop (ev_call (ea_cons (ev_var rfl) ea_nil) (sv_check_field hq)) fun H1 e1 => ?_
    refine q_drop (ev_call (ea_cons (ev_var rfl) ea_nil) (sv_check_d (by omega))) fun H2 e2 => ?_
    refine q_drop (ev_call (ea_cons (ev_is (ev_op (ev_var rfl) (ev_call (ea_cons (ev_var rfl) (ea_cons (ev_var rfl) ea_nil)) (sv_whole_power (by omega) hd)) (rv_I (wide_mul (a := 10) (b := 10) (by show d < 1024; omega) (by show q ^ d < 1024; omega) (by decide) (by decide) (by decide)))) (congrArg V.int (Int.natCast_mul _ _).symm)) ea_nil) (sv_check_made (n := d * q ^ d) hdz)) fun H3 e3 => ?_
    exact s_retF (tf_call (ea_cons (ev_var rfl) (ea_cons (ev_var rfl) ea_nil)) fun H4 e4 Q q4 E => ⟨q, d, rfl, hq, hd, hz, hdz, q4⟩) (kk.go ((e1.trans e2).trans e3))


def sp_multiple_degree (K : PySem.W.Frag) : Sp := fun vs H Q _ => ∃ (q d : Nat), vs = [N_ q, N_ d] ∧ Fq q ∧ d ≤ 10 ∧ RetV (N_ (mdN q d)) H Q
theorem sv_multiple_degree {K : PySem.W.Frag} {H : Hp} {q d : Nat} (hq : Fq q) (hd : d ≤ 10) : SpV (sp_multiple_degree K) [N_ q, N_ d] H (N_ (mdN q d)) := fun H1 e Q k E => ⟨q, d, rfl, hq, hd, k⟩

theorem ok_multiple_degree {P : Program} {w : World} {K : PySem.W.Frag} {mg : Str → Option Value} {base : Heap} (T : Txt K mg) : FnOk P w K mg base CX0 2 T.a_multiple_degree T.d_multiple_degree ["q", "d"] (sp_multiple_degree K) := by
  refine T.F_multiple_degree.ok sc_multiple_degree (fun vs H Q E h => ?_) (fun cdv A outer s H vs Q E hr h => ?_)
  · obtain ⟨q, d, rfl, _⟩ := h
    rfl
  · obtain ⟨q, d, rfl, hq, hd, kk⟩ := h
    refine ⟨_, (pss_one (ps_ret (pe_callB (cr_sum rfl) (by rfl) T.z_sum (by decide +kernel) (pa_cons (pe_lc (own := [("j", 2)]) (g := gName 2) rfl sc_multiple_degree.nd (pi_range2 rfl T.z_range (pa_cons pe_int (pa_cons (pe_op op_add (pv 1) pe_int) pa_nil))) (blkOk_by (N := ["q", "d", "j"]) (sc := defScope s_multiple_degree) (by decide +kernel)) (fun _ _ _ _ _ => pg_name (i := 2) sc_multiple_degree.nd rfl (Or.inl rfl)) (fun _ _ _ _ _ => pts_nil) (fun _ _ _ _ _ => (pe_call (ok_whole_power T) (hr.mono (by decide)) (by rfl) T.g_whole_power T.F_whole_power.kp T.b_whole_power .nil pass0 (pa_cons (pv 0) (pa_cons (pv 2) pa_nil))))) pa_nil)))), ?_⟩
    have hq0 := hq.b
    refine s_ret (ev_is (ev_sumN (ns := ((List.range d).map fun i => q ^ (i + 1)).map Int.ofNat) (el_is (el_lcR2 (lo := 1) (n := (d : Int) + 1) (fun _ => true) (fun i => N_ (q ^ (i + 1))) (ea_cons ev_c (ea_cons (ev_op (ev_var rfl) ev_c rv_I0) ea_nil)) ⟨by omega, by omega, by omega, by omega, by omega⟩ (fun _ => rfl) (fun _ _ _ _ => et_nil) (fun i H2 e2 hi _ => ev_call (ea_cons (ev_var rfl) (ea_cons (ev_is (ev_var rfl) (congrArg V.int (by omega))) ea_nil)) (sv_whole_power (e := i + 1) (by omega) (by omega)))) ?_)) (congrArg V.int (sumN _))) fun H1 e1 => kk H1 e1
    rw [given_range, show ((d : Int) + 1 - 1).toNat = d by omega, List.map_map, List.map_map]
    rfl


def sp_least_multiple (K : PySem.W.Frag) : Sp := fun vs H Q _ => ∃ (q d : Nat), vs = [N_ q, N_ d] ∧ Fq q ∧ d ≤ 10 ∧ q ^ d ≤ 1000 ∧ mdN q d ≤ 2000 ∧ RetTf ((mlI q d).map N_) H Q

theorem ok_least_multiple {P : Program} {w : World} {K : PySem.W.Frag} {mg : Str → Option Value} {base : Heap} (T : Txt K mg) : FnOk P w K mg base CX0 8 T.a_least_multiple T.d_least_multiple ["q", "d"] (sp_least_multiple K) := by
  refine T.F_least_multiple.ok sc_least_multiple (fun vs H Q E h => ?_) (fun cdv A outer s H vs Q E hr h => ?_)
  · obtain ⟨q, d, rfl, _⟩ := h
    rfl
  · obtain ⟨q, d, rfl, hq, hd, hz, hdz, kk⟩ := h
    refine ⟨_, (pss_cons (ps_expr (pe_call (ok_check_field T) (hr.mono (by decide)) (by rfl) T.g_check_field T.F_check_field.kp T.b_check_field .nil pass0 (pa_cons (pv 0) pa_nil)))
      (pss_cons (ps_expr (pe_call (ok_check_d T) (hr.mono (by decide)) (by rfl) T.g_check_d T.F_check_d.kp T.b_check_d .nil pass0 (pa_cons (pv 1) pa_nil)))
      (pss_cons (ps_expr (pe_call (ok_check_made T) (hr.mono (by decide)) (by rfl) T.g_check_made T.F_check_made.kp T.b_check_made .nil pass0 (pa_cons (pe_call (ok_multiple_degree T) (hr.mono (by decide)) (by rfl) T.g_multiple_degree T.F_multiple_degree.kp T.b_multiple_degree .nil pass0 (pa_cons (pv 0) (pa_cons (pv 1) pa_nil))) pa_nil)))
      (pss_one (ps_ret (pe_call (ok_multiple_of_all T) (hr.mono (by decide)) (by rfl) T.g_multiple_of_all T.F_multiple_of_all.kp T.b_multiple_of_all .nil pass0 (pa_cons (pv 0) (pa_cons (pv 1) pa_nil)))))))), ?_⟩
    refine q_drop (ev_call (ea_cons (ev_var rfl) ea_nil) (sv_check_field hq)) fun H1 e1 => ?_
    refine q_drop (ev_call (ea_cons (ev_var rfl) ea_nil) (sv_check_d (by omega))) fun H2 e2 => ?_
    refine q_drop (ev_call (ea_cons (ev_call (ea_cons (ev_var rfl) (ea_cons (ev_var rfl) ea_nil)) (sv_multiple_degree (K := K) hq hd)) ea_nil) (sv_check_made hdz)) fun H3 e3 => ?_
    exact s_retF (tf_call (ea_cons (ev_var rfl) (ea_cons (ev_var rfl) ea_nil)) fun H4 e4 Q q4 E => ⟨q, d, rfl, hq, hd, hz, hdz, q4⟩) (kk.go ((e1.trans e2).trans e3))


end Own
/-! the law's division, common divisors, brackets -/
namespace Own
open PySem PySem.Spec PyProof.Rows L2 Evl

def ivE (q e : Nat) : Nat := ((List.range q).find? fun b => decide (epF (prE q) (poE q) e b = 1)).getD 0
theorem chk_iv : chkAll (fun q => all1 q fun e => decide (e = 0) || (decide (ivE q e < q) && decide (epF (prE q) (poE q) e (ivE q e) = 1) && all1 (ivE q e) fun b => decide (epF (prE q) (poE q) e b ≠ 1))) = true := by decide +kernel
theorem iv_ok {q e : Nat} (hq : Fq q) (he : e < q) (h0 : e ≠ 0) : ivE q e < q ∧ pE q e (ivE q e) = 1 ∧ ∀ b, b < ivE q e → pE q e b ≠ 1 := by
  have h := all1_get (chk_get chk_iv hq) he
  rw [Bool.or_eq_true, decide_eq_true_eq] at h
  rcases h with h | h
  · exact absurd h h0
  · rw [Bool.and_eq_true, Bool.and_eq_true, decide_eq_true_eq, decide_eq_true_eq] at h
    refine ⟨h.1.1, by rw [pE_F hq he h.1.1]; exact h.1.2, fun b hb => ?_⟩
    rw [pE_F hq he (by omega)]
    exact of_decide_eq_true (all1_get h.2 hb)
theorem chk_og : chkAll (fun q => all1 q fun a => all1 q fun b => decide (oE q (epF (prE q) (poE q) a b) = epF (prE q) (poE q) b (oE q a))) = true := by decide +kernel
theorem og_ok {q a b : Nat} (hq : Fq q) (ha : a < q) (hb : b < q) : oE q (pE q a b) = pE q b (oE q a) := by
  rw [pE_F hq ha hb, pE_F hq hb (oE_lt hq ha)]
  exact of_decide_eq_true (all1_get (all1_get (chk_get chk_og hq) ha) hb)
section
variable {K : PySem.W.Frag} {σ : L2.St} {H H' : Hp} {ta tb tc te tl tn : TE} {t : TT} {D : Ends} {tu tz : TS} {x y : V}
/-- mul[e].index(1) -/
theorem ev_inv {N : Addr → Prop} {a q e : Nat} (hq : Fq q) (h : LLt N H a (row2 pE q)) (ht : Ev tl σ H (.ref a)) (hv : Ev te σ H (N_ e)) (he : e < q) (h0 : e ≠ 0) : Ev (tBM K "list" (rIndex K) (tOp (rIxL K) tl te) (tCons (tC (.int 1)) tNil)) σ H (N_ (ivE q e)) := by
  obtain ⟨hi1, hi2, hi3⟩ := iv_ok hq he h0
  obtain ⟨rs, _, h1, hl, hr⟩ := h
  have hrow := row2_get (g := pE) he
  have hxl : e < rs.length := by rw [hl]; exact (List.getElem?_eq_some_iff.mp hrow).1
  have hxr : rs[e]? = some (rs.getD e 0) := getD_get (xs := rs) hxl
  have hrr := (hr e _ _ hxr hrow).2
  refine fun H1 e1 Q qq => (ev_op ht hv (rv_ixL (v := .ref (rs.getD e 0)) (sq_of h1) (atI_nat (by rw [List.getElem?_map, hxr]; rfl)))) H1 e1 _ fun H2 e2 => ⟨.inl ⟨rfl, _, sq_of ((e1.trans e2) _ _ hrr)⟩, ?_⟩
  refine ev_c H2 (Ex.refl _) _ fun H3 e3 => ⟨rs.getD e 0, _, .int 1, ivE q e, N_ (pE q e (ivE q e)), rfl, rfl, sq_of (((e1.trans e2).trans e3) _ _ hrr), rfl, ?_, ?_, ?_, fun m z' hm hz => ?_, qq H3 (e2.trans e3)⟩
  · rw [List.map_map]
    exact List.all_eq_true.mpr fun z hz => by
      obtain ⟨b, _, rfl⟩ := List.mem_map.mp hz
      rfl
  · rw [List.getElem?_map, col2_get hi1]
    rfl
  · rw [hi2]
    rfl
  · rw [List.getElem?_map, col2_get (by omega)] at hz
    cases hz
    have := hi3 m hm
    show (((pE q e m : Nat) : Int) == 1) = false
    exact beq_eq_false_iff_ne.mpr (by omega)
end

def scN (q e : Nat) (xs : List Nat) : List Nat := trN (xs.map (pE q e))
def sp__law_scaled (K : PySem.W.Frag) : Sp := fun vs H Q _ => ∃ (d a : Addr) (q e : Nat) (xs : List Nat), vs = [.ref d, N_ e, .ref a] ∧ Fq q ∧ FldAt (fun _ => True) H d q ∧ e < q ∧ SqT K H a (xs.map N_) ∧ Lq q xs ∧ xs.length ≤ 3000 ∧ RetU ((scN q e xs).map N_) H Q
theorem sv__law_scaled {K : PySem.W.Frag} {H : Hp} {d a : Addr} {q e : Nat} {xs : List Nat} (hq : Fq q) (hf : FldAt (fun _ => True) H d q) (he : e < q) (hx : SqT K H a (xs.map N_)) (lx : Lq q xs) (hl : xs.length ≤ 3000) : SpU (sp__law_scaled K) [.ref d, N_ e, .ref a] H ((scN q e xs).map N_) := fun H1 e1 Q kk E => ⟨d, a, q, e, xs, rfl, hq, hf.ex e1, he, ex_t e1 hx, lx, hl, kk⟩

theorem ok__law_scaled {P : Program} {w : World} {K : PySem.W.Frag} {mg : Str → Option Value} {base : Heap} (T : Txt K mg) : FnOk P w K mg base CX0 2 T.a__law_scaled T.d__law_scaled ["_law_field_here", "_law_element", "_law_one"] (sp__law_scaled K) := by
  refine T.F__law_scaled.ok sc__law_scaled (fun vs H Q E h => ?_) (fun cdv A outer s H vs Q E hr h => ?_)
  · obtain ⟨d, a, q, e, xs, rfl, _⟩ := h
    rfl
  · obtain ⟨d, a, q, e, xs, rfl, hq, hf, he, hx, lx, hl, kk⟩ := h
    refine ⟨_, (pss_one (ps_ret (pe_call (ok__law_trim T) (hr.mono (by decide)) (by rfl) T.g__law_trim T.F__law_trim.kp T.b__law_trim .nil pass0 (pa_cons (pe_lc (own := [("_law_a", 3)]) (g := gName 3) rfl sc__law_scaled.nd (pi_tup (pv 2)) (blkOk_by (N := ["_law_field_here", "_law_element", "_law_one", "_law_a"]) (sc := defScope s__law_scaled) (by decide +kernel)) (fun _ _ _ _ _ => pg_name (i := 3) sc__law_scaled.nd rfl (Or.inl rfl)) (fun _ _ _ _ _ => pts_nil) (fun _ _ _ _ _ => (pe_ix (r := rIxL K) ix_list (pe_ix (r := rIxL K) ix_list (pe_dget (hu_of hr) (pv 0) pe_str (fun _ _ => rfl)) (pv 1) (fun _ _ => rfl)) (pv 3) (fun _ _ => rfl)))) pa_nil)))), ?_⟩
    obtain ⟨_, kvs, a1, a2, a3, hdk, gq, gp, gf, g1, g2, g3, l1, l2, _, hm_⟩ := id hf
    refine s_retU (eu_call1L (xs := (xs.map (pE q e)).map N_) (el_is (el_lcT (K := K) (a := a) (xs := xs.map N_) (fun _ => true) (fun i => N_ (pE q e (xs.getD i 0))) (ev_var rfl) hx (by rw [List.length_map]; omega) (fun _ => rfl) (fun _ _ _ _ _ => et_nil) (fun i x H2 e2 h5 _ => ?_)) ?_) (fun p H4 e4 h4 => sv__law_trim (K := K) (sq_of h4) (by rw [List.length_map]; omega))) fun p H4 np e4 h4 => kk p H4 np e4 h4
    · have hi1 : i < xs.length := by
        have := (List.getElem?_eq_some_iff.mp h5).1
        rwa [List.length_map] at this
      rw [get_N hi1] at h5
      cases h5
      exact ev_t2 (N := fun _ => True) (l2.ex e2) (ev_dg (ev_var rfl) (e2 _ _ hdk) g2) (ev_var rfl) (ev_var rfl) he (lx.get (by have := hq.b; omega) i)
    · rw [given_range, List.length_map, List.map_map]
      refine List.ext_getElem? fun i => ?_
      rw [List.getElem?_map, List.getElem?_map]
      by_cases hi : i < xs.length
      · rw [List.getElem?_range hi, getD_get hi]
        rfl
      · rw [List.getElem?_eq_none (by rw [List.length_range]; omega), List.getElem?_eq_none (by omega)]
        rfl


theorem atI_lastN {xs : List V} {n : Nat} {v : V} (hl : xs.length = n + 1) (h : xs[n]? = some v) : atI xs (-1) = some v := by
  have e : xs = xs.take n ++ [v] := by
    rw [← take_snocT h, ← hl, List.take_length]
  rw [e]
  exact atI_last _ _
section
variable {K : PySem.W.Frag} {σ : L2.St} {H H' : Hp} {ta tb te : TE} {t : TT}
/-- a list, new or not -/
def EvLs (K : PySem.W.Frag) (te : TE) (σ : L2.St) (H : Hp) (xs : List V) : Prop := ∀ H1, Ex H H1 → ∀ Q : VK, (∀ p H2, Ex H1 H2 → SqL K H2 p xs → Q (.ref p) H2) → te σ H1 Q
theorem ls_new {xs : List V} (h : EvL te σ H xs) : EvLs K te σ H xs := fun H1 e Q q => h H1 e _ fun p H2 np e2 h2 => q p H2 e2 (sq_of h2)
theorem ls_var {a : Addr} {xs : List V} (h : Ev te σ H (.ref a)) (hx : SqL K H a xs) : EvLs K te σ H xs := fun H1 e Q q => h H1 e _ fun H2 e2 => q a H2 e2 (ex_l (e.trans e2) hx)
theorem ls_if {b : Bool} {xs : List V} (ht : EvT t σ H b) (h1 : b = true → ∀ H1, Ex H H1 → EvLs K ta σ H1 xs) (h2 : b = false → ∀ H1, Ex H H1 → EvLs K tb σ H1 xs) : EvLs K (tIf t ta tb) σ H xs := fun H1 e Q q =>
  ht H1 e _ fun H2 e2 => by
    cases b with
    | true => exact h1 rfl H2 (e.trans e2) H2 (Ex.refl H2) Q fun p H3 e3 h3 => q p H3 (e2.trans e3) h3
    | false => exact h2 rfl H2 (e.trans e2) H2 (Ex.refl H2) Q fun p H3 e3 h3 => q p H3 (e2.trans e3) h3
theorem tt_if {b : Bool} {xs : List V} (ht : EvT t σ H b) (h1 : b = true → ∀ H1, Ex H H1 → EvTt K ta σ H1 xs) (h2 : b = false → ∀ H1, Ex H H1 → EvTt K tb σ H1 xs) : EvTt K (tIf t ta tb) σ H xs := fun H1 e Q q =>
  ht H1 e _ fun H2 e2 => by
    cases b with
    | true => exact h1 rfl H2 (e.trans e2) H2 (Ex.refl H2) Q (q.go e2)
    | false => exact h2 rfl H2 (e.trans e2) H2 (Ex.refl H2) Q (q.go e2)
theorem eu_call1S {sp : Sp} {xs ys : List V} {E : XK} (h : EvLs K te σ H xs) (hs : ∀ p H1, Ex H H1 → SqL K H1 p xs → SpU sp [.ref p] H1 ys) : EvU (tCall sp [] E (tCons te tNil)) σ H ys := fun H1 e Q q =>
  h H1 e _ fun p H2 e2 hp => hs p H2 (e.trans e2) hp H2 (Ex.refl H2) Q (fun r H3 nr e3 hr => q r H3 (fresh_back e2 nr) (e2.trans e3) hr) _
end
/-- the division, from the top -/
def ptS (q : Nat) (ys : List Nat) (n bk : Nat) : Nat → List Nat → List Nat → List Nat × List Nat
  | 0, l, f => (l, f)
  | c + 1, l, f => ptS q ys n bk c (if pE q (l.getD (c + n - 1) 0) bk = 0 then l else adA q (oE q (pE q (l.getD (c + n - 1) 0) bk)) ys c l) (f.set c (pE q (l.getD (c + n - 1) 0) bk))
def bkQ (q : Nat) (ys : List Nat) : Nat := ivE q (ys.getD (ys.length - 1) 0)
def ptP (q : Nat) (xs ys : List Nat) : List Nat × List Nat := ptS q ys ys.length (bkQ q ys) (xs.length + 1 - ys.length) xs (List.replicate (xs.length + 1 - ys.length) 0)
def ptQ (q : Nat) (xs ys : List Nat) : List Nat := trN (ptP q xs ys).2
def ptR (q : Nat) (xs ys : List Nat) : List Nat := trN (if ys.length ≤ xs.length then (ptP q xs ys).1.take (ys.length - 1) else (ptP q xs ys).1)
section
variable {K : PySem.W.Frag} {σ : L2.St} {H H' : Hp} {ta tb tc te tl tn : TE} {t : TT} {D : Ends} {tu tz : TS} {x y : V}
theorem q_parLX {i j : Nat} {xs : List V} (h : EvL ta σ H xs) (h2 : Ev tb σ H y) (k : ∀ p H1, H p = none → Ex H H1 → H1 p = some (.lst xs) → tz D ((σ.set i (some (.ref p))).set j (some y)) H1) : tSeq (tPar i j (tCons ta (tCons tb tNil))) tz D σ H :=
  h H (Ex.refl H) _ fun p H1 np e1 hx => h2 H1 e1 _ fun H2 e2 => ⟨.ref p, y, rfl, k p H2 np (e1.trans e2) (e2 _ _ hx)⟩
end
def sp__law_parted (K : PySem.W.Frag) : Sp := fun vs H Q _ => ∃ (d a b : Addr) (q : Nat) (xs ys : List Nat), vs = [.ref d, .ref a, .ref b] ∧ Fq q ∧ FldAt (fun _ => True) H d q ∧ SqT K H a (xs.map N_) ∧ SqT K H b (ys.map N_) ∧ Lq q xs ∧ Lq q ys ∧ 1 ≤ ys.length ∧ ys.getD (ys.length - 1) 0 ≠ 0 ∧ xs.length ≤ 3000 ∧ ys.length ≤ 3000 ∧ ∀ (p r s : Addr) H', Ex H H' → H' p = some (.tup [.ref r, .ref s]) → SqT K H' r ((ptQ q xs ys).map N_) → SqT K H' s ((ptR q xs ys).map N_) → Q (.ref p) H'

theorem ok__law_parted {P : Program} {w : World} {K : PySem.W.Frag} {mg : Str → Option Value} {base : Heap} (T : Txt K mg) : FnOk P w K mg base CX0 2 T.a__law_parted T.d__law_parted ["_law_field_here", "_law_one", "_law_other"] (sp__law_parted K) := by
  refine T.F__law_parted.ok sc__law_parted (fun vs H Q E h => ?_) (fun cdv A outer s H vs Q E hr h => ?_)
  · obtain ⟨d, a, b, q, xs, ys, rfl, _⟩ := h
    rfl
  · obtain ⟨d, a, b, q, xs, ys, rfl, hq, hf, hx, hy, lx, ly, hy1, hne, hlx, hly, kk⟩ := h
    refine ⟨_, (pss_cons (ps_par (i := 3) (j := 4) (by rfl) sc__law_parted.nd rfl rfl (by decide) rfl rfl (pa_cons (pe_callTy call_list_of (by rfl) T.z_list (by decide +kernel) (pa_cons (pv 1) pa_nil)) (pa_cons (pe_callB call_len_seq (by rfl) T.z_len (by decide +kernel) (pa_cons (pv 2) pa_nil)) pa_nil)) (by rfl))
      (pss_cons (ps_set (i := 5) sc__law_parted.nd rfl (Or.inl rfl) (pe_bm PySem.F.plainAttrs_list PySem.F.slot_list_index PySem.F.type_list_index mt_index (pe_ix (r := rIxL K) ix_list (pe_dget (hu_of hr) (pv 0) pe_str (fun _ _ => rfl)) (pe_ix (r := rIxT K) ix_tup (pv 2) (pe_un un_neg pe_int) (fun _ _ => rfl)) (fun _ _ => rfl)) (pa_cons pe_int pa_nil)))
      (pss_cons (ps_set (i := 6) sc__law_parted.nd rfl (Or.inl rfl) (pe_op op_rep (pe_lst (pa_cons pe_int pa_nil)) (pe_callB (call_max2 rfl) (by rfl) T.z_max (by decide +kernel) (pa_cons pe_int (pa_cons (pe_op op_add (pe_op op_sub (pe_callB call_len_seq (by rfl) T.z_len (by decide +kernel) (pa_cons (pv 1) pa_nil)) (pv 4)) pe_int) pa_nil)))))
      (pss_cons (ps_for PassesOwn.never rfl (pi_range3 rfl T.z_range (pa_cons (pe_op op_sub (pe_callB call_len_seq (by rfl) T.z_len (by decide +kernel) (pa_cons (pv 6) pa_nil)) pe_int) (pa_cons (pe_un un_neg pe_int) (pa_cons (pe_un un_neg pe_int) pa_nil)))) (pg_name (i := 7) sc__law_parted.nd rfl (Or.inl rfl)) (pss_cons (ps_set (i := 8) sc__law_parted.nd rfl (Or.inl rfl) (pe_ix (r := rIxL K) ix_list (pe_ix (r := rIxL K) ix_list (pe_dget (hu_of hr) (pv 0) pe_str (fun _ _ => rfl)) (pe_ix (r := rIxL K) ix_list (pv 3) (pe_op op_sub (pe_op op_add (pv 7) (pv 4)) pe_int) (fun _ _ => rfl)) (fun _ _ => rfl)) (pv 5) (fun _ _ => rfl)))
      (pss_cons (ps_asg (pv 8) (pg_sub (pv 6) (pv 7) set_list))
      (pss_one (ps_if (pt_cmpR op_ne (pv 8) pe_int (nomark _)) (pss_one (ps_for PassesOwn.never rfl (pi_range1 rfl T.z_range (pa_cons (pv 4) pa_nil)) (pg_name (i := 9) sc__law_parted.nd rfl (Or.inl rfl)) (pss_one (ps_asg (pe_ix (r := rIxL K) ix_list (pe_ix (r := rIxL K) ix_list (pe_dget (hu_of hr) (pv 0) pe_str (fun _ _ => rfl)) (pe_ix (r := rIxL K) ix_list (pv 3) (pe_op op_add (pv 7) (pv 9)) (fun _ _ => rfl)) (fun _ _ => rfl)) (pe_ix (r := rIxL K) ix_list (pe_dget (hu_of hr) (pv 0) pe_str (fun _ _ => rfl)) (pe_ix (r := rIxL K) ix_list (pe_ix (r := rIxL K) ix_list (pe_dget (hu_of hr) (pv 0) pe_str (fun _ _ => rfl)) (pv 8) (fun _ _ => rfl)) (pe_ix (r := rIxT K) ix_tup (pv 2) (pv 9) (fun _ _ => rfl)) (fun _ _ => rfl)) (fun _ _ => rfl)) (fun _ _ => rfl)) (pg_sub (pv 3) (pe_op op_add (pv 7) (pv 9)) set_list))))) pss_nil)))))
      (pss_one (ps_ret (pe_tup (pa_cons (pe_call (ok__law_trim T) (hr.mono (by decide)) (by rfl) T.g__law_trim T.F__law_trim.kp T.b__law_trim .nil pass0 (pa_cons (pv 6) pa_nil)) (pa_cons (pe_call (ok__law_trim T) (hr.mono (by decide)) (by rfl) T.g__law_trim T.F__law_trim.kp T.b__law_trim .nil pass0 (pa_cons (pe_ifExp (pt_cmpR op_ge (pe_callB call_len_seq (by rfl) T.z_len (by decide +kernel) (pa_cons (pv 1) pa_nil)) (pv 4) (nomark _)) (pe_slice sl_list (pv 3) po_none (po_some (pe_op op_sub (pv 4) pe_int))) (pv 3)) pa_nil)) pa_nil))))))))), ?_⟩
    have hq0 := hq.b
    obtain ⟨_, kvs, a1, a2, a3, hdk, gq, gp, gf, g1, g2, g3, l1, l2, _, hmi⟩ := id hf
    have hlast : ys.getD (ys.length - 1) 0 < q := ly.get (by omega) _
    obtain ⟨hiv, _, _⟩ := iv_ok hq hlast hne
    refine q_parLX (xs := xs.map N_) (y := N_ ys.length) (el_listT (K := K) (ev_var rfl) hx) (ev_is (ev_cb (r := rLenQ K) (ea_cons (ev_var rfl) ea_nil) (rc_lenT hy)) (by rw [List.length_map])) fun l0 H1 nl0 e1 h1 => ?_
    refine q_asg (v := N_ (bkQ q ys)) (ev_inv (K := K) (N := fun _ => True) hq (l2.ex e1) (ev_dg (ev_var rfl) (e1 _ _ hdk) g2) (ev_op (ev_var rfl) (ev_un ev_c ru_neg) (rv_ixT (ex_t e1 hy) (v := N_ (ys.getD (ys.length - 1) 0)) ?_)) hlast hne) fun H2 e2 => ?_
    · show atI (ys.map N_) (-1) = some _
      exact atI_lastN (n := ys.length - 1) (by rw [List.length_map]; omega) (get_N (by omega))
    generalize hc : xs.length + 1 - ys.length = C at *
    refine q_asgL (xs := (List.replicate C 0).map N_) (el_is (el_rep (xs := [V.int 0]) (k := (C : Int)) (el_lst (ea_cons ev_c ea_nil) (by show 1 ≤ 100000; decide)) (ev_is (ev_cb (ea_cons ev_c (ea_cons (ev_op (ev_op (ev_is (ev_cb (r := rLenQ K) (ea_cons (ev_var rfl) ea_nil) (rc_lenT (ex_t (e1.trans e2) hx))) (by rw [List.length_map])) (ev_var rfl) rv_I0) ev_c rv_I0) ea_nil)) rc_max2) (congrArg V.int (by split <;> omega))) (by omega) (by show 1 * _ ≤ 100000; omega) (by omega)) (by rw [Int.toNat_natCast, rep_flat])) fun f0 H3 nf0 e3 h3 => ?_
    have hlf : l0 ≠ f0 := fun z => by
      have := (e2.trans e3) _ _ h1
      have hn := fresh_back (Ex.refl H) nl0
      rw [z] at h1
      have h9 := e2 _ _ h1
      rw [h9] at nf0
      cases nf0
    have e03 := (e1.trans e2).trans e3
    have hbk : bkQ q ys < q := hiv
    refine q_forRd (lo := (C : Int) - 1) (n := -1) (ea_cons (ev_op (ev_is (ev_cb (r := rLenQ K) (ea_cons (ev_var rfl) ea_nil) (rc_lenL (sq_of h3))) (by rw [List.length_map, List.length_replicate])) ev_c rv_I0) (ea_cons (ev_un ev_c ru_neg) (ea_cons (ev_un ev_c ru_neg) ea_nil))) ⟨by omega, by omega, by decide, by decide⟩ (fun i σ H' => ∃ (l f : List Nat) (y7 y8 y9 : Option V), σ = [some (.ref d), some (.ref a), some (.ref b), some (.ref l0), some (N_ ys.length), some (N_ (bkQ q ys)), some (.ref f0), y7, y8, y9] ∧ Ex H H' ∧ H' l0 = some (.lst (l.map N_)) ∧ H' f0 = some (.lst (f.map N_)) ∧ l.length = xs.length ∧ f.length = C ∧ Lq q l ∧ ptS q ys ys.length (bkQ q ys) (C - i) l f = ptP q xs ys) (fun H4 e4 => ⟨xs, List.replicate C 0, none, none, none, rfl, e03.trans e4, e4 _ _ ((e2.trans e3) _ _ h1), e4 _ _ h3, rfl, List.length_replicate, lx, by unfold ptP; rw [hc, Nat.sub_zero]⟩) (fun i σ H4 hi hw => ?_) (fun σ H4 hw => ?_)
    · obtain ⟨l, f, y7, y8, y9, rfl, e4, hl4, hf4, hll, hfl, lql, hpt⟩ := hw
      have hiC : i < C := by omega
      obtain ⟨c, hci⟩ : ∃ c, C - i = c + 1 := ⟨C - i - 1, by omega⟩
      rw [hci] at hpt
      have hcx : c + ys.length - 1 < l.length := by omega
      have hat : ((C : Int) - 1 - (i : Int)) = (c : Int) := by omega
      rw [hat]
      have hlc := lql.get (by omega) (c + ys.length - 1)
      generalize hF : pE q (l.getD (c + ys.length - 1) 0) (bkQ q ys) = F at *
      have hFq : F < q := by rw [← hF]; exact pE_lt hq hlc hbk
      have hstep : ptS q ys ys.length (bkQ q ys) (c + 1) l f = ptS q ys ys.length (bkQ q ys) c (if F = 0 then l else adA q (oE q F) ys c l) (f.set c F) := by
        show ptS q ys ys.length (bkQ q ys) c (if pE q (l.getD (c + ys.length - 1) 0) (bkQ q ys) = 0 then _ else _) _ = _
        rw [hF]
      rw [hstep] at hpt
      refine q_asg (v := N_ F) (ev_is (ev_t2 (N := fun _ => True) (l2.ex e4) (ev_dg (ev_var rfl) (e4 _ _ hdk) g2) (ev_op (ev_var rfl) (ev_op (ev_op (ev_var rfl) (ev_var rfl) rv_I0) ev_c rv_I0) (rv_ixL (v := N_ (l.getD (c + ys.length - 1) 0)) (sq_of hl4) (by rw [show ((c : Int) + (ys.length : Int) - 1) = ((c + ys.length - 1 : Nat) : Int) by omega]; exact atI_nat (get_N hcx)))) (ev_var rfl) hlc hbk) (by rw [hF])) fun H5 e5 => ?_
      refine q_setL (j := c) (v := N_ F) (e5 _ _ hf4) (ev_var rfl) (ev_var rfl) (ev_var rfl) (by rw [List.length_map]; omega) fun H6 e6 => ?_
      have e46 : Ex H (upd H6 f0 (.lst ((f.map N_).set c (N_ F)))) := Ex.mut ((e4.trans e5).trans e6) (fresh_back (e1.trans e2) nf0)
      have hl6 : (upd H6 f0 (.lst ((f.map N_).set c (N_ F)))) l0 = some (.lst (l.map N_)) := by rw [upd_ne hlf]; exact (e5.trans e6) _ _ hl4
      have hf6 : (upd H6 f0 (.lst ((f.map N_).set c (N_ F)))) f0 = some (.lst ((f.set c F).map N_)) := by rw [upd_same, List.map_set]
      generalize upd H6 f0 (.lst ((f.map N_).set c (N_ F))) = HX at *
      have hsub : C - (i + 1) = c := by omega
      refine s_when (b := !decide (F = 0)) (et_is (et_test (ev_op (ev_var rfl) ev_c (rv_ne rfl))) (congrArg (fun b => !b) (dec_int (y := 0)))) (fun hb2 H7 e7 => ?_) (fun hb2 H7 e7 => ?_)
      · have hF0 : F ≠ 0 := by
          rw [Bool.not_eq_true', decide_eq_false_iff_not] at hb2
          exact hb2
        rw [if_neg hF0] at hpt
        have hoF := oE_lt hq hFq
        refine s_forR1 (n := (ys.length : Int)) (ea_cons (ev_var rfl) ea_nil) ⟨by omega, by omega⟩ (fun j σ H' => ∃ (y9 : Option V), σ = [some (.ref d), some (.ref a), some (.ref b), some (.ref l0), some (N_ ys.length), some (N_ (bkQ q ys)), some (.ref f0), some (N_ c), some (N_ F), y9] ∧ Ex H H' ∧ H' l0 = some (.lst ((adA q (oE q F) (ys.take j) c l).map N_)) ∧ H' f0 = some (.lst ((f.set c F).map N_))) (fun H8 e8 => ⟨y9, rfl, (e46.trans e7).trans e8, by rw [List.take_zero, adA_zero]; exact (e7.trans e8) _ _ hl6, (e7.trans e8) _ _ hf6⟩) (fun j σ H8 hj hw => ?_) (fun σ H8 hw => ?_)
        · obtain ⟨y9, rfl, e8, hl8, hf8⟩ := hw
          have hjl : j < ys.length := by omega
          have hjc : j + c < l.length := by omega
          obtain ⟨hg, hs⟩ := adA_step q (oE q F) ys c l j _ _ (getD_get hjl) (getD_get hjc)
          have hla : (adA q (oE q F) (ys.take j) c l).length = l.length := adA_len ..
          have hga : (adA q (oE q F) (ys.take j) c l).getD (j + c) 0 = l.getD (j + c) 0 := by
            rw [List.getD_eq_getElem?_getD, hg]
            rfl
          have hyj := ly.get (by omega) j
          have hpl : ∀ H9, Ex H8 H9 → Ev (tOp (rI0 fun i j => V.int (i + j)) (tVar 7) (tVar 9)) [some (.ref d), some (.ref a), some (.ref b), some (.ref l0), some (N_ ys.length), some (N_ (bkQ q ys)), some (.ref f0), some (N_ c), some (N_ F), some (N_ j)] H9 (.int ((j + c : Nat) : Int)) := fun H9 e9 => ev_is (ev_op (ev_var rfl) (ev_var rfl) rv_I0) (congrArg V.int (by omega))
          have dk8 := e8 _ _ hdk
          refine s_setL (j := j + c) (v := N_ (sE q (l.getD (j + c) 0) (pE q (ys.getD j 0) (oE q F)))) hl8 (ev_is (ev_t2 (K := K) (N := fun _ => True) (l1.ex e8) (ev_dg (ev_var rfl) dk8 g1) (ev_op (ev_var rfl) (hpl H8 (Ex.refl H8)) (rv_ixL (v := N_ (l.getD (j + c) 0)) (sq_of hl8) (atI_nat (by rw [get_N (by rw [hla]; exact hjc), hga])))) (ev_op (ev_dg (ev_var rfl) dk8 g3) (ev_t2 (K := K) (N := fun _ => True) (l2.ex e8) (ev_dg (ev_var rfl) dk8 g2) (ev_var rfl) (ev_op (ev_var rfl) (ev_var rfl) (rv_ixT (v := N_ (ys.getD j 0)) (ex_t e8 hy) (atI_nat (get_N hjl)))) hFq hyj) (rv_ixL (v := N_ (oE q (pE q F (ys.getD j 0)))) (sq_of (e8 _ _ hmi)) (atI_nat (by rw [List.getElem?_map, List.getElem?_map, List.getElem?_range (pE_lt hq hFq hyj)]; rfl)))) (lql.get (by omega) _) (oE_lt hq (pE_lt hq hFq hyj))) (by rw [og_ok hq hFq hyj])) (ev_var rfl) (hpl H8 (Ex.refl H8)) (by rw [List.length_map, hla]; exact hjc) fun H9 e9 => ?_
          refine ⟨_, rfl, Ex.mut (e8.trans e9) nl0, ?_, by rw [upd_ne (Ne.symm hlf)]; exact e9 _ _ hf8⟩
          rw [upd_same, hs, List.map_set]
        · obtain ⟨y9, rfl, e8, hl8, hf8⟩ := hw
          rw [Int.toNat_natCast, List.take_length] at hl8
          refine ⟨adA q (oE q F) ys c l, f.set c F, _, _, _, rfl, e8, hl8, hf8, by rw [adA_len]; exact hll, by rw [List.length_set]; exact hfl, adA_lq hq hoF ly c l lql, by rw [hsub]; exact hpt⟩
      · have hF0 : F = 0 := by
          rw [Bool.not_eq_false', decide_eq_true_eq] at hb2
          exact hb2
        rw [if_pos hF0] at hpt
        exact ⟨l, f.set c F, _, _, _, rfl, e46.trans e7, e7 _ _ hl6, e7 _ _ hf6, hll, by rw [List.length_set]; exact hfl, lql, by rw [hsub]; exact hpt⟩
    · obtain ⟨l, f, y7, y8, y9, rfl, e4, hl4, hf4, hll, hfl, lql, hpt⟩ := hw
      rw [show ((C : Int) - 1 - -1).toNat = C by omega, Nat.sub_self] at hpt
      have hpt : (l, f) = ptP q xs ys := hpt
      have hQ : ptQ q xs ys = trN f := by unfold ptQ; rw [← hpt]
      have hR : ptR q xs ys = trN (if ys.length ≤ xs.length then l.take (ys.length - 1) else l) := by unfold ptR; rw [← hpt]
      refine (eu_call (ea_cons (ev_var rfl) ea_nil) (sv__law_trim (K := K) (xs := f) (sq_of hf4) (by omega))) H4 (Ex.refl _) _ fun r H5 nr e5 h5 => ?_
      have hl5 := e5 _ _ hl4
      refine (eu_call1S (K := K) (xs := (if ys.length ≤ xs.length then l.take (ys.length - 1) else l).map N_) (ls_if (b := decide (ys.length ≤ xs.length)) (et_is (et_test (ev_op (ev_is (ev_cb (r := rLenQ K) (ea_cons (ev_var rfl) ea_nil) (rc_lenT (ex_t (e4.trans e5) hx))) (by rw [List.length_map])) (ev_var rfl) rv_I0)) (decide_eq_decide.mpr (by omega))) (fun hb H6 e6 => ?_) (fun hb H6 e6 => ?_)) (fun p H6 e6 h6 => sv__law_trim (K := K) h6 ?_)) H5 (Ex.refl _) _ fun s H6 ns e6 h6 => ⟨by show 2 ≤ sizeLine; decide, fun p np => ?_⟩
      · rw [if_pos (of_decide_eq_true hb)]
        exact ls_new (el_is (el_sl (K := K) (ev_var rfl) eo_none (eo_some (ev_is (w := N_ (ys.length - 1)) (ev_op (ev_var rfl) ev_c rv_I0) (congrArg V.int (by omega)))) (sq_of (e6 _ _ hl5))) (by rw [cutTake, List.map_take]))
      · rw [if_neg (of_decide_eq_false hb)]
        exact ls_var (ev_var rfl) (sq_of (e6 _ _ hl5))
      · split
        · rw [List.length_take]; omega
        · omega
      · exact kk p r s _ (((e4.trans e5).trans e6).trans (Ex.new np)) upd_same (by rw [hQ]; exact ex_t (Ex.new np) (st_of (e6 _ _ h5))) (by rw [hR]; exact ex_t (Ex.new np) (st_of h6))


theorem pt_len {q : Nat} (ys : List Nat) (n bk : Nat) : ∀ (c : Nat) (l f : List Nat), (ptS q ys n bk c l f).1.length = l.length ∧ (ptS q ys n bk c l f).2.length = f.length
  | 0, l, f => ⟨rfl, rfl⟩
  | c + 1, l, f => by
    obtain ⟨h1, h2⟩ := pt_len (q := q) ys n bk c (if pE q (l.getD (c + n - 1) 0) bk = 0 then l else adA q (oE q (pE q (l.getD (c + n - 1) 0) bk)) ys c l) (f.set c (pE q (l.getD (c + n - 1) 0) bk))
    refine ⟨?_, ?_⟩
    · show (ptS q ys n bk c _ _).1.length = _
      rw [h1]
      split
      · rfl
      · rw [adA_len]
    · show (ptS q ys n bk c _ _).2.length = _
      rw [h2, List.length_set]
theorem pt_lq {q : Nat} (hq : Fq q) {ys : List Nat} (ly : Lq q ys) (n : Nat) {bk : Nat} (hb : bk < q) : ∀ (c : Nat) (l f : List Nat), Lq q l → Lq q f → Lq q (ptS q ys n bk c l f).1 ∧ Lq q (ptS q ys n bk c l f).2
  | 0, l, f, h1, h2 => ⟨h1, h2⟩
  | c + 1, l, f, h1, h2 => by
    have h0 : 0 < q := by have := hq.b; omega
    have hF := pE_lt hq (h1.get h0 (c + n - 1)) hb
    refine pt_lq hq ly n hb c _ _ ?_ ?_
    · split
      · exact h1
      · exact adA_lq hq (oE_lt hq hF) ly c l h1
    · intro z hz
      rcases List.mem_or_eq_of_mem_set hz with hz | hz
      · exact h2 z hz
      · rw [hz]; exact hF
theorem tr_lq {q : Nat} {xs : List Nat} (h : Lq q xs) : Lq q (trN xs) := fun z hz => h z (tr_mem hz)
theorem ptP_lq {q : Nat} (hq : Fq q) {xs ys : List Nat} (lx : Lq q xs) (ly : Lq q ys) (hy : 1 ≤ ys.length) (hne : ys.getD (ys.length - 1) 0 ≠ 0) : Lq q (ptQ q xs ys) ∧ Lq q (ptR q xs ys) := by
  have h0 : 0 < q := by have := hq.b; omega
  have hb := (iv_ok hq (ly.get h0 (ys.length - 1)) hne).1
  obtain ⟨h1, h2⟩ := pt_lq hq ly ys.length (bk := bkQ q ys) hb (xs.length + 1 - ys.length) xs (List.replicate (xs.length + 1 - ys.length) 0) lx (fun z hz => by rw [(List.mem_replicate.mp hz).2]; exact h0)
  refine ⟨tr_lq h2, tr_lq ?_⟩
  split
  · exact fun z hz => h1 z (List.mem_of_mem_take hz)
  · exact h1
theorem tr_le (xs : List Nat) : (trN xs).length ≤ xs.length := (tr_take xs).2.1
theorem ptR_len {q : Nat} (xs ys : List Nat) (hy : 1 ≤ ys.length) : (ptR q xs ys).length < ys.length := by
  unfold ptR
  refine Nat.lt_of_le_of_lt (tr_le _) ?_
  split
  · rw [List.length_take]; omega
  · rename_i h
    have := (pt_len (q := q) ys ys.length (bkQ q ys) (xs.length + 1 - ys.length) xs (List.replicate (xs.length + 1 - ys.length) 0)).1
    unfold ptP
    omega
theorem ptQ_len {q : Nat} (xs ys : List Nat) : (ptQ q xs ys).length ≤ xs.length + 1 - ys.length := by
  unfold ptQ
  refine Nat.le_trans (tr_le _) ?_
  have := (pt_len (q := q) ys ys.length (bkQ q ys) (xs.length + 1 - ys.length) xs (List.replicate (xs.length + 1 - ys.length) 0)).2
  rw [List.length_replicate] at this
  unfold ptP
  omega
def Tr (xs : List Nat) : Prop := xs.length ≠ 0 → xs.getD (xs.length - 1) 0 ≠ 0
theorem tr_tr (xs : List Nat) : Tr (trN xs) := fun h => by
  obtain ⟨_, _, h3, _⟩ := tr_take xs
  rw [tr_getD]
  exact h3 h
/-- a part of the division -/
theorem tt_parted {K : PySem.W.Frag} {σ : L2.St} {H : Hp} {ta : TA} {E : XK} {d a b : Addr} {q : Nat} {xs ys : List Nat} (one : Bool) (h : EvA ta σ H [.ref d, .ref a, .ref b]) (hq : Fq q) (hf : FldAt (fun _ => True) H d q) (hx : SqT K H a (xs.map N_)) (hy : SqT K H b (ys.map N_)) (lx : Lq q xs) (ly : Lq q ys) (hy1 : 1 ≤ ys.length) (hne : ys.getD (ys.length - 1) 0 ≠ 0) (hlx : xs.length ≤ 3000) (hly : ys.length ≤ 3000) :
    EvTt K (tOp (rIxT K) (tCall (sp__law_parted K) [] E ta) (tC (.int (if one then 1 else 0)))) σ H ((if one then ptR q xs ys else ptQ q xs ys).map N_) := fun H0 e0 Q kk =>
  h H0 e0 _ fun H1 e1 => ⟨d, a, b, q, xs, ys, rfl, hq, (hf.ex e0).ex e1, ex_t (e0.trans e1) hx, ex_t (e0.trans e1) hy, lx, ly, hy1, hne, hlx, hly, fun p r s H2 e2 h2 sr ss => by
    cases one with
    | true => exact (ev_op (σ := σ) (H := H2) (ta := tC (.ref p)) (tb := tC (.int 1)) ev_c ev_c (rv_ixT (K := K) (v := .ref s) (st_of h2) rfl)) H2 (Ex.refl _) _ fun H3 e3 => kk s H3 ((e1.trans e2).trans e3) (ex_t e3 ss)
    | false => exact (ev_op (σ := σ) (H := H2) (ta := tC (.ref p)) (tb := tC (.int 0)) ev_c ev_c (rv_ixT (K := K) (v := .ref r) (st_of h2) rfl)) H2 (Ex.refl _) _ fun H3 e3 => kk r H3 ((e1.trans e2).trans e3) (ex_t e3 sr)⟩
def sp__law_rest (K : PySem.W.Frag) : Sp := fun vs H Q _ => ∃ (d a b : Addr) (q : Nat) (xs ys : List Nat), vs = [.ref d, .ref a, .ref b] ∧ Fq q ∧ FldAt (fun _ => True) H d q ∧ SqT K H a (xs.map N_) ∧ SqT K H b (ys.map N_) ∧ Lq q xs ∧ Lq q ys ∧ 1 ≤ ys.length ∧ ys.getD (ys.length - 1) 0 ≠ 0 ∧ xs.length ≤ 3000 ∧ ys.length ≤ 3000 ∧ RetTt K ((ptR q xs ys).map N_) H Q
theorem sv__law_rest {K : PySem.W.Frag} {H : Hp} {d a b : Addr} {q : Nat} {xs ys : List Nat} (hq : Fq q) (hf : FldAt (fun _ => True) H d q) (hx : SqT K H a (xs.map N_)) (hy : SqT K H b (ys.map N_)) (lx : Lq q xs) (ly : Lq q ys) (hy1 : 1 ≤ ys.length) (hne : ys.getD (ys.length - 1) 0 ≠ 0) (hlx : xs.length ≤ 3000) (hly : ys.length ≤ 3000) : ∀ H1, Ex H H1 → ∀ Q : VK, RetTt K ((ptR q xs ys).map N_) H1 Q → ∀ E, sp__law_rest K [.ref d, .ref a, .ref b] H1 Q E := fun H1 e1 Q kk E => ⟨d, a, b, q, xs, ys, rfl, hq, hf.ex e1, ex_t e1 hx, ex_t e1 hy, lx, ly, hy1, hne, hlx, hly, kk⟩

theorem ok__law_rest {P : Program} {w : World} {K : PySem.W.Frag} {mg : Str → Option Value} {base : Heap} (T : Txt K mg) : FnOk P w K mg base CX0 3 T.a__law_rest T.d__law_rest ["_law_field_here", "_law_one", "_law_other"] (sp__law_rest K) := by
  refine T.F__law_rest.ok sc__law_rest (fun vs H Q E h => ?_) (fun cdv A outer s H vs Q E hr h => ?_)
  · obtain ⟨d, a, b, q, xs, ys, rfl, _⟩ := h
    rfl
  · obtain ⟨d, a, b, q, xs, ys, rfl, hq, hf, hx, hy, lx, ly, hy1, hne, hlx, hly, kk⟩ := h
    refine ⟨_, (pss_one (ps_ret (pe_ix (r := rIxT K) ix_tup (pe_call (ok__law_parted T) (hr.mono (by decide)) (by rfl) T.g__law_parted T.F__law_parted.kp T.b__law_parted .nil pass0 (pa_cons (pv 0) (pa_cons (pv 1) (pa_cons (pv 2) pa_nil)))) pe_int (fun _ _ => rfl)))), ?_⟩
    exact s_retT (tt_parted (K := K) true (ea_cons (ev_var rfl) (ea_cons (ev_var rfl) (ea_cons (ev_var rfl) ea_nil))) hq hf hx hy lx ly hy1 hne hlx hly) kk


def mcN (q : Nat) (xs : List Nat) : List Nat := if xs = [] then [] else scN q (ivE q (xs.getD (xs.length - 1) 0)) xs
def sp__law_monic_of (K : PySem.W.Frag) : Sp := fun vs H Q _ => ∃ (d a : Addr) (q : Nat) (xs : List Nat), vs = [.ref d, .ref a] ∧ Fq q ∧ FldAt (fun _ => True) H d q ∧ SqT K H a (xs.map N_) ∧ Lq q xs ∧ Tr xs ∧ xs.length ≤ 3000 ∧ RetTt K ((mcN q xs).map N_) H Q

theorem ok__law_monic_of {P : Program} {w : World} {K : PySem.W.Frag} {mg : Str → Option Value} {base : Heap} (T : Txt K mg) : FnOk P w K mg base CX0 3 T.a__law_monic_of T.d__law_monic_of ["_law_field_here", "_law_one"] (sp__law_monic_of K) := by
  refine T.F__law_monic_of.ok sc__law_monic_of (fun vs H Q E h => ?_) (fun cdv A outer s H vs Q E hr h => ?_)
  · obtain ⟨d, a, q, xs, rfl, _⟩ := h
    rfl
  · obtain ⟨d, a, q, xs, rfl, hq, hf, hx, lx, htr, hl, kk⟩ := h
    refine ⟨_, (pss_one (ps_ret (pe_ifExp (pt_cmpR (op_neD hr.units) (pv 1) (pe_tup pa_nil) (nomark _)) (pe_call (ok__law_scaled T) (hr.mono (by decide)) (by rfl) T.g__law_scaled T.F__law_scaled.kp T.b__law_scaled .nil pass0 (pa_cons (pv 0) (pa_cons (pe_bm PySem.F.plainAttrs_list PySem.F.slot_list_index PySem.F.type_list_index mt_index (pe_ix (r := rIxL K) ix_list (pe_dget (hu_of hr) (pv 0) pe_str (fun _ _ => rfl)) (pe_ix (r := rIxT K) ix_tup (pv 1) (pe_un un_neg pe_int) (fun _ _ => rfl)) (fun _ _ => rfl)) (pa_cons pe_int pa_nil)) (pa_cons (pv 1) pa_nil)))) (pe_tup pa_nil)))), ?_⟩
    have hq0 := hq.b
    refine (tt_if (K := K) (b := !decide (xs = [])) (et_test (ev_neNil (K := K) (ev_var rfl) hx)) (fun hb H1 e1 => ?_) (fun hb H1 e1 => ?_)) H (Ex.refl H) _ kk
    · rw [Bool.not_eq_true', decide_eq_false_iff_not] at hb
      have hlen := List.length_pos_iff.mpr hb
      have hlast := lx.get (by omega) (xs.length - 1)
      have hne := htr (by omega)
      obtain ⟨hi1, _, _⟩ := iv_ok hq hlast hne
      obtain ⟨_, kvs, a1, a2, a3, hdk, gq, gp, gf, g1, g2, g3, l1, l2, _, hmi⟩ := hf.ex e1
      have he : mcN q xs = scN q (ivE q (xs.getD (xs.length - 1) 0)) xs := by unfold mcN; rw [if_neg hb]
      rw [he]
      exact tt_new (eu_call (ea_cons (ev_var rfl) (ea_cons (ev_inv (K := K) (N := fun _ => True) hq l2 (ev_dg (ev_var rfl) hdk g2) (ev_op (ev_var rfl) (ev_un ev_c ru_neg) (rv_ixT (ex_t e1 hx) (v := N_ (xs.getD (xs.length - 1) 0)) (by
        show atI (xs.map N_) (-1) = some _
        exact atI_lastN (n := xs.length - 1) (by rw [List.length_map]; omega) (get_N (by omega))))) hlast hne) (ea_cons (ev_var rfl) ea_nil))) (sv__law_scaled (K := K) hq (hf.ex e1) hi1 (ex_t e1 hx) lx hl))
    · rw [Bool.not_eq_false', decide_eq_true_eq] at hb
      have he : mcN q xs = [] := by unfold mcN; rw [if_pos hb]
      rw [he]
      exact tt_new (eu_tup (vs := []) ea_nil (by decide))


/-- common divisors -/
def cmS (q : Nat) : Nat → List Nat → List Nat → List Nat
  | 0, xs, _ => xs
  | n + 1, xs, ys => if ys = [] then xs else cmS q n ys (ptR q xs ys)
def cmN (q : Nat) (xs ys : List Nat) : List Nat := mcN q (cmS q ys.length xs ys)
theorem tr_ne {xs : List Nat} (i : Nat) (h : xs.getD i 0 ≠ 0) : trN xs ≠ [] := fun z => by
  obtain ⟨_, _, _, h4⟩ := tr_take xs
  rw [z] at h4
  exact h (h4 i (Nat.zero_le _))
structure RowOk (q m : Nat) (xs : List Nat) : Prop where
  l : Lq q xs
  t : Tr xs
  n : xs ≠ []
  z : xs.length ≤ m
theorem RowOk.last {q m : Nat} {xs : List Nat} (h : RowOk q m xs) : xs.getD (xs.length - 1) 0 ≠ 0 := h.t (fun z => h.n (List.length_eq_zero_iff.mp z))
theorem RowOk.pos {q m : Nat} {xs : List Nat} (h : RowOk q m xs) : 1 ≤ xs.length := List.length_pos_iff.mpr h.n
theorem RowOk.le {q m n : Nat} {xs : List Nat} (h : RowOk q m xs) (e : m ≤ n) : RowOk q n xs := ⟨h.l, h.t, h.n, Nat.le_trans h.z e⟩
theorem mc_ok {q m : Nat} (hq : Fq q) {xs : List Nat} (h : RowOk q m xs) : RowOk q m (mcN q xs) := by
  have h0 : 0 < q := by have := hq.b; omega
  have hl := h.l.get h0 (xs.length - 1)
  obtain ⟨i1, i2, _⟩ := iv_ok hq hl h.last
  unfold mcN scN
  rw [if_neg h.n]
  refine ⟨tr_lq fun z hz => ?_, tr_tr _, tr_ne (xs.length - 1) ?_, Nat.le_trans (tr_le _) (by rw [List.length_map]; exact h.z)⟩
  · obtain ⟨y, hy, rfl⟩ := List.mem_map.mp hz
    exact pE_lt hq i1 (h.l y hy)
  · rw [List.getD_eq_getElem?_getD, List.getElem?_map, getD_get (show xs.length - 1 < xs.length by have := h.pos; omega)]
    show pE q _ _ ≠ 0
    rw [pE_comm hq i1 hl, i2]
    decide
theorem cm_ok {q m : Nat} (hq : Fq q) : ∀ (n : Nat) (xs ys : List Nat), ys.length ≤ n → Lq q xs → Lq q ys → Tr ys → xs.length ≤ m → ys.length ≤ m → (ys = [] → RowOk q m xs) → RowOk q m (cmS q n xs ys)
  | 0, xs, ys, hn, _, _, _, _, _, h => h (List.length_eq_zero_iff.mp (by omega))
  | n + 1, xs, ys, hn, lx, ly, ty, zx, zy, h => by
    show RowOk q m (if ys = [] then xs else cmS q n ys (ptR q xs ys))
    by_cases he : ys = []
    · rw [if_pos he]
      exact h he
    · rw [if_neg he]
      have hy : RowOk q m ys := ⟨ly, ty, he, zy⟩
      have hl := ptR_len (q := q) xs ys hy.pos
      exact cm_ok hq n ys (ptR q xs ys) (by omega) ly (ptP_lq hq lx ly hy.pos hy.last).2 (tr_tr _) zy (by omega) fun _ => hy
theorem cmN_ok {q m : Nat} (hq : Fq q) {xs ys : List Nat} (lx : Lq q xs) (zx : xs.length ≤ m) (hy : RowOk q m ys) : RowOk q m (cmN q xs ys) := mc_ok hq (cm_ok hq ys.length xs ys (Nat.le_refl _) lx hy.l hy.t zx hy.z fun z => absurd z hy.n)
section
variable {K : PySem.W.Frag} {σ : L2.St} {H H' : Hp} {ta tb : TE} {D : Ends} {x : V} {xs : List V}
theorem s_parVT {i j : Nat} (h : Ev ta σ H x) (h2 : EvTt K tb σ H xs) (k : ∀ p H1, Ex H H1 → SqT K H1 p xs → D.nx ((σ.set i (some x)).set j (some (.ref p))) H1) : tPar i j (tCons ta (tCons tb tNil)) D σ H :=
  h H (Ex.refl H) _ fun H1 e1 => h2 H1 e1 _ fun p H2 e2 hp => ⟨x, .ref p, rfl, k p H2 (e1.trans e2) hp⟩
end
def sp__law_common (K : PySem.W.Frag) : Sp := fun vs H Q _ => ∃ (d a b : Addr) (q : Nat) (xs ys : List Nat), vs = [.ref d, .ref a, .ref b] ∧ Fq q ∧ FldAt (fun _ => True) H d q ∧ SqT K H a (xs.map N_) ∧ SqT K H b (ys.map N_) ∧ Lq q xs ∧ xs.length ≤ 3000 ∧ RowOk q 3000 ys ∧ RetTt K ((cmN q xs ys).map N_) H Q
theorem sv__law_common {K : PySem.W.Frag} {H : Hp} {d a b : Addr} {q : Nat} {xs ys : List Nat} (hq : Fq q) (hf : FldAt (fun _ => True) H d q) (hx : SqT K H a (xs.map N_)) (hy : SqT K H b (ys.map N_)) (lx : Lq q xs) (zx : xs.length ≤ 3000) (oy : RowOk q 3000 ys) : ∀ H1, Ex H H1 → ∀ Q : VK, RetTt K ((cmN q xs ys).map N_) H1 Q → ∀ E, sp__law_common K [.ref d, .ref a, .ref b] H1 Q E := fun H1 e1 Q kk E => ⟨d, a, b, q, xs, ys, rfl, hq, hf.ex e1, ex_t e1 hx, ex_t e1 hy, lx, zx, oy, kk⟩

theorem ok__law_common {P : Program} {w : World} {K : PySem.W.Frag} {mg : Str → Option Value} {base : Heap} (T : Txt K mg) : FnOk P w K mg base CX0 4 T.a__law_common T.d__law_common ["_law_field_here", "_law_one", "_law_other"] (sp__law_common K) := by
  refine T.F__law_common.ok sc__law_common (fun vs H Q E h => ?_) (fun cdv A outer s H vs Q E hr h => ?_)
  · obtain ⟨d, a, b, q, xs, ys, rfl, _⟩ := h
    rfl
  · obtain ⟨d, a, b, q, xs, ys, rfl, hq, hf, hx, hy, lx, zx, oy, kk⟩ := h
    refine ⟨_, (pss_cons (ps_while PassesOwn.never (pt_cmpR (op_neD hr.units) (pv 2) (pe_tup pa_nil) (nomark _)) (pss_one (ps_par (i := 1) (j := 2) (by rfl) sc__law_common.nd rfl rfl (by decide) rfl rfl (pa_cons (pv 2) (pa_cons (pe_call (ok__law_rest T) (hr.mono (by decide)) (by rfl) T.g__law_rest T.F__law_rest.kp T.b__law_rest .nil pass0 (pa_cons (pv 0) (pa_cons (pv 1) (pa_cons (pv 2) pa_nil)))) pa_nil)) (by rfl))))
      (pss_one (ps_ret (pe_call (ok__law_monic_of T) (hr.mono (by decide)) (by rfl) T.g__law_monic_of T.F__law_monic_of.kp T.b__law_monic_of .nil pass0 (pa_cons (pv 0) (pa_cons (pv 1) pa_nil)))))), ?_⟩
    refine q_while (fun l σ H' => ∃ (a' b' : Addr) (xs' ys' : List Nat) (n : Nat), σ = [some (.ref d), some (.ref a'), some (.ref b')] ∧ ys'.length = l ∧ ys'.length ≤ n ∧ cmS q n xs' ys' = cmS q ys.length xs ys ∧ Ex H H' ∧ SqT K H' a' (xs'.map N_) ∧ SqT K H' b' (ys'.map N_) ∧ Lq q xs' ∧ Lq q ys' ∧ Tr ys' ∧ xs'.length ≤ 3000 ∧ ys'.length ≤ 3000 ∧ (ys' = [] → RowOk q 3000 xs')) ys.length ⟨a, b, xs, ys, ys.length, rfl, rfl, Nat.le_refl _, rfl, Ex.refl H, hx, hy, lx, oy.l, oy.t, zx, oy.z, fun z => absurd z oy.n⟩ fun l σ H1 hw => ?_
    obtain ⟨a', b', xs', ys', n, rfl, hl, hn, hc, e1, sx, sy, lx', ly', ty', zx', zy', he⟩ := hw
    refine ⟨!decide (ys' = []), et_test (ev_neNil (K := K) (ev_var rfl) sy), fun hb H2 e2 => ?_, fun hb H2 e2 => ?_⟩
    · rw [Bool.not_eq_true', decide_eq_false_iff_not] at hb
      have hy' : RowOk q 3000 ys' := ⟨ly', ty', hb, zy'⟩
      have hlen := ptR_len (q := q) xs' ys' hy'.pos
      obtain ⟨m, rfl⟩ : ∃ m, n = m + 1 := ⟨n - 1, by have := hy'.pos; omega⟩
      have hc2 : cmS q m ys' (ptR q xs' ys') = cmS q ys.length xs ys := by
        rw [← hc]
        show _ = if ys' = [] then xs' else cmS q m ys' (ptR q xs' ys')
        rw [if_neg hb]
      have e12 := e1.trans e2
      refine ⟨fun σ' H' => ∃ p, σ' = [some (.ref d), some (.ref b'), some (.ref p)] ∧ Ex H H' ∧ SqT K H' b' (ys'.map N_) ∧ SqT K H' p ((ptR q xs' ys').map N_), fun σ2 H2' hN => ?_, ?_⟩
      · obtain ⟨p, rfl, e5, s1, s2⟩ := hN
        exact ⟨(ptR q xs' ys').length, by omega, b', p, ys', ptR q xs' ys', m, rfl, rfl, by omega, hc2, e5, s1, s2, ly', (ptP_lq hq lx' ly' hy'.pos hy'.last).2, tr_tr _, zy', by omega, fun _ => hy'⟩
      · exact s_parVT (K := K) (ev_var rfl) (tt_call (K := K) (ea_cons (ev_var rfl) (ea_cons (ev_var rfl) (ea_cons (ev_var rfl) ea_nil))) (sv__law_rest (K := K) hq (hf.ex e12) (ex_t e2 sx) (ex_t e2 sy) lx' ly' hy'.pos hy'.last zx' zy')) fun p H3 e3 h3 => ⟨p, rfl, e12.trans e3, ex_t (e2.trans e3) sy, h3⟩
    · rw [Bool.not_eq_false', decide_eq_true_eq] at hb
      have ho := he hb
      subst hb
      have hx2 : cmS q n xs' [] = xs' := by cases n <;> rfl
      rw [hx2] at hc
      have e12 := e1.trans e2
      exact s_retT (tt_call (K := K) (xs := (cmN q xs ys).map N_) (ea_cons (ev_var rfl) (ea_cons (ev_var rfl) ea_nil)) (fun H3 e3 Q q1 E => ⟨d, a', q, xs', rfl, hq, (hf.ex e12).ex e3, ex_t (e2.trans e3) sx, lx', ho.t, zx', by unfold cmN at q1; rw [← hc] at q1; exact q1⟩)) (kk.go e12)


end Own
/-! the law's products, divisions and common divisors in a form that the kernel looks at fast -/
namespace Own
open PySem PySem.Spec PyProof.Rows L2 Evl
def adT (S P q c : Nat) : List Nat → List Nat → List Nat
  | x :: xs, a :: acc => opT S q a (opT P q x c) :: adT S P q c xs acc
  | _, acc => acc
def aaT (S P q c : Nat) (xs : List Nat) : Nat → List Nat → List Nat
  | 0, acc => adT S P q c xs acc
  | j + 1, a :: acc => a :: aaT S P q c xs j acc
  | _ + 1, [] => []
def muTI (S P q : Nat) (xs : List Nat) : List Nat → Nat → List Nat → List Nat
  | [], _, acc => acc
  | y :: ys, j, acc => muTI S P q xs ys (j + 1) (if y = 0 then acc else aaT S P q y xs j acc)
def muT (S P q : Nat) (xs ys : List Nat) : List Nat := muTI S P q xs ys 0 (List.replicate (xs.length + ys.length - 1) 0)
theorem adT_eq {S P q c : Nat} (hq : Fq q) (t : Tab S P q) (hc : c < q) : ∀ (xs acc : List Nat), Lq q xs → Lq q acc → adT S P q c xs acc = adR q c xs acc
  | [], acc, _, _ => by unfold adT adR; rfl
  | x :: xs, [], _, _ => rfl
  | x :: xs, a :: acc, hx, ha => by
    have h1 := hx x (.head _)
    show opT S q a (opT P q x c) :: adT S P q c xs acc = sE q a (pE q x c) :: adR q c xs acc
    rw [t.p x c h1 hc, t.s a _ (ha a (.head _)) (pE_lt hq h1 hc), adT_eq hq t hc xs acc (fun y hy => hx y (.tail _ hy)) (fun y hy => ha y (.tail _ hy))]
theorem aaT_eq {S P q c : Nat} (hq : Fq q) (t : Tab S P q) (hc : c < q) {xs : List Nat} (hx : Lq q xs) : ∀ (j : Nat) (acc : List Nat), Lq q acc → aaT S P q c xs j acc = adA q c xs j acc
  | 0, acc, ha => adT_eq hq t hc xs acc hx ha
  | j + 1, [], _ => rfl
  | j + 1, a :: acc, ha => by
    show a :: aaT S P q c xs j acc = a :: adA q c xs j acc
    rw [aaT_eq hq t hc hx j acc (fun y hy => ha y (.tail _ hy))]
theorem muTI_eq {S P q : Nat} (hq : Fq q) (t : Tab S P q) {xs : List Nat} (hx : Lq q xs) {ys : List Nat} (hy : Lq q ys) : ∀ (zs : List Nat) (j : Nat), ys.drop j = zs → j ≤ ys.length → muTI S P q xs zs j (muS q xs ys j) = muS q xs ys ys.length
  | [], j, h, hj => by
    have : ys.length ≤ j := List.drop_eq_nil_iff.mp h
    have : j = ys.length := by omega
    subst this
    rfl
  | z :: zs, j, h, hj => by
    have hlt : j < ys.length := by
      apply Decidable.byContradiction
      intro n
      rw [List.drop_eq_nil_iff.mpr (by omega)] at h
      cases h
    have hz : ys.getD j 0 = z := by
      have h2 : (ys.drop j)[0]? = some z := by rw [h]; rfl
      rw [List.getElem?_drop, Nat.add_zero] at h2
      rw [List.getD_eq_getElem?_getD, h2]
      rfl
    have hd : ys.drop (j + 1) = zs := by
      rw [← List.drop_drop, h]
      rfl
    show muTI S P q xs zs (j + 1) (if z = 0 then muS q xs ys j else aaT S P q z xs j (muS q xs ys j)) = _
    have hstep : (if z = 0 then muS q xs ys j else aaT S P q z xs j (muS q xs ys j)) = muS q xs ys (j + 1) := by
      show _ = (if ys.getD j 0 = 0 then muS q xs ys j else adA q (ys.getD j 0) xs j (muS q xs ys j))
      rw [hz]
      have hzq : z < q := by rw [← hz]; exact hy.get (by have := hq.b; omega) j
      rw [aaT_eq hq t hzq hx j _ (muS_lq hq hx hy j)]
    rw [hstep]
    exact muTI_eq hq t hx hy zs (j + 1) hd hlt
theorem muT_eq {S P q : Nat} (hq : Fq q) (t : Tab S P q) {xs ys : List Nat} (hx : Lq q xs) (hy : Lq q ys) (nx : xs ≠ []) (ny : ys ≠ []) : muT S P q xs ys = muN q xs ys := by
  unfold muT muN
  rw [if_neg (fun z => z.elim nx ny)]
  exact muTI_eq hq t hx hy ys 0 rfl (Nat.zero_le _)

def oT (q a : Nat) : Nat := opT (PN q) q a (prE q - 1)
def ivT (q e : Nat) : Nat := ((List.range q).find? fun b => decide (opT (PN q) q e b = 1)).getD 0
theorem chk_oT : chkAll (fun q => all1 q fun a => decide (oT q a = oE q a) && decide (ivT q a = ivE q a)) = true := by decide +kernel
theorem oT_eq {q a : Nat} (hq : Fq q) (ha : a < q) : oT q a = oE q a ∧ ivT q a = ivE q a := by
  have h := all1_get (chk_get chk_oT hq) ha
  rw [Bool.and_eq_true, decide_eq_true_eq, decide_eq_true_eq] at h
  exact h
def mu1 (q : Nat) (xs ys : List Nat) : List Nat := muT (SN q) (PN q) q xs ys
theorem mu1_eq {q : Nat} (hq : Fq q) {xs ys : List Nat} (hx : Lq q xs) (hy : Lq q ys) (nx : xs ≠ []) (ny : ys ≠ []) : mu1 q xs ys = muN q xs ys := muT_eq hq (tab_of hq) hx hy nx ny
def ptS1 (q : Nat) (ys : List Nat) (n bk : Nat) : Nat → List Nat → List Nat → List Nat × List Nat
  | 0, l, f => (l, f)
  | c + 1, l, f => ptS1 q ys n bk c (if opT (PN q) q (l.getD (c + n - 1) 0) bk = 0 then l else aaT (SN q) (PN q) q (oT q (opT (PN q) q (l.getD (c + n - 1) 0) bk)) ys c l) (f.set c (opT (PN q) q (l.getD (c + n - 1) 0) bk))
theorem ptS1_eq {q : Nat} (hq : Fq q) {ys : List Nat} (ly : Lq q ys) (n : Nat) {bk : Nat} (hb : bk < q) : ∀ (c : Nat) (l f : List Nat), Lq q l → ptS1 q ys n bk c l f = ptS q ys n bk c l f
  | 0, l, f, _ => rfl
  | c + 1, l, f, hl => by
    have h0 : 0 < q := by have := hq.b; omega
    have hg := hl.get h0 (c + n - 1)
    have hF := pE_lt hq hg hb
    show ptS1 q ys n bk c (if opT (PN q) q (l.getD (c + n - 1) 0) bk = 0 then l else aaT (SN q) (PN q) q (oT q (opT (PN q) q (l.getD (c + n - 1) 0) bk)) ys c l) (f.set c (opT (PN q) q (l.getD (c + n - 1) 0) bk)) = _
    rw [(tab_of hq).p _ _ hg hb, (oT_eq hq hF).1, aaT_eq hq (tab_of hq) (oE_lt hq hF) ly c l hl]
    refine ptS1_eq hq ly n hb c _ _ ?_
    split
    · exact hl
    · exact adA_lq hq (oE_lt hq hF) ly c l hl
def bk1 (q : Nat) (ys : List Nat) : Nat := ivT q (ys.getD (ys.length - 1) 0)
def ptP1 (q : Nat) (xs ys : List Nat) : List Nat × List Nat := ptS1 q ys ys.length (bk1 q ys) (xs.length + 1 - ys.length) xs (List.replicate (xs.length + 1 - ys.length) 0)
def ptQ1 (q : Nat) (xs ys : List Nat) : List Nat := trN (ptP1 q xs ys).2
def ptR1 (q : Nat) (xs ys : List Nat) : List Nat := trN (if ys.length ≤ xs.length then (ptP1 q xs ys).1.take (ys.length - 1) else (ptP1 q xs ys).1)
theorem ptP1_eq {q m : Nat} (hq : Fq q) {xs ys : List Nat} (lx : Lq q xs) (hy : RowOk q m ys) : ptP1 q xs ys = ptP q xs ys := by
  have h0 : 0 < q := by have := hq.b; omega
  have hl := hy.l.get h0 (ys.length - 1)
  unfold ptP1 ptP
  have hb : bk1 q ys = bkQ q ys := (oT_eq hq hl).2
  rw [hb]
  exact ptS1_eq hq hy.l _ (iv_ok hq hl hy.last).1 _ _ _ lx
theorem ptQ1_eq {q m : Nat} (hq : Fq q) {xs ys : List Nat} (lx : Lq q xs) (hy : RowOk q m ys) : ptQ1 q xs ys = ptQ q xs ys := by
  unfold ptQ1 ptQ
  rw [ptP1_eq hq lx hy]
theorem ptR1_eq {q m : Nat} (hq : Fq q) {xs ys : List Nat} (lx : Lq q xs) (hy : RowOk q m ys) : ptR1 q xs ys = ptR q xs ys := by
  unfold ptR1 ptR
  rw [ptP1_eq hq lx hy]
def mc1 (q : Nat) (xs : List Nat) : List Nat := if xs = [] then [] else trN (xs.map (opT (PN q) q (ivT q (xs.getD (xs.length - 1) 0))))
theorem mc1_eq {q m : Nat} (hq : Fq q) {xs : List Nat} (h : RowOk q m xs) : mc1 q xs = mcN q xs := by
  have h0 : 0 < q := by have := hq.b; omega
  have hl := h.l.get h0 (xs.length - 1)
  unfold mc1 mcN scN
  rw [if_neg h.n, if_neg h.n, (oT_eq hq hl).2]
  congr 1
  exact List.map_congr_left fun a ha => (tab_of hq).p _ _ (iv_ok hq hl h.last).1 (h.l a ha)
def cmS1 (q : Nat) : Nat → List Nat → List Nat → List Nat
  | 0, xs, _ => xs
  | n + 1, xs, ys => if ys = [] then xs else cmS1 q n ys (ptR1 q xs ys)
def cm1 (q : Nat) (xs ys : List Nat) : List Nat := mc1 q (cmS1 q ys.length xs ys)
theorem cmS1_eq {q : Nat} (hq : Fq q) : ∀ (n : Nat) (xs ys : List Nat), Lq q xs → Lq q ys → Tr ys → cmS1 q n xs ys = cmS q n xs ys
  | 0, xs, ys, _, _, _ => rfl
  | n + 1, xs, ys, lx, ly, ty => by
    show (if ys = [] then xs else cmS1 q n ys (ptR1 q xs ys)) = (if ys = [] then xs else cmS q n ys (ptR q xs ys))
    by_cases he : ys = []
    · rw [if_pos he, if_pos he]
    · rw [if_neg he, if_neg he]
      have hy : RowOk q ys.length ys := ⟨ly, ty, he, Nat.le_refl _⟩
      rw [ptR1_eq hq lx hy]
      exact cmS1_eq hq n ys (ptR q xs ys) ly (ptP_lq hq lx ly hy.pos hy.last).2 (tr_tr _)
theorem cm1_eq {q m : Nat} (hq : Fq q) {xs ys : List Nat} (lx : Lq q xs) (zx : xs.length ≤ m) (hy : RowOk q m ys) : cm1 q xs ys = cmN q xs ys := by
  unfold cm1 cmN
  rw [cmS1_eq hq _ _ _ lx hy.l hy.t]
  exact mc1_eq hq (cm_ok hq ys.length xs ys (Nat.le_refl _) lx hy.l hy.t zx hy.z fun z => absurd z hy.n)
/-- one turn of the law's loop over all monic polynomials -/
def stN (q : Nat) (s : List Nat × List Nat) (one : List Nat) : List Nat × List Nat := (muN q s.1 one, muN q s.2 (ptQ q one (cmN q s.2 one)))
def st1 (q : Nat) (s : List Nat × List Nat) (one : List Nat) : List Nat × List Nat := (mu1 q s.1 one, mu1 q s.2 (ptQ1 q one (cm1 q s.2 one)))
def MonL (q e : Nat) (xs : List Nat) : Prop := xs.length = e + 1 ∧ Lq q xs ∧ xs.getD e 0 = 1
theorem MonL.ok {q e : Nat} {xs : List Nat} (h : MonL q e xs) : RowOk q (e + 1) xs := ⟨h.2.1, fun _ => by rw [h.1, Nat.add_sub_cancel, h.2.2]; decide, List.length_pos_iff.mp (by rw [h.1]; omega), Nat.le_of_eq h.1⟩
structure StOk (q m : Nat) (s : List Nat × List Nat) : Prop where
  l1 : Lq q s.1
  l2 : Lq q s.2
  n1 : s.1 ≠ []
  n2 : s.2 ≠ []
  z1 : s.1.length ≤ m
  z2 : s.2.length ≤ m
theorem chk_pone : chkAll (fun q => all1 q fun a => decide (opT (PN q) q a 1 = a)) = true := by decide +kernel
theorem pE_one {q a : Nat} (hq : Fq q) (ha : a < q) : pE q a 1 = a := by
  rw [← (tab_of hq).p a 1 ha (by have := hq.b; omega)]
  exact of_decide_eq_true (all1_get (chk_get chk_pone hq) ha)
theorem ptQ_ne {q m : Nat} (hq : Fq q) {xs ys : List Nat} (hx : RowOk q m xs) (hy : RowOk q m ys) (h : ys.length ≤ xs.length) : ptQ q xs ys ≠ [] := by
  have h0 : 0 < q := by have := hq.b; omega
  have hl := hy.l.get h0 (ys.length - 1)
  obtain ⟨b1, b2, _⟩ := iv_ok hq hl hy.last
  obtain ⟨c, hc⟩ : ∃ c, xs.length + 1 - ys.length = c + 1 := ⟨xs.length - ys.length, by omega⟩
  have hcx : c + ys.length - 1 = xs.length - 1 := by have := hy.pos; omega
  have hx0 := hx.l.get h0 (xs.length - 1)
  have hF : pE q (xs.getD (xs.length - 1) 0) (bkQ q ys) ≠ 0 := fun z => by
    have e : pE q (pE q (xs.getD (xs.length - 1) 0) (bkQ q ys)) (ys.getD (ys.length - 1) 0) = xs.getD (xs.length - 1) 0 := by
      have F := fa_of hq
      have T := tab_of hq
      have t1 : ∀ a b, a < q → b < q → pE q a b = muQ q a b := fun a b ha hb => (T.p a b ha hb).symm
      have hbk : bkQ q ys < q := b1
      rw [t1 _ _ (pE_lt hq hx0 hbk) hl, t1 _ _ hx0 hbk, F.muA _ _ _ hx0 hbk hl, ← t1 _ _ hbk hl, pE_comm hq hbk hl, show pE q (ys.getD (ys.length - 1) 0) (bkQ q ys) = 1 from b2, ← t1 _ _ hx0 (show 1 < q by have := hq.b; omega)]
      exact pE_one hq hx0
    rw [z, pE_comm hq h0 hl] at e
    have hz : pE q (ys.getD (ys.length - 1) 0) 0 = 0 := by
      rw [← (tab_of hq).p _ _ hl h0]
      exact (fa_of hq).mu0 _ hl
    rw [hz] at e
    exact hx.last e.symm
  have key : ∀ (c : Nat) (l f : List Nat) (k : Nat), c ≤ k → (ptS q ys ys.length (bkQ q ys) c l f).2.getD k 0 = f.getD k 0 := fun c => by
    induction c with
    | zero => exact fun l f k _ => rfl
    | succ c ih =>
      intro l f k hk
      show (ptS q ys ys.length (bkQ q ys) c _ (f.set c _)).2.getD k 0 = _
      rw [ih _ _ k (by omega), List.getD_eq_getElem?_getD, List.getElem?_set_ne (by omega)]
      exact (List.getD_eq_getElem?_getD ..).symm
  unfold ptQ
  refine tr_ne c ?_
  unfold ptP
  rw [hc]
  show (ptS q ys ys.length (bkQ q ys) c _ ((List.replicate (c + 1) 0).set c _)).2.getD c 0 ≠ 0
  rw [key c _ _ c (Nat.le_refl _), List.getD_eq_getElem?_getD, List.getElem?_set_self (by rw [List.length_replicate]; omega), hcx]
  exact hF

theorem cm_div {q m : Nat} (hq : Fq q) {xs ys : List Nat} (lx : Lq q xs) (zx : xs.length ≤ m) (hy : RowOk q m ys) : (cmN q xs ys).length ≤ ys.length := by
  have h : ∀ (n : Nat) (xs ys : List Nat), ys.length ≤ n → Lq q xs → Lq q ys → Tr ys → ys ≠ [] → (cmS q n xs ys).length ≤ ys.length := fun n => by
    induction n with
    | zero => exact fun xs ys hn _ _ _ hne => absurd (List.length_eq_zero_iff.mp (by omega)) hne
    | succ n ih =>
      intro xs ys hn lx ly ty hne
      show (if ys = [] then xs else cmS q n ys (ptR q xs ys)).length ≤ _
      rw [if_neg hne]
      have hy : RowOk q ys.length ys := ⟨ly, ty, hne, Nat.le_refl _⟩
      have hl := ptR_len (q := q) xs ys hy.pos
      by_cases he : ptR q xs ys = []
      · rw [he]
        cases n <;> exact Nat.le_refl _
      · exact Nat.le_trans (ih ys (ptR q xs ys) (by omega) ly (ptP_lq hq lx ly hy.pos hy.last).2 (tr_tr _) he) (by omega)
  have h2 := h ys.length xs ys (Nat.le_refl _) lx hy.l hy.t hy.n
  have h3 := mc_ok hq ⟨(cm_ok hq ys.length xs ys (Nat.le_refl _) lx hy.l hy.t zx hy.z fun z => absurd z hy.n).l, (cm_ok hq ys.length xs ys (Nat.le_refl _) lx hy.l hy.t zx hy.z fun z => absurd z hy.n).t, (cm_ok hq ys.length xs ys (Nat.le_refl _) lx hy.l hy.t zx hy.z fun z => absurd z hy.n).n, h2⟩
  exact h3.z
theorem st_ok {q e m : Nat} (hq : Fq q) {s : List Nat × List Nat} (h : StOk q m s) {one : List Nat} (ho : MonL q e one) (hm : e + 1 ≤ m) : StOk q (m + e) (stN q s one) ∧ st1 q s one = stN q s one ∧ RowOk q m (cmN q s.2 one) ∧ Lq q (ptQ q one (cmN q s.2 one)) ∧ ptQ q one (cmN q s.2 one) ≠ [] ∧ (ptQ q one (cmN q s.2 one)).length ≤ e + 1 := by
  have oo := ho.ok
  have om := oo.le hm
  have c := cmN_ok hq h.l2 h.z2 om
  have cd := cm_div hq h.l2 h.z2 om
  have lq := (ptP_lq hq oo.l c.l c.pos c.last).1
  have nq := ptQ_ne hq om c cd
  have zq : (ptQ q one (cmN q s.2 one)).length ≤ e + 1 := by
    have h1 := ptQ_len (q := q) one (cmN q s.2 one)
    have h2 := c.pos
    have h3 := ho.1
    omega
  refine ⟨⟨mu_lq hq h.l1 oo.l, mu_lq hq h.l2 lq, ?_, ?_, ?_, ?_⟩, ?_, c, lq, nq, zq⟩
  · refine List.length_pos_iff.mp ?_
    show 0 < (muN q s.1 one).length
    rw [mu_leng h.n1 oo.n]
    have h1 := List.length_pos_iff.mpr h.n1
    have h2 := oo.pos
    omega
  · refine List.length_pos_iff.mp ?_
    show 0 < (muN q s.2 _).length
    rw [mu_leng h.n2 nq]
    have h1 := List.length_pos_iff.mpr h.n2
    have h2 := List.length_pos_iff.mpr nq
    omega
  · show (muN q s.1 one).length ≤ _
    rw [mu_leng h.n1 oo.n]
    have h1 := h.z1
    have h2 := ho.1
    omega
  · show (muN q s.2 _).length ≤ _
    rw [mu_leng h.n2 nq]
    have h1 := h.z2
    omega
  · show (mu1 q s.1 one, mu1 q s.2 (ptQ1 q one (cm1 q s.2 one))) = (muN q s.1 one, muN q s.2 (ptQ q one (cmN q s.2 one)))
    rw [mu1_eq hq h.l1 oo.l h.n1 oo.n, cm1_eq hq h.l2 h.z2 om, ptQ1_eq hq oo.l c, mu1_eq hq h.l2 lq h.n2 nq]
theorem fold_ok {q e : Nat} (hq : Fq q) : ∀ (L : List (List Nat)) (s : List Nat × List Nat) (m : Nat), (∀ x ∈ L, MonL q e x) → StOk q m s → e + 1 ≤ m → L.foldl (st1 q) s = L.foldl (stN q) s ∧ StOk q (m + L.length * e) (L.foldl (stN q) s)
  | [], s, m, _, h, _ => ⟨rfl, by rw [List.length_nil, Nat.zero_mul]; exact h⟩
  | x :: L, s, m, hL, h, hm => by
    obtain ⟨h1, h2, _⟩ := st_ok hq h (hL x (.head _)) hm
    obtain ⟨h3, h4⟩ := fold_ok hq L (stN q s x) (m + e) (fun y hy => hL y (.tail _ hy)) h1 (by omega)
    refine ⟨?_, ?_⟩
    · show L.foldl (st1 q) (st1 q s x) = L.foldl (stN q) (stN q s x)
      rw [h2]
      exact h3
    · show StOk q _ (L.foldl (stN q) (stN q s x))
      rw [show m + (x :: L).length * e = m + e + L.length * e by rw [List.length_cons, Nat.succ_mul]; omega]
      exact h4
theorem mo_mon {q e : Nat} (hq : Fq q) {xs : List Nat} (h : xs ∈ moN q e) : MonL q e xs := by
  obtain ⟨n, hn, rfl⟩ := List.mem_map.mp h
  have hq0 := hq.b
  have hn := List.mem_range.mp hn
  have hl : (dg q n).length ≤ e := dg_len2 (f := e) (a := n) (by omega) e n hn
  have h1 : (dg q n ++ List.replicate (e - (dg q n).length) 0).length = e := by rw [List.length_append, List.length_replicate]; omega
  refine ⟨by rw [List.length_append, h1]; rfl, fun z hz => ?_, ?_⟩
  · rcases List.mem_append.mp hz with hz | hz
    · rcases List.mem_append.mp hz with hz | hz
      · exact dg_lt (by omega) n z hz
      · rw [(List.mem_replicate.mp hz).2]; omega
    · rw [List.mem_singleton.mp hz]; omega
  · rw [List.getD_eq_getElem?_getD, List.getElem?_append_right (by omega), h1, Nat.sub_self]
    rfl

end Own
/-! the look over all degrees that the law draws -/
namespace Own
open PySem PySem.Spec PyProof.Rows L2 Evl
theorem pow_2 {q i : Nat} (hq : 2 ≤ q) (hi : 1 ≤ i) : 2 ≤ q ^ i := by
  have := Nat.pow_le_pow_right (show 0 < q by omega) hi
  rw [Nat.pow_one] at this
  omega
def brN (q i : Nat) : List Nat := [0, oE q 1] ++ List.replicate (q ^ i - 2) 0 ++ [1]
theorem br_len {q i : Nat} (hq : Fq q) (hi : 1 ≤ i) : (brN q i).length = q ^ i + 1 := by
  have := pow_2 (q := q) (by have := hq.b; omega) hi
  unfold brN
  rw [List.length_append, List.length_append, List.length_replicate]
  show 2 + (q ^ i - 2) + 1 = _
  omega
theorem br_lq {q i : Nat} (hq : Fq q) : Lq q (brN q i) := fun z hz => by
  have hb := hq.b
  unfold brN at hz
  rcases List.mem_append.mp hz with hz | hz
  · rcases List.mem_append.mp hz with hz | hz
    · rcases List.mem_cons.mp hz with rfl | hz
      · omega
      · rw [List.mem_singleton.mp hz]
        exact oE_lt hq (by omega)
    · rw [(List.mem_replicate.mp hz).2]; omega
  · rw [List.mem_singleton.mp hz]; omega

def laI (q d : Nat) : Nat → List Nat
  | 0 => [1]
  | j + 1 => muN q (laI q d j) (skN (q ^ j) (brN q (d - j)))
def laN (q d : Nat) : List Nat := laI q d d
def lmI (q : Nat) : Nat → List Nat
  | 0 => [1]
  | n + 1 => muN q (lmI q n) (brN q (n + 1))
def rw1 (q : Nat) (xs ys : List Nat) : List Nat := if nzN xs ≤ 8 then mu1 q ys xs else mu1 q xs ys
def pa1 (q d : Nat) : Nat → List Nat
  | 0 => [1]
  | j + 1 => rw1 q (pa1 q d j) (twN q d j)
def ml1 (q : Nat) : Nat → List Nat
  | 0 => [1]
  | n + 1 => rw1 q (ml1 q n) (twN q (n + 1) 0)
def la1 (q d : Nat) : Nat → List Nat
  | 0 => [1]
  | j + 1 => mu1 q (la1 q d j) (skN (q ^ j) (brN q (d - j)))
def lm1 (q : Nat) : Nat → List Nat
  | 0 => [1]
  | n + 1 => mu1 q (lm1 q n) (brN q (n + 1))
theorem rw1_eq {q : Nat} (hq : Fq q) {xs ys : List Nat} (hx : Lq q xs) (hy : Lq q ys) (nx : xs ≠ []) (ny : ys ≠ []) : rw1 q xs ys = rwP q xs ys := by
  unfold rw1 rwP
  rw [mu1_eq hq hx hy nx ny, mu1_eq hq hy hx ny nx]
theorem pa1_eq {q d : Nat} (hq : Fq q) : ∀ j, j ≤ d → pa1 q d j = paI q d j
  | 0, _ => rfl
  | j + 1, h => by
    obtain ⟨h1, h2⟩ := pa_ok (q := q) (d := d) hq j (by omega)
    show rw1 q (pa1 q d j) (twN q d j) = rwP q (paI q d j) (twN q d j)
    rw [pa1_eq hq j (by omega)]
    exact rw1_eq hq h1 (tw_lq hq) (List.length_pos_iff.mp (by omega)) (tw_ne hq (by omega))
theorem ml1_eq {q : Nat} (hq : Fq q) : ∀ n, ml1 q n = mlI q n
  | 0 => rfl
  | n + 1 => by
    obtain ⟨h1, h2⟩ := ml_ok hq n
    show rw1 q (ml1 q n) (twN q (n + 1) 0) = rwP q (mlI q n) (twN q (n + 1) 0)
    rw [ml1_eq hq n]
    exact rw1_eq hq h1 (tw_lq hq) (List.length_pos_iff.mp (by omega)) (tw_ne hq (by omega))
theorem br_ne {q i : Nat} (hq : Fq q) (hi : 1 ≤ i) : brN q i ≠ [] := List.length_pos_iff.mp (by rw [br_len hq hi]; omega)
theorem sk_ne {s : Nat} {xs : List Nat} (h : xs ≠ []) : skN s xs ≠ [] := by
  refine List.length_pos_iff.mp ?_
  unfold skN
  rw [if_neg h, skF_len]
  exact Nat.succ_pos _
theorem sk_len {s : Nat} {xs : List Nat} (h : xs ≠ []) : (skN s xs).length = s * (xs.length - 1) + 1 := by
  unfold skN
  rw [if_neg h, skF_len]
theorem la_ok {q d : Nat} (hq : Fq q) : ∀ j, j ≤ d → Lq q (laI q d j) ∧ (laI q d j).length = 1 + j * q ^ d
  | 0, _ => ⟨one_lq hq, by rw [Nat.zero_mul]; rfl⟩
  | j + 1, h => by
    obtain ⟨h1, h2⟩ := la_ok (q := q) (d := d) hq j (by omega)
    have h0 : 0 < q := by have := hq.b; omega
    have hb := br_ne (q := q) (i := d - j) hq (by omega)
    have hpw : q ^ j * q ^ (d - j) = q ^ d := by rw [← Nat.pow_add]; congr 1; omega
    refine ⟨mu_lq hq h1 (skN_lq h0 (br_lq hq)), ?_⟩
    show (muN q (laI q d j) (skN (q ^ j) (brN q (d - j)))).length = _
    rw [mu_leng (List.length_pos_iff.mp (by omega)) (sk_ne hb), h2, sk_len hb, br_len hq (by omega), Nat.add_sub_cancel, hpw, Nat.succ_mul]
    omega
theorem lm_ok {q : Nat} (hq : Fq q) : ∀ n, Lq q (lmI q n) ∧ (lmI q n).length = 1 + mdN q n
  | 0 => ⟨one_lq hq, rfl⟩
  | n + 1 => by
    obtain ⟨h1, h2⟩ := lm_ok hq n
    have hb := br_ne (q := q) (i := n + 1) hq (by omega)
    refine ⟨mu_lq hq h1 (br_lq hq), ?_⟩
    show (muN q (lmI q n) (brN q (n + 1))).length = _
    rw [mu_leng (List.length_pos_iff.mp (by omega)) hb, h2, br_len hq (by omega), md_succ]
    omega
theorem la1_eq {q d : Nat} (hq : Fq q) : ∀ j, j ≤ d → la1 q d j = laI q d j
  | 0, _ => rfl
  | j + 1, h => by
    obtain ⟨h1, h2⟩ := la_ok (q := q) (d := d) hq j (by omega)
    have h0 : 0 < q := by have := hq.b; omega
    show mu1 q (la1 q d j) _ = muN q (laI q d j) _
    rw [la1_eq hq j (by omega)]
    exact mu1_eq hq h1 (skN_lq h0 (br_lq hq)) (List.length_pos_iff.mp (by omega)) (sk_ne (br_ne hq (by omega)))
theorem lm1_eq {q : Nat} (hq : Fq q) : ∀ n, lm1 q n = lmI q n
  | 0 => rfl
  | n + 1 => by
    obtain ⟨h1, h2⟩ := lm_ok hq n
    show mu1 q (lm1 q n) _ = muN q (lmI q n) _
    rw [lm1_eq hq n]
    exact mu1_eq hq h1 (br_lq hq) (List.length_pos_iff.mp (by omega)) (br_ne hq (by omega))
/-- the greatest degree of the second part -/
def grE (q : Nat) : Nat := if q = 2 then 6 else if q = 3 then 4 else if q ≤ 5 then 3 else 2
theorem chk_gr : chkAll (fun q => decide (grE q ≤ 6) && decide (q ^ grE q ≤ 300) && decide (grE q * q ^ grE q ≤ 700) && decide (mdN q (grE q) ≤ 400) && all1 8 fun g => decide ((g * q ^ g ≤ 700) ↔ g ≤ grE q)) = true := by decide +kernel
def eqL : List Nat → List Nat → Bool
  | [], [] => true
  | a :: x, b :: y => Nat.beq a b && eqL x y
  | _, _ => false
theorem eqL_ok : ∀ {x y : List Nat}, eqL x y = true → x = y
  | [], [], _ => rfl
  | [], _ :: _, h => by cases h
  | _ :: _, [], h => by cases h
  | a :: x, b :: y, h => by
    have h2 : (Nat.beq a b && eqL x y) = true := h
    rw [Bool.and_eq_true] at h2
    rw [Nat.eq_of_beq_eq_true h2.1, eqL_ok h2.2]
theorem look2 : chkAll (fun q => all1 (grE q + 1) fun d => eqL (pa1 q d d) (la1 q d d) && eqL (ml1 q d) (lm1 q d)) = true := by decide +kernel
def lkS (q d : Nat) (s : List Nat × List Nat) : Bool := eqL s.1 (la1 q d d) && (eqL s.2 (lm1 q d) && eqL (ptR1 q s.1 s.2) [])
theorem look1 : chkAll (fun q => all1 6 fun d => decide (27 < q ^ d) || (decide (d ≤ grE q) && decide ((q * q ^ d - q) / (q - 1) = mdN q d) && lkS q d ((moN q d).foldl (st1 q) ([1], [1])))) = true := by decide +kernel
theorem gr_ok {q : Nat} (hq : Fq q) : grE q ≤ 6 ∧ q ^ grE q ≤ 300 ∧ grE q * q ^ grE q ≤ 700 ∧ mdN q (grE q) ≤ 400 ∧ ∀ g, g < 8 → ((g * q ^ g ≤ 700) ↔ g ≤ grE q) := by
  have h := chk_get chk_gr hq
  simp only [Bool.and_eq_true, decide_eq_true_eq] at h
  obtain ⟨⟨⟨⟨h1, h2⟩, h3⟩, h4⟩, h5⟩ := h
  exact ⟨h1, h2, h3, h4, fun g hg => of_decide_eq_true (all1_get h5 hg)⟩
theorem more_ok {q d : Nat} (hq : Fq q) (hd : d ≤ grE q) : paN q d = laN q d ∧ mlI q d = lmI q d := by
  have h := all1_get (chk_get look2 hq) (show d < grE q + 1 by omega)
  rw [Bool.and_eq_true] at h
  have h1 := eqL_ok h.1
  have h2 := eqL_ok h.2
  rw [pa1_eq hq d (Nat.le_refl _), la1_eq hq d (Nat.le_refl _)] at h1
  rw [ml1_eq hq, lm1_eq hq] at h2
  exact ⟨h1, h2⟩
def lawF (q d : Nat) : List Nat × List Nat := (moN q d).foldl (stN q) ([1], [1])
theorem st0 {q : Nat} (hq : Fq q) (m : Nat) : StOk q (m + 1) ([1], [1]) := ⟨one_lq hq, one_lq hq, by simp, by simp, by show 1 ≤ _; omega, by show 1 ≤ _; omega⟩
theorem mon_tr {q : Nat} {xs : List Nat} (h : Mon xs) : Tr xs := fun _ => by rw [h.2]; decide

theorem chk_last : chkAll (fun q => all1 (grE q + 1) fun d => decide ((lm1 q d).getD ((lm1 q d).length - 1) 0 ≠ 0)) = true := by decide +kernel
theorem small_ok {q d : Nat} (hq : Fq q) (h27 : q ^ d ≤ 27) (hd : d < 6) : d ≤ grE q ∧ (q * q ^ d - q) / (q - 1) = mdN q d ∧ (lawF q d).1 = laN q d ∧ (lawF q d).2 = lmI q d ∧ RowOk q 3000 (lmI q d) ∧ ptR q (laN q d) (lmI q d) = [] := by
  have h := all1_get (chk_get look1 hq) hd
  rw [Bool.or_eq_true, decide_eq_true_eq] at h
  rcases h with h | h
  · omega
  · rw [Bool.and_eq_true, Bool.and_eq_true, decide_eq_true_eq, decide_eq_true_eq] at h
    obtain ⟨⟨h1, h2⟩, h3⟩ := h
    obtain ⟨g1, _, _, g4, _⟩ := gr_ok hq
    have hf := (fold_ok hq (moN q d) ([1], [1]) (d + 1) (fun x hx => mo_mon hq hx) (st0 hq d) (Nat.le_refl _)).1
    rw [hf] at h3
    unfold lkS at h3
    rw [Bool.and_eq_true, Bool.and_eq_true] at h3
    have e1 := eqL_ok h3.1
    have e2 := eqL_ok h3.2.1
    have e3 := eqL_ok h3.2.2
    rw [la1_eq hq d (Nat.le_refl _)] at e1
    rw [lm1_eq hq] at e2
    rw [e1, e2] at e3
    have hl := of_decide_eq_true (all1_get (chk_get chk_last hq) (show d < grE q + 1 by omega))
    rw [lm1_eq hq] at hl
    obtain ⟨l1, l2⟩ := lm_ok hq d
    have hmd := md_le q h1
    have ro : RowOk q 3000 (lmI q d) := ⟨l1, fun _ => hl, List.length_pos_iff.mp (by omega), by omega⟩
    rw [ptR1_eq hq (la_ok hq d (Nat.le_refl _)).1 ro] at e3
    exact ⟨h1, h2, e1, e2, ro, e3⟩

end Own
/-! the law -/
namespace Own
open PySem PySem.Spec PyProof.Rows L2 Evl

section
variable {K : PySem.W.Frag} {σ : L2.St} {H H' : Hp} {ta tb tc te tl tn : TE} {t : TT} {D : Ends} {tu tz : TS} {x y v : V} {tA : TA}
theorem dec_ints (xs ys : List Nat) : decide (xs.map Int.ofNat = ys.map Int.ofNat) = decide (xs = ys) := decide_eq_decide.mpr ⟨fun h => (List.map_inj_right (fun _ _ z => Int.ofNat.inj z)).mp h, fun h => by rw [h]⟩
theorem ev_neTT {xs ys : List Nat} (h1 : EvTt K ta σ H (xs.map N_)) (h2 : EvTt K tb σ H (ys.map N_)) : Ev (tOp (rNeD K) ta tb) σ H (.bl (!decide (xs = ys))) := fun H1 e Q q =>
  h1 H1 e _ fun p H2 e2 s2 => h2 H2 (e.trans e2) _ fun r H3 e3 s3 => rv_neT (K := K) (ns := xs.map Int.ofNat) (ms := ys.map Int.ofNat) (by rw [← mapN]; exact ex_t e3 s2) (by rw [← mapN]; exact s3) H3 (Ex.refl H3) Q fun H4 e4 => by
    rw [dec_ints]
    exact q H4 ((e2.trans e3).trans e4)
theorem ev_eqTT {xs ys : List Nat} (h1 : EvTt K ta σ H (xs.map N_)) (h2 : EvTt K tb σ H (ys.map N_)) : Ev (tOp (rEqD K) ta tb) σ H (.bl (decide (xs = ys))) := fun H1 e Q q =>
  h1 H1 e _ fun p H2 e2 s2 => h2 H2 (e.trans e2) _ fun r H3 e3 s3 => rv_eqT (K := K) (ns := xs.map Int.ofNat) (ms := ys.map Int.ofNat) (by rw [← mapN]; exact ex_t e3 s2) (by rw [← mapN]; exact s3) H3 (Ex.refl H3) Q fun H4 e4 => by
    rw [dec_ints]
    exact q H4 ((e2.trans e3).trans e4)
theorem q_parT {i j : Nat} {ys : List V} (h : Ev ta σ H x) (h2 : EvTt K tb σ H ys) (k : ∀ p H1, Ex H H1 → SqT K H1 p ys → tz D ((σ.set i (some x)).set j (some (.ref p))) H1) : tSeq (tPar i j (tCons ta (tCons tb tNil))) tz D σ H :=
  h H (Ex.refl H) _ fun H1 e1 => h2 H1 e1 _ fun p H2 e2 s2 => ⟨x, .ref p, rfl, k p H2 (e1.trans e2) s2⟩
theorem tt_call3T {sp : Sp} {E : XK} {x : V} {xs ys zs : List V} (h1 : Ev ta σ H x) (h2 : EvTt K tb σ H xs) (h3 : EvTt K tc σ H ys) (hs : ∀ p r H1, Ex H H1 → SqT K H1 p xs → SqT K H1 r ys → ∀ Q : VK, RetTt K zs H1 Q → ∀ E, sp [x, .ref p, .ref r] H1 Q E) : EvTt K (tCall sp [] E (tCons ta (tCons tb (tCons tc tNil)))) σ H zs := fun H1 e Q q =>
  h1 H1 e _ fun H2 e2 => h2 H2 (e.trans e2) _ fun p H3 e3 hp => h3 H3 ((e.trans e2).trans e3) _ fun r H4 e4 hr => hs p r H4 (((e.trans e2).trans e3).trans e4) (ex_t e4 hp) hr Q (q.go ((e2.trans e3).trans e4)) _
theorem tt_call3M {sp : Sp} {E : XK} {xs zs : List V} (h1 : Ev ta σ H x) (h2 : EvTt K tb σ H xs) (h3 : Ev tc σ H y) (hs : ∀ p H1, Ex H H1 → SqT K H1 p xs → ∀ Q : VK, RetTt K zs H1 Q → ∀ E, sp [x, .ref p, y] H1 Q E) : EvTt K (tCall sp [] E (tCons ta (tCons tb (tCons tc tNil)))) σ H zs := fun H1 e Q q =>
  h1 H1 e _ fun H2 e2 => h2 H2 (e.trans e2) _ fun p H3 e3 hp => h3 H3 ((e.trans e2).trans e3) _ fun H4 e4 => hs p H4 (((e.trans e2).trans e3).trans e4) (ex_t e4 hp) Q (q.go ((e2.trans e3).trans e4)) _
theorem retU_T {xs : List V} {H : Hp} {Q : VK} (q : RetTt K xs H Q) : RetU xs H Q := fun p H1 _ e1 h1 => q p H1 e1 (st_of h1)
theorem q_parTT {i j : Nat} {xs ys : List V} (h : EvTt K ta σ H xs) (h2 : EvTt K tb σ H ys) (k : ∀ p r H1, Ex H H1 → SqT K H1 p xs → SqT K H1 r ys → tz D ((σ.set i (some (.ref p))).set j (some (.ref r))) H1) : tSeq (tAsg (tTup (tCons ta (tCons tb tNil))) (gTup K 2 (gCons (gName i) (gCons (gName j) gNil)))) tz D σ H :=
  h H (Ex.refl H) _ fun p H1 e1 hp => h2 H1 e1 _ fun r H2 e2 hr => ⟨by show 2 ≤ sizeLine; decide, fun t nt => ⟨t, [.ref p, .ref r], rfl, st_of upd_same, rfl, .ref p, [.ref r], rfl, .ref r, [], rfl, rfl, k p r _ ((e1.trans e2).trans (Ex.new nt)) (ex_t (e2.trans (Ex.new nt)) hp) (ex_t (Ex.new nt) hr)⟩⟩
theorem q_asgCall {sp : Sp} {E : XK} {i : Nat} {vs : List V} (hA : EvA tA σ H vs) (k : ∀ H1, Ex H H1 → sp vs H1 (fun v H2 => tz D (σ.set i (some v)) H2) E) : tSeq (tAsg (tCall sp [] E tA) (gName i)) tz D σ H := hA H (Ex.refl H) _ fun H1 e1 => by
  rw [List.append_nil]
  exact k H1 e1
end
/-- a part of the division by a made tuple -/
theorem tt_partC {K : PySem.W.Frag} {σ : L2.St} {H : Hp} {ta tb tc : TE} {E : XK} {d a : Addr} {q : Nat} {xs ys : List Nat} (h1 : Ev ta σ H (.ref d)) (h2 : Ev tb σ H (.ref a)) (h3 : EvTt K tc σ H (ys.map N_)) (hq : Fq q) (hf : FldAt (fun _ => True) H d q) (hx : SqT K H a (xs.map N_)) (lx : Lq q xs) (oy : RowOk q 3000 ys) (hlx : xs.length ≤ 3000) :
    EvTt K (tOp (rIxT K) (tCall (sp__law_parted K) [] E (tCons ta (tCons tb (tCons tc tNil)))) (tC (.int 0))) σ H ((ptQ q xs ys).map N_) := fun H0 e0 Q kk =>
  h1 H0 e0 _ fun H1 e1 => h2 H1 (e0.trans e1) _ fun H2 e2 => h3 H2 ((e0.trans e1).trans e2) _ fun b H3 e3 hb => ⟨d, a, b, q, xs, ys, rfl, hq, hf.ex (((e0.trans e1).trans e2).trans e3), ex_t (((e0.trans e1).trans e2).trans e3) hx, hb, lx, oy.l, oy.pos, oy.last, hlx, oy.z, fun p r s H4 e4 h4 sr ss =>
    (ev_op (σ := σ) (H := H4) (ta := tC (.ref p)) (tb := tC (.int 0)) ev_c ev_c (rv_ixT (K := K) (v := .ref r) (st_of h4) rfl)) H4 (Ex.refl _) _ fun H5 e5 => kk r H5 ((((e1.trans e2).trans e3).trans e4).trans e5) (ex_t e5 sr)⟩

def sp__law_bracket (K : PySem.W.Frag) : Sp := fun vs H Q _ => ∃ (d : Addr) (q i : Nat), vs = [.ref d, N_ i] ∧ Fq q ∧ FldAt (fun _ => True) H d q ∧ 1 ≤ i ∧ i ≤ 300 ∧ q ^ i ≤ 900 ∧ RetTt K ((brN q i).map N_) H Q

theorem ok__law_bracket {P : Program} {w : World} {K : PySem.W.Frag} {mg : Str → Option Value} {base : Heap} (T : Txt K mg) : FnOk P w K mg base CX0 2 T.a__law_bracket T.d__law_bracket ["_law_field_here", "_law_j"] (sp__law_bracket K) := by
  refine T.F__law_bracket.ok sc__law_bracket (fun vs H Q E h => ?_) (fun cdv A outer s H vs Q E hr h => ?_)
  · obtain ⟨d, q, i, rfl, _⟩ := h
    rfl
  · obtain ⟨d, q, i, rfl, hq, hf, hi, hi3, hpw, kk⟩ := h
    refine ⟨_, (pss_one (ps_ret (pe_op (op_catAK (K := K) (by rfl)) (pe_op (op_catAK (K := K) (by rfl)) (pe_tup (pa_cons pe_int (pa_cons (pe_ix (r := rIxL K) ix_list (pe_dget (hu_of hr) (pv 0) pe_str (fun _ _ => rfl)) pe_int (fun _ _ => rfl)) pa_nil))) (pe_op (op_repUK (K := K) (by rfl)) (pe_tup (pa_cons pe_int pa_nil)) (pe_op op_sub (pe_call (ok__law_raised T) (hr.mono (by decide)) (by rfl) T.g__law_raised T.F__law_raised.kp T.b__law_raised .nil pass0 (pa_cons (pe_dget (hu_of hr) (pv 0) pe_str (fun _ _ => rfl)) (pa_cons (pv 1) pa_nil))) pe_int))) (pe_tup (pa_cons pe_int pa_nil))))), ?_⟩
    have hq0 := hq.b
    have hp2 := pow_2 (q := q) (by omega) hi
    obtain ⟨_, kvs, a1, a2, a3, hdk, gq, gp, gf, g1, g2, g3, _, _, _, hm⟩ := id hf
    refine s_retT (tt_is (tt_cat (K := K) (xs := (([0, oE q 1] ++ List.replicate (q ^ i - 2) 0).map N_)) (ys := [1].map N_) (tt_is (tt_cat (K := K) (xs := [0, oE q 1].map N_) (ys := (List.replicate (q ^ i - 2) 0).map N_) (tt_new (eu_tup (ea_cons ev_c (ea_cons (ev_op (ev_dg (ev_var rfl) hdk g3) ev_c (rv_ixL (sq_of hm) (atI_nat (j := 1) (v := N_ (oE q 1)) (by rw [List.getElem?_map, List.getElem?_map, List.getElem?_range (show 1 < q by omega)]; rfl)))) ea_nil)) (by show 2 ≤ 100000; decide))) (tt_rep (K := K) (ev_is (ev_op (ev_call (ea_cons (ev_dg (ev_var rfl) hdk gq) (ea_cons (ev_var rfl) ea_nil)) (sv_raised (by omega) (by omega))) ev_c rv_I0) (congrArg V.int (by omega))) (by omega)) (by rw [List.length_map, List.length_map, List.length_replicate]; show 2 + _ ≤ _; omega)) (by rw [List.map_append])) (tt_new (eu_tup (ea_cons ev_c ea_nil) (by show 1 ≤ 100000; decide))) (by rw [List.length_map, List.length_map, List.length_append, List.length_replicate]; show 2 + _ + 1 ≤ _; omega)) (by unfold brN; rw [List.map_append (l₁ := [0, oE q 1] ++ List.replicate (q ^ i - 2) 0)])) kk


theorem gr_pow {q d : Nat} (hq : Fq q) (hd : d ≤ grE q) : d ≤ 6 ∧ q ^ d ≤ 300 ∧ d * q ^ d ≤ 700 ∧ mdN q d ≤ 400 := by
  obtain ⟨g1, g2, g3, g4, _⟩ := gr_ok hq
  have h2 := hq.b
  have hp : q ^ d ≤ q ^ grE q := Nat.pow_le_pow_right (by omega) hd
  exact ⟨by omega, by omega, Nat.le_trans (Nat.mul_le_mul hd hp) g3, Nat.le_trans (md_le q hd) g4⟩
def sp__law_all_product (K : PySem.W.Frag) : Sp := fun vs H Q _ => ∃ (d : Addr) (q e : Nat), vs = [.ref d, N_ e] ∧ Fq q ∧ FldAt (fun _ => True) H d q ∧ e ≤ grE q ∧ RetTt K ((laN q e).map N_) H Q
def sp__law_least_multiple (K : PySem.W.Frag) : Sp := fun vs H Q _ => ∃ (d : Addr) (q e : Nat), vs = [.ref d, N_ e] ∧ Fq q ∧ FldAt (fun _ => True) H d q ∧ e ≤ grE q ∧ RetTt K ((lmI q e).map N_) H Q

theorem ok__law_all_product {P : Program} {w : World} {K : PySem.W.Frag} {mg : Str → Option Value} {base : Heap} (T : Txt K mg) : FnOk P w K mg base CX0 3 T.a__law_all_product T.d__law_all_product ["_law_field_here", "_law_d"] (sp__law_all_product K) := by
  refine T.F__law_all_product.ok sc__law_all_product (fun vs H Q E h => ?_) (fun cdv A outer s H vs Q E hr h => ?_)
  · obtain ⟨d, q, e, rfl, _⟩ := h
    rfl
  · obtain ⟨d, q, e, rfl, hq, hf, he, kk⟩ := h
    refine ⟨_, (pss_cons (ps_set (i := 2) sc__law_all_product.nd rfl (Or.inl rfl) (pe_tup (pa_cons pe_int pa_nil)))
      (pss_cons (ps_for PassesOwn.never rfl (pi_range1 rfl T.z_range (pa_cons (pv 1) pa_nil)) (pg_name (i := 3) sc__law_all_product.nd rfl (Or.inl rfl)) (pss_one (ps_set (i := 2) sc__law_all_product.nd rfl (Or.inl rfl) (pe_call (ok__law_product T) (hr.mono (by decide)) (by rfl) T.g__law_product T.F__law_product.kp T.b__law_product .nil pass0 (pa_cons (pv 0) (pa_cons (pv 2) (pa_cons (pe_call (ok__law_stretched T) (hr.mono (by decide)) (by rfl) T.g__law_stretched T.F__law_stretched.kp T.b__law_stretched .nil pass0 (pa_cons (pe_dget (hu_of hr) (pv 0) pe_str (fun _ _ => rfl)) (pa_cons (pe_call (ok__law_bracket T) (hr.mono (by decide)) (by rfl) T.g__law_bracket T.F__law_bracket.kp T.b__law_bracket .nil pass0 (pa_cons (pv 0) (pa_cons (pe_op op_sub (pv 1) (pv 3)) pa_nil))) (pa_cons (pv 3) pa_nil)))) pa_nil)))))))
      (pss_one (ps_ret (pv 2))))), ?_⟩
    have hq0 := hq.b
    obtain ⟨he6, hpw, hpe, _⟩ := gr_pow hq he
    obtain ⟨_, kvs, a1, a2, a3, hdk, gq, gp, gf, g1, g2, g3, l1, l2, _, hm_⟩ := id hf
    refine q_asgT (K := K) (xs := [1].map N_) (tt_new (eu_tup (vs := [N_ 1]) (ea_cons ev_c ea_nil) (by show 1 ≤ 100000; decide))) fun m0 H1 e1 h1 => ?_
    refine q_forR1 (n := (e : Int)) (ea_cons (ev_var rfl) ea_nil) ⟨by omega, by omega⟩ (fun j σ H' => ∃ (m : Addr) (y3 : Option V), σ = [some (.ref d), some (N_ e), some (.ref m), y3] ∧ Ex H H' ∧ SqT K H' m ((laI q e j).map N_)) (fun H2 e2 => ⟨m0, none, rfl, e1.trans e2, ex_t e2 h1⟩) (fun j σ H2 hj hw => ?_) (fun σ H2 hw => ?_)
    · obtain ⟨m, y3, rfl, e2, h2⟩ := hw
      have hje : j < e := by omega
      obtain ⟨hl1, hl2⟩ := la_ok (q := q) (d := e) hq j (by omega)
      have hbl := br_len (q := q) (i := e - j) hq (by omega)
      have hpj : q ^ j ≤ q ^ e := Nat.pow_le_pow_right (by omega) (by omega)
      have hpd : q ^ (e - j) ≤ q ^ e := Nat.pow_le_pow_right (by omega) (by omega)
      have hpm : q ^ j * q ^ (e - j) = q ^ e := by rw [← Nat.pow_add]; congr 1; omega
      have hje2 : j * q ^ e ≤ e * q ^ e := Nat.mul_le_mul_right _ (by omega)
      have hsl := sk_len (s := q ^ j) (br_ne (q := q) (i := e - j) hq (by omega))
      rw [hbl, Nat.add_sub_cancel, hpm] at hsl
      refine s_asgT (tt_call3T (K := K) (x := .ref d) (xs := (laI q e j).map N_) (ys := (skN (q ^ j) (brN q (e - j))).map N_) (ev_var rfl) (tt_var (ev_var rfl) h2) (tt_call3M (K := K) (x := N_ q) (y := N_ j) (xs := (brN q (e - j)).map N_) (ev_dg (ev_var rfl) (e2 _ _ hdk) gq) (tt_call (ea_cons (ev_var rfl) (ea_cons (ev_is (ev_op (ev_var rfl) (ev_var rfl) rv_I0) (congrArg V.int (by omega))) ea_nil)) (fun H3 e3 Q q3 E => ⟨d, q, e - j, rfl, hq, (hf.ex e2).ex e3, by omega, by omega, by omega, q3⟩)) (ev_var rfl) (fun p H3 e3 s3 Q q3 E => ⟨p, q, j, _, rfl, hq, s3, by omega, by omega, by rw [hbl, Nat.add_sub_cancel, hpm]; omega, by omega, retU_T q3⟩)) (fun p r H3 e3 s1 s2 Q q3 E => ⟨d, p, r, q, laI q e j, skN (q ^ j) (brN q (e - j)), rfl, hq, (hf.ex e2).ex e3, s1, s2, hl1, skN_lq (by omega) (br_lq hq), by omega, by omega, retU_T q3⟩)) fun m2 H3 e3 h3 => ⟨m2, _, rfl, e2.trans e3, h3⟩
    · obtain ⟨m, y3, rfl, e2, h2⟩ := hw
      rw [Int.toNat_natCast] at h2
      exact s_retT (tt_var (ev_var rfl) h2) (kk.go e2)


theorem ok__law_least_multiple {P : Program} {w : World} {K : PySem.W.Frag} {mg : Str → Option Value} {base : Heap} (T : Txt K mg) : FnOk P w K mg base CX0 3 T.a__law_least_multiple T.d__law_least_multiple ["_law_field_here", "_law_d"] (sp__law_least_multiple K) := by
  refine T.F__law_least_multiple.ok sc__law_least_multiple (fun vs H Q E h => ?_) (fun cdv A outer s H vs Q E hr h => ?_)
  · obtain ⟨d, q, e, rfl, _⟩ := h
    rfl
  · obtain ⟨d, q, e, rfl, hq, hf, he, kk⟩ := h
    refine ⟨_, (pss_cons (ps_set (i := 2) sc__law_least_multiple.nd rfl (Or.inl rfl) (pe_tup (pa_cons pe_int pa_nil)))
      (pss_cons (ps_for PassesOwn.never rfl (pi_range2 rfl T.z_range (pa_cons pe_int (pa_cons (pe_op op_add (pv 1) pe_int) pa_nil))) (pg_name (i := 3) sc__law_least_multiple.nd rfl (Or.inl rfl)) (pss_one (ps_set (i := 2) sc__law_least_multiple.nd rfl (Or.inl rfl) (pe_call (ok__law_product T) (hr.mono (by decide)) (by rfl) T.g__law_product T.F__law_product.kp T.b__law_product .nil pass0 (pa_cons (pv 0) (pa_cons (pv 2) (pa_cons (pe_call (ok__law_bracket T) (hr.mono (by decide)) (by rfl) T.g__law_bracket T.F__law_bracket.kp T.b__law_bracket .nil pass0 (pa_cons (pv 0) (pa_cons (pv 3) pa_nil))) pa_nil)))))))
      (pss_one (ps_ret (pv 2))))), ?_⟩
    have hq0 := hq.b
    obtain ⟨he6, hpw, hpe, hmd⟩ := gr_pow hq he
    refine q_asgT (K := K) (xs := [1].map N_) (tt_new (eu_tup (vs := [N_ 1]) (ea_cons ev_c ea_nil) (by show 1 ≤ 100000; decide))) fun m0 H1 e1 h1 => ?_
    refine q_forR2 (lo := 1) (n := ((e : Int) + 1)) (ea_cons ev_c (ea_cons (ev_op (ev_var rfl) ev_c rv_I0) ea_nil)) ⟨by omega, by omega, by omega, by omega⟩ (fun j σ H' => ∃ (m : Addr) (y3 : Option V), σ = [some (.ref d), some (N_ e), some (.ref m), y3] ∧ Ex H H' ∧ SqT K H' m ((lmI q j).map N_)) (fun H2 e2 => ⟨m0, none, rfl, e1.trans e2, ex_t e2 h1⟩) (fun j σ H2 hj hw => ?_) (fun σ H2 hw => ?_)
    · obtain ⟨m, y3, rfl, e2, h2⟩ := hw
      have hje : j + 1 ≤ e := by omega
      obtain ⟨hl1, hl2⟩ := lm_ok hq j
      have hbl := br_len (q := q) (i := j + 1) hq (by omega)
      have hpd : q ^ (j + 1) ≤ q ^ e := Nat.pow_le_pow_right (by omega) (by omega)
      have hb := md_le q (show j ≤ e by omega)
      refine s_asgT (tt_call3T (K := K) (x := .ref d) (xs := (lmI q j).map N_) (ys := (brN q (j + 1)).map N_) (ev_var rfl) (tt_var (ev_var rfl) h2) (tt_call (ea_cons (ev_var rfl) (ea_cons (ev_is (ev_var rfl) (congrArg V.int (by omega))) ea_nil)) (fun H3 e3 Q q3 E => ⟨d, q, j + 1, rfl, hq, (hf.ex e2).ex e3, by omega, by omega, by omega, q3⟩)) (fun p r H3 e3 s1 s2 Q q3 E => ⟨d, p, r, q, lmI q j, brN q (j + 1), rfl, hq, (hf.ex e2).ex e3, s1, s2, hl1, br_lq hq, by omega, by omega, retU_T q3⟩)) fun m2 H3 e3 h3 => ⟨m2, _, rfl, e2.trans e3, h3⟩
    · obtain ⟨m, y3, rfl, e2, h2⟩ := hw
      rw [show ((e : Int) + 1 - 1).toNat = e by omega] at h2
      exact s_retT (tt_var (ev_var rfl) h2) (kk.go e2)


def stI (q d i : Nat) : List Nat × List Nat := ((moN q d).take i).foldl (stN q) ([1], [1])
theorem stI_ok {q d : Nat} (hq : Fq q) (i : Nat) : StOk q (d + 1 + i * d) (stI q d i) := by
  have h := (fold_ok hq ((moN q d).take i) ([1], [1]) (d + 1) (fun x hx => mo_mon hq (List.mem_of_mem_take hx)) (st0 hq d) (Nat.le_refl _)).2
  have hl : ((moN q d).take i).length * d ≤ i * d := Nat.mul_le_mul_right _ (by rw [List.length_take]; exact Nat.min_le_left _ _)
  exact ⟨h.l1, h.l2, h.n1, h.n2, Nat.le_trans h.z1 (by omega), Nat.le_trans h.z2 (by omega)⟩
theorem stI_succ {q d i : Nat} {x : List Nat} (h : (moN q d)[i]? = some x) : stI q d (i + 1) = stN q (stI q d i) x := by
  unfold stI
  rw [List.take_succ, h, List.foldl_append]
  rfl
theorem stI_end (q d : Nat) : stI q d (moN q d).length = lawF q d := by
  unfold stI lawF
  rw [List.take_length]
def sp__law_right (K : PySem.W.Frag) : Sp := fun vs H Q _ => ∃ (p : Addr), vs = [.ref p] ∧ IsDice H p ∧ ∀ H', Exd p H H' → IsDice H' p → Q (.bl true) H'

theorem ok__law_right {P : Program} {w : World} {K : PySem.W.Frag} {mg : Str → Option Value} {base : Heap} (T : Txt K mg) : FnOk P w K mg base CX0 9 T.a__law_right T.d__law_right ["_law_dice_here"] (sp__law_right K) := by
  refine T.F__law_right.ok sc__law_right (fun vs H Q E h => ?_) (fun cdv A outer s H vs Q E hr h => ?_)
  · obtain ⟨p, rfl, _⟩ := h
    rfl
  · obtain ⟨p, rfl, hd, kk⟩ := h
    refine ⟨_, (pss_cons (ps_set (i := 1) sc__law_right.nd rfl (Or.inl rfl) (pe_call (ok__law_q T) (hr.mono (by decide)) (by rfl) T.g__law_q T.F__law_q.kp T.b__law_q .nil pass0 (pa_cons (pv 0) pa_nil)))
      (pss_cons (ps_set (i := 2) sc__law_right.nd rfl (Or.inl rfl) (pe_call (ok__law_field T) (hr.mono (by decide)) (by rfl) T.g__law_field T.F__law_field.kp T.b__law_field .nil pass0 (pa_cons (pv 1) pa_nil)))
      (pss_cons (ps_set (i := 3) sc__law_right.nd rfl (Or.inl rfl) (pe_call (ok__law_roll T) (hr.mono (by decide)) (by rfl) T.g__law_roll T.F__law_roll.kp T.b__law_roll .nil pass0 (pa_cons (pv 0) (pa_cons (pe_op op_add (pe_call (ok__law_size T) (hr.mono (by decide)) (by rfl) T.g__law_size T.F__law_size.kp T.b__law_size .nil pass0 (pa_cons (pv 1) (pa_cons pe_int pa_nil))) pe_int) pa_nil))))
      (pss_cons (ps_asg (pe_tup (pa_cons (pe_tup (pa_cons pe_int pa_nil)) (pa_cons (pe_tup (pa_cons pe_int pa_nil)) pa_nil))) (pg_tup (by rfl) (pgs_cons (pg_name (i := 4) sc__law_right.nd rfl (Or.inl rfl)) (pgs_cons (pg_name (i := 5) sc__law_right.nd rfl (Or.inl rfl)) pgs_nil))))
      (pss_cons (ps_for PassesOwn.never rfl (pi_list (pe_call (ok__law_monics T) (hr.mono (by decide)) (by rfl) T.g__law_monics T.F__law_monics.kp T.b__law_monics .nil pass0 (pa_cons (pv 1) (pa_cons (pv 3) pa_nil)))) (pg_name (i := 6) sc__law_right.nd rfl (Or.inl rfl)) (pss_cons (ps_set (i := 4) sc__law_right.nd rfl (Or.inl rfl) (pe_call (ok__law_product T) (hr.mono (by decide)) (by rfl) T.g__law_product T.F__law_product.kp T.b__law_product .nil pass0 (pa_cons (pv 2) (pa_cons (pv 4) (pa_cons (pv 6) pa_nil)))))
      (pss_one (ps_set (i := 5) sc__law_right.nd rfl (Or.inl rfl) (pe_call (ok__law_product T) (hr.mono (by decide)) (by rfl) T.g__law_product T.F__law_product.kp T.b__law_product .nil pass0 (pa_cons (pv 2) (pa_cons (pv 5) (pa_cons (pe_ix (r := rIxT K) ix_tup (pe_call (ok__law_parted T) (hr.mono (by decide)) (by rfl) T.g__law_parted T.F__law_parted.kp T.b__law_parted .nil pass0 (pa_cons (pv 2) (pa_cons (pv 6) (pa_cons (pe_call (ok__law_common T) (hr.mono (by decide)) (by rfl) T.g__law_common T.F__law_common.kp T.b__law_common .nil pass0 (pa_cons (pv 2) (pa_cons (pv 5) (pa_cons (pv 6) pa_nil)))) pa_nil)))) pe_int (fun _ _ => rfl)) pa_nil))))))))
      (pss_cons (ps_if (PW.pt (pw_or (pt_cmpR (op_neD hr.units) (pe_call (ok_all_product T) (hr.mono (by decide)) (by rfl) T.g_all_product T.F_all_product.kp T.b_all_product .nil pass0 (pa_cons (pv 1) (pa_cons (pv 3) pa_nil))) (pv 4) (nomark _)) (pw_or1 (pt_cmpR (op_neD hr.units) (pe_call (ok_least_multiple T) (hr.mono (by decide)) (by rfl) T.g_least_multiple T.F_least_multiple.kp T.b_least_multiple .nil pass0 (pa_cons (pv 1) (pa_cons (pv 3) pa_nil))) (pv 5) (nomark _))))) (pss_one (ps_ret pe_bl)) pss_nil)
      (pss_cons (ps_if (PW.pt (pw_or (pt_cmpR (op_neD hr.units) (pv 4) (pe_call (ok__law_all_product T) (hr.mono (by decide)) (by rfl) T.g__law_all_product T.F__law_all_product.kp T.b__law_all_product .nil pass0 (pa_cons (pv 2) (pa_cons (pv 3) pa_nil))) (nomark _)) (pw_or1 (pt_cmpR (op_neD hr.units) (pv 5) (pe_call (ok__law_least_multiple T) (hr.mono (by decide)) (by rfl) T.g__law_least_multiple T.F__law_least_multiple.kp T.b__law_least_multiple .nil pass0 (pa_cons (pv 2) (pa_cons (pv 3) pa_nil))) (nomark _))))) (pss_one (ps_ret pe_bl)) pss_nil)
      (pss_cons (ps_set (i := 7) sc__law_right.nd rfl (Or.inl rfl) (pe_call (ok__law_raised T) (hr.mono (by decide)) (by rfl) T.g__law_raised T.F__law_raised.kp T.b__law_raised .nil pass0 (pa_cons (pv 1) (pa_cons (pv 3) pa_nil))))
      (pss_cons (ps_if (PW.pt (pw_or (pt_cmpR op_ne (pe_callB call_len_seq (by rfl) T.z_len (by decide +kernel) (pa_cons (pv 4) pa_nil)) (pe_op op_add (pe_op op_mulW (pv 3) (pv 7)) pe_int) (nomark _)) (pw_or1 (pt_cmpR op_ne (pe_callB call_len_seq (by rfl) T.z_len (by decide +kernel) (pa_cons (pv 5) pa_nil)) (pe_op op_add (pe_op op_fdivW (pe_op op_sub (pe_op op_mulW (pv 1) (pv 7)) (pv 1)) (pe_op op_sub (pv 1) pe_int)) pe_int) (nomark _))))) (pss_one (ps_ret pe_bl)) pss_nil)
      (pss_cons (ps_if (pt_cmpR (op_neD hr.units) (pe_call (ok__law_rest T) (hr.mono (by decide)) (by rfl) T.g__law_rest T.F__law_rest.kp T.b__law_rest .nil pass0 (pa_cons (pv 2) (pa_cons (pv 4) (pa_cons (pv 5) pa_nil)))) (pe_tup pa_nil) (nomark _)) (pss_one (ps_ret pe_bl)) pss_nil)
      (pss_cons (ps_set (i := 8) sc__law_right.nd rfl (Or.inl rfl) pe_int)
      (pss_cons (ps_while PassesOwn.never (pt_cmpR op_le (pe_op op_mulW (pe_op op_add (pv 8) pe_int) (pe_call (ok__law_raised T) (hr.mono (by decide)) (by rfl) T.g__law_raised T.F__law_raised.kp T.b__law_raised .nil pass0 (pa_cons (pv 1) (pa_cons (pe_op op_add (pv 8) pe_int) pa_nil)))) pe_int (nomark _)) (pss_one (ps_set (i := 8) sc__law_right.nd rfl (Or.inl rfl) (pe_op op_add (pv 8) pe_int))))
      (pss_cons (ps_set (i := 9) sc__law_right.nd rfl (Or.inl rfl) (pe_call (ok__law_roll T) (hr.mono (by decide)) (by rfl) T.g__law_roll T.F__law_roll.kp T.b__law_roll .nil pass0 (pa_cons (pv 0) (pa_cons (pe_op op_add (pv 8) pe_int) pa_nil))))
      (pss_cons (ps_if (pt_cmpR (op_neD hr.units) (pe_call (ok_least_multiple T) (hr.mono (by decide)) (by rfl) T.g_least_multiple T.F_least_multiple.kp T.b_least_multiple .nil pass0 (pa_cons (pv 1) (pa_cons (pv 9) pa_nil))) (pe_call (ok__law_least_multiple T) (hr.mono (by decide)) (by rfl) T.g__law_least_multiple T.F__law_least_multiple.kp T.b__law_least_multiple .nil pass0 (pa_cons (pv 2) (pa_cons (pv 9) pa_nil))) (nomark _)) (pss_one (ps_ret pe_bl)) pss_nil)
      (pss_one (ps_ret (pe_cmpR (op_eqD hr.units) (pe_call (ok_all_product T) (hr.mono (by decide)) (by rfl) T.g_all_product T.F_all_product.kp T.b_all_product .nil pass0 (pa_cons (pv 1) (pa_cons (pv 9) pa_nil))) (pe_call (ok__law_all_product T) (hr.mono (by decide)) (by rfl) T.g__law_all_product T.F__law_all_product.kp T.b__law_all_product .nil pass0 (pa_cons (pv 2) (pa_cons (pv 9) pa_nil))) (nomark _)))))))))))))))))), ?_⟩
    refine ⟨.ref p, rfl, p, rfl, hd, fun q H1 hq x1 d1 => ?_⟩
    have hqb := hq.b
    refine ⟨N_ q, rfl, q, rfl, hq, fun f H2 e2 hf => ?_⟩
    have hf2 : FldAt (fun b => b ≠ p) H2 f q := hf.keep fun b o n h => ⟨new_ne n d1, h⟩
    have d2 := d1.ex e2
    refine ⟨.ref p, rfl, N_ q, rfl, q, 27, rfl, hq.bs, by decide, Nat.lt_trans (show 27 < 2 ^ 7 by decide) (Nat.pow_lt_pow_right (by decide) (by decide : 7 < 300)), fun s H3 h1 h2 h3 e3 => ?_⟩
    refine ⟨(s : Int), 1, rfl, rfl, p, s + 1, congrArg (fun v => [V.ref p, v]) (congrArg V.int (by omega)), d2.ex e3, Nat.succ_pos _, lt1000 (by omega), fun d H4 hd4 x4 d4 => ?_⟩
    have hds : q ^ d ≤ q ^ s := Nat.pow_le_pow_right (by omega) (by omega)
    have h27 : q ^ d ≤ 27 := by omega
    have hd6 : d < 6 := by
      apply Decidable.byContradiction
      intro hn
      have a1 : 2 ^ 6 ≤ 2 ^ d := Nat.pow_le_pow_right (by decide) (by omega)
      have a2 : 2 ^ d ≤ q ^ d := Nat.pow_le_pow_left (by omega) d
      have a3 : 2 ^ 6 = 64 := by decide
      omega
    obtain ⟨hdg, hmdq, hfin1, hfin2, hro, hrest⟩ := small_ok hq h27 hd6
    obtain ⟨hd_6, hpw, hpe, hmd⟩ := gr_pow hq hdg
    obtain ⟨hpa, hml⟩ := more_ok hq hdg
    have x24 : Exd p H2 H4 := (Exd.of e3).trans x4
    have x04 : Exd p H H4 := (x1.trans (Exd.of e2)).trans x24
    have hf4 : FldAt (fun b => b ≠ p) H4 f q := hf2.keep fun b o n h => ⟨n, x24 b o n h⟩
    have hlen : (moN q d).length = q ^ d := by unfold moN; rw [List.length_map, List.length_range]
    refine q_parTT (K := K) (xs := [1].map N_) (ys := [1].map N_) (tt_new (eu_tup (vs := [N_ 1]) (ea_cons ev_c ea_nil) (by show 1 ≤ 100000; decide))) (tt_new (eu_tup (vs := [N_ 1]) (ea_cons ev_c ea_nil) (by show 1 ≤ 100000; decide))) fun a0 b0 H5 e5 ha0 hb0 => ?_
    refine q_forPs (K := K) (xss := moN q d) (ep_call (ea_cons (ev_var rfl) (ea_cons (ev_var rfl) ea_nil)) (fun H6 e6 Q q2 E => ⟨q, d, rfl, hq, by omega, by omega, q2⟩)) (fun p_ rs i σ H' => ∃ (a b : Addr) (y6 : Option V), σ = [some (.ref p), some (N_ q), some (.ref f), some (N_ d), some (.ref a), some (.ref b), y6, none, none, none] ∧ Ex H4 H' ∧ SqT K H' a ((stI q d i).1.map N_) ∧ SqT K H' b ((stI q d i).2.map N_) ∧ SqL K H' p_ (rs.map V.ref) ∧ Tps K H' rs (moN q d)) (fun p_ rs H6 np e6 h6 t6 => ⟨a0, b0, none, rfl, e5.trans e6, ex_t e6 ha0, ex_t e6 hb0, sq_of h6, t6⟩) (fun p_ rs i σ H6 _ hw => ?_) (fun p_ rs i r xs σ H6 hxi s6 hw => ?_) (fun p_ rs σ H6 hw => ?_)
    · obtain ⟨a, b, y6, rfl, e6, sa, sb, sl, t6⟩ := hw
      exact ⟨sl, t6⟩
    · obtain ⟨a, b, y6, rfl, e6, sa, sb, sl, t6⟩ := hw
      have hil := (List.getElem?_eq_some_iff.mp hxi).1
      have hmon := mo_mon hq (List.mem_of_getElem? hxi)
      have hst := stI_ok (q := q) (d := d) hq i
      have hid : i * d ≤ 27 * 6 := Nat.mul_le_mul (by omega) (by omega)
      obtain ⟨_, _, hc, hlq, hnq, hzq⟩ := st_ok hq hst hmon (Nat.le_add_right _ _)
      have hox : RowOk q 3000 xs := hmon.ok.le (by omega)
      have hz1 := hst.z1
      have hz2 := hst.z2
      have hf6 : FldAt (fun _ => True) H6 f q := hf4.keep fun b o n h => ⟨trivial, e6 b o h⟩
      refine q_asgT (K := K) (xs := (muN q (stI q d i).1 xs).map N_) (tt_new (eu_call (ea_cons (ev_var rfl) (ea_cons (ev_var rfl) (ea_cons (ev_var rfl) ea_nil))) (sv__law_product (K := K) hq hf6 sa s6 hst.l1 hox.l (by omega) hox.z))) fun a2 H7 e7 h7 => ?_
      refine s_asgT (tt_call3T (K := K) (x := .ref f) (xs := (stI q d i).2.map N_) (ys := (ptQ q xs (cmN q (stI q d i).2 xs)).map N_) (ev_var rfl) (tt_var (ev_var rfl) (ex_t e7 sb)) (tt_partC (K := K) (ev_var rfl) (ev_var rfl) (tt_call (K := K) (ea_cons (ev_var rfl) (ea_cons (ev_var rfl) (ea_cons (ev_var rfl) ea_nil))) (sv__law_common (K := K) hq (hf6.ex e7) (ex_t e7 sb) (ex_t e7 s6) hst.l2 (by omega) hox)) hq (hf6.ex e7) (ex_t e7 s6) hox.l (hc.le (by omega)) hox.z) (fun p3 r3 H8 e8 s1 s2 Q q3 E => ⟨f, p3, r3, q, (stI q d i).2, _, rfl, hq, (hf6.ex e7).ex e8, s1, s2, hst.l2, hlq, by omega, by omega, retU_T q3⟩)) fun b2 H8 e8 h8 => ⟨a2, b2, _, rfl, (e6.trans e7).trans e8, by rw [stI_succ hxi]; exact ex_t e8 h7, by rw [stI_succ hxi]; exact h8, ex_l (e7.trans e8) sl, t6.ex (e7.trans e8)⟩
    obtain ⟨a, b, y6, rfl, e6, sa, sb, sl, t6⟩ := hw
    rw [stI_end, hfin1] at sa
    rw [stI_end, hfin2] at sb
    obtain ⟨la1, la2⟩ := la_ok (q := q) (d := d) hq d (Nat.le_refl _)
    obtain ⟨lm1, lm2⟩ := lm_ok hq d
    have fld : ∀ {G : Hp}, Ex H6 G → FldAt (fun _ => True) G f q := fun {G} e => hf4.keep fun b o n h => ⟨trivial, e b o (e6 b o h)⟩
    have allp : ∀ {G : Hp} {σ : L2.St} {E : XK} {ta : TA} {e : Nat}, e ≤ grE q → EvA ta σ G [N_ q, N_ e] → EvTt K (tCall (sp_all_product K) [] E ta) σ G ((laN q e).map N_) := fun {G σ E ta e} he h => by
      obtain ⟨z1, z2, z3, z4⟩ := gr_pow hq he
      rw [← (more_ok hq he).1]
      exact tf_tt (tf_call h fun H7 e7 Q q7 E => ⟨q, e, rfl, hq, by omega, by omega, by omega, q7⟩)
    have lstm : ∀ {G : Hp} {σ : L2.St} {E : XK} {ta : TA} {e : Nat}, e ≤ grE q → EvA ta σ G [N_ q, N_ e] → EvTt K (tCall (sp_least_multiple K) [] E ta) σ G ((lmI q e).map N_) := fun {G σ E ta e} he h => by
      obtain ⟨z1, z2, z3, z4⟩ := gr_pow hq he
      rw [← (more_ok hq he).2]
      exact tf_tt (tf_call h fun H7 e7 Q q7 E => ⟨q, e, rfl, hq, by omega, by omega, by omega, q7⟩)
    have lawp : ∀ {G : Hp} {σ : L2.St} {E : XK} {ta : TA} {e : Nat}, FldAt (fun _ => True) G f q → e ≤ grE q → EvA ta σ G [.ref f, N_ e] → EvTt K (tCall (sp__law_all_product K) [] E ta) σ G ((laN q e).map N_) := fun {G σ E ta e} hg he h => tt_call h fun H7 e7 Q q7 E => ⟨f, q, e, rfl, hq, hg.ex e7, he, q7⟩
    have lawm : ∀ {G : Hp} {σ : L2.St} {E : XK} {ta : TA} {e : Nat}, FldAt (fun _ => True) G f q → e ≤ grE q → EvA ta σ G [.ref f, N_ e] → EvTt K (tCall (sp__law_least_multiple K) [] E ta) σ G ((lmI q e).map N_) := fun {G σ E ta e} hg he h => tt_call h fun H7 e7 Q q7 E => ⟨f, q, e, rfl, hq, hg.ex e7, he, q7⟩
    have same : ∀ xs : List Nat, (!decide (xs = xs)) = false := fun xs => by rw [decide_eq_true rfl]; rfl
    refine q_when (b := false) (et_is (et_or (a := false) (b := false) (et_is (et_test (ev_neTT (K := K) (xs := laN q d) (ys := laN q d) (allp hdg (ea_cons (ev_var rfl) (ea_cons (ev_var rfl) ea_nil))) (tt_var (ev_var rfl) sa))) (same _)) (fun _ => et_is (et_test (ev_neTT (K := K) (xs := lmI q d) (ys := lmI q d) (lstm hdg (ea_cons (ev_var rfl) (ea_cons (ev_var rfl) ea_nil))) (tt_var (ev_var rfl) sb))) (same _))) rfl) (fun h => nomatch h) (fun _ H7 e7 => ?_)
    refine q_when (b := false) (et_is (et_or (a := false) (b := false) (et_is (et_test (ev_neTT (K := K) (xs := laN q d) (ys := laN q d) (tt_var (ev_var rfl) (ex_t e7 sa)) (lawp (fld e7) hdg (ea_cons (ev_var rfl) (ea_cons (ev_var rfl) ea_nil))))) (same _)) (fun _ => et_is (et_test (ev_neTT (K := K) (xs := lmI q d) (ys := lmI q d) (tt_var (ev_var rfl) (ex_t e7 sb)) (lawm (fld e7) hdg (ea_cons (ev_var rfl) (ea_cons (ev_var rfl) ea_nil))))) (same _))) rfl) (fun h => nomatch h) (fun _ H8 e8 => ?_)
    refine q_asg (v := N_ (q ^ d)) (ev_call (ea_cons (ev_var rfl) (ea_cons (ev_var rfl) ea_nil)) (sv_raised (by omega) (by omega))) fun H9 e9 => ?_
    have e69 := (e7.trans e8).trans e9
    have hsub : ((q : Int) * ((q ^ d : Nat) : Int) - (q : Int)) = ((q * q ^ d - q : Nat) : Int) := by
      have h1 : 0 < q ^ d := Nat.pow_pos (by omega)
      have h2 : q * 1 ≤ q * q ^ d := Nat.mul_le_mul_left _ h1
      rw [Int.ofNat_sub (by omega), Int.natCast_mul]
    refine q_when (b := false) (et_is (et_or (a := false) (b := false) (et_is (et_test (ev_op (ev_cb (r := rLenQ K) (ea_cons (ev_var rfl) ea_nil) (rc_lenT (ex_t e69 sa))) (ev_op (ev_op (ev_var rfl) (ev_var rfl) (rv_I (wide_mul (a := 4) (b := 10) (by show d < 16; omega) (by show q ^ d < 1024; omega) (by decide) (by decide) (by decide)))) ev_c rv_I0) (rv_ne rfl))) ?_) (fun _ => et_is (et_test (ev_op (ev_cb (r := rLenQ K) (ea_cons (ev_var rfl) ea_nil) (rc_lenT (ex_t e69 sb))) (ev_op (ev_op (ev_op (ev_op (ev_var rfl) (ev_var rfl) (rv_I (wide_mul (a := 4) (b := 10) (by show q < 16; omega) (by show q ^ d < 1024; omega) (by decide) (by decide) (by decide)))) (ev_var rfl) rv_I0) (ev_op (ev_var rfl) ev_c rv_I0) (rv_I (wide_div (b := 4) (by omega) (by show ((q : Int) - 1).natAbs < 16; omega) (by decide) (by decide)))) ev_c rv_I0) (rv_ne rfl))) ?_)) rfl) (fun h => nomatch h) (fun _ H10 e10 => ?_)
    · rw [List.length_map, show (laN q d).length = 1 + d * q ^ d from la2]
      show (!decide _) = false
      rw [decide_eq_true (congrArg V.int (by rw [Int.natCast_add, Int.natCast_mul, Int.add_comm]; rfl))]
      rfl
    · rw [List.length_map, lm2, hsub, show ((q : Int) - 1) = ((q - 1 : Nat) : Int) by omega, int_div, hmdq]
      show (!decide _) = false
      rw [decide_eq_true (congrArg V.int (by rw [Int.natCast_add, Int.add_comm]; rfl))]
      rfl
    have e610 := e69.trans e10
    refine q_when (b := false) (et_is (et_test (ev_neTT (K := K) (xs := []) (ys := []) (tt_is (tt_call (K := K) (xs := (ptR q (laN q d) (lmI q d)).map N_) (ea_cons (ev_var rfl) (ea_cons (ev_var rfl) (ea_cons (ev_var rfl) ea_nil))) (sv__law_rest (K := K) hq (fld e610) (ex_t e610 sa) (ex_t e610 sb) la1 hro.l hro.pos hro.last (by rw [show (laN q d).length = 1 + d * q ^ d from la2]; omega) hro.z)) (by rw [hrest])) (tt_new (eu_tup (vs := []) ea_nil (by decide))))) rfl) (fun h => nomatch h) (fun _ H11 e11 => ?_)
    have e611 := e610.trans e11
    refine q_asg (v := N_ 0) ev_c fun H12 e12 => ?_
    refine q_while (fun l σ H' => ∃ g : Nat, σ = [some (.ref p), some (N_ q), some (.ref f), some (N_ d), some (.ref a), some (.ref b), y6, some (N_ (q ^ d)), some (N_ g), none] ∧ l + g = 8 ∧ g ≤ grE q ∧ Ex H6 H') 8 ⟨0, rfl, rfl, Nat.zero_le _, e611.trans e12⟩ fun l σ H13 hw => ?_
    obtain ⟨g, rfl, hlg, hg, e13⟩ := hw
    obtain ⟨k1, k2, k3, k4, k5⟩ := gr_ok hq
    have hpg : q ^ (g + 1) < 2 ^ 28 := by
      have a1 : q ^ (g + 1) ≤ q ^ 7 := Nat.pow_le_pow_right (by omega) (by omega)
      have a2 : q ^ 7 ≤ 9 ^ 7 := Nat.pow_le_pow_left (by omega) 7
      have a3 : 9 ^ 7 < 2 ^ 28 := by decide
      omega
    refine ⟨decide (g + 1 ≤ grE q), et_is (et_test (ev_op (ev_op (ev_op (ev_var rfl) ev_c rv_I0) (ev_call (ea_cons (ev_var rfl) (ea_cons (ev_op (ev_var rfl) ev_c rv_I0) ea_nil)) (sv_raised (c := g + 1) (by omega) (by omega))) (rv_I (wide_mul (a := 4) (b := 28) (by show ((g : Int) + 1).natAbs < 16; omega) (by exact hpg) (by decide) (by decide) (by decide)))) ev_c rv_I0)) ?_, fun ht H14 e14 => ?_, fun ht H14 e14 => ?_⟩
    · refine decide_eq_decide.mpr ?_
      rw [← k5 (g + 1) (by omega)]
      constructor
      · intro h
        have h2 : (((g + 1) * q ^ (g + 1) : Nat) : Int) ≤ 700 := by rw [Int.natCast_mul]; exact h
        omega
      · intro h
        have h2 : (((g + 1) * q ^ (g + 1) : Nat) : Int) ≤ 700 := by omega
        rw [Int.natCast_mul] at h2
        exact h2
    · have ht2 := of_decide_eq_true ht
      refine ⟨fun σ' H' => σ' = [some (.ref p), some (N_ q), some (.ref f), some (N_ d), some (.ref a), some (.ref b), y6, some (N_ (q ^ d)), some (N_ (g + 1)), none] ∧ Ex H6 H', fun σ2 H2' hN => ?_, ?_⟩
      · obtain ⟨rfl, e15⟩ := hN
        exact ⟨l - 1, by omega, g + 1, rfl, by omega, ht2, e15⟩
      · exact s_asg (ev_op (ev_var rfl) ev_c rv_I0) fun H15 e15 => ⟨rfl, (e13.trans e14).trans e15⟩
    · have e614 := e13.trans e14
      have d14 : IsDice H14 p := d4.ex (e6.trans e614)
      have hA : EvA (tCons (tVar 0) (tCons (tOp (rI0 fun i j => .int (i + j)) (tVar 8) (tC (.int 1))) tNil)) [some (.ref p), some (N_ q), some (.ref f), some (N_ d), some (.ref a), some (.ref b), y6, some (N_ (q ^ d)), some (N_ g), none] H14 [.ref p, N_ (g + 1)] := ea_cons (ev_var rfl) (ea_cons (ev_is (ev_op (ev_var rfl) ev_c rv_I0) (congrArg V.int (by omega))) ea_nil)
      refine q_asgCall hA fun H14' e14' => ⟨p, g + 1, rfl, d14.ex e14', Nat.succ_pos _, lt1000 (by omega), fun z H15 hz x15' d15 => ?_⟩
      have x15 : Exd p H14 H15 := (Exd.of e14').trans x15'
      have hzg : z ≤ grE q := by omega
      have hf15 : FldAt (fun _ => True) H15 f q := hf4.keep fun b o n h => ⟨trivial, x15 b o n (e614 b o (e6 b o h))⟩
      refine q_when (b := false) (et_is (et_test (ev_neTT (K := K) (xs := lmI q z) (ys := lmI q z) (lstm hzg (ea_cons (ev_var rfl) (ea_cons (ev_var rfl) ea_nil))) (lawm hf15 hzg (ea_cons (ev_var rfl) (ea_cons (ev_var rfl) ea_nil))))) (same _)) (fun h => nomatch h) (fun _ H16 e16 => ?_)
      exact s_ret (ev_is (ev_eqTT (K := K) (xs := laN q z) (ys := laN q z) (allp hzg (ea_cons (ev_var rfl) (ea_cons (ev_var rfl) ea_nil))) (lawp (hf15.ex e16) hzg (ea_cons (ev_var rfl) (ea_cons (ev_var rfl) ea_nil)))) (congrArg V.bl (decide_eq_true rfl))) fun H17 e17 => kk H17 (((x04.trans (Exd.of (e6.trans e614))).trans x15).trans (Exd.of (e16.trans e17))) (d15.ex (e16.trans e17))


def sp_law (K : PySem.W.Frag) : Sp := fun vs H Q _ => ∃ (a : Addr) (ns : List Int), vs = [.ref a] ∧ SqL K H a (ns.map V.int) ∧ ns.length ≤ 63 ∧ ∀ H', Q (.bl true) H'

theorem ok_law {P : Program} {w : World} {K : PySem.W.Frag} {mg : Str → Option Value} {base : Heap} (T : Txt K mg) : FnOk P w K mg base CX0 10 T.a_law T.d_law ["_law_script"] (sp_law K) := by
  refine T.F_law.ok sc_law (fun vs H Q E h => ?_) (fun cdv A outer s H vs Q E hr h => ?_)
  · obtain ⟨a, ns, rfl, _⟩ := h
    rfl
  · obtain ⟨a, ns, rfl, hx, hlen, k⟩ := h
    refine ⟨_, (pss_cons (ps_for PassesOwn.never rfl (pi_range1 rfl T.z_range (pa_cons (pe_callB (call_max2 rfl) (by rfl) T.z_max (by decide +kernel) (pa_cons pe_int (pa_cons (pe_callB (call_min2 rfl) (by rfl) T.z_min (by decide +kernel) (pa_cons pe_int (pa_cons (pe_callB call_len_seq (by rfl) T.z_len (by decide +kernel) (pa_cons (pv 0) pa_nil)) pa_nil))) pa_nil))) pa_nil)) (pg_name (i := 1) sc_law.nd rfl (Or.inl rfl)) (pss_cons (ps_set (i := 2) sc_law.nd rfl (Or.inl rfl) (pe_call (ok__law_dice T) (hr.mono (by decide)) (by rfl) T.g__law_dice T.F__law_dice.kp T.b__law_dice .nil pass0 (pa_cons (pv 0) (pa_cons (pv 1) pa_nil))))
      (pss_one (ps_for PassesOwn.never rfl (pi_range1 rfl T.z_range (pa_cons pe_int pa_nil)) (pg_name (i := 3) sc_law.nd rfl (Or.inl rfl)) (pss_one (ps_if (pt_not (pt_val (pe_call (ok__law_right T) (hr.mono (by decide)) (by rfl) T.g__law_right T.F__law_right.kp T.b__law_right .nil pass0 (pa_cons (pv 2) pa_nil)))) (pss_one (ps_ret pe_bl)) pss_nil))))))
      (pss_one (ps_ret pe_bl))), ?_⟩
    have hm := minmax 2 ⟨by decide, by decide⟩ ((ns.map V.int).length)
    obtain ⟨n, hn, en⟩ := hm
    refine q_forR1 (n := (n : Int)) (ea_cons (ev_is (ev_cb (ea_cons ev_c (ea_cons (ev_cb (ea_cons ev_c (ea_cons (ev_cb (ea_cons (ev_var rfl) ea_nil) (rc_lenL hx)) ea_nil)) rc_min2) ea_nil)) rc_max2) (congrArg V.int en)) ea_nil) ⟨by omega, by omega⟩
      (fun i σ H' => ∃ y1 y2 y3 : Option V, σ = [some (.ref a), y1, y2, y3] ∧ SqL K H' a (ns.map V.int)) (fun H1 e1 => ⟨none, none, none, rfl, ex_l e1 hx⟩) (fun i σ H2 hi hw => ?_) (fun σ H2 hw => ?_)
    · obtain ⟨y1, y2, y3, rfl, h2⟩ := hw
      refine ⟨.ref a, rfl, N_ i, rfl, a, ns, i, rfl, h2, hlen, by omega, fun p H3 np e3 d3 => ?_⟩
      refine s_forR1 (n := 2) (ea_cons ev_c ea_nil) ⟨by decide, by decide⟩ (fun j σ H' => ∃ y3 : Option V, σ = [some (.ref a), some (N_ i), some (.ref p), y3] ∧ Exd p H3 H' ∧ IsDice H' p) (fun H4 e4 => ⟨y3, rfl, Exd.of e4, d3.ex e4⟩) (fun j σ H4 hj hw => ?_) (fun σ H4 hw => ?_)
      · obtain ⟨y3, rfl, x4, d4⟩ := hw
        refine ⟨.ref p, rfl, p, rfl, d4, fun H5 x5 d5 => ⟨true, rfl, iteF ⟨_, rfl, x4.trans x5, d5⟩⟩⟩
      · obtain ⟨y3, rfl, x4, d4⟩ := hw
        exact ⟨_, _, _, rfl, exd_lf np ((Exd.of e3).trans x4) h2⟩
    · obtain ⟨y1, y2, y3, rfl, h2⟩ := hw
      exact s_ret ev_c fun H3 e3 => k H3


end Own
namespace Own
open PySem PySem.Spec PyProof.Rows L2 Evl

theorem hFacts {P : Program} {w : World} {K1 K : PySem.W.Frag} {h : Heap} {mg : Str → Option Value} {f : Addr} (X : K.In h) (G : h.Ns mainGlobals mg) (hfa : mg ("law" : Str) = some (.ref f)) (c : hA.Says K1 K) :
    ∃ fd : FuncData, (∀ (s : Shared) (v : Value), BindsTo s fd ⟨[v], []⟩ [("_law_script", v)]) ∧ ∀ base : Heap, K.In base → base.Ns mainGlobals mg → FnOk P w K mg base CX0 10 f fd ["_law_script"] (sp_law K) := by
  obtain ⟨g_is_integer, d_is_integer, F_is_integer⟩ := c.def_ X G 0 "is_integer" s_is_integer rfl
  have b_is_integer := F_is_integer.binds (ps := ["value"]) fun _ _ _ _ _ _ us hl => match us, hl with | [_], _ => rfl
  obtain ⟨g_is_between, d_is_between, F_is_between⟩ := c.def_ X G 1 "is_between" s_is_between rfl
  have b_is_between := F_is_between.binds (ps := ["value", "low", "high"]) fun _ _ _ _ _ _ us hl => match us, hl with | [_, _, _], _ => rfl
  obtain ⟨g_check_between, d_check_between, F_check_between⟩ := c.def_ X G 2 "check_between" s_check_between rfl
  have b_check_between := F_check_between.binds (ps := ["value", "low", "high"]) fun _ _ _ _ _ _ us hl => match us, hl with | [_, _, _], _ => rfl
  obtain ⟨g_check_d, d_check_d, F_check_d⟩ := c.def_ X G 3 "check_d" s_check_d rfl
  have b_check_d := F_check_d.binds (ps := ["d"]) fun _ _ _ _ _ _ us hl => match us, hl with | [_], _ => rfl
  obtain ⟨g_whole_power, d_whole_power, F_whole_power⟩ := c.def_ X G 4 "whole_power" s_whole_power rfl
  have b_whole_power := F_whole_power.binds (ps := ["base", "exponent"]) fun _ _ _ _ _ _ us hl => match us, hl with | [_, _], _ => rfl
  obtain ⟨g_is_field, d_is_field, F_is_field⟩ := c.def_ X G 5 "is_field" s_is_field rfl
  have b_is_field := F_is_field.binds (ps := ["value"]) fun _ _ _ _ _ _ us hl => match us, hl with | [_], _ => rfl
  obtain ⟨g_check_field, d_check_field, F_check_field⟩ := c.def_ X G 6 "check_field" s_check_field rfl
  have b_check_field := F_check_field.binds (ps := ["q"]) fun _ _ _ _ _ _ us hl => match us, hl with | [_], _ => rfl
  obtain ⟨g_packed_product, d_packed_product, F_packed_product⟩ := c.def_ X G 7 "packed_product" s_packed_product rfl
  have b_packed_product := F_packed_product.binds (ps := ["q", "a", "b"]) fun _ _ _ _ _ _ us hl => match us, hl with | [_, _, _], _ => rfl
  obtain ⟨g_trimmed, d_trimmed, F_trimmed⟩ := c.def_ X G 8 "trimmed" s_trimmed rfl
  have b_trimmed := F_trimmed.binds (ps := ["row"]) fun _ _ _ _ _ _ us hl => match us, hl with | [_], _ => rfl
  obtain ⟨g_row_sum, d_row_sum, F_row_sum⟩ := c.def_ X G 9 "row_sum" s_row_sum rfl
  have b_row_sum := F_row_sum.binds (ps := ["q", "a", "b"]) fun _ _ _ _ _ _ us hl => match us, hl with | [_, _, _], _ => rfl
  obtain ⟨g_row_opposite, d_row_opposite, F_row_opposite⟩ := c.def_ X G 10 "row_opposite" s_row_opposite rfl
  have b_row_opposite := F_row_opposite.binds (ps := ["q", "a"]) fun _ _ _ _ _ _ us hl => match us, hl with | [_, _], _ => rfl
  obtain ⟨g_row_less, d_row_less, F_row_less⟩ := c.def_ X G 11 "row_less" s_row_less rfl
  have b_row_less := F_row_less.binds (ps := ["q", "a", "b"]) fun _ _ _ _ _ _ us hl => match us, hl with | [_, _, _], _ => rfl
  obtain ⟨g_many_terms, d_many_terms, F_many_terms⟩ := c.def_ X G 12 "many_terms" s_many_terms rfl
  have b_many_terms := F_many_terms.binds (ps := ["a"]) fun _ _ _ _ _ _ us hl => match us, hl with | [_], _ => rfl
  obtain ⟨g_row_product, d_row_product, F_row_product⟩ := c.def_ X G 13 "row_product" s_row_product rfl
  have b_row_product := F_row_product.binds (ps := ["q", "a", "b"]) fun _ _ _ _ _ _ us hl => match us, hl with | [_, _, _], _ => rfl
  obtain ⟨g_product_by_terms, d_product_by_terms, F_product_by_terms⟩ := c.def_ X G 14 "product_by_terms" s_product_by_terms rfl
  have b_product_by_terms := F_product_by_terms.binds (ps := ["q", "a", "b"]) fun _ _ _ _ _ _ us hl => match us, hl with | [_, _, _], _ => rfl
  obtain ⟨g_check_made, d_check_made, F_check_made⟩ := c.def_ X G 15 "check_made" s_check_made rfl
  have b_check_made := F_check_made.binds (ps := ["degree"]) fun _ _ _ _ _ _ us hl => match us, hl with | [_], _ => rfl
  obtain ⟨g_two_powers, d_two_powers, F_two_powers⟩ := c.def_ X G 16 "two_powers" s_two_powers rfl
  have b_two_powers := F_two_powers.binds (ps := ["q", "i", "j"]) fun _ _ _ _ _ _ us hl => match us, hl with | [_, _, _], _ => rfl
  obtain ⟨g_product_of_all, d_product_of_all, F_product_of_all⟩ := c.def_ X G 17 "product_of_all" s_product_of_all rfl
  have b_product_of_all := F_product_of_all.binds (ps := ["q", "d"]) fun _ _ _ _ _ _ us hl => match us, hl with | [_, _], _ => rfl
  obtain ⟨g_all_product, d_all_product, F_all_product⟩ := c.def_ X G 18 "all_product" s_all_product rfl
  have b_all_product := F_all_product.binds (ps := ["q", "d"]) fun _ _ _ _ _ _ us hl => match us, hl with | [_, _], _ => rfl
  obtain ⟨g_multiple_degree, d_multiple_degree, F_multiple_degree⟩ := c.def_ X G 19 "multiple_degree" s_multiple_degree rfl
  have b_multiple_degree := F_multiple_degree.binds (ps := ["q", "d"]) fun _ _ _ _ _ _ us hl => match us, hl with | [_, _], _ => rfl
  obtain ⟨g_multiple_of_all, d_multiple_of_all, F_multiple_of_all⟩ := c.def_ X G 20 "multiple_of_all" s_multiple_of_all rfl
  have b_multiple_of_all := F_multiple_of_all.binds (ps := ["q", "d"]) fun _ _ _ _ _ _ us hl => match us, hl with | [_, _], _ => rfl
  obtain ⟨g_least_multiple, d_least_multiple, F_least_multiple⟩ := c.def_ X G 21 "least_multiple" s_least_multiple rfl
  have b_least_multiple := F_least_multiple.binds (ps := ["q", "d"]) fun _ _ _ _ _ _ us hl => match us, hl with | [_, _], _ => rfl
  obtain ⟨g__law_dice, d__law_dice, F__law_dice⟩ := c.def_ X G 22 "_law_dice" s__law_dice rfl
  have b__law_dice := F__law_dice.binds (ps := ["_law_script", "_law_at"]) fun _ _ _ _ _ _ us hl => match us, hl with | [_, _], _ => rfl
  obtain ⟨g__law_roll, d__law_roll, F__law_roll⟩ := c.def_ X G 23 "_law_roll" s__law_roll rfl
  have b__law_roll := F__law_roll.binds (ps := ["_law_dice_here", "_law_total"]) fun _ _ _ _ _ _ us hl => match us, hl with | [_, _], _ => rfl
  obtain ⟨g__law_one_of, d__law_one_of, F__law_one_of⟩ := c.def_ X G 24 "_law_one_of" s__law_one_of rfl
  have b__law_one_of := F__law_one_of.binds (ps := ["_law_dice_here", "_law_items"]) fun _ _ _ _ _ _ us hl => match us, hl with | [_, _], _ => rfl
  obtain ⟨g__law_raised, d__law_raised, F__law_raised⟩ := c.def_ X G 25 "_law_raised" s__law_raised rfl
  have b__law_raised := F__law_raised.binds (ps := ["_law_base", "_law_count"]) fun _ _ _ _ _ _ us hl => match us, hl with | [_, _], _ => rfl
  obtain ⟨g__law_digits, d__law_digits, F__law_digits⟩ := c.def_ X G 26 "_law_digits" s__law_digits rfl
  have b__law_digits := F__law_digits.binds (ps := ["_law_base", "_law_number"]) fun _ _ _ _ _ _ us hl => match us, hl with | [_, _], _ => rfl
  obtain ⟨g__law_element_product, d__law_element_product, F__law_element_product⟩ := c.def_ X G 27 "_law_element_product" s__law_element_product rfl
  have b__law_element_product := F__law_element_product.binds (ps := ["_law_p", "_law_f", "_law_one", "_law_other"]) fun _ _ _ _ _ _ us hl => match us, hl with | [_, _, _, _], _ => rfl
  obtain ⟨g__law_element_sum, d__law_element_sum, F__law_element_sum⟩ := c.def_ X G 28 "_law_element_sum" s__law_element_sum rfl
  have b__law_element_sum := F__law_element_sum.binds (ps := ["_law_p", "_law_f", "_law_one", "_law_other"]) fun _ _ _ _ _ _ us hl => match us, hl with | [_, _, _, _], _ => rfl
  obtain ⟨g__law_field, d__law_field, F__law_field⟩ := c.def_ X G 29 "_law_field" s__law_field rfl
  have b__law_field := F__law_field.binds (ps := ["_law_q_here"]) fun _ _ _ _ _ _ us hl => match us, hl with | [_], _ => rfl
  obtain ⟨g__law_trim, d__law_trim, F__law_trim⟩ := c.def_ X G 30 "_law_trim" s__law_trim rfl
  have b__law_trim := F__law_trim.binds (ps := ["_law_row"]) fun _ _ _ _ _ _ us hl => match us, hl with | [_], _ => rfl
  obtain ⟨g__law_scaled, d__law_scaled, F__law_scaled⟩ := c.def_ X G 31 "_law_scaled" s__law_scaled rfl
  have b__law_scaled := F__law_scaled.binds (ps := ["_law_field_here", "_law_element", "_law_one"]) fun _ _ _ _ _ _ us hl => match us, hl with | [_, _, _], _ => rfl
  obtain ⟨g__law_product, d__law_product, F__law_product⟩ := c.def_ X G 32 "_law_product" s__law_product rfl
  have b__law_product := F__law_product.binds (ps := ["_law_field_here", "_law_one", "_law_other"]) fun _ _ _ _ _ _ us hl => match us, hl with | [_, _, _], _ => rfl
  obtain ⟨g__law_parted, d__law_parted, F__law_parted⟩ := c.def_ X G 33 "_law_parted" s__law_parted rfl
  have b__law_parted := F__law_parted.binds (ps := ["_law_field_here", "_law_one", "_law_other"]) fun _ _ _ _ _ _ us hl => match us, hl with | [_, _, _], _ => rfl
  obtain ⟨g__law_rest, d__law_rest, F__law_rest⟩ := c.def_ X G 34 "_law_rest" s__law_rest rfl
  have b__law_rest := F__law_rest.binds (ps := ["_law_field_here", "_law_one", "_law_other"]) fun _ _ _ _ _ _ us hl => match us, hl with | [_, _, _], _ => rfl
  obtain ⟨g__law_stretched, d__law_stretched, F__law_stretched⟩ := c.def_ X G 35 "_law_stretched" s__law_stretched rfl
  have b__law_stretched := F__law_stretched.binds (ps := ["_law_q_here", "_law_one", "_law_i"]) fun _ _ _ _ _ _ us hl => match us, hl with | [_, _, _], _ => rfl
  obtain ⟨g__law_common, d__law_common, F__law_common⟩ := c.def_ X G 36 "_law_common" s__law_common rfl
  have b__law_common := F__law_common.binds (ps := ["_law_field_here", "_law_one", "_law_other"]) fun _ _ _ _ _ _ us hl => match us, hl with | [_, _, _], _ => rfl
  obtain ⟨g__law_monic_of, d__law_monic_of, F__law_monic_of⟩ := c.def_ X G 37 "_law_monic_of" s__law_monic_of rfl
  have b__law_monic_of := F__law_monic_of.binds (ps := ["_law_field_here", "_law_one"]) fun _ _ _ _ _ _ us hl => match us, hl with | [_, _], _ => rfl
  obtain ⟨g__law_lower, d__law_lower, F__law_lower⟩ := c.def_ X G 38 "_law_lower" s__law_lower rfl
  have b__law_lower := F__law_lower.binds (ps := ["_law_q_here", "_law_d"]) fun _ _ _ _ _ _ us hl => match us, hl with | [_, _], _ => rfl
  obtain ⟨g__law_monics, d__law_monics, F__law_monics⟩ := c.def_ X G 39 "_law_monics" s__law_monics rfl
  have b__law_monics := F__law_monics.binds (ps := ["_law_q_here", "_law_d"]) fun _ _ _ _ _ _ us hl => match us, hl with | [_, _], _ => rfl
  obtain ⟨g__law_q, d__law_q, F__law_q⟩ := c.def_ X G 40 "_law_q" s__law_q rfl
  have b__law_q := F__law_q.binds (ps := ["_law_dice_here"]) fun _ _ _ _ _ _ us hl => match us, hl with | [_], _ => rfl
  obtain ⟨g__law_size, d__law_size, F__law_size⟩ := c.def_ X G 41 "_law_size" s__law_size rfl
  have b__law_size := F__law_size.binds (ps := ["_law_q_here", "_law_most"]) fun _ _ _ _ _ _ us hl => match us, hl with | [_, _], _ => rfl
  obtain ⟨g__law_bracket, d__law_bracket, F__law_bracket⟩ := c.def_ X G 42 "_law_bracket" s__law_bracket rfl
  have b__law_bracket := F__law_bracket.binds (ps := ["_law_field_here", "_law_j"]) fun _ _ _ _ _ _ us hl => match us, hl with | [_, _], _ => rfl
  obtain ⟨g__law_all_product, d__law_all_product, F__law_all_product⟩ := c.def_ X G 43 "_law_all_product" s__law_all_product rfl
  have b__law_all_product := F__law_all_product.binds (ps := ["_law_field_here", "_law_d"]) fun _ _ _ _ _ _ us hl => match us, hl with | [_, _], _ => rfl
  obtain ⟨g__law_least_multiple, d__law_least_multiple, F__law_least_multiple⟩ := c.def_ X G 44 "_law_least_multiple" s__law_least_multiple rfl
  have b__law_least_multiple := F__law_least_multiple.binds (ps := ["_law_field_here", "_law_d"]) fun _ _ _ _ _ _ us hl => match us, hl with | [_, _], _ => rfl
  obtain ⟨g__law_right, d__law_right, F__law_right⟩ := c.def_ X G 45 "_law_right" s__law_right rfl
  have b__law_right := F__law_right.binds (ps := ["_law_dice_here"]) fun _ _ _ _ _ _ us hl => match us, hl with | [_], _ => rfl
  obtain ⟨g_law, d_law, F_law⟩ := c.def_ X G 46 "law" s_law rfl
  have b_law := F_law.binds (ps := ["_law_script"]) fun _ _ _ _ _ _ us hl => match us, hl with | [_], _ => rfl
  have e := hfa.symm.trans g_law
  cases e
  obtain ⟨t_TOO_LONG, q_TOO_LONG⟩ := c.int_ X G 0 "TOO_LONG" 1000000000000000000000000000000000000000000000000000000000000 rfl
  obtain ⟨t_FEW, q_FEW⟩ := c.int_ X G 1 "FEW" 8 rfl
  obtain ⟨t_MAX_MADE, q_MAX_MADE⟩ := c.int_ X G 2 "MAX_MADE" 2000 rfl
  have w_PRIMES := Hd.see_t0 (c.tab_ 0 "PRIMES" (.t0 W_PRIMES) rfl)
  have w_POWERS := Hd.see_t0 (c.tab_ 1 "POWERS" (.t0 W_POWERS) rfl)
  have w_SUMS := Hd.see_t2 (c.tab_ 2 "SUMS" (.t2 W_SUMS) rfl)
  have w_PRODUCTS := Hd.see_t2 (c.tab_ 3 "PRODUCTS" (.t2 W_PRODUCTS) rfl)
  have w_OPPOSITES := Hd.see_t1 (c.tab_ 4 "OPPOSITES" (.t1 W_OPPOSITES) rfl)
  have w_FIELDS := Hd.see_r (c.tab_ 5 "FIELDS" (.r W_FIELDS) rfl)
  exact ⟨_, Hd.bindsTo_of F_law fun _ _ _ _ _ _ _ _ => .of_eq rfl, fun base _ _ => ok_law { F_is_integer := F_is_integer, g_is_integer := g_is_integer, b_is_integer := b_is_integer, F_is_between := F_is_between, g_is_between := g_is_between, b_is_between := b_is_between, F_check_between := F_check_between, g_check_between := g_check_between, b_check_between := b_check_between, F_check_d := F_check_d, g_check_d := g_check_d, b_check_d := b_check_d, F_whole_power := F_whole_power, g_whole_power := g_whole_power, b_whole_power := b_whole_power, F_is_field := F_is_field, g_is_field := g_is_field, b_is_field := b_is_field, F_check_field := F_check_field, g_check_field := g_check_field, b_check_field := b_check_field, F_packed_product := F_packed_product, g_packed_product := g_packed_product, b_packed_product := b_packed_product, F_trimmed := F_trimmed, g_trimmed := g_trimmed, b_trimmed := b_trimmed, F_row_sum := F_row_sum, g_row_sum := g_row_sum, b_row_sum := b_row_sum, F_row_opposite := F_row_opposite, g_row_opposite := g_row_opposite, b_row_opposite := b_row_opposite, F_row_less := F_row_less, g_row_less := g_row_less, b_row_less := b_row_less, F_many_terms := F_many_terms, g_many_terms := g_many_terms, b_many_terms := b_many_terms, F_row_product := F_row_product, g_row_product := g_row_product, b_row_product := b_row_product, F_product_by_terms := F_product_by_terms, g_product_by_terms := g_product_by_terms, b_product_by_terms := b_product_by_terms, F_check_made := F_check_made, g_check_made := g_check_made, b_check_made := b_check_made, F_two_powers := F_two_powers, g_two_powers := g_two_powers, b_two_powers := b_two_powers, F_product_of_all := F_product_of_all, g_product_of_all := g_product_of_all, b_product_of_all := b_product_of_all, F_all_product := F_all_product, g_all_product := g_all_product, b_all_product := b_all_product, F_multiple_degree := F_multiple_degree, g_multiple_degree := g_multiple_degree, b_multiple_degree := b_multiple_degree, F_multiple_of_all := F_multiple_of_all, g_multiple_of_all := g_multiple_of_all, b_multiple_of_all := b_multiple_of_all, F_least_multiple := F_least_multiple, g_least_multiple := g_least_multiple, b_least_multiple := b_least_multiple, F__law_dice := F__law_dice, g__law_dice := g__law_dice, b__law_dice := b__law_dice, F__law_roll := F__law_roll, g__law_roll := g__law_roll, b__law_roll := b__law_roll, F__law_one_of := F__law_one_of, g__law_one_of := g__law_one_of, b__law_one_of := b__law_one_of, F__law_raised := F__law_raised, g__law_raised := g__law_raised, b__law_raised := b__law_raised, F__law_digits := F__law_digits, g__law_digits := g__law_digits, b__law_digits := b__law_digits, F__law_element_product := F__law_element_product, g__law_element_product := g__law_element_product, b__law_element_product := b__law_element_product, F__law_element_sum := F__law_element_sum, g__law_element_sum := g__law_element_sum, b__law_element_sum := b__law_element_sum, F__law_field := F__law_field, g__law_field := g__law_field, b__law_field := b__law_field, F__law_trim := F__law_trim, g__law_trim := g__law_trim, b__law_trim := b__law_trim, F__law_scaled := F__law_scaled, g__law_scaled := g__law_scaled, b__law_scaled := b__law_scaled, F__law_product := F__law_product, g__law_product := g__law_product, b__law_product := b__law_product, F__law_parted := F__law_parted, g__law_parted := g__law_parted, b__law_parted := b__law_parted, F__law_rest := F__law_rest, g__law_rest := g__law_rest, b__law_rest := b__law_rest, F__law_stretched := F__law_stretched, g__law_stretched := g__law_stretched, b__law_stretched := b__law_stretched, F__law_common := F__law_common, g__law_common := g__law_common, b__law_common := b__law_common, F__law_monic_of := F__law_monic_of, g__law_monic_of := g__law_monic_of, b__law_monic_of := b__law_monic_of, F__law_lower := F__law_lower, g__law_lower := g__law_lower, b__law_lower := b__law_lower, F__law_monics := F__law_monics, g__law_monics := g__law_monics, b__law_monics := b__law_monics, F__law_q := F__law_q, g__law_q := g__law_q, b__law_q := b__law_q, F__law_size := F__law_size, g__law_size := g__law_size, b__law_size := b__law_size, F__law_bracket := F__law_bracket, g__law_bracket := g__law_bracket, b__law_bracket := b__law_bracket, F__law_all_product := F__law_all_product, g__law_all_product := g__law_all_product, b__law_all_product := b__law_all_product, F__law_least_multiple := F__law_least_multiple, g__law_least_multiple := g__law_least_multiple, b__law_least_multiple := b__law_least_multiple, F__law_right := F__law_right, g__law_right := g__law_right, b__law_right := b__law_right, F_law := F_law, g_law := g_law, b_law := b_law, z_isinstance := c.free_ X G 0 "isinstance" rfl, z_int := c.free_ X G 1 "int" rfl, z_bool := c.free_ X G 2 "bool" rfl, z_range := c.free_ X G 3 "range" rfl, z_min := c.free_ X G 4 "min" rfl, z_len := c.free_ X G 5 "len" rfl, z_tuple := c.free_ X G 6 "tuple" rfl, z_zip := c.free_ X G 7 "zip" rfl, z_list := c.free_ X G 8 "list" rfl, z_enumerate := c.free_ X G 9 "enumerate" rfl, z_sum := c.free_ X G 10 "sum" rfl, z_abs := c.free_ X G 11 "abs" rfl, z_max := c.free_ X G 12 "max" rfl, g_PRIMES := c.glo_ X G 0 "PRIMES" rfl, w_PRIMES := w_PRIMES, g_POWERS := c.glo_ X G 1 "POWERS" rfl, w_POWERS := w_POWERS, g_SUMS := c.glo_ X G 2 "SUMS" rfl, w_SUMS := w_SUMS, g_PRODUCTS := c.glo_ X G 3 "PRODUCTS" rfl, w_PRODUCTS := w_PRODUCTS, g_OPPOSITES := c.glo_ X G 4 "OPPOSITES" rfl, w_OPPOSITES := w_OPPOSITES, g_FIELDS := c.glo_ X G 5 "FIELDS" rfl, w_FIELDS := w_FIELDS, c_TOO_LONG := q_TOO_LONG, c_FEW := q_FEW, c_MAX_MADE := q_MAX_MADE }⟩
end Own
open PySem PySem.W PySem.Calls PyProof.Rows
set_option maxHeartbeats 0 in
theorem PySem.Challenge.cw_monicsums_k13_whole_products_and_least_m_holds : PySem.Challenge.rw_monicsums_k13_whole_products_and_least_m.Holds := by
  w_on; o_law
  refine HandSHeadRun.head_any (r := OpenLaw.row PySem.Challenge.rw_monicsums_k13_whole_products_and_least_m) (q := Own.hQ) (H := Own.hA.hook) (ob := Own.hOb) (M := Own.hSteps) (loose := Own.hNames) (d := HandSHeadRun.topDef (OpenLaw.row PySem.Challenge.rw_monicsums_k13_whole_products_and_least_m).prog 86) (kwd := []) Own.hOb_eq (by kernel_rfl) (fun s => by kernel_rfl) Own.hRun
    (by kernel_rfl) (by kernel_rfl) (by kernel_rfl) (by rfl) (by first | assumption | decide +kernel) (by decide +kernel) ⟨rfl, rfl, rfl, rfl, rfl, by decide +kernel⟩ ?hw ?hc
  case hw => w_witness2
  case hc =>
    refine L2.walk_ofE (l := PySem.Challenge.rw_monicsums_k13_whole_products_and_least_m) (n := 63) (k := 10) (x := "_law_script") (CX := L2.CX0) rfl (by decide) (by kernel_rfl) ⟨rfl, by decide, by decide⟩ ?F (fun _ _ _ _ z => z)
    intro w mg fa h Y G hmg0
    obtain ⟨K1, K, KX, c⟩ := Y
    have hmg : mg ("law" : PySem.Str) = some (.ref fa) := by
      have e : (HandSHeadRun.topDef (OpenLaw.row PySem.Challenge.rw_monicsums_k13_whole_products_and_least_m).prog 86).name = ("law" : PySem.Str) := by kernel_rfl
      rw [← e]
      exact hmg0
    obtain ⟨fd, hb, hF⟩ := Own.hFacts (P := (PySem.Challenge.rw_monicsums_k13_whole_products_and_least_m).prog) (w := w) KX G hmg c
    exact ⟨K, fd, Own.sp_law K, KX, hb, fun H a ns hl _ hS => ⟨a, ns, rfl, hS, hl, fun _ => rfl⟩, hF⟩
#print axioms PySem.Challenge.cw_monicsums_k13_whole_products_and_least_m_holds
