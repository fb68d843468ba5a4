import PyProof.Rows.All
import Wide.All
import OpenK.AllK
import Wide.FinOn
import HandS.Words
import KE.KStateDown
import HandS.Head3
import HandS.HeadEnd
import HandS.HeadHook1
import HandS.EndTab
import HandS.NestedK
import HandS.WordsExc
import KE.KExcSuper
import HandS.ExcSuper
import HandS.ExcInit
import HandS.TryMany
import HandS.ExcField
import HandS.ForMost
import HandS.Wide
import HandS.TupMul
import HandS.TupAny
import HandS.Style
import HandS.Evl
import HandS.IsInst
import HandS.Conv
import HandS.SortInts
import HandS.Zip
import HandS.Walk
import HandS.SortKw
import HandS.DictComp
import HandS.Gcd
import HandS.TupLe
import HandS.SortRule
import HandS.SetFor
import PyProof.EnumMake
import HandS.More
import PyProof.ReprRoads
import HandS.CallLocal
import PySem.Challenge.RW_monicsums_k23_errors_of_partings
set_option Elab.async false
set_option linter.all false
set_option maxRecDepth 100000
set_option maxHeartbeats 4000000
set_option autoImplicit true
/-! written tables with integer keys: how they are read off a written part -/
namespace Own
open PySem PySem.Spec PyProof.Rows L2
abbrev Fr_ := PySem.W.Frag
def asInt : Value → Option Int
  | .int i _ => some i
  | _ => none
def asInts : List Value → Option (List Int)
  | [] => some []
  | v :: r => match asInt v, asInts r with
    | some i, some is => some (i :: is)
    | _, _ => none
/-- the items of a written tuple -/
def asTup (K : Fr_) : Value → Option (List Value)
  | .ref a => match K.lookup a with
    | some ⟨.type T, _, .seq its _, _⟩ => if T = "tuple" ∧ its.size ≤ 1000 then some its.toList else none
    | _ => none
  | _ => none
def asRow (K : Fr_) (v : Value) : Option (List Int) := match asTup K v with
  | some l => asInts l
  | none => none
def asRowsL (K : Fr_) : List Value → Option (List (List Int))
  | [] => some []
  | v :: r => match asRow K v, asRowsL K r with
    | some i, some is => some (i :: is)
    | _, _ => none
def asRows (K : Fr_) (v : Value) : Option (List (List Int)) := match asTup K v with
  | some l => asRowsL K l
  | none => none
/-- the entries of a written dict with integer keys -/
def entriesI : List DictEntry → Option (List (Int × Value))
  | [] => some []
  | e :: r => match asInt e.key, entriesI r with
    | some i, some is => if e.hash = hashInt i then some ((i, e.val) :: is) else none
    | _, _ => none
def tabOf (K : Fr_) (d : Addr) : Option (List (Int × Value)) := match K.lookup d with
  | some ⟨.type T, none, .dict es _, sl⟩ => if T = "dict" ∧ sl = #[] then entriesI es.toList else none
  | _ => none
def mapV2 {α β : Type} (f : α → Option β) : List (Int × α) → Option (List (Int × β))
  | [] => some []
  | (i, v) :: r => match f v, mapV2 f r with
    | some w, some is => some ((i, w) :: is)
    | _, _ => none
def tab0 (K : Fr_) (d : Addr) : Option (List (Int × Int)) := (tabOf K d).bind (mapV2 asInt)
def tab1 (K : Fr_) (d : Addr) : Option (List (Int × List Int)) := (tabOf K d).bind (mapV2 (asRow K))
def tab2 (K : Fr_) (d : Addr) : Option (List (Int × List (List Int))) := (tabOf K d).bind (mapV2 (asRows K))
def asRows3L (K : Fr_) : List Value → Option (List (List (List Int)))
  | [] => some []
  | v :: r => match asRows K v, asRows3L K r with
    | some i, some is => some (i :: is)
    | _, _ => none
def asRows3 (K : Fr_) (v : Value) : Option (List (List (List Int))) := match asTup K v with
  | some l => asRows3L K l
  | none => none
def tab3 (K : Fr_) (d : Addr) : Option (List (Int × List (List (List Int)))) := (tabOf K d).bind (mapV2 (asRows3 K))
end Own
/-! the head by runs of the kernel for each answer of the world, the facts of the text read off the heap behind it -/
namespace Hd
open PySem PySem.Spec PyProof.Rows L2 He
def grow (g : Addr → Option Obj) (as : List Addr) : List Addr := as.flatMap fun a => match g a with
  | some o => refsO o
  | none => []
def lev (g : Addr → Option Obj) : Nat → List Addr → List Addr
  | 0, as => as
  | n + 1, as => as ++ lev g n (grow g as)
def kOf (n : Nat) (g : Addr → Option Obj) : PySem.W.Frag := frG g (lev g n [mainGlobals])
/-- a def of the text -/
abbrev dF (n : Str) (st : Stmt) : FnD := ⟨(n, none), n, n, defArgs st, defBody st, defScope st⟩
def defB (K : PySem.W.Frag) (d : FnD) : Bool := match PySem.W.nsIn K mainGlobals d.name with
  | some (some (.ref a)) => (match K.lookup a with
    | some ⟨_, _, .func fd, _⟩ => PySem.W.codeIn K fd.code d.qual
    | _ => false)
  | _ => false
def gloB (K : PySem.W.Frag) (x : Str) : Bool := match PySem.W.nsIn K mainGlobals x with
  | some (some (.ref _)) => true
  | _ => false
def freeB (K : PySem.W.Frag) (x : Str) : Bool := match PySem.W.nsIn K mainGlobals x with
  | some none => true
  | _ => false
def intB (K : PySem.W.Frag) (x : Str × Int) : Bool := match PySem.W.nsIn K mainGlobals x.1 with
  | some (some (.int j _)) => decide (j = x.2)
  | _ => false
def bltB (K : PySem.W.Frag) (x : Str × String) : Bool := match PySem.W.nsIn K mainGlobals x.1 with
  | some (some (.builtin j)) => decide (j = x.2)
  | _ => false
section
variable {K : PySem.W.Frag} {h : Heap} {mg : Str → Option Value}
theorem gloB_ok (X : K.In h) (G : h.Ns mainGlobals mg) {x : Str} (c : gloB K x = true) : mg x = some (.ref (ga K x)) := by
  unfold gloB at c
  split at c
  · rename_i a e
    have e2 : ga K x = a := by
      unfold ga
      rw [e]
    rw [e2]
    exact PySem.W.mg_of X G e
  · cases c
theorem freeB_ok (X : K.In h) (G : h.Ns mainGlobals mg) {x : Str} (c : freeB K x = true) : mg x = none := by
  unfold freeB at c
  split at c
  · rename_i e
    exact PySem.W.mg_none_of X G e
  · cases c
theorem intB_ok (X : K.In h) (G : h.Ns mainGlobals mg) {x : Str × Int} (c : intB K x = true) : ∃ t, mg x.1 = some (.int x.2 t) := by
  unfold intB at c
  split at c
  · rename_i j t e
    have e2 : j = x.2 := of_decide_eq_true c
    rw [← e2]
    exact ⟨t, PySem.W.mg_of X G e⟩
  · cases c
theorem bltB_ok (X : K.In h) (G : h.Ns mainGlobals mg) {x : Str × String} (c : bltB K x = true) : mg x.1 = some (.builtin x.2) := by
  unfold bltB at c
  split at c
  · rename_i j e
    have e2 : j = x.2 := of_decide_eq_true c
    rw [← e2]
    exact PySem.W.mg_of X G e
  · cases c
theorem defB_ok {n : Str} {st : Stmt} (X : K.In h) (G : h.Ns mainGlobals mg) (c : defB K (dF n st) = true) (e : fnObs K (n, none) = (dF n st).val) : mg n = some (.ref (ga K n)) ∧ ∃ d, Fun K n n st (ga K n) d := by
  unfold defB at c
  split at c
  · rename_i a e1
    have e2 : ga K n = a := by
      unfold ga
      rw [e1]
    split at c
    · rename_i oc od fd osl e3
      refine ⟨?_, ?_⟩
      · rw [e2]
        exact PySem.W.mg_of X G e1
      · have ef : fAd K (n, none) = a := e2
        have c2 : (Fa.code (n, none) n).ok K = true := by
          show (match K.lookup (fAd K (n, none)) with
            | some ⟨_, _, .func fd, _⟩ => PySem.W.codeIn K fd.code n
            | _ => false) = true
          rw [ef, e3]
          exact c
        obtain ⟨oc2, od2, osl2, kV, doc, pm, an, cdv, ct, l, cc⟩ := fn_ok (d := dF n st) e c2
        refine ⟨_, fun_mk (st := st) l cc ?_⟩
        show PySem.W.keepIn K (.ref (fAd K (n, none))) = true
        rw [ef]
        show (match K.lookup a with
          | some ⟨_, _, .func _, _⟩ => true
          | some ⟨_, _, .cls _, _⟩ => PySem.W.specialIn K (.ref a) "__call__" == some (some (.builtin "type.__call__"))
          | _ => false) = true
        rw [e3]
    · cases c
  · cases c
end
/-! ### parts of a part -/
def Sub (K1 K : PySem.W.Frag) : Prop := ∀ a o, K1.lookup a = some o → K.lookup a = some o
theorem frG_mem {g : Addr → Option Obj} {a : Addr} : ∀ {as : List Addr}, a ∈ as → (frG g as).lookup a = g a
  | [], h => by cases h
  | b :: r, h => by
    unfold frG
    rw [List.filterMap_cons]
    by_cases e : a = b
    · subst e
      cases hb : g a with
      | none =>
        show (frG g r).lookup a = none
        cases q : (frG g r).lookup a with
        | none => rfl
        | some o =>
          have := frG_at r q
          rw [hb] at this
          cases this
      | some o =>
        show (match a == a with | true => some o | false => (frG g r).lookup a) = some o
        rw [show (a == a) = true from beq_iff_eq.mpr rfl]
    · have hr : a ∈ r := by
        rcases List.mem_cons.mp h with h | h
        · exact absurd h e
        · exact h
      have ih := frG_mem (g := g) hr
      cases hb : g b with
      | none => exact ih
      | some o =>
        show (match a == b with | true => some o | false => (frG g r).lookup a) = g a
        rw [show (a == b) = false from beq_eq_false_iff_ne.mpr e]
        exact ih
theorem lookup_mem {a : Addr} {o : Obj} : ∀ {K : PySem.W.Frag}, K.lookup a = some o → ∃ o2, (a, o2) ∈ K
  | [], h => by cases h
  | (b, o2) :: r, h => by
    have h2 : (match a == b with | true => some o2 | false => List.lookup a r) = some o := h
    cases e : (a == b) with
    | true =>
      have : a = b := beq_iff_eq.mp e
      subst this
      exact ⟨o2, List.mem_cons_self⟩
    | false =>
      rw [e] at h2
      obtain ⟨o3, h3⟩ := lookup_mem (K := r) h2
      exact ⟨o3, List.mem_cons_of_mem _ h3⟩
theorem frG_as {g : Addr → Option Obj} {a : Addr} {o : Obj} {as : List Addr} (h : (frG g as).lookup a = some o) : a ∈ as := by
  obtain ⟨o2, h2⟩ := lookup_mem h
  obtain ⟨b, hb, e⟩ := List.mem_filterMap.mp (show (a, o2) ∈ as.filterMap fun a => (g a).map fun o => (a, o) from h2)
  obtain ⟨o3, _, e3⟩ := Option.map_eq_some_iff.mp e
  cases e3
  exact hb
theorem sub_of {g : Addr → Option Obj} {as bs : List Addr} (h : ∀ a ∈ as, a ∈ bs) : Sub (frG g as) (frG g bs) := fun a o e => by
  rw [frG_mem (h a (frG_as e))]
  exact frG_at as e
theorem sub_in {K1 K : PySem.W.Frag} {h : Heap} (s : Sub K1 K) (X : K.In h) : K1.In h := fun a o e => X a o (s a o e)
theorem sub_code {K1 K : PySem.W.Frag} (s : Sub K1 K) {cd : Value} {q : Str} (h : PySem.W.codeIn K1 cd q = true) : PySem.W.codeIn K cd q = true := by
  cases cd with
  | ref c =>
    have h1 : (match K1.lookup c with
      | some ⟨_, _, .fields vs, _⟩ => (match vs.toList with | _ :: .str n _ :: _ => n == q | _ => false)
      | _ => false) = true := h
    cases e : K1.lookup c with
    | none =>
      rw [e] at h1
      cases h1
    | some o =>
      rw [e] at h1
      show (match K.lookup c with
        | some ⟨_, _, .fields vs, _⟩ => (match vs.toList with | _ :: .str n _ :: _ => n == q | _ => false)
        | _ => false) = true
      rw [s c o e]
      exact h1
  | _ => cases h
theorem sub_fun {K1 K : PySem.W.Frag} (s : Sub K1 K) {n : Str} {st : Stmt} {f : Addr} {d : FuncData} (F : Fun K1 n n st f d) : Fun K n n st f d := by
  obtain ⟨oc, od, kV, doc, pm, an, cdv, ct, osl, e, lk, hcd⟩ := F.ex
  refine ⟨⟨oc, od, kV, doc, pm, an, cdv, ct, osl, e, s _ _ lk, sub_code s hcd⟩, ?_⟩
  show (match K.lookup f with
    | some ⟨_, _, .func _, _⟩ => true
    | some ⟨_, _, .cls _, _⟩ => PySem.W.specialIn K (.ref f) "__call__" == some (some (.builtin "type.__call__"))
    | _ => false) = true
  rw [s _ _ lk]
/-! ### tables -/
open Own in
section
variable {K1 K : PySem.W.Frag}
theorem sub_tup (s : Sub K1 K) {v : Value} {l : List Value} (h : asTup K1 v = some l) : asTup K v = some l := by
  cases v with
  | ref a =>
    have h1 : (match K1.lookup a with
      | some ⟨.type T, _, .seq its _, _⟩ => if T = "tuple" ∧ its.size ≤ 1000 then some its.toList else none
      | _ => none) = some l := h
    cases e : K1.lookup a with
    | none =>
      rw [e] at h1
      cases h1
    | some o =>
      rw [e] at h1
      show (match K.lookup a with
        | some ⟨.type T, _, .seq its _, _⟩ => if T = "tuple" ∧ its.size ≤ 1000 then some its.toList else none
        | _ => none) = some l
      rw [s a o e]
      exact h1
  | _ => cases h
theorem sub_row (s : Sub K1 K) {v : Value} {l : List Int} (h : asRow K1 v = some l) : asRow K v = some l := by
  unfold asRow at h ⊢
  split at h
  · rename_i l2 e
    rw [sub_tup s e]
    exact h
  · cases h
theorem sub_rowsL (s : Sub K1 K) : ∀ {vs : List Value} {l : List (List Int)}, asRowsL K1 vs = some l → asRowsL K vs = some l
  | [], l, h => h
  | v :: vs, l, h => by
    unfold asRowsL at h ⊢
    split at h
    · rename_i i is e1 e2
      rw [sub_row s e1, sub_rowsL s e2]
      exact h
    · cases h
theorem sub_rows (s : Sub K1 K) {v : Value} {l : List (List Int)} (h : asRows K1 v = some l) : asRows K v = some l := by
  unfold asRows at h ⊢
  split at h
  · rename_i l2 e
    rw [sub_tup s e]
    exact sub_rowsL s h
  · cases h
theorem sub_rows3L (s : Sub K1 K) : ∀ {vs : List Value} {l : List (List (List Int))}, asRows3L K1 vs = some l → asRows3L K vs = some l
  | [], l, h => h
  | v :: vs, l, h => by
    unfold asRows3L at h ⊢
    split at h
    · rename_i i is e1 e2
      rw [sub_rows s e1, sub_rows3L s e2]
      exact h
    · cases h
theorem sub_rows3 (s : Sub K1 K) {v : Value} {l : List (List (List Int))} (h : asRows3 K1 v = some l) : asRows3 K v = some l := by
  unfold asRows3 at h ⊢
  split at h
  · rename_i l2 e
    rw [sub_tup s e]
    exact sub_rows3L s h
  · cases h
theorem sub_tabOf (s : Sub K1 K) {d : Addr} {l : List (Int × Value)} (h : tabOf K1 d = some l) : tabOf K d = some l := by
  have h1 : (match K1.lookup d with
    | some ⟨.type T, none, .dict es _, sl⟩ => if T = "dict" ∧ sl = #[] then entriesI es.toList else none
    | _ => none) = some l := h
  cases e : K1.lookup d with
  | none =>
    rw [e] at h1
    cases h1
  | some o =>
    rw [e] at h1
    show (match K.lookup d with
      | some ⟨.type T, none, .dict es _, sl⟩ => if T = "dict" ∧ sl = #[] then entriesI es.toList else none
      | _ => none) = some l
    rw [s d o e]
    exact h1
theorem sub_mapV {α β : Type} {f f2 : α → Option β} (hf : ∀ x y, f x = some y → f2 x = some y) : ∀ {l : List (Int × α)} {m : List (Int × β)}, mapV2 f l = some m → mapV2 f2 l = some m
  | [], m, h => h
  | (i, v) :: r, m, h => by
    unfold mapV2 at h ⊢
    split at h
    · rename_i w is e1 e2
      rw [hf _ _ e1, sub_mapV hf e2]
      exact h
    · cases h
end
/-- what a written name may be read as -/
inductive TabV where
  | r (l : List Int)
  | t0 (l : List (Int × Int))
  | t1 (l : List (Int × List Int))
  | t2 (l : List (Int × List (List Int)))
  | t3 (l : List (Int × List (List (List Int))))
def see (K : PySem.W.Frag) (a : Addr) : TabV → Option TabV
  | .r _ => (Own.asRow K (.ref a)).map .r
  | .t0 _ => (Own.tab0 K a).map .t0
  | .t1 _ => (Own.tab1 K a).map .t1
  | .t2 _ => (Own.tab2 K a).map .t2
  | .t3 _ => (Own.tab3 K a).map .t3
section
variable {K1 K : PySem.W.Frag} {a : Addr}
theorem see_r {l : List Int} (h : see K a (.r l) = some (.r l)) : Own.asRow K (.ref a) = some l := by
  obtain ⟨m, e, q⟩ := Option.map_eq_some_iff.mp (show (Own.asRow K (.ref a)).map TabV.r = _ from h)
  cases q
  exact e
theorem see_t0 {l : List (Int × Int)} (h : see K a (.t0 l) = some (.t0 l)) : Own.tab0 K a = some l := by
  obtain ⟨m, e, q⟩ := Option.map_eq_some_iff.mp (show (Own.tab0 K a).map TabV.t0 = _ from h)
  cases q
  exact e
theorem see_t1 {l : List (Int × List Int)} (h : see K a (.t1 l) = some (.t1 l)) : Own.tab1 K a = some l := by
  obtain ⟨m, e, q⟩ := Option.map_eq_some_iff.mp (show (Own.tab1 K a).map TabV.t1 = _ from h)
  cases q
  exact e
theorem see_t2 {l : List (Int × List (List Int))} (h : see K a (.t2 l) = some (.t2 l)) : Own.tab2 K a = some l := by
  obtain ⟨m, e, q⟩ := Option.map_eq_some_iff.mp (show (Own.tab2 K a).map TabV.t2 = _ from h)
  cases q
  exact e
theorem see_t3 {l : List (Int × List (List (List Int)))} (h : see K a (.t3 l) = some (.t3 l)) : Own.tab3 K a = some l := by
  obtain ⟨m, e, q⟩ := Option.map_eq_some_iff.mp (show (Own.tab3 K a).map TabV.t3 = _ from h)
  cases q
  exact e
theorem sub_tab {β : Type} (s : Sub K1 K) {f f2 : Value → Option β} (hf : ∀ x y, f x = some y → f2 x = some y) {m : List (Int × β)} (h : (Own.tabOf K1 a).bind (Own.mapV2 f) = some m) : (Own.tabOf K a).bind (Own.mapV2 f2) = some m := by
  obtain ⟨l, e1, e2⟩ := Option.bind_eq_some_iff.mp h
  exact Option.bind_eq_some_iff.mpr ⟨l, sub_tabOf s e1, sub_mapV hf e2⟩
theorem sub_see (s : Sub K1 K) {t : TabV} (h : see K1 a t = some t) : see K a t = some t := by
  cases t with
  | r l =>
    show (Own.asRow K (.ref a)).map TabV.r = _
    rw [sub_row s (see_r h)]
    rfl
  | t0 l =>
    show (Own.tab0 K a).map TabV.t0 = _
    rw [show Own.tab0 K a = some l from sub_tab s (fun x y e => e) (show Own.tab0 K1 a = some l from see_t0 h)]
    rfl
  | t1 l =>
    show (Own.tab1 K a).map TabV.t1 = _
    rw [show Own.tab1 K a = some l from sub_tab s (fun x y e => sub_row s e) (show Own.tab1 K1 a = some l from see_t1 h)]
    rfl
  | t2 l =>
    show (Own.tab2 K a).map TabV.t2 = _
    rw [show Own.tab2 K a = some l from sub_tab s (fun x y e => sub_rows s e) (show Own.tab2 K1 a = some l from see_t2 h)]
    rfl
  | t3 l =>
    show (Own.tab3 K a).map TabV.t3 = _
    rw [show Own.tab3 K a = some l from sub_tab s (fun x y e => sub_rows3 s e) (show Own.tab3 K1 a = some l from see_t3 h)]
    rfl
end
/-! ### the Hook: a law's own look at the written part, its value -/
abbrev AlT : Type := Bool × (List FnV × List (Option TabV))
structure Asks where
  fn : List FnD
  glo : List Str
  free : List Str
  int : List (Str × Int)
  blt : List (Str × String)
  tabs : List (Str × TabV)
def Asks.obs1 (A : Asks) (K : PySem.W.Frag) : Bool := A.fn.all (defB K) && (A.glo.all (gloB K) && (A.free.all (freeB K) && (A.int.all (intB K) && A.blt.all (bltB K))))
def Asks.obsG (A : Asks) (g : Addr → Option Obj) : AlT := (A.obs1 (kOf 2 g), A.fn.map (fun d => fnObs (kOf 2 g) d.at_), A.tabs.map fun t => see (frG g (lev g 3 [ga (kOf 2 g) t.1])) (ga (kOf 2 g) t.1) t.2)
def Asks.val (A : Asks) : AlT := (true, A.fn.map FnD.val, A.tabs.map fun t => some t.2)
structure Asks.Says (A : Asks) (K1 K : PySem.W.Frag) : Prop where
  s : Sub K1 K
  b : A.obs1 K1 = true
  f : A.fn.map (fun d => fnObs K1 d.at_) = A.fn.map FnD.val
  t : ∀ t ∈ A.tabs, see K (ga K1 t.1) t.2 = some t.2
def Asks.hook (A : Asks) : PySem.W.Hook where
  α := AlT
  obs := fun s => A.obsG s.heap.get?
  val := fun _ => A.val
  says := fun _ h => ∃ K1 K : PySem.W.Frag, K.In h ∧ A.Says K1 K
  of := fun _ s e => by
    refine ⟨kOf 2 s.heap.get?, frG s.heap.get? (lev s.heap.get? 2 [mainGlobals] ++ A.tabs.flatMap fun t => lev s.heap.get? 3 [ga (kOf 2 s.heap.get?) t.1]), frG_in, sub_of fun a h => List.mem_append_left _ h, congrArg (fun z : AlT => z.1) e, congrArg (fun z : AlT => z.2.1) e, fun t ht => ?_⟩
    have e3 : A.tabs.map (fun t => see (frG s.heap.get? (lev s.heap.get? 3 [ga (kOf 2 s.heap.get?) t.1])) (ga (kOf 2 s.heap.get?) t.1) t.2) = A.tabs.map fun t => some t.2 := congrArg (fun z : AlT => z.2.2) e
    have e4 := List.map_inj_left.mp e3 t ht
    exact sub_see (sub_of fun a h => List.mem_append_right _ (List.mem_flatMap.mpr ⟨t, ht, h⟩)) e4
  keeps := fun _ _ _ ⟨K1, K, hK, c⟩ k => ⟨K1, K, PySem.W.Frag.In.keeps hK k, c⟩
theorem Asks.obsG_eq (A : Asks) {g : Addr → Option Obj} {s : Shared} (h : ∀ a, g a = s.heap.get? a) : A.obsG g = A.hook.obs s := by
  have e : g = s.heap.get? := funext h
  rw [e] <;> rfl
theorem both {a b : Bool} (h : (a && b) = true) : a = true ∧ b = true := Bool.and_eq_true_iff.mp h
section
variable {K1 K : PySem.W.Frag} {h : Heap} {mg : Str → Option Value} {A : Asks}
theorem Asks.Says.bb (c : A.Says K1 K) : A.fn.all (defB K1) = true ∧ A.glo.all (gloB K1) = true ∧ A.free.all (freeB K1) = true ∧ A.int.all (intB K1) = true ∧ A.blt.all (bltB K1) = true := by
  obtain ⟨c1, c⟩ := both (show (A.fn.all (defB K1) && (A.glo.all (gloB K1) && (A.free.all (freeB K1) && (A.int.all (intB K1) && A.blt.all (bltB K1))))) = true from c.b)
  obtain ⟨c2, c⟩ := both c
  obtain ⟨c3, c⟩ := both c
  obtain ⟨c4, c5⟩ := both c
  exact ⟨c1, c2, c3, c4, c5⟩
theorem Asks.Says.tab_ (c : A.Says K1 K) (i : Nat) (n : Str) (t : TabV) (hi : A.tabs[i]? = some (n, t)) : see K (ga K1 n) t = some t := c.t (n, t) (List.mem_of_getElem? hi)
theorem Asks.Says.def_ (c : A.Says K1 K) (X : K.In h) (G : h.Ns mainGlobals mg) (i : Nat) (n : Str) (st : Stmt) (hi : A.fn[i]? = some (dF n st)) : mg n = some (.ref (ga K1 n)) ∧ ∃ d, Fun K n n st (ga K1 n) d := by
  have e2 : (A.fn.map fun d => fnObs K1 d.at_)[i]? = (A.fn.map FnD.val)[i]? := by rw [c.f]
  rw [List.getElem?_map, List.getElem?_map, hi] at e2
  obtain ⟨q1, d, q2⟩ := defB_ok (sub_in c.s X) G (List.all_eq_true.mp c.bb.1 _ (List.mem_of_getElem? hi)) (Option.some.inj e2)
  exact ⟨q1, d, sub_fun c.s q2⟩
theorem Asks.Says.glo_ (c : A.Says K1 K) (X : K.In h) (G : h.Ns mainGlobals mg) (i : Nat) (n : Str) (hi : A.glo[i]? = some n) : mg n = some (.ref (ga K1 n)) := gloB_ok (sub_in c.s X) G (List.all_eq_true.mp c.bb.2.1 _ (List.mem_of_getElem? hi))
theorem Asks.Says.free_ (c : A.Says K1 K) (X : K.In h) (G : h.Ns mainGlobals mg) (i : Nat) (n : Str) (hi : A.free[i]? = some n) : mg n = none := freeB_ok (sub_in c.s X) G (List.all_eq_true.mp c.bb.2.2.1 _ (List.mem_of_getElem? hi))
theorem Asks.Says.int_ (c : A.Says K1 K) (X : K.In h) (G : h.Ns mainGlobals mg) (i : Nat) (n : Str) (z : Int) (hi : A.int[i]? = some (n, z)) : ∃ t, mg n = some (.int z t) := intB_ok (sub_in c.s X) G (x := (n, z)) (List.all_eq_true.mp c.bb.2.2.2.1 _ (List.mem_of_getElem? hi))
theorem Asks.Says.blt_ (c : A.Says K1 K) (X : K.In h) (G : h.Ns mainGlobals mg) (i : Nat) (n : Str) (z : String) (hi : A.blt[i]? = some (n, z)) : mg n = some (.builtin z) := bltB_ok (sub_in c.s X) G (x := (n, z)) (List.all_eq_true.mp c.bb.2.2.2.2 _ (List.mem_of_getElem? hi))
theorem bindsTo_of {n : Str} {st : Stmt} {f : Addr} {d : FuncData} {x : Str} (F : Fun K n n st f d)
    (h : ∀ (kV doc pm : Value) (an : Option Addr) (cdv ct : Value) (s : Shared) (v : Value), BindsTo s (PySem.W.fnOf n n (defArgs st) (defBody st) (defScope st) .none kV doc pm an cdv ct) ⟨[v], []⟩ [(x, v)]) (s : Shared) (v : Value) : BindsTo s d ⟨[v], []⟩ [(x, v)] := by
  obtain ⟨oc, od, kV, doc, pm, an, cdv, ct, osl, rfl, lk, hcd⟩ := F.ex
  exact h kV doc pm an cdv ct s v
end
/-! ### the run in two looks -/
theorem map_two {α β γ δ : Type} {o : Option α} {f : α → β} {f2 : α → γ} {g : α → δ} {b : β} {c : γ} {d : δ} (h1 : o.map (fun x => (f x, f2 x)) = some (b, c)) (h2 : o.map g = some d) : o.map (fun x => (f x, f2 x, g x)) = some (b, c, d) := by
  cases o with
  | none => cases h1
  | some x =>
    have e1 : (f x, f2 x) = (b, c) := Option.some.inj h1
    have e2 : g x = d := Option.some.inj h2
    show some (f x, f2 x, g x) = some (b, c, d)
    cases e1
    cases e2
    rfl
end Hd
/-! the head's look for texts with own errors and with lambdas: facts of classes, of code objects and of their tables -/
namespace Hx
open PySem PySem.Spec PyProof.Rows L2 He Hd
/-- what is known of an own error without a making of its own -/
structure ErrOk (K : PySem.W.Frag) (C : Addr) : Prop where
  ex : PySem.W.excIn K C veBase "ValueError.__new__" = true
  kp : PySem.W.keepIn K (.ref C) = true
  sb : PySem.W.subIn K (.ref C) (.type "BaseException") = some true
  ty : PySem.W.typeIn K (.ref C) = some (.type "type")
  me : PySem.W.exmOne K (.ref C) (.ref C) = some true
/-- the code object of a def, its table -/
def cdAt (K : PySem.W.Frag) (x : Str) : Addr := match K.lookup (ga K x) with
  | some ⟨_, _, .func fd, _⟩ => (match fd.code with
    | .ref c => c
    | _ => 0)
  | _ => 0
def tbAt (K : PySem.W.Frag) (x : Str) : Addr := match K.lookup (cdAt K x) with
  | some ⟨_, _, .fields vs, _⟩ => (match (vs[11]? : Option Value) with
    | some (.ref P) => P
    | _ => 0)
  | _ => 0
def lamB (K : PySem.W.Frag) (x : Str) : Bool := (match K.lookup (ga K x) with
  | some ⟨_, _, .func fd, _⟩ => (match fd.code with
    | .ref _ => true
    | _ => false)
  | _ => false) && (PySem.W.codeHdIn K (cdAt K x) (tbAt K x) && (match K.lookup (tbAt K x) with
  | some _ => false
  | none => true))
structure AsksX where
  a : Asks
  err : List Str
  lam : List Str
def kAll (A : Asks) (g : Addr → Option Obj) : PySem.W.Frag := frG g (lev g 2 [mainGlobals] ++ A.tabs.flatMap fun t => lev g 3 [ga (kOf 2 g) t.1])
def errB (K : PySem.W.Frag) (x : Str) : Bool := (Fa.exc x).ok K && (Fa.exm x x true).ok K
abbrev AlX : Type := AlT × (Bool × List (Option Obj))
def tabO : Obj := { cls := .none, data := .fields #[] }
def AsksX.obsG (A : AsksX) (g : Addr → Option Obj) : AlX := (A.a.obsG g, (A.err.all (errB (kAll A.a g)) && A.lam.all (lamB (kAll A.a g)), A.lam.map fun x => g (tbAt (kAll A.a g) x)))
def AsksX.val (A : AsksX) : AlX := (A.a.val, (true, A.lam.map fun _ => some tabO))
structure AsksX.Says (A : AsksX) (h : Heap) (K1 K : PySem.W.Frag) : Prop where
  a : A.a.Says K1 K
  err : ∀ x ∈ A.err, errB K x = true
  lam : ∀ x ∈ A.lam, lamB K x = true
  tab : ∀ x ∈ A.lam, h.get? (tbAt K x) = some tabO
def AsksX.hook (A : AsksX) : PySem.W.Hook where
  α := AlX
  obs := fun s => A.obsG s.heap.get?
  val := fun _ => A.val
  says := fun _ h => ∃ K1 K : PySem.W.Frag, K.In h ∧ A.Says h K1 K
  of := fun w s e => by
    have e0 : A.a.obsG s.heap.get? = A.a.val := congrArg (fun z : AlX => z.1) e
    have e1 : (A.err.all (errB (kAll A.a s.heap.get?)) && A.lam.all (lamB (kAll A.a s.heap.get?))) = true := congrArg (fun z : AlX => z.2.1) e
    have e2 : A.lam.map (fun x => s.heap.get? (tbAt (kAll A.a s.heap.get?) x)) = A.lam.map fun _ => some tabO := congrArg (fun z : AlX => z.2.2) e
    obtain ⟨b1, b2⟩ := both e1
    refine ⟨kOf 2 s.heap.get?, kAll A.a s.heap.get?, frG_in, ⟨sub_of fun a h => List.mem_append_left _ h, congrArg (fun z : AlT => z.1) e0, congrArg (fun z : AlT => z.2.1) e0, fun t ht => ?_⟩, List.all_eq_true.mp b1, List.all_eq_true.mp b2, fun x hx => List.map_inj_left.mp e2 x hx⟩
    have e3 : A.a.tabs.map (fun t => see (frG s.heap.get? (lev s.heap.get? 3 [ga (kOf 2 s.heap.get?) t.1])) (ga (kOf 2 s.heap.get?) t.1) t.2) = A.a.tabs.map fun t => some t.2 := congrArg (fun z : AlT => z.2.2) e0
    exact sub_see (sub_of fun a h => List.mem_append_right _ (List.mem_flatMap.mpr ⟨t, ht, h⟩)) (List.map_inj_left.mp e3 t ht)
  keeps := fun _ _ _ ⟨K1, K, hK, c⟩ k => ⟨K1, K, PySem.W.Frag.In.keeps hK k, c.a, c.err, c.lam, fun x hx => k _ _ (c.tab x hx)⟩
theorem AsksX.obsG_eq (A : AsksX) {g : Addr → Option Obj} {s : Shared} (h : ∀ a, g a = s.heap.get? a) : A.obsG g = A.hook.obs s := by
  have e : g = s.heap.get? := funext h
  rw [e] <;> rfl
section
variable {K1 K : PySem.W.Frag} {h : Heap} {mg : Str → Option Value} {A : AsksX}
theorem err_ok {x : Str} (c : errB K x = true) : ErrOk K (ga K x) := by
  obtain ⟨c1, c2⟩ := both (show ((Fa.exc x).ok K && (Fa.exm x x true).ok K) = true from c)
  obtain ⟨a1, a2, a3, a4⟩ := exc_ok c1
  exact ⟨a1, a2, a3, a4, exm_ok c2⟩
theorem ga_sub {x : Str} (s : Sub K1 K) (c : gloB K1 x = true) : ga K x = ga K1 x := by
  cases e : K1.lookup mainGlobals with
  | none =>
    have n1 : PySem.W.nsIn K1 mainGlobals x = none := by
      unfold PySem.W.nsIn
      rw [e]
    unfold gloB at c
    rw [n1] at c
    cases c
  | some o =>
    have n1 : PySem.W.nsIn K mainGlobals x = PySem.W.nsIn K1 mainGlobals x := by
      unfold PySem.W.nsIn
      rw [e, s _ _ e]
    unfold ga
    rw [n1]
theorem gloB_def {n : Str} {st : Stmt} (c : defB K1 (dF n st) = true) : gloB K1 n = true := by
  unfold defB at c
  split at c
  · rename_i a e1
    unfold gloB
    rw [show PySem.W.nsIn K1 mainGlobals n = some (some (.ref a)) from e1]
  · cases c
theorem AsksX.Says.err_ (c : A.Says h K1 K) (X : K.In h) (G : h.Ns mainGlobals mg) (i j : Nat) (x : Str) (hi : A.a.glo[i]? = some x) (hj : A.err[j]? = some x) : mg x = some (.ref (ga K1 x)) ∧ ErrOk K (ga K1 x) := by
  have hg := List.all_eq_true.mp c.a.bb.2.1 _ (List.mem_of_getElem? hi)
  refine ⟨c.a.glo_ X G i x hi, ?_⟩
  rw [← ga_sub c.a.s hg]
  exact err_ok (c.err x (List.mem_of_getElem? hj))
/-- a def that makes lambdas: its code object is known -/
def LamOk (K : PySem.W.Frag) (n : Str) (st : Stmt) (f cd : Addr) (d : FuncData) : Prop := ∃ (oc : Value) (od : Option Addr) (kV doc pm : Value) (an : Option Addr) (ct : Value) (osl : Array (Option Value)),
    d = PySem.W.fnOf n n (defArgs st) (defBody st) (defScope st) .none kV doc pm an (.ref cd) ct ∧ K.lookup f = some ⟨oc, od, .func d, osl⟩ ∧ PySem.W.codeIn K (.ref cd) n = true
theorem AsksX.Says.lam_ (c : A.Says h K1 K) (X : K.In h) (i j : Nat) (n : Str) (st : Stmt) (hi : A.a.fn[i]? = some (dF n st)) (hj : A.lam[j]? = some n) {d : FuncData} (F : Fun K n n st (ga K1 n) d) :
    LamOk K n st (ga K1 n) (cdAt K n) d ∧ h.get? (tbAt K n) = some tabO ∧ K.lookup (tbAt K n) = none ∧ PySem.W.CodeHd h (cdAt K n) (tbAt K n) := by
  have hg := gloB_def (List.all_eq_true.mp c.a.bb.1 _ (List.mem_of_getElem? hi))
  have eg := ga_sub c.a.s hg
  have hm := List.mem_of_getElem? hj
  obtain ⟨b1, b2⟩ := both (c.lam n hm)
  obtain ⟨b2, b3⟩ := both b2
  refine ⟨?_, c.tab n hm, ?_, PySem.W.codeHd_of_K X b2⟩
  · obtain ⟨oc, od, kV, doc, pm, an, cdv, ct, osl, e, lk, hcd⟩ := F.ex
    have b1' : (match K.lookup (ga K n) with
      | some ⟨_, _, .func fd, _⟩ => (match fd.code with
        | .ref _ => true
        | _ => false)
      | _ => false) = true := b1
    rw [eg, lk, e] at b1'
    have e2 : cdv = .ref (cdAt K n) := by
      unfold cdAt
      rw [eg, lk, e]
      cases cdv with
      | ref z => rfl
      | _ => cases b1'
    refine ⟨oc, od, kV, doc, pm, an, ct, osl, ?_, lk, ?_⟩
    · rw [e, e2]
    · rw [← e2]
      exact hcd
  · cases q : K.lookup (tbAt K n) with
    | none => rfl
    | some o =>
      have b3' : (match K.lookup (tbAt K n) with
        | some _ => false
        | none => true) = true := b3
      rw [q] at b3'
      cases b3'
end
/-- a law with tables of code objects: F gives the written part too -/
theorem walk_ofTE {l : PySem.W.OpenLaw} {n k : Nat} {q : Program} {loose : List Str} {XP : (Str → Option Value) → Heap → Prop} {YP : World → Heap → Prop} {d : DefRec} {CX : World → CXT} {x : Str}
    (hn : l.most = some n) (hn2 : n ≤ sizeLine) (hdf : d.params.defaults = []) (hr : Room k callerA)
    (F : ∀ (w : World) (mg : Str → Option Value) (fa : Addr) (h : Heap), YP w h → h.Ns mainGlobals mg → mg d.name = some (.ref fa) → ∃ K : PySem.W.Frag, K.In h ∧ LamX.LawAtS l w K (CX w) k n x mg fa h)
    (hCX : ∀ (w : World) (H : Hp) (s : Shared) (e : Value) (s' : Shared), CX w [] H s (fun _ _ _ => False) e s' → False) :
    PySem.W.WalkO q loose XP YP l.row.toRowW d [] (fun f vs => PySem.call f vs) := by
  refine Att.attach_callB hn hdf fun w s₀ s₁ mg mb fa o pm cd doc a vs ns G Y ho hd hcd hmg hobj hints hlen hbits hg => ?_
  obtain ⟨K, KX, fd, cs, sp, hT, nT, C, hb, hsp, hF⟩ := F w mg fa _ Y G.T.g hmg
  exact LamX.law_callTs KX G.T.g G.T.b G.T.builtins G.T.nolimit hg hT nT C G.T.bmain hobj hints (Nat.le_trans hlen hn2) hr hF hb (fun H hH hS => hsp H a ns hlen hbits hH hS) fun H e s' => hCX w H s₁ e s'
end Hx
/-! own exceptions over built-in ones, whose __init__ says super().__init__(text) and keeps what it is given -/
namespace Es
open PySem PySem.Spec PySem.W PySem.Calls PyProof.Rows
/-- super().__init__(msg); self.fld = y -/
abbrev initB (msg fld slf y : Str) (j : Nat) (p0 p1 p2 p3 p4 p5 p6 p7 p8 p9 : Pos) : List Stmt :=
  [.Expr (.Call (.Attribute (.Call (.Name "super" p0) [] [] p1) "__init__" p2) [.Constant (.str msg) j p3] [] p4) p5, .Assign [.Attribute (.Name slf p6) fld p7] (.Name y p8) p9]
/-- what is known of such a class: C the class, fI its __init__, cda its code, cc the cell of __class__ -/
structure SupC (K : Frag) (P : Program) (B newId initId : String) (bm : List Value) (C fI cda cc : Addr) (fld slf y : Str) (params : Arguments) (body : List Stmt) (scope : Scope) : Prop where
  FB : ExcBaseFacts B newId initId bm
  KF : KxsFacts B initId
  SF : ∃ sa' ow, StoreFacts B bm sa' ow
  cls : ∃ nm q N bs sn sub ab col dd k0 k1 k2 k3 k5, K.lookup C = some (excClassObj nm q C N bs bm true sn sub ab col dd k0 k1 k2 k3 k5 newId)
  fn : ∃ oc od osl qual kV doc pm an ct, K.lookup fI = some ⟨oc, od, .func (ksFn "__init__" qual params body scope .none kV doc pm an (.ref cda) ct cc), osl⟩ ∧ codeIn K (.ref cda) qual = true
  co : ∃ ccl cdd vs ccs file tf, K.lookup cda = some ⟨ccl, cdd, .fields vs, ccs⟩ ∧ vs[2]? = some (.str file tf) ∧ ((P.main.file : Str) == file) = true
  cell : ∃ cl cld csl, K.lookup cc = some ⟨cl, cld, .cell (some (.ref C)), csl⟩
  any : nsIn K cStatics "thirdparty.any" = some none
  sup : ks_superIn K C C "__init__" = some (some (.builtin initId))
  sa : findIn K (.ref C) "__setattr__" = some (some (.builtin "object.__setattr__"))
  fno : findIn K (.ref C) fld = some none
  subB : subIn K (.ref C) (.type B) = some true
  self : mroIn K C (.ref C) = some true
  top : (P.main.scope.names.lookup ("super" : Str)).isSome = false
  ar : ∃ a, (params.posonlyargs ++ params.args).head? = some a ∧ a.arg = slf
  ks : scope.names.lookup ("super" : Str) = some .globalImplicit
  kc : scope.names.lookup ("__class__" : Str) = some .free
  kS : scope.names.lookup slf = some .local
  kY : scope.names.lookup y = some .local
  kind : scope.kind = .function
  ncell : ∀ x ∈ scope.names, x.2 ≠ .cell
  sco : scope.isCoroutine = false
  sgen : scope.isGenerator = false
  ne : slf ≠ y
  dS : (slf == ("__debug__" : Str)) = false
  ob : bm.contains (.type "object") = true
  dY : (y == ("__debug__" : Str)) = false
section
open Builtin Builtin.ObjectAttr
variable {prog : Program} {w : World} {A : Around} {E : Value → Shared → Prop} {R : Result → Shared → Prop} {hp : Heap} {g : Array GenState} {d : Drawn} {t : Nat} {os : OsState}
theorem osa_S {K : W.Frag} {B sa' ow : String} {bm : List Value} {name : Str} {tk : Tok} {v : Value} {x C : Addr} {fv : Array Value} {cd : ClassData} (SF0 : StoreFacts B bm sa' ow)
    (X : K.In hp) (hx : hp.get? x = some { cls := .ref C, data := .fields fv }) (hcd : W.clsIn K C = some cd) (hm : cd.mro = .ref C :: bm) (hob : bm.contains (.type "object") = true) (hh : cd.hasDict = true) (ha : W.findIn K (.ref C) name = some none)
    (hq : ∀ h' tk' dx, (∀ b o, b ≠ x → hp.get? b = some o → h'.get? b = some o) → hp.objs.size ≤ dx → dx ≠ x → h'.get? x = some { cls := .ref C, dict := some dx, data := .fields fv } →
      h'.Ns1 dx (fun y => if y = name then some v else none) → R (.ok (.ret .none)) ⟨h', g, d, tk', os⟩) :
    codeAny (model prog w) A (.call (.builtin "object.__setattr__") ⟨[.ref x, .str name tk, v], []⟩) R ⟨hp, g, d, t, os⟩ := by
  have I : W.InstAt hp x { cls := .ref C, data := .fields fv } C none := ⟨hx, rfl, rfl, trivial⟩
  have SF := F.store_object
  have hob2 : cd.mro.contains (.type "object") = true := by
    rw [hm, List.contains_cons, hob, Bool.or_true]
  have ne : cd.mro.isEmpty = false := by rw [hm]; rfl
  have hxs : x ≠ hp.objs.size := Nat.ne_of_lt (Heap.lt_size hx)
  have sub : W.Looks (model prog w) hp (isInstance (.ref x) (.type "object")) true := I.type.andThen (W.looks_mroIn X (by unfold W.mroIn; rw [hcd, Option.bind_some, if_neg (by rw [ne]; decide), hob2]))
  refine codeAny_call_builtin SF.slot.plain SF.entry (@W.check_slot (model prog w) _ _ ⟨hp, g, d, t, os⟩ "object.__setattr__" "object" "__setattr__" (.ref x) [.str name tk, v] [] _ SF.kind SF.split sub (SF.args (.ref x) (.str name tk) v) ?_)
  have hmr : W.Looks (model prog w) hp (mroOf (.ref C)) cd.mro := (W.looks_clsIn X hcd).andThen .now
  have L3 : W.Looks (model prog w) hp (storeTaker? none) none := .now
  have hcls : W.Looks (model prog w) hp (classData C) cd := W.looks_clsIn X hcd
  have hpass : refuseLoop (.ref x) "__setattr__" cd.mro = pure () := by
    rw [hm, refuseLoop_ref]
    exact SF0.passes _
  rw [W.osa_eq, refuse_eq]
  refine wpAny_bind (wpAny_bind (I.type.at (wpAny_bind (hmr.at ?_))))
  rw [hpass]
  refine wpAny_pure (wpAny_bind (I.type.at (wpAny_bind ((W.looks_findIn X ha).at (wpAny_bind (L3.at ?_))))))
  show wpAny _ _ (storeInOwnDict (.ref x) (.ref C) (.str name tk) name v false) _ _ _
  obtain ⟨nm, bs, mro, ns, qn, hd, sn, sb, ab, col, del⟩ := cd
  dsimp only at hh
  subst hh
  unfold storeInOwnDict ownDictForStores
  repeat (first | with_reducible refine HandSPX.store_in_new ?_ ?_ | with_reducible refine wpAny_loadPart_at hx ?_ | with_reducible refine hcls.at ?_ | wp_step)
  · exact ⟨_, #[], _, (Heap.get?_update_ne _ _ _ _ hxs.symm).trans (Heap.get?_push_at rfl rfl), rfl, fun e he => absurd he (by simp), fun _ => rfl⟩
  · intro h' tk' hn' hs
    have hx₁ : (hp.push { cls := .type "dict", data := .dict #[] }).get? x = some { cls := .ref C, data := .fields fv } := Heap.get?_push_of_some _ hx
    refine hq h' tk' hp.objs.size (fun b o hb ho => ?_) (Nat.le_refl _) hxs.symm ?_ hn'
    · exact (hs.2 b (Nat.ne_of_lt (Heap.lt_size ho))).trans ((Heap.get?_update_ne _ _ _ _ hb).trans (Heap.get?_push_of_some _ ho))
    · exact (hs.2 x hxs).trans (Heap.get?_update_self _ hx₁ rfl)
/-- the bound built-in __init__, called -/
theorem call_mw {B newId initId : String} {bmB bm : List Value} {nm q : Str} {C N : Addr} {bs : List Value} {hdct : Bool} {sn : List Str} {sub : List Value} {ab : Bool} {col : Option Bool} {dd : Option Addr} {k0 k1 k2 k3 k5 : Option Value} (FB : ExcBaseFacts B newId initId bmB) {u e t0 : Addr} {rest : List Value} {Q : Value → Shared → Prop}
    (hC : hp.get? C = some (excClassObj nm q C N bs bm hdct sn sub ab col dd k0 k1 k2 k3 k5 newId)) (he : hp.get? e = some (HandSPX.excO C t0)) (hu : hp.get? u = some (kxs_mw initId e)) (hrest : rest.length ≤ sizeLine)
    (hq : ∀ h' t1, (∀ b o, b ≠ e → hp.get? b = some o → h'.get? b = some o) → h'.get? e = some (HandSPX.excO C t1) → Q .none ⟨h', g, d, t, os⟩) :
    wpAny (model prog w) A (call (.ref u) rest) Q E ⟨hp, g, d, t, os⟩ := by
  refine wpAny_call (codeAny_of_tree ?_)
  show wpAny _ A.in1 (callAny (.ref u) ⟨rest, []⟩) _ _ _
  simp only [callAny]
  refine wpAny_bind (wpAny_load hu ?_)
  simp only [kxs_mw, show (Value.type "method-wrapper" == Value.type "method" || Value.type "method-wrapper" == Value.type "builtin_function_or_method" || Value.type "method-wrapper" == Value.type "method-wrapper") = true by decide, if_true]
  refine KFB.if_so (by decide) ?_
  refine wpAny_bind (check_bound_init FB.toExcCallFacts hC he rfl ?_)
  refine wpAny_bind (wpAny_pure (wpAny_pure ?_))
  refine ⟨plainId_quiet FB.init.plain _, codeAny_builtin FB.initEntry ?_⟩
  exact exc_init_tree (cls := .ref C) (t0 := t0) (dv := none) (c2 := .none) (c3 := .none) (b4 := .bool false) he hrest fun h' k e' t' => hq h' _ k e'
end
section
variable {P : Program} {w : World} {A : Around} {E : Value → Shared → Prop} {R : Result → Shared → Prop} {s : Shared} {K : Frag} {B newId initId : String} {bm : List Value} {C fI cda cc : Addr} {fld slf y msg : Str} {params : Arguments} {scope : Scope} {mg mb : Str → Option Value}
theorem init_runs {j : Nat} {p0 p1 p2 p3 p4 p5 p6 p7 p8 p9 : Pos} {pl : Sem Bool} (hev : ∀ (qual : Str) (L : Addr), eval (.Call (.Attribute (.Call (.Name "super" p0) [] [] p1) "__init__" p2) [.Constant (.str msg) j p3] [] p4) (ksEnv qual scope L fI (.ref cda) cc) = (do
      let ov ← attributeBase (.Call (.Name "super" p0) [] [] p1) "__init__" (ksEnv qual scope L fI (.ref cda) cc) (eval (.Call (.Name "super" p0) [] [] p1) (ksEnv qual scope L fI (.ref cda) cc))
      standAt p2.atName
      let (f, first) ← holding [ov] (getMethod ov "__init__" pl)
      callWith p4 f first (backTo p4 (starEach [.Constant (.str msg) j p3] (ksEnv qual scope L fI (.ref cda) cc))) []))
    (hint : ∀ (qual : Str) (L : Addr), interactive (ksEnv qual scope L fI (.ref cda) cc) = false) (S : SupC K P B newId initId bm C fI cda cc fld slf y params (initB msg fld slf y j p0 p1 p2 p3 p4 p5 p6 p7 p8 p9) scope) {e t0 : Addr} {u : Value}
    (X : K.In s.heap) (hg : s.heap.Ns mainGlobals mg) (hmg : mg "super" = none) (hbn : s.heap.Ns builtinsNs mb) (hmb : mb "super" = bootBuiltins "super") (hboot : bootBuiltins "super" = some (.type "super")) (lim : s.heap.NoLimit) (hroom : A.depth < recursionLimit)
    (he : s.heap.get? e = some (HandSPX.excO C t0)) (hek : K.lookup e = none)
    (hbind : ∀ qual kV doc pm an ct, BindsTo s (ksFn "__init__" qual params (initB msg fld slf y j p0 p1 p2 p3 p4 p5 p6 p7 p8 p9) scope .none kV doc pm an (.ref cda) ct cc) ⟨[.ref e, u], []⟩ [(slf, .ref e), (y, u)])
    (hR : ∀ h' tk t1 dx, (∀ b o, b ≠ e → s.heap.get? b = some o → h'.get? b = some o) → e < dx → h'.get? e = some { cls := .ref C, dict := some dx, data := .fields #[.ref t1, .none, .none, .none, .bool false, .none] } →
      h'.Ns1 dx (fun z => if z = fld then some u else none) → R (.ok (.ret .none)) { s with heap := h', toks := tk }) :
    codeAny (model P w) A (.call (.ref fI) ⟨[.ref e, u], []⟩) R s := by
  obtain ⟨nm, q, N, bs, sn, sub, ab, col, dd, k0, k1, k2, k3, k5, hC⟩ := S.cls
  obtain ⟨oc, od, osl, qual, kV, doc, pm, an, ct, hfn, hcod⟩ := S.fn
  obtain ⟨ccl, cdd, vs, ccs, file, tf, hco, hvs, hfile⟩ := S.co
  obtain ⟨cl, cld, csl, hcell⟩ := S.cell
  obtain ⟨ar, har, hars⟩ := S.ar
  obtain ⟨sa', ow, SF0⟩ := S.SF
  have hcl : clsIn K C = some { name := nm, bases := bs, mro := .ref C :: bm, ns := N, qualname := q, hasDict := true, slotNames := sn, subclasses := sub, abstract := ab, collection := col, hasDel := false } := by unfold clsIn; rw [hC] <;> rfl
  have hxC : e ≠ C := fun z => by
    have := X _ _ hC
    rw [← z, he] at this
    cases this
  refine ks_codeAny_call_defAt (fd := ksFn "__init__" qual params (initB msg fld slf y j p0 p1 p2 p3 p4 p5 p6 p7 p8 p9) scope .none kV doc pm an (.ref cda) ct cc) (binds := [(slf, .ref e), (y, u)]) hroom (X _ _ hfn) rfl lim (codeRec_of X hcod) rfl (hbind _ _ _ _ _ _) S.ncell (fun z hz => ?_) (fun h₁ hns k1 => ?_) S.sco S.sgen S.kind
  · rcases List.mem_cons.mp hz with rfl | hz
    · exact S.kS
    · rw [List.mem_singleton.mp hz]
      exact S.kY
  show _root_.PySem.wpAt (model P w) (A.deeper (ksEnv qual scope s.heap.objs.size fI (.ref cda) cc)) (.func _ (ksEnv qual scope s.heap.objs.size fI (.ref cda) cc)) (execs (initB msg fld slf y j p0 p1 p2 p3 p4 p5 p6 p7 p8 p9) (ksEnv qual scope s.heap.objs.size fI (.ref cda) cc)) _ _ _
  have X1 : K.In h₁ := X.keeps k1
  have he1 := k1 _ _ he
  have hmS : (fun x => ([(slf, Value.ref e), (y, u)] : List (Str × Value)).reverse.lookup x) slf = some (.ref e) := by
    show (match slf == y with | true => some u | false => (match slf == slf with | true => some (Value.ref e) | false => none)) = _
    rw [beq_eq_false_iff_ne.mpr S.ne, beq_self_eq_true slf]
  have hmY : (fun x => ([(slf, Value.ref e), (y, u)] : List (Str × Value)).reverse.lookup x) y = some u := by
    show (match y == y with | true => some u | false => _) = _
    rw [beq_self_eq_true y]
  refine ks_wpAt_execs_cons (ks_wpAt_Expr_any (ks_wpAt_MethodCall (ks_wpAt_super_base (env := ksEnv qual scope s.heap.objs.size fI (.ref cda) cc) S.ks S.kc (by decide) rfl (X1 _ _ hfn) rfl har rfl (X1 _ _ hco) rfl hvs hfile S.top ?_) (hev _ _)) (hint _ _))
  refine ks_loadName_global S.kind S.ks (loadGlobal_builtin (env := ksEnv qual scope s.heap.objs.size fI (.ref cda) cc) (hg.at' fun o q => k1 _ o q) hmg (hbn.at' fun o q => k1 _ o q) (hmb.trans hboot) ⟨rfl, ?_⟩)
  refine wpAny_loadName_free S.kind S.kc rfl ⟨_, X1 _ _ hcell, rfl⟩ ?_
  refine wpAny_loadName_local S.kind (by rw [hars]; exact S.kS) hns (by rw [hars]; exact hmS) ?_
  refine ks_wpAny_isType_cls (X1 _ _ hC) rfl ⟨rfl, ?_⟩
  refine ks_wpAny_call_super (X1 _ _ hC) rfl he1 rfl (fun c z => by cases z) (looks_mroIn X1 S.self) (fun h2 e2 k2 => ?_)
  have X2 : K.In h2 := X1.keeps k2
  have I2 : InstAt h2 e (HandSPX.excO C t0) C none := ⟨k2 _ _ he1, rfl, rfl, trivial⟩
  have hm := S.sup
  unfold ks_superIn at hm
  rw [hcl, Option.bind_some] at hm
  refine kxs_getMethod S.KF e2 (looks_opaque X2 S.any) (l₀ := .ref C :: bm) (fun A Q E s k q => wpAny_bind ((looks_clsIn X2 hcl) A _ E s k (wpAny_pure q))) rfl X2 hm (I2.type.andThen (looks_subIn X2 S.subB)) hxC (by decide) ?_
  have hmw : (h2.push (kxs_mw initId e)).get? h2.objs.size = some (kxs_mw initId e) := Heap.get?_push_at rfl rfl
  have k3 : ∀ b o, h2.get? b = some o → (h2.push (kxs_mw initId e)).get? b = some o := fun b o q => Heap.get?_push_of_some _ q
  refine kxs_callWith (i := initId) (x := e) (by rfl) (evalArgs_plain ?_)
  show wpAny _ _ (spliced ((false, eval (.Constant (.str msg) j p3) (ksEnv qual scope s.heap.objs.size fI (.ref cda) cc)) :: backTo p4 (starEach [] (ksEnv qual scope s.heap.objs.size fI (.ref cda) cc)))) _ _ _
  refine Calls.spliced_cons (Calls.Constant_str (Calls.spliced_nil ⟨hmw, ?_⟩))
  refine call_mw S.FB (X2.keeps k3 _ _ hC) (k3 _ _ (k2 _ _ he1)) hmw (by show 1 ≤ sizeLine; rw [sizeLine_eq]; omega) fun h4 t1 k4 e4 => ?_
  have k14 : ∀ b o, b ≠ e → h₁.get? b = some o → h4.get? b = some o := fun b o hb q => k4 b o hb (k3 _ _ (k2 _ _ q))
  have X4 : K.In h4 := fun b o q => k14 b o (fun z => by
    rw [z, hek] at q
    cases q) (X1 _ _ q)
  have hL : s.heap.objs.size ≠ e := fun z => by
    have := Heap.lt_size he
    rw [z] at this
    exact Nat.lt_irrefl _ this
  have hns4 := hns.at' fun o q => k14 _ o hL q
  refine ks_wpAt_execs_cons (ks_wpAt_Assign_Attr (wpAt_of_wpAny (wpAny_Name (wpAny_loadName_local S.kind S.kY hns4 hmY (wpAny_Name (wpAny_loadName_local S.kind S.kS hns4 hmS ?_) S.dS)) S.dY)))
  refine set_plain X4 (ox := HandSPX.excO C t1) (od := none) ⟨e4, rfl, rfl, trivial⟩ S.sa ?_
  refine osa_S SF0 X4 e4 hcl rfl S.ob rfl S.fno fun h5 tk dx k5 hdx dne e5 hn5 => ?_
  refine wpAt_of_wpAny (wpAny_execs_nil (hR h5 tk t1 dx (fun b o hb q => k5 b o hb (k14 b o hb (k1 b o q))) (Nat.lt_of_lt_of_le (Heap.lt_size e4) hdx) e5 hn5))
end
end Es
namespace Es
open PySem PySem.Spec PyProof.Rows L2
variable {X : Cx} {B newId initId : String} {bm : List Value} {C fI cda cc : Addr} {fld slf y msg x : Str} {params : Arguments} {scope : Scope} {ta : TA} {ee : Expr}
/-- C(e): the error keeps it -/
theorem pmk_sup {j k : Nat} {p p0 p1 p2 p3 p4 p5 p6 p7 p8 p9 pos : Pos} {pl : Sem Bool} (hev : ∀ (qual : Str) (L : Addr), eval (.Call (.Attribute (.Call (.Name "super" p0) [] [] p1) "__init__" p2) [.Constant (.str msg) j p3] [] p4) (PySem.W.ksEnv qual scope L fI (.ref cda) cc) = (do
      let ov ← attributeBase (.Call (.Name "super" p0) [] [] p1) "__init__" (PySem.W.ksEnv qual scope L fI (.ref cda) cc) (eval (.Call (.Name "super" p0) [] [] p1) (PySem.W.ksEnv qual scope L fI (.ref cda) cc))
      standAt p2.atName
      let (f, first) ← holding [ov] (getMethod ov "__init__" pl)
      callWith p4 f first (backTo p4 (starEach [.Constant (.str msg) j p3] (PySem.W.ksEnv qual scope L fI (.ref cda) cc))) []))
    (hint : ∀ (qual : Str) (L : Addr), interactive (PySem.W.ksEnv qual scope L fI (.ref cda) cc) = false)
    (S : SupC X.K X.prog B newId initId bm C fI cda cc fld slf y params (initB msg fld slf y j p0 p1 p2 p3 p4 p5 p6 p7 p8 p9) scope)
    (hbind : ∀ s qual kV doc pm an ct e u, BindsTo s (PySem.W.ksFn "__init__" qual params (initB msg fld slf y j p0 p1 p2 p3 p4 p5 p6 p7 p8 p9) scope .none kV doc pm an (.ref cda) ct cc) ⟨[.ref e, u], []⟩ [(slf, .ref e), (y, u)])
    (iC : PySem.W.findIn X.K (.ref C) "__init__" = some (some (.ref fI))) (tI : PySem.W.typeIn X.K (.ref fI) = some (.type "function")) (kC : PySem.W.keepIn X.K (.ref C) = true) (exC : PySem.W.subIn X.K (.ref C) (.type "BaseException") = some true) (tyC : PySem.W.typeIn X.K (.ref C) = some (.type "type"))
    (hmg : X.mg "super" = none) (hboot : bootBuiltins "super" = some (.type "super")) (hr : Room (k + 1) X.A) (hg : Gl X x) (hm : X.mg x = some (.ref C)) (ha : PA X [ee] ta) (hdb : (x == ("__debug__" : Str)) = false := by decide)
    (he : starEach [ee] X.env = (false, eval ee X.env) :: starEach [] X.env := by rfl) (hpl : (backTo pos (starEach [] X.env)).any (·.1) = false := by rfl) :
    PMk X (.Call (.Name x p) [ee] [] pos) (fun σ H Q => ta σ H fun vs H1 => ∃ v, vs = [v] ∧ ∀ d, H1 d = none → Q (.ref C) (some d) (upd H1 d (.xd [(fld, v)]))) := by
  intro pins s σ H Q I h
  obtain ⟨nm, q, N, bs, sn, sub, ab, col, dd, k0, k1, k2, k3, k5, hC⟩ := S.cls
  refine wpAny_Call_Name_kw (ld_glob I hg hm ?_ hdb)
  refine PySem.W.callWith_K (h₀ := X.base) I.ok.mod.kin kC (thn (ha.run pos pins s σ H _ I h) fun us s1 ⟨vs, H1, I1, r1, v, ev, q1⟩ => ⟨I1.kIn, ?_⟩) he hpl
  subst ev
  obtain ⟨u, us0, rfl, ru, rest⟩ : ∃ u us0, us = u :: us0 ∧ RelV v u ∧ Vals [] us0 := by
    cases r1 with
    | cons a b => exact ⟨_, _, rfl, a, b⟩
  cases rest
  show wpAny _ _ (call (.ref C) [u]) _ _ _
  obtain ⟨mb, hb1, hb2⟩ := I1.mod.blt
  have hsz0 : s1.heap.objs.size ≤ s1.heap.objs.size + 1 := Nat.le_succ _
  have kk : ∀ b o, s1.heap.get? b = some o → ((s1.heap.push (PySem.W.kdv_tup [u])).push (PySem.HandSPX.excO C s1.heap.objs.size)).get? b = some o := fun b o e => Heap.get?_push_of_some _ (Heap.get?_push_of_some _ e)
  have hget : ((s1.heap.push (PySem.W.kdv_tup [u])).push (PySem.HandSPX.excO C s1.heap.objs.size)).get? (s1.heap.objs.size + 1) = some (PySem.HandSPX.excO C s1.heap.objs.size) := by heap_get
  have hek : X.K.lookup (s1.heap.objs.size + 1) = none := by
    cases z : X.K.lookup (s1.heap.objs.size + 1) with
    | none => rfl
    | some o => exact absurd (Heap.lt_size (I1.kIn _ _ z)) (fun z2 => Nat.lt_irrefl _ (Nat.lt_of_succ_lt z2))
  have hgl : s1.heap.Ns mainGlobals X.mg := I1.mod.glob.keeps I1.bk
  have hbl : s1.heap.Ns builtinsNs mb := hb1.keeps I1.bk
  refine wpAny_call (PySem.HandSPX.call_own S.FB (fun _ => rfl) (I1.kIn _ _ hC) (PySem.W.looks_findIn I1.kIn iC) (fun self => PySem.W.bind_fn I1.kIn self tI) (by show 1 ≤ sizeLine; rw [sizeLine_eq]; omega)
    (init_runs hev hint S (PySem.W.Frag.In.keeps I1.kIn kk) (hgl.at' fun o q => kk _ o q) hmg (hbl.at' fun o q => kk _ o q) (hb2 _ (by decide)) hboot (I1.nolimit.keeps kk) (hr.make C [u] []).depth hget hek (fun qual kV doc pm an ct => hbind _ _ _ _ _ _ _ _ _) fun h' tk t1 dx k4 hlt e4 hn4 => ?_))
  refine ⟨rfl, ?_⟩
  have hfr : H1 (s1.heap.objs.size + 1) = none := I1.hok.fresh hsz0
  have hdx0 : s1.heap.objs.size ≤ dx := Nat.le_of_lt (Nat.lt_of_succ_lt hlt)
  have hdxe : dx ≠ s1.heap.objs.size + 1 := fun z => Nat.lt_irrefl _ (z ▸ hlt)
  obtain ⟨G, g1, g2⟩ := restrict h' fun b => decide (b ≠ s1.heap.objs.size + 1)
  have gk : ∀ b, b ≠ s1.heap.objs.size + 1 → G.get? b = h'.get? b := fun b hb => g1 b (decide_eq_true hb)
  have ge : G.get? (s1.heap.objs.size + 1) = none := g2 _ (by simp)
  have kG : ∀ b o, s1.heap.get? b = some o → G.get? b = some o := fun b o e => by
    have hb : b ≠ s1.heap.objs.size + 1 := fun z => by
      have := Heap.lt_size e
      rw [z] at this
      exact Nat.lt_irrefl _ (Nat.lt_of_succ_lt this)
    rw [gk b hb]
    exact k4 b o hb (kk b o e)
  have J := I1.laid (t' := tk) (a := dx) (o := .xd [(fld, v)]) (h' := G) kG hdx0 ⟨_, hn4.at fun o q => (gk dx hdxe).trans q, fun f => relO_put (fs := []) (mA := fun _ => none) ru (fun g => True.intro) f⟩
  refine ⟨s1.heap.objs.size + 1, _, _, { s1 with heap := G, toks := tk }, _, .ref C, some dx, rfl, J, fun b o z => ?_, ge, e4, ⟨rfl, rfl⟩, rfl, rfl, ?_, rfl, I1.bare, raises_own exC tyC, q1 dx (I1.hok.fresh hdx0)⟩
  · by_cases hba : b = s1.heap.objs.size + 1
    · rw [hba, ge] at z
      cases z
    · exact (gk b hba).symm.trans z
  · rw [upd_ne (Ne.symm hdxe)]
    exact hfr
end Es
/-! several except clauses, some of them with a name -/
namespace Em
open PySem PySem.Spec PyProof.Rows L2
/-- behind a suite whose name is at i -/
def endsA (D : Ends) : Option Nat → Ends
  | none => D
  | some i => { nx := fun σ H => D.nx (σ.set i none) H, rt := D.rt, bk := fun σ H => D.bk (σ.set i none) H, ct := fun σ H => D.ct (σ.set i none) H }
def slotA (σ : L2.St) (a : Addr) : Option Nat → L2.St
  | none => σ
  | some i => σ.set i (some (.ref a))
def wManyA (K : PySem.W.Frag) (Wout : WX) (D : Ends) : List (Value × Option Nat × (Addr → Value → Option Addr → TS)) → WX
  | [] => Wout
  | (c, n, ts) :: r => fun cls d σ H => ∃ b, PySem.W.exmOne K cls c = some b ∧ (b = true → ∀ a, H a = none → ts a cls d (endsA D n) (slotA σ a n) H) ∧ (b = false → wManyA K Wout D r cls d σ H)
inductive HdsOkA (X : Cx) : List ExceptHandler → List (Value × Option Nat × (Addr → Value → Option Addr → TS)) → Prop
  | nil : HdsOkA X [] []
  | cons {x : Str} {c : Value} {ts : Addr → Value → Option Addr → TS} {b₀ : Stmt} {suite : List Stmt} {np pos' : Pos} {hds : List ExceptHandler} {l : List (Value × Option Nat × (Addr → Value → Option Addr → TS))} (hc : Names X x c)
      (hsu : ∀ (a : Addr) (oe : Obj) (cls : Value) (d : Option Addr) (pn : List (Addr × Obj)), Zc cls d oe → (∃ vs, oe.data = .fields vs) → PSs (X.suite a ((a, oe) :: pn)) (b₀ :: suite) (ts a cls d)) (r : HdsOkA X hds l) :
      HdsOkA X (.ExceptHandler (some (.Name x np)) none (b₀ :: suite) pos' :: hds) ((c, none, ts) :: l)
  | consA {x n : Str} {i : Nat} {c : Value} {ts : Addr → Value → Option Addr → TS} {b₀ : Stmt} {suite : List Stmt} {np pos' : Pos} {hds : List ExceptHandler} {l : List (Value × Option Nat × (Addr → Value → Option Addr → TS))} (hc : Names X x c) (hi : X.N[i]? = some n) (hln : X.env.kindOf n = some .local)
      (hsu : ∀ (a : Addr) (oe : Obj) (cls : Value) (d : Option Addr) (pn : List (Addr × Obj)), Zc cls d oe → (∃ vs, oe.data = .fields vs) → PSs (X.suite a ((a, oe) :: pn)) (b₀ :: suite) (ts a cls d)) (r : HdsOkA X hds l) :
      HdsOkA X (.ExceptHandler (some (.Name x np)) (some n) (b₀ :: suite) pos' :: hds) ((c, some i, ts) :: l)
section
variable {X : Cx} {body : List Stmt} {h₀ : ExceptHandler} {hds : List ExceptHandler} {l : List (Value × Option Nat × (Addr → Value → Option Addr → TS))} {pos : Pos} {tb : WX → TS} {Wout : WX}
theorem ps_try_manyA (hs : X.stack = X.env :: X.outer) (hf : X.env.frame = some X.env.locals) (hN : X.N.Nodup) (tk : Takes X Wout)
    (hb : ∀ (W : WX) (pn : List (Addr × Obj)) (xe : Value → Shared → Prop), Takes (X.tr pn xe) W → PassesOwn (model X.prog X.w) X.A X.env xe → PSs (X.tr pn xe) body (tb W))
    (hh : HdsOkA X (h₀ :: hds) l) : PS X (.Try body (h₀ :: hds) [] [] pos) (fun D σ H => tb (fun cls d σ' H' => σ'.length = X.N.length → wManyA X.K Wout D l cls d σ' H') D σ H) := by
  refine ⟨fun pins s σ H D I h => ?_⟩
  have ok := I.ok
  have hfr : X.A.frames = some (X.env :: X.outer) := by rw [ok.frames, hs]
  refine wpAny_Try_except ?_
  refine wpAny_mono ((hb (fun cls d σ' H' => σ'.length = X.N.length → wManyA X.K Wout D l cls d σ' H') (X.pn ++ pins) (fun e s₁ => wpAny (model X.prog X.w) X.A (noteFrame e X.env) (fun _ s₂ => wpAny (model X.prog X.w) X.A (setFlight e none) (fun _ s₃ =>
    wpAny (model X.prog X.w) X.A (handleBy e X.env (h₀ :: hds)) (SP X pins D) X.xe s₃) X.xe s₂) X.xe s₁) (fun u s' xx => ?_) PassesOwn.looking).run [] s σ H D (I.toTry _) h) (fun f s1 hsp => ?_) (fun e s1 he => he)
  · obtain ⟨a, B, sI, pins', σ', H', cls, d, rfl, J', nb, up, sky, na, os, ag, w0⟩ := xx
    have J : Inv X pins σ' H' sI := J'.ofTry ok
    have w := w0 J.len
    have sky' : Sky B (X.env :: X.outer) a (Zc cls d) X.env.locals s'.heap := by rw [← hs]; exact sky
    show wpAny (model X.prog X.w) X.A (noteFrame (.ref a) X.env) _ _ _
    refine Sky.land Zc.steady hfr hf sky' fun h3 fl3 up3 => ?_
    have J3 : Inv X pins σ' H' { s' with heap := h3 } := J.landed nb fl3.1 (up.trans up3) os ag
    obtain ⟨oe3, vs3, he3, hz3, hd3⟩ := fl3.there
    have notFr : ∀ {h : Heap} {o : Obj} {vs : Array Value}, h.FunFrames B (X.env :: X.outer) → h.get? a = some o → o.data = .fields vs → a ∉ frs (X.env :: X.outer) := fun {h o vs} ff e dd hm => by
      obtain ⟨_, o', e', hnf⟩ := ff.mem hm
      rw [e] at e'; cases e'
      exact hnf _ dd
    have nfr := notFr fl3.2.2.1 he3 hd3
    have nL : a ≠ X.env.locals := fun z => nfr (List.mem_filterMap.mpr ⟨X.env, List.mem_cons_self, by rw [hf, z]⟩)
    have nF : a ∉ X.fs := fun hm => by
      obtain ⟨e, he, q⟩ := List.mem_filterMap.mp hm
      exact nfr (List.mem_filterMap.mpr ⟨e, List.mem_cons_of_mem _ he, q⟩)
    have S3 := J3.suite he3 hd3 na nL nF
    have LT : PySem.W.Looks (model X.prog X.w) h3 (typeOf (.ref a)) cls := fun A Q E s k q => wpAny_typeOf_ref (k _ _ he3) (by rw [hz3.1]; exact q)
    have test : ∀ {x : Str} {c : Value} {np : Pos} {Q : Value → Shared → Prop} {E : Value → Shared → Prop}, Names X x c → Q c { s' with heap := h3 } → wpAny (model X.prog X.w) (X.A.mark (some (.ref a))) (eval (.Name x np) X.env) Q E { s' with heap := h3 } := fun {x c np Q E} hc q => by
      obtain ⟨hg, hdbg, hm | ⟨hm, hv, hnn⟩⟩ := hc
      · exact ld_glob (X := X.suite a ((a, oe3) :: (X.pn ++ pins))) S3 hg hm q hdbg
      · exact ld_blt (X := X.suite a ((a, oe3) :: (X.pn ++ pins))) S3 hg hm hv q hnn hdbg
    have go : ∀ {hds' : List ExceptHandler} {l' : List (Value × Option Nat × (Addr → Value → Option Addr → TS))}, HdsOkA X hds' l' → wManyA X.K Wout D l' cls d σ' H' →
        wpAny (model X.prog X.w) X.A (handleBy (.ref a) X.env hds') (SP X pins D) X.xe { s' with heap := h3 } := by
      intro hds' l' hk
      induction hk with
      | nil =>
        intro w
        refine wpAny_handleBy_nil ?_
        obtain ⟨k1, k2, k3, oe, vs, T, oT, ts', he, hz, hd, h1, hr⟩ := id fl3
        unfold PySem.passOn
        refine wpAny_bind (wpAny_field he hd h1 ?_)
        rw [if_neg (show ¬ ((Value.ref T == Value.none) = true) from by simp)]
        have fin : wpAny (model X.prog X.w) X.A (setFlight (.ref a) X.env.frame) (fun _ s4 => wpAny (model X.prog X.w) X.A (throw (.ref a) : Sem Flow) (SP X pins D) X.xe s4) X.xe { s' with heap := h3 } := by
          rw [hf]
          refine HandSPX.setFlight_upZ fl3 fun h4 hh4 up4 => wpAny_throw (tk _ _ ?_)
          exact ⟨a, B, sI, pins, σ', H', cls, d, rfl, J, nb, (up.trans up3).trans up4, .inr (.inr (by rw [hs]; exact hh4)), na, os, ag, w⟩
        first
          | exact wpAny_bind (wpAny_pure (wpAny_bind fin))
          | exact wpAny_bind fin
      | @cons x c ts b₀ suite np pos' hds2 l2 hc hsu r ih =>
        intro w
        obtain ⟨b, hb1, hyes, hno⟩ := w
        refine wpAny_handleBy_cons (codeAny_handlers_test ?_) (by intro q; cases q)
        have LM := PySem.W.exm_one (M := model X.prog X.w) (J3.kIn) LT hb1
        refine test hc (LM.here ?_)
        cases b with
        | true =>
          refine codeAny_handlers_suite ?_
          refine HandSPX.lands_againZ fl3 fun h4 fl4 up4 => ?_
          have J4 : Inv X pins σ' H' { s' with heap := h4 } := J.landed nb fl4.1 ((up.trans up3).trans up4) os ag
          obtain ⟨oe4, vs4, he4, hz4, hd4⟩ := fl4.there
          have S4 := J4.suite he4 hd4 na nL nF
          refine wpAny_mono ((hsu a oe4 cls d (X.pn ++ pins) hz4 ⟨_, hd4⟩).run [] _ _ H' _ S4 (hyes rfl a na)) (fun f s6 hsp => ?_) (fun _ _ z => False.elim z)
          cases f with
          | next =>
            obtain ⟨σ6, H6, S6, q6⟩ := hsp
            exact ⟨_, _, S6.unsuite ok, q6⟩
          | brk =>
            obtain ⟨σ6, H6, S6, q6⟩ := hsp
            exact ⟨_, _, S6.unsuite ok, q6⟩
          | cont =>
            obtain ⟨σ6, H6, S6, q6⟩ := hsp
            exact ⟨_, _, S6.unsuite ok, q6⟩
          | ret u =>
            obtain ⟨v6, σ6, H6, S6, r6, q6⟩ := hsp
            exact ⟨_, _, _, S6.unsuite ok, r6, q6⟩
        | false =>
          show wpAny _ X.A (handleBy (.ref a) X.env hds2) _ _ _
          exact ih (hno rfl)
      | @consA x n i c ts b₀ suite np pos' hds2 l2 hc hi hln hsu r ih =>
        intro w
        obtain ⟨b, hb1, hyes, hno⟩ := w
        refine wpAny_handleBy_cons (codeAny_handlers_test ?_) (by intro q; cases q)
        have LM := PySem.W.exm_one (M := model X.prog X.w) (J3.kIn) LT hb1
        refine test hc (LM.here ?_)
        cases b with
        | true =>
          refine codeAny_handlers_suite_as ?_
          refine HandSPX.lands_againZ fl3 fun h4 fl4 up4 => ?_
          have J4 : Inv X pins σ' H' { s' with heap := h4 } := J.landed nb fl4.1 ((up.trans up3).trans up4) os ag
          obtain ⟨oe4, vs4, he4, hz4, hd4⟩ := fl4.there
          have S4 := J4.suite he4 hd4 na nL nF
          refine store_ok (X := X.suite a ((a, oe4) :: (X.pn ++ pins))) (v := .ref a) S4 hN hi (.inl hln) rfl (fun s5 S5 => ?_) (.inr hln)
          refine wpAny_mono ((hsu a oe4 cls d (X.pn ++ pins) hz4 ⟨_, hd4⟩).run [] s5 _ H' _ S5 (hyes rfl a na)) (fun f s6 hsp => ?_) (fun _ _ z => False.elim z)
          have end_ : ∀ {σ6 : L2.St} {H6 : Hp} {Q : Shared → Prop}, Inv (X.suite a ((a, oe4) :: (X.pn ++ pins))) [] σ6 H6 s6 → (∀ s7, Inv X pins (σ6.set i none) H6 s7 → Q s7) →
              wpAny (model X.prog X.w) X.A (do bindName X.env n .none; unbindBehindTheSuite X.env n pos') (fun _ s7 => Q s7) X.xe s6 := fun {σ6 H6 Q} S6 hq => gone_ok (S6.unsuite ok) hN hi hln hq
          cases f with
          | next =>
            obtain ⟨σ6, H6, S6, q6⟩ := hsp
            exact end_ S6 fun s7 J7 => ⟨_, _, J7, q6⟩
          | brk =>
            obtain ⟨σ6, H6, S6, q6⟩ := hsp
            exact end_ S6 fun s7 J7 => ⟨_, _, J7, q6⟩
          | cont =>
            obtain ⟨σ6, H6, S6, q6⟩ := hsp
            exact end_ S6 fun s7 J7 => ⟨_, _, J7, q6⟩
          | ret u =>
            obtain ⟨v6, σ6, H6, S6, r6, q6⟩ := hsp
            exact end_ S6 fun s7 J7 => ⟨_, _, _, J7, r6, q6⟩
        | false =>
          show wpAny _ X.A (handleBy (.ref a) X.env hds2) _ _ _
          exact ih (hno rfl)
    exact go hh w
  · cases f with
    | next =>
      obtain ⟨σ', H', J', q⟩ := hsp
      exact wpAny_execs_nil ⟨σ', H', J'.ofTry ok, q⟩
    | brk =>
      obtain ⟨σ', H', J', q⟩ := hsp
      exact ⟨σ', H', J'.ofTry ok, q⟩
    | cont =>
      obtain ⟨σ', H', J', q⟩ := hsp
      exact ⟨σ', H', J'.ofTry ok, q⟩
    | ret u =>
      obtain ⟨v, σ', H', J', r, q⟩ := hsp
      exact ⟨v, σ', H', J'.ofTry ok, r, q⟩
end
end Em
/-! the head's look for own errors that keep what they are given -/
namespace Sx
open PySem PySem.Spec PyProof.Rows L2 He Hd Hx
/-- an own error over a built-in one, its __init__ in the class statement -/
structure SupD where
  name : Str
  B : String
  newId : String
  initId : String
  bm : List Value
  fld : Str
  st : Stmt
def initSt : Stmt → Stmt
  | .ClassDef _ _ _ (s :: _) _ _ _ _ _ _ _ => s
  | s => s
abbrev SuV : Type := Option (Str × Arguments × FuncBody × Scope × Addr × List Str × Value × Addr)
def supV (K : PySem.W.Frag) (x : Str) : SuV := match K.lookup (ma K (ga K x) "__init__") with
  | some ⟨_, _, .func fd, _⟩ => some (fd.name, fd.params, fd.body, fd.scope, fd.globals, fd.closure.map (·.1), fd.defaults, fd.builtins)
  | _ => none
def SupD.val (d : SupD) : SuV := some ("__init__", defArgs (initSt d.st), .stmts (defBody (initSt d.st)), defScope (initSt d.st), mainGlobals, ["__class__"], .none, builtinsNs)
def supB (file : Str) (K : PySem.W.Frag) (d : SupD) : Bool :=
  (match K.lookup (ga K d.name) with
  | some ⟨.type "type", _, .cls cd, sl⟩ => decide (cd.mro = .ref (ga K d.name) :: d.bm) && (cd.hasDict && (!cd.hasDel && (match sl.toList with
    | [_, _, _, _, some (.builtin n), _] => decide (n = d.newId)
    | _ => false)))
  | _ => false) &&
  ((match K.lookup (ma K (ga K d.name) "__init__") with
  | some ⟨.type "function", _, .func fd, _⟩ => PySem.W.codeIn K fd.code fd.qualname && ((match fd.code with
    | .ref cda => (match K.lookup cda with
      | some ⟨_, _, .fields vs, _⟩ => (match (vs[2]? : Option Value) with
        | some (.str f _) => file == f
        | _ => false)
      | _ => false)
    | _ => false) && (match fd.closure with
    | [(_, cc)] => (match K.lookup cc with
      | some ⟨_, _, .cell (some (.ref D)), _⟩ => decide (D = ga K d.name)
      | _ => false)
    | _ => false))
  | _ => false) &&
  (eqO (PySem.W.nsIn K cStatics "thirdparty.any") (some none) && (eqO (PySem.W.ks_superIn K (ga K d.name) (ga K d.name) "__init__") (some (some (.builtin d.initId))) &&
  (eqO (PySem.W.findIn K (.ref (ga K d.name)) "__setattr__") (some (some (.builtin "object.__setattr__"))) && (eqO (PySem.W.findIn K (.ref (ga K d.name)) d.fld) (some none) && (eqO (PySem.W.findIn K (.ref (ga K d.name)) "__init__") (some (some (.ref (ma K (ga K d.name) "__init__")))) &&
  (decide (PySem.W.subIn K (.ref (ga K d.name)) (.type d.B) = some true) && (decide (PySem.W.mroIn K (ga K d.name) (.ref (ga K d.name)) = some true) && (decide (PySem.W.subIn K (.ref (ga K d.name)) (.type "BaseException") = some true) && (decide (PySem.W.typeIn K (.ref (ga K d.name)) = some (.type "type")) && (PySem.W.keepIn K (.ref (ga K d.name)) && xfB K (ga K d.name))))))))))))
/-- what is told of one -/
structure SupOk (K : PySem.W.Frag) (file : Str) (d : SupD) (C fI cda cc : Addr) : Prop where
  cls : ∃ nm q N bs sn sub ab col dd k0 k1 k2 k3 k5, K.lookup C = some (excClassObj nm q C N bs d.bm true sn sub ab col dd k0 k1 k2 k3 k5 d.newId)
  fn : ∃ oc od osl qual kV doc pm an ct, K.lookup fI = some ⟨oc, od, .func (PySem.W.ksFn "__init__" qual (defArgs (initSt d.st)) (defBody (initSt d.st)) (defScope (initSt d.st)) .none kV doc pm an (.ref cda) ct cc), osl⟩ ∧ PySem.W.codeIn K (.ref cda) qual = true
  co : ∃ ccl cdd vs ccs f tf, K.lookup cda = some ⟨ccl, cdd, .fields vs, ccs⟩ ∧ vs[2]? = some (.str f tf) ∧ (file == f) = true
  cell : ∃ cl cld csl, K.lookup cc = some ⟨cl, cld, .cell (some (.ref C)), csl⟩
  any : PySem.W.nsIn K cStatics "thirdparty.any" = some none
  sup : PySem.W.ks_superIn K C C "__init__" = some (some (.builtin d.initId))
  sa : PySem.W.findIn K (.ref C) "__setattr__" = some (some (.builtin "object.__setattr__"))
  fno : PySem.W.findIn K (.ref C) d.fld = some none
  iC : PySem.W.findIn K (.ref C) "__init__" = some (some (.ref fI))
  tI : PySem.W.typeIn K (.ref fI) = some (.type "function")
  subB : PySem.W.subIn K (.ref C) (.type d.B) = some true
  self : PySem.W.mroIn K C (.ref C) = some true
  exC : PySem.W.subIn K (.ref C) (.type "BaseException") = some true
  tyC : PySem.W.typeIn K (.ref C) = some (.type "type")
  kC : PySem.W.keepIn K (.ref C) = true
  xf : XfC K C
theorem sup_ok {K : PySem.W.Frag} {file : Str} {d : SupD} (c : supB file K d = true) (v : supV K d.name = d.val) : ∃ fI cda cc, SupOk K file d (ga K d.name) fI cda cc := by
  unfold supB at c
  obtain ⟨c1, c⟩ := both c
  obtain ⟨c2, c⟩ := both c
  obtain ⟨c3, c⟩ := both c
  obtain ⟨c4, c⟩ := both c
  obtain ⟨c5, c⟩ := both c
  obtain ⟨c6, c⟩ := both c
  obtain ⟨c7, c⟩ := both c
  obtain ⟨c8, c⟩ := both c
  obtain ⟨c9, c⟩ := both c
  obtain ⟨c10, c⟩ := both c
  obtain ⟨c11, c⟩ := both c
  obtain ⟨c12, c13⟩ := both c
  have hcls : ∃ nm q N bs sn sub ab col dd k0 k1 k2 k3 k5, K.lookup (ga K d.name) = some (excClassObj nm q (ga K d.name) N bs d.bm true sn sub ab col dd k0 k1 k2 k3 k5 d.newId) := by
    split at c1
    · rename_i dd cd sl e
      obtain ⟨a1, c1⟩ := both c1
      obtain ⟨a2, c1⟩ := both c1
      obtain ⟨a3, a4⟩ := both c1
      have a1 := of_decide_eq_true a1
      obtain ⟨nm, bs, mro, ns, qn, hdct, sn, sb, ab, col, del⟩ := cd
      dsimp only at a1 a2 a3
      subst a1 a2
      have a3 : del = false := by cases del <;> first | rfl | cases a3
      subst a3
      split at a4
      · rename_i k0 k1 k2 k3 n k5 es
        have a4 := of_decide_eq_true a4
        subst a4
        have esl : sl = #[k0, k1, k2, k3, some (.builtin d.newId), k5] := by
          rw [← es]
        refine ⟨nm, qn, ns, bs, sn, sb, ab, col, dd, k0, k1, k2, k3, k5, ?_⟩
        rw [e, esl]
      · cases a4
    · cases c1
  unfold supV SupD.val at v
  split at c2
  · rename_i od fd osl e
    rw [e] at v
    obtain ⟨b1, c2⟩ := both c2
    obtain ⟨b2, b3⟩ := both c2
    obtain ⟨n1, n2, n3, n4, n5, n6, n7, n8, n9, n10, n11, n12, n13, n14, n15⟩ := fd
    dsimp only at v b1 b2 b3
    cases n13 with
    | ref cda =>
      simp only [Option.some.injEq, Prod.mk.injEq] at v
      obtain ⟨rfl, rfl, rfl, rfl, rfl, h7, rfl, rfl⟩ := v
      have hco : ∃ ccl cdd vs ccs f tf, K.lookup cda = some ⟨ccl, cdd, .fields vs, ccs⟩ ∧ vs[2]? = some (.str f tf) ∧ (file == f) = true := by
        have b2 : (match K.lookup cda with
          | some ⟨_, _, .fields vs, _⟩ => (match (vs[2]? : Option Value) with
            | some (.str f _) => file == f
            | _ => false)
          | _ => false) = true := b2
        split at b2
        · rename_i ccl cdd vs ccs ec
          split at b2
          · rename_i f tf ev
            exact ⟨ccl, cdd, vs, ccs, f, tf, ec, ev, b2⟩
          · cases b2
        · cases b2
      match n7, h7, b3, e with
      | [(x, cc)], h7, b3, e =>
        have hx : x = ("__class__" : Str) := by
          have := List.cons.inj (show [x] = [("__class__" : Str)] from h7)
          exact this.1
        subst hx
        have hcell : ∃ cl cld csl, K.lookup cc = some ⟨cl, cld, .cell (some (.ref (ga K d.name))), csl⟩ := by
          have b3 : (match K.lookup cc with
            | some ⟨_, _, .cell (some (.ref D)), _⟩ => decide (D = ga K d.name)
            | _ => false) = true := b3
          split at b3
          · rename_i cl cld D csl ec
            have b3 := of_decide_eq_true b3
            subst b3
            exact ⟨cl, cld, csl, ec⟩
          · cases b3
        exact ⟨ma K (ga K d.name) "__init__", cda, cc, hcls, ⟨_, _, _, _, _, _, _, _, _, e, b1⟩, hco, hcell, eqO_ok c3, eqO_ok c4, eqO_ok c5, eqO_ok c6, eqO_ok c7, by
          show (K.lookup (ma K (ga K d.name) "__init__")).map (·.cls) = some (.type "function")
          rw [e]
          rfl, of_decide_eq_true c8, of_decide_eq_true c9, of_decide_eq_true c10, of_decide_eq_true c11, c12, xfB_ok c13⟩
      | [], h7, b3, e => cases h7
      | _ :: _ :: _, h7, b3, e => cases b3
    | _ => cases b2
  · cases c2
structure AsksS where
  x : AsksX
  sup : List SupD
  exm : List (Str × Str × Bool)
  file : Str
def clos (g : Addr → Option Obj) (as : List Addr) : List Addr := as ++ as.flatMap fun a => match g a with
  | some o => (match o.data with
    | .func fd => fd.closure.map (·.2)
    | _ => [])
  | none => []
def kAllS (A : AsksS) (g : Addr → Option Obj) : PySem.W.Frag := frG g (lev g 2 [mainGlobals] ++ ([cStatics] ++ ((A.sup.flatMap fun d => clos g (lev g 3 [ga (kOf 2 g) d.name])) ++ A.x.a.tabs.flatMap fun t => lev g 3 [ga (kOf 2 g) t.1])))
def exmB (K : PySem.W.Frag) (t : Str × Str × Bool) : Bool := decide (PySem.W.exmOne K (.ref (ga K t.1)) (.ref (ga K t.2.1)) = some t.2.2)
abbrev AlS : Type := AlT × (Bool × List (Option Obj) × List SuV)
def AsksS.obsG (A : AsksS) (g : Addr → Option Obj) : AlS := (A.x.a.obsG g, (A.x.err.all (errB (kAllS A g)) && (A.x.lam.all (lamB (kAllS A g)) && (A.sup.all (supB A.file (kAllS A g)) && (A.exm.all (exmB (kAllS A g)) && decide (A.x.lam.map (tbAt (kAllS A g))).Nodup)))), (A.x.lam.map fun x => g (tbAt (kAllS A g) x), A.sup.map fun d => supV (kAllS A g) d.name))
def AsksS.val (A : AsksS) : AlS := (A.x.a.val, (true, (A.x.lam.map fun _ => some tabO, A.sup.map SupD.val)))
structure AsksS.Says (A : AsksS) (h : Heap) (K1 K : PySem.W.Frag) : Prop where
  x : A.x.Says h K1 K
  sup : ∀ d ∈ A.sup, supB A.file K d = true ∧ supV K d.name = d.val
  exm : ∀ t ∈ A.exm, exmB K t = true
  nod : (A.x.lam.map (tbAt K)).Nodup
def AsksS.hook (A : AsksS) : PySem.W.Hook where
  α := AlS
  obs := fun s => A.obsG s.heap.get?
  val := fun _ => A.val
  says := fun _ h => ∃ K1 K : PySem.W.Frag, K.In h ∧ A.Says h K1 K
  of := fun w s e => by
    have e0 : A.x.a.obsG s.heap.get? = A.x.a.val := congrArg (fun z : AlS => z.1) e
    have e1 : (A.x.err.all (errB (kAllS A s.heap.get?)) && (A.x.lam.all (lamB (kAllS A s.heap.get?)) && (A.sup.all (supB A.file (kAllS A s.heap.get?)) && (A.exm.all (exmB (kAllS A s.heap.get?)) && decide (A.x.lam.map (tbAt (kAllS A s.heap.get?))).Nodup)))) = true := congrArg (fun z : AlS => z.2.1) e
    have e2 : A.x.lam.map (fun x => s.heap.get? (tbAt (kAllS A s.heap.get?) x)) = A.x.lam.map fun _ => some tabO := congrArg (fun z : AlS => z.2.2.1) e
    have e4 : A.sup.map (fun d => supV (kAllS A s.heap.get?) d.name) = A.sup.map SupD.val := congrArg (fun z : AlS => z.2.2.2) e
    obtain ⟨b1, b⟩ := both e1
    obtain ⟨b2, b⟩ := both b
    obtain ⟨b3, b4⟩ := both b
    obtain ⟨b4, b5⟩ := both b4
    refine ⟨kOf 2 s.heap.get?, kAllS A s.heap.get?, frG_in, ⟨⟨sub_of fun a h => List.mem_append_left _ h, congrArg (fun z : AlT => z.1) e0, congrArg (fun z : AlT => z.2.1) e0, fun t ht => ?_⟩, List.all_eq_true.mp b1, List.all_eq_true.mp b2, fun x hx => List.map_inj_left.mp e2 x hx⟩, fun d hd => ⟨List.all_eq_true.mp b3 d hd, List.map_inj_left.mp e4 d hd⟩, List.all_eq_true.mp b4, of_decide_eq_true b5⟩
    have e3 : A.x.a.tabs.map (fun t => see (frG s.heap.get? (lev s.heap.get? 3 [ga (kOf 2 s.heap.get?) t.1])) (ga (kOf 2 s.heap.get?) t.1) t.2) = A.x.a.tabs.map fun t => some t.2 := congrArg (fun z : AlT => z.2.2) e0
    exact sub_see (sub_of fun a h => List.mem_append_right _ (List.mem_append_right _ (List.mem_append_right _ (List.mem_flatMap.mpr ⟨t, ht, h⟩)))) (List.map_inj_left.mp e3 t ht)
  keeps := fun _ _ _ ⟨K1, K, hK, c⟩ k => ⟨K1, K, PySem.W.Frag.In.keeps hK k, ⟨c.x.a, c.x.err, c.x.lam, fun x hx => k _ _ (c.x.tab x hx)⟩, c.sup, c.exm, c.nod⟩
theorem AsksS.obsG_eq (A : AsksS) {g : Addr → Option Obj} {s : Shared} (h : ∀ a, g a = s.heap.get? a) : A.obsG g = A.hook.obs s := by
  have e : g = s.heap.get? := funext h
  rw [e] <;> rfl
section
variable {K1 K : PySem.W.Frag} {h : Heap} {mg : Str → Option Value} {A : AsksS}
theorem AsksS.Says.sup_ (c : A.Says h K1 K) (X : K.In h) (G : h.Ns mainGlobals mg) (i j : Nat) (x : Str) (d : SupD) (hi : A.x.a.glo[i]? = some x) (hj : A.sup[j]? = some d) (hn : d.name = x) : mg x = some (.ref (ga K1 x)) ∧ ∃ fI cda cc, SupOk K A.file d (ga K1 x) fI cda cc := by
  have hg := List.all_eq_true.mp c.x.a.bb.2.1 _ (List.mem_of_getElem? hi)
  refine ⟨c.x.a.glo_ X G i x hi, ?_⟩
  subst hn
  obtain ⟨c1, c2⟩ := c.sup d (List.mem_of_getElem? hj)
  rw [← ga_sub c.x.a.s hg]
  exact sup_ok c1 c2
theorem AsksS.Says.exm_ (c : A.Says h K1 K) (i1 i2 j : Nat) (x y : Str) (b : Bool) (h1 : A.x.a.glo[i1]? = some x) (h2 : A.x.a.glo[i2]? = some y) (hj : A.exm[j]? = some (x, y, b)) : PySem.W.exmOne K (.ref (ga K1 x)) (.ref (ga K1 y)) = some b := by
  have g1 := List.all_eq_true.mp c.x.a.bb.2.1 _ (List.mem_of_getElem? h1)
  have g2 := List.all_eq_true.mp c.x.a.bb.2.1 _ (List.mem_of_getElem? h2)
  have := of_decide_eq_true (c.exm _ (List.mem_of_getElem? hj))
  rw [ga_sub c.x.a.s g1, ga_sub c.x.a.s g2] at this
  exact this
end
end Sx
namespace Own
open PySem PySem.Spec PyProof.Rows L2
def topS (i : Nat) : Stmt := PySem.Challenge.pw_monicsums_k23_errors_of_partings.main.body.getD i (.Pass ⟨0, 0, 0, 0⟩)
abbrev s_digit_row : Stmt := topS 4
abbrev s_digit_total : Stmt := topS 5
abbrev s_are_carry_free : Stmt := topS 6
abbrev s_shift_sum_list : Stmt := topS 7
abbrev s_parts_bound : Stmt := topS 8
abbrev s_is_integer : Stmt := topS 17
abbrev s_is_from : Stmt := topS 18
abbrev s_is_between : Stmt := topS 19
abbrev s_check_from : Stmt := topS 20
abbrev s_check_between : Stmt := topS 21
abbrev s_check_d : Stmt := topS 22
abbrev s_whole_power : Stmt := topS 23
abbrev s_is_field : Stmt := topS 26
abbrev s_check_field : Stmt := topS 27
abbrev s_lots_rest : Stmt := topS 29
abbrev s_spare_sums : Stmt := topS 33
abbrev s_less_digit : Stmt := topS 34
abbrev s_high_digits : Stmt := topS 35
abbrev s_lowered : Stmt := topS 36
abbrev s_least_sums : Stmt := topS 37
abbrev s_greatest_members : Stmt := topS 38
abbrev s_members_exponent : Stmt := topS 39
abbrev s_check_sum : Stmt := topS 41
abbrev s_does_fit : Stmt := topS 43
abbrev s_does_go_on : Stmt := topS 44
abbrev s_longer_heads : Stmt := topS 45
abbrev s_first_members : Stmt := topS 46
abbrev s_with_next_members : Stmt := topS 47
abbrev s_listed_partings : Stmt := topS 48
abbrev s_parting : Stmt := topS 52
abbrev s_found_parting : Stmt := topS 53
abbrev s_is_parting : Stmt := topS 54
abbrev s_check_parting : Stmt := topS 55
abbrev s_is_bar : Stmt := topS 56
abbrev s_digit_bar : Stmt := topS 57
abbrev s_is_digit_bar : Stmt := topS 58
abbrev s_is_zero_sum : Stmt := topS 59
abbrev s_greatest_parting : Stmt := topS 60
abbrev s_found_partings : Stmt := topS 61
abbrev s_all_partings : Stmt := topS 62
abbrev s_signed : Stmt := topS 63
abbrev s_sum_by_partings : Stmt := topS 64
abbrev s_parting_exponent : Stmt := topS 65
abbrev s_parting_number : Stmt := topS 66
abbrev s__law_dice : Stmt := topS 68
abbrev s__law_roll : Stmt := topS 69
abbrev s__law_one_of : Stmt := topS 70
abbrev s__law_raised : Stmt := topS 71
abbrev s__law_q : Stmt := topS 72
abbrev s__law_met : Stmt := topS 73
abbrev s__law_words : Stmt := topS 74
abbrev s__law_right : Stmt := topS 75
abbrev s__law_many_right : Stmt := topS 76
abbrev s_law : Stmt := topS 77
def W_PRIMES : List (Int × Int) := [(2, 2), (3, 3), (4, 2), (5, 5), (7, 7), (8, 2), (9, 3)]
def W_POWERS : List (Int × Int) := [(2, 1), (3, 1), (4, 2), (5, 1), (7, 1), (8, 3), (9, 2)]
def W_FIELDS : List Int := [2, 3, 4, 5, 7, 8, 9]
def W_WEIGHTS : List (Int × List (List Int)) := [(2, [[1]]), (3, [[1]]), (4, [[1, 2], [2, 1]]), (5, [[1]]), (7, [[1]]), (8, [[1, 2, 4], [2, 4, 1], [4, 1, 2]]), (9, [[1, 3], [3, 1]])]
def W_NEEDS : List (Int × List (List (List Int))) := [(2, [[[1]]]), (3, [[[2]], [[1]]]), (4, [[[0, 3], [1, 1], [3, 0]], [[0, 2], [1, 0]], [[0, 1], [2, 0]]]), (5, [[[4]], [[1]], [[2]], [[3]]]), (7, [[[6]], [[1]], [[2]], [[3]], [[4]], [[5]]]), (8, [[[0, 0, 7], [0, 1, 3], [0, 3, 2], [0, 5, 1], [0, 7, 0], [1, 0, 5], [1, 1, 1], [1, 3, 0], [2, 0, 3], [3, 0, 1], [3, 2, 0], [5, 1, 0], [7, 0, 0]], [[0, 0, 2], [0, 2, 1], [0, 4, 0], [1, 0, 0]], [[0, 0, 4], [0, 1, 0], [1, 0, 2], [2, 0, 0]], [[0, 0, 6], [0, 1, 2], [0, 3, 1], [0, 5, 0], [1, 0, 4], [1, 1, 0], [2, 0, 2], [3, 0, 0]], [[0, 0, 1], [0, 2, 0], [2, 1, 0], [4, 0, 0]], [[0, 0, 3], [0, 2, 2], [0, 4, 1], [0, 6, 0], [1, 0, 1], [1, 2, 0], [3, 1, 0], [5, 0, 0]], [[0, 0, 5], [0, 1, 1], [0, 3, 0], [1, 0, 3], [2, 0, 1], [2, 2, 0], [4, 1, 0], [6, 0, 0]]]), (9, [[[0, 8], [1, 5], [2, 2], [5, 1], [8, 0]], [[0, 3], [1, 0]], [[0, 6], [1, 3], [2, 0]], [[0, 1], [3, 0]], [[0, 4], [1, 1], [4, 0]], [[0, 7], [1, 4], [2, 1], [5, 0]], [[0, 2], [3, 1], [6, 0]], [[0, 5], [1, 2], [4, 1], [7, 0]]])]
def hFn0 : List He.FnD := [Hd.dF "digit_row" s_digit_row, Hd.dF "digit_total" s_digit_total, Hd.dF "are_carry_free" s_are_carry_free, Hd.dF "shift_sum_list" s_shift_sum_list, Hd.dF "parts_bound" s_parts_bound, Hd.dF "is_integer" s_is_integer, Hd.dF "is_from" s_is_from, Hd.dF "is_between" s_is_between, Hd.dF "check_from" s_check_from, Hd.dF "check_between" s_check_between, Hd.dF "check_d" s_check_d, Hd.dF "whole_power" s_whole_power, Hd.dF "is_field" s_is_field, Hd.dF "check_field" s_check_field, Hd.dF "lots_rest" s_lots_rest]
def hFn1 : List He.FnD := [Hd.dF "spare_sums" s_spare_sums, Hd.dF "less_digit" s_less_digit, Hd.dF "high_digits" s_high_digits, Hd.dF "lowered" s_lowered, Hd.dF "least_sums" s_least_sums, Hd.dF "greatest_members" s_greatest_members, Hd.dF "members_exponent" s_members_exponent, Hd.dF "check_sum" s_check_sum, Hd.dF "does_fit" s_does_fit, Hd.dF "does_go_on" s_does_go_on, Hd.dF "longer_heads" s_longer_heads, Hd.dF "first_members" s_first_members, Hd.dF "with_next_members" s_with_next_members, Hd.dF "listed_partings" s_listed_partings, Hd.dF "parting" s_parting]
def hFn2 : List He.FnD := [Hd.dF "found_parting" s_found_parting, Hd.dF "is_parting" s_is_parting, Hd.dF "check_parting" s_check_parting, Hd.dF "is_bar" s_is_bar, Hd.dF "digit_bar" s_digit_bar, Hd.dF "is_digit_bar" s_is_digit_bar, Hd.dF "is_zero_sum" s_is_zero_sum, Hd.dF "greatest_parting" s_greatest_parting, Hd.dF "found_partings" s_found_partings, Hd.dF "all_partings" s_all_partings, Hd.dF "signed" s_signed, Hd.dF "sum_by_partings" s_sum_by_partings, Hd.dF "parting_exponent" s_parting_exponent, Hd.dF "parting_number" s_parting_number, Hd.dF "_law_dice" s__law_dice]
def hFn3 : List He.FnD := [Hd.dF "_law_roll" s__law_roll, Hd.dF "_law_one_of" s__law_one_of, Hd.dF "_law_raised" s__law_raised, Hd.dF "_law_q" s__law_q, Hd.dF "_law_met" s__law_met, Hd.dF "_law_words" s__law_words, Hd.dF "_law_right" s__law_right, Hd.dF "_law_many_right" s__law_many_right, Hd.dF "law" s_law]
def hFn : List He.FnD := hFn0 ++ hFn1 ++ hFn2 ++ hFn3
def hGlo0 : List PySem.Str := ["PRIMES", "POWERS", "FIELDS", "WEIGHTS", "NEEDS"]
def hGloE : List PySem.Str := ["InvalidField", "InvalidParting", "InvalidNumber", "TooMany"]
def hGlo : List PySem.Str := hGlo0 ++ hGloE
def hFree0 : List PySem.Str := ["sum", "range", "min", "isinstance", "int", "bool", "enumerate", "len", "zip", "tuple", "any", "all", "sorted", "abs", "repr"]
def hFree1 : List PySem.Str := ["max", "super"]
def hFree : List PySem.Str := hFree0 ++ hFree1
def hInt0 : List (PySem.Str × Int) := [("TOO_LONG", 1000000000000000000000000000000000000000000000000000000000000), ("MAX_LISTED", 2000), ("MOST_AHEAD", 12)]
def hInt : List (PySem.Str × Int) := hInt0
def hBlt0 : List (PySem.Str × String) := [("comb", "math.comb")]
def hBlt : List (PySem.Str × String) := hBlt0
def hTabs0 : List (PySem.Str × Hd.TabV) := [("PRIMES", .t0 W_PRIMES), ("POWERS", .t0 W_POWERS), ("FIELDS", .r W_FIELDS), ("WEIGHTS", .t2 W_WEIGHTS), ("NEEDS", .t3 W_NEEDS)]
def hTabs : List (PySem.Str × Hd.TabV) := hTabs0
def hA : Hd.Asks := ⟨hFn, hGlo, hFree, hInt, hBlt, hTabs⟩
abbrev s_InvalidNumber : Stmt := topS 13
abbrev s_TooMany : Stmt := topS 14
def hSup : List Sx.SupD := [⟨"InvalidNumber", "IndexError", "IndexError.__new__", "IndexError.__init__", [.type "IndexError", .type "LookupError", .type "Exception", .type "BaseException", .type "object"], "given", s_InvalidNumber⟩, ⟨"TooMany", "OverflowError", "OverflowError.__new__", "OverflowError.__init__", [.type "OverflowError", .type "ArithmeticError", .type "Exception", .type "BaseException", .type "object"], "limit", s_TooMany⟩]
def hExm : List (PySem.Str × PySem.Str × Bool) := [("InvalidField", "InvalidField", true), ("InvalidField", "InvalidParting", false), ("InvalidField", "InvalidNumber", false), ("InvalidField", "TooMany", false), ("InvalidParting", "InvalidField", false), ("InvalidParting", "InvalidParting", true), ("InvalidParting", "InvalidNumber", false), ("InvalidParting", "TooMany", false), ("InvalidNumber", "InvalidField", false), ("InvalidNumber", "InvalidParting", false), ("InvalidNumber", "InvalidNumber", true), ("InvalidNumber", "TooMany", false), ("TooMany", "InvalidField", false), ("TooMany", "InvalidParting", false), ("TooMany", "InvalidNumber", false), ("TooMany", "TooMany", true)]
def hAS : Sx.AsksS := ⟨⟨hA, ["InvalidField", "InvalidParting"], ["_law_words", "_law_right", "_law_many_right"]⟩, hSup, hExm, "/claim/cut.py"⟩
def hNames0 : List PySem.Str := ["PRIMES", "POWERS", "__name__", "digit_row", "digit_total", "are_carry_free", "shift_sum_list", "parts_bound", "MonicError", "InvalidField", "InvalidParting", "InvalidNumber", "TooMany", "TOO_LONG", "is_integer"]
def hNames1 : List PySem.Str := ["is_from", "is_between", "check_from", "check_between", "check_d", "whole_power", "FIELDS", "is_field", "check_field", "lots_rest", "WEIGHTS", "NEEDS", "spare_sums", "less_digit", "high_digits"]
def hNames2 : List PySem.Str := ["lowered", "least_sums", "greatest_members", "members_exponent", "check_sum", "does_fit", "does_go_on", "longer_heads", "first_members", "with_next_members", "listed_partings", "MAX_LISTED", "MOST_AHEAD", "parting", "found_parting"]
def hNames3 : List PySem.Str := ["is_parting", "check_parting", "is_bar", "digit_bar", "is_digit_bar", "is_zero_sum", "greatest_parting", "found_partings", "all_partings", "signed", "sum_by_partings", "parting_exponent", "parting_number", "_law_dice", "_law_roll"]
def hNames4 : List PySem.Str := ["_law_one_of", "_law_raised", "_law_q", "_law_met", "_law_words", "_law_right", "_law_many_right"]
def hNames : List PySem.Str := hNames0 ++ hNames1 ++ hNames2 ++ hNames3 ++ hNames4
abbrev hR : PySem.W.OpenRow := PySem.W.OpenLaw.row PySem.Challenge.rw_monicsums_k23_errors_of_partings
abbrev hQ : Program := PySem.W.view hR.prog [0, 77]
def hSteps : Nat := 12000
def hOb (s : PySem.W.SharedT) : Sx.AlS := hAS.obsG (HandSHeadRun.getT s)
theorem hOb_eq (s : PySem.W.SharedT) : hOb s = hAS.hook.obs s.abs := hAS.obsG_eq (HandSHeadRun.getT_eq s)
theorem hLook_false (w : World) : (HandSHeadRun.wholeF (fun p => HandSHeadRun.stepQ (HandSHeadRun.denQ HandSHeadRun.tabQ) p (w.withFollow "special-get-raises" false)) HandSHeadRun.fenceQ hSteps hR.prog).map (fun x => (HandSHeadRun.looksF hR.prog x.1.heap x.2.abs, HandSHeadRun.seenQ hQ hNames (importedModules hR.prog.main.body) (fun s => PySem.W.xlAt hQ [] s && PySem.W.recOk hR.toRowW.records s) x.2.abs)) = some (true, PySem.W.openGood hQ hNames) := by
  kernel_rfl
theorem hSee_false (w : World) : (HandSHeadRun.wholeF (fun p => HandSHeadRun.stepQ (HandSHeadRun.denQ HandSHeadRun.tabQ) p (w.withFollow "special-get-raises" false)) HandSHeadRun.fenceQ hSteps hR.prog).map (fun x => hOb x.2) = some hAS.val := by
  kernel_rfl
theorem hLook_true (w : World) : (HandSHeadRun.wholeF (fun p => HandSHeadRun.stepQ (HandSHeadRun.denQ HandSHeadRun.tabQ) p (w.withFollow "special-get-raises" true)) HandSHeadRun.fenceQ hSteps hR.prog).map (fun x => (HandSHeadRun.looksF hR.prog x.1.heap x.2.abs, HandSHeadRun.seenQ hQ hNames (importedModules hR.prog.main.body) (fun s => PySem.W.xlAt hQ [] s && PySem.W.recOk hR.toRowW.records s) x.2.abs)) = some (true, PySem.W.openGood hQ hNames) := by
  kernel_rfl
theorem hSee_true (w : World) : (HandSHeadRun.wholeF (fun p => HandSHeadRun.stepQ (HandSHeadRun.denQ HandSHeadRun.tabQ) p (w.withFollow "special-get-raises" true)) HandSHeadRun.fenceQ hSteps hR.prog).map (fun x => hOb x.2) = some hAS.val := by
  kernel_rfl
theorem hRun (w : World) : HandSHeadRun.RunEqI hR hQ hAS.hook hOb hSteps hNames w := PySem.W.byRow2 "special-get-raises" (P := fun w => HandSHeadRun.RunEqI hR hQ hAS.hook hOb hSteps hNames w) (fun w => Hd.map_two (hLook_false w) (hSee_false w)) (fun w => Hd.map_two (hLook_true w) (hSee_true w)) w
end Own
/-! own rules: powers of wide bases, sum of a tuple, tuple * 0 and * 1, tuple[::-1] -/
namespace Own
open PySem PySem.Spec PyProof.Rows L2

def CPowW (i j : Int) : Prop := 0 ≤ j ∧ j ≤ 1000 ∧ i.natAbs < 2 ^ 1000
section
variable {X : Cx}
theorem op_powW : OpR X (binaryOp .Pow) (rI CPowW fun i j => .int (i ^ j.toNat)) := opI fun i j _ _ _ _ _ hc q => by
  refine pow_int hc.1 ?_ q
  have h1 := PySem.Flt.log2_lt_of (by decide : 0 < 1000) hc.2.2
  have b : Builtin.Int.intBits i ≤ i.natAbs.log2 + 1 := by
    unfold Builtin.Int.intBits
    split <;> omega
  have h2 := hc.2.1
  have h0 := hc.1
  have h3 : ((Builtin.Int.intBits i : Nat) : Int) ≤ 1001 := by omega
  have h4 : ((Builtin.Int.intBits i : Nat) : Int) * j ≤ 1001 * j := Int.mul_le_mul_of_nonneg_right h3 h0
  omega

/-! sum of a tuple of ints -/
def rSumT (K : PySem.W.Frag) : List V → Hp → VK → Prop := fun vs H Q => ∃ (a : Addr) (ns : List Int), vs = [V.ref a] ∧ SqT K H a (ns.map V.int) ∧ Q (.int ns.sum) H
end
section
variable {prog : Program} {w : World} {A : Around} {E : Value → Shared → Prop} {s : Shared} {l : Addr} {its : List Value} {ns : List Int} {Q : Value → Shared → Prop}
theorem iter_intTup {xs : Array (Int × Tok)} {Q : Value → Shared → Prop} (hl : s.heap.IsTuple l (intItems xs))
    (h : ∀ s₂ : Shared, s₂ = { s with heap := s.heap.push { cls := .type "tuple_iterator", data := .fields #[.ref l, .int 0 0] } } →
      (s₂.heap.IsTupleIter s.heap.objs.size l 0 ∧ s₂.heap.IsTuple l (intItems xs)) → (∀ b ∈ [s.heap.objs.size, l], b < s₂.heap.objs.size) → l ≠ s.heap.objs.size → Q (.ref s.heap.objs.size) s₂) :
    wpAny (model prog w) A (pyIter (.ref l)) Q E s := by
  have hlt : l < s.heap.objs.size := by obtain ⟨_, e, _⟩ := hl; exact Heap.lt_size e
  refine wpAny_pyIter_tuple hl (h _ rfl ⟨⟨_, Heap.get?_push_size _ rfl, rfl, rfl⟩, hl.push _⟩ (fun b hb => ?_) (Nat.ne_of_lt hlt))
  show b < (s.heap.push _).objs.size
  rw [Heap.size_push]
  rcases List.mem_cons.mp hb with rfl | hb
  · exact Nat.lt_succ_self _
  · rcases List.mem_cons.mp hb with rfl | hb
    · exact Nat.lt_succ_of_lt hlt
    · cases hb
theorem old_keptT {h' : Heap} (hk : ∀ b o, b ∉ [s.heap.objs.size] → (s.heap.push { cls := .type "tuple_iterator", data := .fields #[.ref l, .int 0 0] }).get? b = some o → h'.get? b = some o) :
    ∀ b o, s.heap.get? b = some o → h'.get? b = some o := fun b o e => by
  refine hk b o (fun hm => ?_) (Heap.get?_push_of_some _ e)
  rcases List.mem_cons.mp hm with e1 | hm
  · exact absurd (e1 ▸ Heap.lt_size e) (Nat.lt_irrefl _)
  · cases hm
theorem sum_intTup {xs : Array (Int × Tok)} {Q : Value → Shared → Prop} (hh : A.handled = none) (hl : s.heap.IsTuple l (intItems xs))
    (h : ∀ h' tk t', (∀ b o, s.heap.get? b = some o → h'.get? b = some o) → Q (.int (preSum (numAt xs) xs.size) t') { s with heap := h', toks := tk }) :
    wpAny (model prog w) A (call (.builtin "sum") [.ref l]) Q E s := by
  refine call_sum_walkG (iter_intTup hl fun s₂ e st hfp hlI => ?_)
  subst e
  refine ⟨_, _, _, _, _, _, numAt xs, rfl, Walks.tuple (A := A.in1) hh _ l hlI (intItems xs), st, hfp, (fun _ _ => intItems_at), fun h' tk t' hk => ?_⟩
  have := h h' tk t' (old_keptT hk)
  simpa [intItems] using this
theorem sum_rawT (hh : A.handled = none) (hl : s.heap.IsTuple l its.toArray) (hi : IntsAre its ns)
    (h : ∀ h' tk t', (∀ b o, s.heap.get? b = some o → h'.get? b = some o) → Q (.int ns.sum t') { s with heap := h', toks := tk }) : wpAny (model prog w) A (call (.builtin "sum") [.ref l]) Q E s := by
  obtain ⟨xs, e⟩ := hi.allInts.items
  have hn : numsOf (intItems xs).toList = ns := by rw [← e]; exact hi.numsOf
  rw [nums_intItems] at hn
  rw [e] at hl
  refine sum_intTup hh hl fun h' tk t' hk => ?_
  have := h h' tk t' hk
  rw [preSum_eq, List.take_of_length_le (by simp), hn]; exact this
end
section
variable {X : Cx}
theorem cr_sumT (hc : X.calm = true) : CallR X (.builtin "sum") (rSumT X.K) := by
  intro pins s σ H vs us Q I r h
  obtain ⟨a, ns, rfl, hs, q⟩ := h
  obtain ⟨its, rv, hl, _⟩ := I.tuple hs
  rw [Vals.ref1 r]
  exact sum_rawT (I.ok.hd hc) hl rv.ints fun h' tk t' hk => ⟨.int _, H, I.kept hk, ⟨_, rfl⟩, q⟩
end

/-! tuple * k for k = 0 and k = 1 -/
theorem tuple_mul1 (l : Addr) (items : Array Value) (n : Nat) (dd : Option Addr) (sl : Array (Option Value)) (u : Tok) :
    Meets (Builtin.«tuple.__mul__» ⟨[.ref l, .int 1 u], []⟩) (fun _ R s => s.heap.get? l = some { cls := .type "tuple", dict := dd, data := .seq items n, slots := sl } ∧
      R (.ok (.ret (Value.ref l))) s) :=
  .of_wp fun prog w A R s h => by
    obtain ⟨hp, g, d, tk, os⟩ := s
    obtain ⟨hl, h⟩ := h
    have f1 := AutoSeq1.idx_int
    wp_walk using wpAny_loadPart' hl
    repeat (first
      | (refine wpAny_ite_false (by decide) ?_; wp_walk using wpAny_loadPart' hl)
      | (refine wpAny_ite_true (by rw [Bool.or_eq_true]; exact Or.inr rfl) ?_; wp_walk using wpAny_loadPart' hl)
      | (refine wpAny_ite_true (by simp) ?_; wp_walk using wpAny_loadPart' hl))
    exact ⟨_, rfl, h⟩
theorem tuple_mul0 (l : Addr) (items : Array Value) (n : Nat) (dd : Option Addr) (sl : Array (Option Value)) (u : Tok) (hn : items.isEmpty = false) :
    Meets (Builtin.«tuple.__mul__» ⟨[.ref l, .int 0 u], []⟩) (fun _ R s => s.heap.get? l = some { cls := .type "tuple", dict := dd, data := .seq items n, slots := sl } ∧
      R (.ok (.ret (Value.ref s.heap.objs.size))) { s with heap := s.heap.push { cls := Value.type "tuple", data := Data.seq #[] }, toks := s.toks }) :=
  .of_wp fun prog w A R s h => by
    obtain ⟨hp, g, d, tk, os⟩ := s
    obtain ⟨hl, h⟩ := h
    have f1 := AutoSeq1.idx_int
    wp_walk using wpAny_loadPart' hl
    repeat (first
      | (refine wpAny_ite_false (by decide) ?_; wp_walk using wpAny_loadPart' hl)
      | (refine wpAny_ite_false (by rw [hn]; decide) ?_; wp_walk using wpAny_loadPart' hl)
      | (refine wpAny_ite_true (by decide) ?_; wp_walk using wpAny_loadPart' hl)
      | (refine wpAny_ite_true (by rw [Bool.or_eq_true]; exact Or.inl rfl) ?_; wp_walk using wpAny_loadPart' hl)
      | (refine wpAny_ite_false (decide_eq_false (Nat.not_lt.mpr (Nat.zero_le _))) ?_; wp_walk using wpAny_loadPart' hl))
    exact ⟨_, rfl, h⟩
def rRepU (K : PySem.W.Frag) : R2 := fun x y H Q => ∃ l k xs, x = .ref l ∧ y = .int k ∧ SqT K H l xs ∧ xs ≠ [] ∧ 0 ≤ k ∧ k ≤ 1000 ∧ xs.length ≤ 1000 ∧ ∀ p H', Evl.Ex H H' → SqT K H' p (List.replicate k.toNat xs).flatten → Q (.ref p) H'
section
variable {X : Cx}
theorem op_repU : OpR X (binaryOp .Mult) (rRepU X.K) := by
  intro pins s σ H x y v u Q I rx ry h
  obtain ⟨l, k, xs, ex, ey, hT, hne, h1, h2, hz, q⟩ := h
  by_cases h22 : 2 ≤ k
  · exact op_repT pins s σ H x y v u Q I rx ry ⟨l, k, xs, ex, ey, hT, hne, h22, h2, hz, fun p hp => q p _ (Evl.Ex.new hp) (SqT.of upd_same)⟩
  · subst ex ey
    cases rx
    obtain ⟨t, rfl⟩ := ry
    obtain ⟨its, r, ⟨⟨cls, dd, data, sl⟩, ho, hc, n, hd⟩, hs⟩ := I.tuple hT
    simp only at hc hd
    subst hc hd
    have hle : its.length = xs.length := r.length.symm
    have hi : its.toArray.isEmpty = false := by
      cases its with
      | nil => exact absurd (List.eq_nil_of_length_eq_zero hle.symm) hne
      | cons a b => rfl
    by_cases h1k : k = 1
    · subst h1k
      refine wpAny_binaryOp_repeat_ref (T := "tuple") (U := "int") (by decide) ⟨_, ho, rfl⟩ (fun s' => typeIs_int s' 1 t) noFill_tuple_mul F.fills_int_mul F.slot_int_rmul repeat_tuple F.slot_int_index.lookup
        (call_meets F.slot_int_rmul (typeIs_int s 1 t) F.entry_int_rmul (F.args_int_rmul_2 _ _) (int_rmul_tuple 1 t l its.toArray n dd sl)
          ⟨ho, rfl, ⟨_, ho, rfl⟩, call_meets F.slot_tuple_mul ⟨_, ho, rfl⟩ F.entry_tuple_mul (F.args_tuple_mul_2 _ _) (tuple_mul1 l its.toArray n dd sl t) ⟨ho, ?_⟩⟩)
      refine ⟨.ref l, H, I.tok _, rfl, q l H (Evl.Ex.refl H) ?_⟩
      show SqT X.K H l (List.replicate 1 xs).flatten
      rw [List.replicate_one, List.flatten_singleton]
      exact hT
    · have h0k : k = 0 := by omega
      subst h0k
      refine wpAny_binaryOp_repeat_ref (T := "tuple") (U := "int") (by decide) ⟨_, ho, rfl⟩ (fun s' => typeIs_int s' 0 t) noFill_tuple_mul F.fills_int_mul F.slot_int_rmul repeat_tuple F.slot_int_index.lookup
        (call_meets F.slot_int_rmul (typeIs_int s 0 t) F.entry_int_rmul (F.args_int_rmul_2 _ _) (int_rmul_tuple 0 t l its.toArray n dd sl)
          ⟨ho, rfl, ⟨_, ho, rfl⟩, call_meets F.slot_tuple_mul ⟨_, ho, rfl⟩ F.entry_tuple_mul (F.args_tuple_mul_2 _ _) (tuple_mul0 l its.toArray n dd sl t hi) ⟨ho, ?_⟩⟩)
      have hf := I.hok.fresh (Nat.le_refl s.heap.objs.size)
      refine ⟨.ref s.heap.objs.size, _, I.laid (t' := s.toks) (o := .tup []) (fun b ob q => Heap.get?_push_of_some _ q) (Nat.le_refl _) ?_, rfl, q _ _ (Evl.Ex.new hf) (SqT.of upd_same)⟩
      exact ⟨Nat.zero_le _, [], .nil, IsTup.new _ _⟩

/-! tuple[::-1] -/
def tRevT (K : PySem.W.Frag) (te : TE) : TE := fun σ H Q => te σ H fun x H1 => ∃ a xs, x = .ref a ∧ SqT K H1 a xs ∧ ∀ p, H1 p = none → Q (.ref p) (upd H1 p (.tup xs.reverse))
end
theorem rev_adjust (n : Nat) : Builtin.Slice.sliceAdjust none none (-1) (n : Int) = ((n : Int) - 1, -1) := by
  first
  | rfl
  | simp [Builtin.Slice.sliceAdjust]
theorem rev_places (n : Nat) : Builtin.Slice.slicePlaces ((n : Int) - 1) (-1) (-1) = n := by
  unfold Builtin.Slice.slicePlaces
  have h1 : ¬ ((-1 : Int) > 0) := by decide
  have h2 : (- -1 : Int) = 1 := by decide
  simp only [h1, if_false, h2, Int.ediv_one]
  split <;> omega
theorem rev_pick (xs : Array Value) : ((List.range xs.size).filterMap fun (m : Nat) => xs[(((xs.size : Int) - 1) + (m : Int) * (-1)).toNat]?).toArray = xs.toList.reverse.toArray := by
  have e : (fun (m : Nat) => xs[(((xs.size : Int) - 1) + (m : Int) * (-1)).toNat]?) = fun m => xs[xs.size - 1 - m]? := by
    funext m
    have : (((xs.size : Int) - 1) + (m : Int) * (-1)).toNat = xs.size - 1 - m := by omega
    rw [this]
  rw [e]
  have h := PySem.W.krv_all xs
  have h2 : (List.range xs.size).filterMap (fun m => xs[xs.size - 1 - m]?) = ((List.range xs.size).map fun k => xs.size - 1 - k).filterMap (xs[·]?) := by
    rw [List.filterMap_map]
    rfl
  rw [h2, PySem.W.krv_range, List.filterMap_reverse, h]
section
variable {prog : Program} {w : World} {A : Around} {E : Value → Shared → Prop} {s : Shared}
theorem sliceApplied_rev {sl : Addr} {vl vu vs : Value} {n : Nat} {Q : Int × Int × Nat → Shared → Prop} (hs : s.heap.IsSliceOf sl vl vu vs) (pl : IsPart vl none) (pu : IsPart vu none) (ps : IsPart vs (some (-1)))
    (h : Q ((n : Int) - 1, -1, n) s) : wpAny (model prog w) A (Builtin.Slice.sliceApplied (.ref sl) (pure (n : Int))) Q E s := by
  obtain ⟨os, hos, hcs, hds⟩ := id hs
  unfold Builtin.Slice.sliceApplied Builtin.Slice.sliceFields
  refine wpAny_bind (wpAny_bind (wpAny_field hos hds (x := vl) rfl (wpAny_bind (wpAny_field hos hds (x := vu) rfl (wpAny_bind (wpAny_field hos hds (x := vs) rfl (wpAny_pure ?_)))))))
  refine wpAny_bind (HT.slicePart_ ps ?_)
  show wpAny _ _ (if ((-1 : Int) == 0) = true then _ else _) _ _ s
  rw [if_neg (by decide)]
  refine wpAny_bind (HT.slicePart_ pl (wpAny_bind (HT.slicePart_ pu (wpAny_bind (wpAny_pure ?_)))))
  show wpAny _ _ (match Builtin.Slice.sliceAdjust none none (-1) (n : Int) with | (lo, hi) => pure (lo, (-1 : Int), Builtin.Slice.slicePlaces lo hi (-1))) _ _ s
  rw [rev_adjust n]
  show wpAny _ _ (pure ((n : Int) - 1, (-1 : Int), Builtin.Slice.slicePlaces ((n : Int) - 1) (-1) (-1))) _ _ s
  rw [rev_places]
  exact wpAny_pure h
theorem getItem_tuple_rev {t sl : Addr} {items : Array Value} {vl vu vs : Value} {Q : Value → Shared → Prop} (ht : IsTup s.heap t items) (hs : s.heap.IsSliceOf sl vl vu vs) (pl : IsPart vl none) (pu : IsPart vu none) (ps : IsPart vs (some (-1)))
    (h : Q (.ref s.heap.objs.size) { s with heap := s.heap.push { cls := .type "tuple", data := .seq items.toList.reverse.toArray } })
    (hsz : items.size ≤ sizeLine) : wpAny (model prog w) A (getItem (.ref t) (.ref sl)) Q E s := by
  have htake : sizeOk (.seq items.toList.reverse.toArray) := by
    show items.toList.reverse.toArray.size ≤ sizeLine
    rw [List.size_toArray, List.length_reverse, Array.length_toList]
    exact hsz
  obtain ⟨os, hos, hcs, hds⟩ := id hs
  have hTs : s.TypeIs (.ref sl) "slice" := ⟨os, hos, hcs⟩
  unfold getItem
  try with_reducible refine wpAny_holding ?_
  first | refine wpAny_bind (wpAny_pure ?_) | skip
  refine wpAny_bind (wpAny_sequenceKey ht.typeIs (by decide) ?_)
  refine wpAny_bind (wpAny_callSpecial?_slot (name := Str.ofString "__getitem__") ht.typeIs PyProof.Rows.slot_tuple_getitem
    (wpAny_call_entry PyProof.Rows.slot_tuple_getitem ht.typeIs entry_tuple_getitem ?_ (args_tuple_getitem _ _)))
  show wpAny _ _ (Builtin.Tuple.tupleItemsOf (.ref t) >>= _) _ _ s
  refine wpAny_bind (tupleItemsOf_ ht ?_)
  refine wpAny_bind (wpAny_typeOf hTs ?_)
  rw [if_pos (by decide)]
  refine wpAny_bind (sliceApplied_rev hs pl pu ps ?_)
  have hno : ¬ ((((items.size : Int) - 1) == 0 && (-1 : Int) == 1 && items.size == items.size) = true) := by
    rw [show ((-1 : Int) == 1) = false from rfl, Bool.and_false, Bool.false_and]
    decide
  show wpAny _ _ (if ((((items.size : Int) - 1) == 0 && (-1 : Int) == 1 && items.size == items.size) = true) then _ else _) _ _ s
  rw [if_neg hno, rev_pick]
  first
    | exact wpAny_bind (m := Builtin.Tuple.tupleExact _) (wpAny_newObj_type (wpAny_pure ⟨_, rfl, wpAny_pure h⟩) htake)
    | exact wpAny_bind (m := Builtin.Tuple.tupleExact _) (wpAny_newObj_type (wpAny_bind (wpAny_pure (wpAny_pure ⟨_, rfl, wpAny_pure h⟩))) htake)
    | exact wpAny_bind (wpAny_bind (m := Builtin.Tuple.tupleExact _) (wpAny_newObj_type (wpAny_pure (wpAny_pure ⟨_, rfl, wpAny_pure h⟩)) htake))
    | exact wpAny_bind (wpAny_bind (m := Builtin.Tuple.tupleExact _) (wpAny_newObj_type (wpAny_pure ⟨_, rfl, wpAny_pure h⟩) htake))
end
section
variable {X : Cx}
theorem pe_revT {e : Expr} {te : TE} {k : Nat} {p1 p2 p3 pos : Pos} (he : PE X e te) : PE X (.Subscript e (.Slice none none (some (.UnaryOp .USub (.Constant (.int 1) k p1) p2)) p3) pos) (tRevT X.K te) := by
  refine ⟨fun pins s σ H Q I h => ?_⟩
  refine Subscript_ (thn (he.run pins s σ H _ I h) fun v s1 ⟨x, H1, I1, r1, q1⟩ => ?_)
  obtain ⟨a, xs, ex, hx, q⟩ := q1
  subst ex
  cases r1
  have hst : PO X (some (.UnaryOp .USub (.Constant (.int 1) k p1) p2)) (tPart (tUn (rU fun i => .int (-i)) (tC (.int 1)))) := po_some (pe_un un_neg pe_int)
  refine wpAny_Slice (thn (po_none.run pins s1 σ H1 (fun o H2 => o = none ∧ H2 = H1) I1 ⟨rfl, rfl⟩) fun vl s2 ⟨l, H2, I2, pl, el, e2⟩ => ?_)
  subst el e2
  refine thn (po_none.run pins s2 σ H2 (fun o H3 => o = none ∧ H3 = H2) I2 ⟨rfl, rfl⟩) fun vu s3 ⟨u, H3, I3, pu, eu, e3⟩ => ?_
  subst eu e3
  refine thn (hst.run pins s3 σ H3 (fun o H4 => o = some (-1) ∧ H4 = H3) I3 ⟨1, rfl, -1, rfl, rfl, rfl⟩) fun vs s4 ⟨o, H4, I4, ps, eo, e4⟩ => ?_
  subst eo e4
  have I5 : Inv X pins σ H4 { s4 with heap := s4.heap.push { cls := .type "slice", data := .fields #[vl, vu, vs] } } := I4.kept (t' := s4.toks) fun b ob q => Heap.get?_push_of_some _ q
  obtain ⟨its, r, ht, hz⟩ := I5.tuple hx
  have hlen := r.length
  show wpAny (model X.prog X.w) X.A (subscriptTail e (.Slice none none (some (.UnaryOp .USub (.Constant (.int 1) k p1) p2)) p3) (.ref a) (.ref s4.heap.objs.size)) (EP X pins σ Q) X.xe { s4 with heap := s4.heap.push { cls := .type "slice", data := .fields #[vl, vu, vs] } }
  refine tail_any (ops := [.ref a, .ref s4.heap.objs.size]) ht.typeIs PyProof.Rows.slot_tuple_getitem.lookup ?_ (by with_unfolding_all rfl)
  refine getItem_tuple_rev ht (Heap.IsSliceOf.new _ vl vu vs) pl pu ps ?_ (by rw [List.size_toArray]; omega)
  refine ⟨.ref _, _, I5.laid (t' := s4.toks) (o := .tup xs.reverse) (fun b ob q => Heap.get?_push_of_some _ q) (Nat.le_refl _) ?_, rfl, q _ (I5.hok.fresh (Nat.le_refl _))⟩
  exact ⟨by rw [List.length_reverse]; exact hz, _, r.reverse, IsTup.new _ _⟩
end
end Own
/-! own words over HandS.Evl: built-in calls, tuples walked, chains, promises of new tuples -/
namespace Own
open PySem PySem.Spec PyProof.Rows L2 Evl
section
variable {K : PySem.W.Frag} {σ : L2.St} {H H' : Hp} {ta tb te tx : TE} {t u : TT} {x y z v : V}
theorem rc_abs {i : Int} : RC (fun xs H Q => ∃ i, xs = [V.int i] ∧ Q (.int (if i < 0 then -i else i)) H) [.int i] H (.int (if i < 0 then -i else i)) := fun H1 _ _ q => ⟨i, rfl, q H1 (Ex.refl H1)⟩
theorem rc_int {i : Int} : RC (fun xs H Q => (∃ i, xs = [V.int i] ∧ Q (.int i) H) ∨ ∃ k, xs = [V.bl k] ∧ Q (.int (if k then 1 else 0)) H) [.int i] H (.int i) := fun H1 _ _ q => .inl ⟨i, rfl, q H1 (Ex.refl H1)⟩
theorem rc_intB {k : Bool} : RC (fun xs H Q => (∃ i, xs = [V.int i] ∧ Q (.int i) H) ∨ ∃ k, xs = [V.bl k] ∧ Q (.int (if k then 1 else 0)) H) [.bl k] H (.int (if k then 1 else 0)) := fun H1 _ _ q => .inr ⟨k, rfl, q H1 (Ex.refl H1)⟩
theorem rc_max2 {i j : Int} : RC (fun xs H Q => ∃ i j, xs = [V.int i, V.int j] ∧ Q (.int (if j > i then j else i)) H) [.int i, .int j] H (.int (if j > i then j else i)) := fun H1 _ _ q => ⟨i, j, rfl, q H1 (Ex.refl H1)⟩
theorem rc_min2 {i j : Int} : RC (fun xs H Q => ∃ i j, xs = [V.int i, V.int j] ∧ Q (.int (if j < i then j else i)) H) [.int i, .int j] H (.int (if j < i then j else i)) := fun H1 _ _ q => ⟨i, j, rfl, q H1 (Ex.refl H1)⟩
abbrev rLenQ (K : PySem.W.Frag) : List V → Hp → VK → Prop := fun xs H Q => ∃ p ys, xs = [.ref p] ∧ (SqL K H p ys ∨ SqT K H p ys) ∧ Q (.int ys.length) H
theorem rc_lenL {a : Addr} {xs : List V} (h : SqL K H a xs) : RC (rLenQ K) [.ref a] H (.int xs.length) := fun H1 e _ q => ⟨a, xs, rfl, .inl (ex_l e h), q H1 (Ex.refl H1)⟩
theorem rc_lenT {a : Addr} {xs : List V} (h : SqT K H a xs) : RC (rLenQ K) [.ref a] H (.int xs.length) := fun H1 e _ q => ⟨a, xs, rfl, .inr (ex_t e h), q H1 (Ex.refl H1)⟩
theorem rc_sumL {a : Addr} {ns : List Int} (h : SqL K H a (ns.map V.int)) : RC (rSum K) [.ref a] H (.int ns.sum) := fun H1 e _ q => ⟨a, ns, rfl, ex_l e h, q H1 (Ex.refl H1)⟩
theorem rc_sumT {a : Addr} {ns : List Int} (h : SqT K H a (ns.map V.int)) : RC (rSumT K) [.ref a] H (.int ns.sum) := fun H1 e _ q => ⟨a, ns, rfl, ex_t e h, q H1 (Ex.refl H1)⟩
theorem ev_sumN {ns : List Int} (h : EvL ta σ H (ns.map V.int)) : Ev (tCB (rSum K) (tCons ta tNil)) σ H (.int ns.sum) := fun H1 e _ q =>
  h H1 e _ fun p H2 _ e2 h2 => ⟨p, ns, rfl, sq_of h2, q H2 e2⟩
theorem ev_allN {bs : List Bool} (h : EvL ta σ H (bs.map V.bl)) : Ev (tCB (rAll K) (tCons ta tNil)) σ H (.bl (bs.all id)) := fun H1 e _ q =>
  h H1 e _ fun p H2 _ e2 h2 => ⟨p, bs, rfl, sq_of h2, q H2 e2⟩
theorem tyx_tup {a : Addr} {xs : List V} (h : SqT K H a xs) : TyX K H (.ref a) (.type "tuple") := by
  rcases h with (h | ⟨o, h⟩) | ⟨o, its, n, e, c, _⟩
  · exact .base (.tup h)
  · exact .fTuple h
  · exact .kTuple e c
theorem tyx_ex {x : V} {t : Value} (e : Ex H H') (h : TyX K H x t) : TyX K H' x t := by
  cases h with
  | base h =>
    refine .base ?_
    cases h with
    | non => exact .non
    | bl x => exact .bl x
    | int i => exact .int i
    | str x => exact .str x
    | flt x => exact .flt x
    | lst q => exact .lst (e _ _ q)
    | frz q => exact .frz (e _ _ q)
    | tup q => exact .tup (e _ _ q)
    | dK q => exact .dK (e _ _ q)
    | dT q => exact .dT (e _ _ q)
    | ins q a b c d f => exact .ins (e _ _ q) a b c d f
  | byt b => exact .byt b
  | set q => exact .set (e _ _ q)
  | kList a b => exact .kList a b
  | kTuple a b => exact .kTuple a b
  | kDict a b => exact .kDict a b
  | fTuple q => exact .fTuple (e _ _ q)
  | fDict q => exact .fDict (e _ _ q)
theorem rc_isi {x : V} {t : Value} {n : String} {b : Bool} (h : TyX K H x t) (hk : PySem.W.kitOne K t (.type n) = some b) : RC (rIsi K) [x, .ty n] H (.bl b) := fun H1 e _ q =>
  ⟨x, .ty n, t, .type n, b, rfl, .ty n, tyx_ex e h, hk, q H1 (Ex.refl H1)⟩
theorem ev_chain {r r' : R2} {a b : Bool} {tc : TE} (ha : Ev ta σ H x) (hb : Ev tb σ H y) (hr : RV r x y H (.bl a)) (hc : a = true → Ev tc σ H z) (hr' : a = true → RV r' y z H (.bl b)) : Ev (tChain r r' ta tb tc) σ H (.bl (a && b)) := fun H1 e Q q =>
  ha H1 e _ fun H2 e2 => hb H2 (e.trans e2) _ fun H3 e3 => hr H3 ((e.trans e2).trans e3) _ fun H4 e4 => ⟨a, rfl, by
    cases a with
    | true => exact iteT (hc rfl H4 (((e.trans e2).trans e3).trans e4) _ fun H5 e5 => hr' rfl H5 ((((e.trans e2).trans e3).trans e4).trans e5) Q fun H6 e6 => q H6 ((((e2.trans e3).trans e4).trans e5).trans e6))
    | false => exact iteF (q H4 ((e2.trans e3).trans e4))⟩
/-- tuple(..) of a new list -/
abbrev rTupQ (K : PySem.W.Frag) : List V → Hp → VK → Prop := fun xs H Q => ∃ p ys, xs = [.ref p] ∧ ((SqL K H p ys ∧ ∀ l, H l = none → Q (.ref l) (upd H l (.tup ys))) ∨ (SqT K H p ys ∧ Q (.ref p) H))
theorem eu_tupleN {xs : List V} (h : EvL ta σ H xs) : EvU (tCB (rTupQ K) (tCons ta tNil)) σ H xs := fun H1 e Q q =>
  h H1 e _ fun p H2 _ e2 h2 => ⟨p, xs, rfl, .inl ⟨sq_of h2, fun l hl => q l _ (fresh_back e2 hl) (e2.trans (Ex.new hl)) upd_same⟩⟩
theorem eu_tupleL {a : Addr} {xs : List V} (h : Ev ta σ H (.ref a)) (hx : SqL K H a xs) : EvU (tCB (rTupQ K) (tCons ta tNil)) σ H xs := fun H1 e Q q =>
  h H1 e _ fun H2 e2 => ⟨a, xs, rfl, .inl ⟨ex_l (e.trans e2) hx, fun l hl => q l _ (fresh_back e2 hl) (e2.trans (Ex.new hl)) upd_same⟩⟩
abbrev rLstQ (K : PySem.W.Frag) : List V → Hp → VK → Prop := fun xs H Q => ∃ p ys, xs = [.ref p] ∧ (SqL K H p ys ∨ SqT K H p ys) ∧ ∀ l, H l = none → Q (.ref l) (upd H l (.lst ys))
theorem el_listT {a : Addr} {xs : List V} (h : Ev ta σ H (.ref a)) (hx : SqT K H a xs) : EvL (tCB (rLstQ K) (tCons ta tNil)) σ H xs := fun H1 e Q q =>
  h H1 e _ fun H2 e2 => ⟨a, xs, rfl, .inr (ex_t (e.trans e2) hx), fun l hl => q l _ (fresh_back e2 hl) (e2.trans (Ex.new hl)) upd_same⟩
theorem eu_revT {a : Addr} {xs : List V} (h : Ev ta σ H (.ref a)) (hx : SqT K H a xs) : EvU (tRevT K ta) σ H xs.reverse := fun H1 e Q q =>
  h H1 e _ fun H2 e2 => ⟨a, xs, rfl, ex_t (e.trans e2) hx, fun l hl => q l _ (fresh_back e2 hl) (e2.trans (Ex.new hl)) upd_same⟩
/-- a comprehension over a tuple -/
theorem el_lcT {a : Addr} {xs : List V} {tl : TE} {j : Nat} {vs : List Nat} (f : Nat → Bool) (v : Nat → V) (h : Ev tl σ H (.ref a)) (hx : SqT K H a xs) (hz : xs.length ≤ 40000) (hw : ∀ x, wipe ((wipe σ vs).set j (some x)) vs = wipe σ vs)
    (ht : ∀ (i : Nat) (x : V) H1, Ex H H1 → xs[i]? = some x → EvT t ((wipe σ vs).set j (some x)) H1 (f i)) (he : ∀ (i : Nat) (x : V) H1, Ex H H1 → xs[i]? = some x → f i = true → Ev te ((wipe σ vs).set j (some x)) H1 (v i)) :
    EvL (tLc (iTup K tl) (gName j) t te vs) σ H (given xs.length f v) := fun H0 e Q q => h H0 e _ fun H1 e1 => ⟨a, rfl, ⟨xs, ex_t (e.trans e1) hx⟩, fun Dl hD =>
  lc_tup (xs := xs) (Cw H1 f v Dl) ⟨hD, Ex.new hD, upd_same⟩ (fun i H' _ p => ex_t ((e.trans e1).trans p.2.1) hx) (fun i x H' hi p => ⟨hw x, cw_turn p (by have := (List.getElem?_eq_some_iff.mp hi).1; omega) (ht i x H1 (e.trans e1) hi) (fun hf => he i x H1 (e.trans e1) hi hf)⟩)
    (fun H' p => q Dl H' (fresh_back e1 p.1) (e1.trans p.2.1) p.2.2)⟩
theorem et_nil : EvT tYes σ H true := fun H1 _ _ q => q H1 (Ex.refl H1)
theorem el_is {xs ys : List V} (h : EvL te σ H xs) (e : xs = ys) : EvL te σ H ys := e ▸ h
theorem eu_is {xs ys : List V} (h : EvU te σ H xs) (e : xs = ys) : EvU te σ H ys := e ▸ h
/-- all are kept: the list is a map -/
theorem given_all {α : Type} (ys : List α) (g : α → V) (v : Nat → V) (hv : ∀ (i : Nat) (y : α), ys[i]? = some y → v i = g y) : given ys.length (fun _ => true) v = ys.map g := by
  unfold given
  rw [List.filter_eq_self.mpr (fun _ _ => rfl)]
  refine List.ext_getElem? fun i => ?_
  rw [List.getElem?_map, List.getElem?_map]
  by_cases hi : i < ys.length
  · rw [List.getElem?_range hi, List.getElem?_eq_getElem hi]
    exact congrArg some (hv i _ (List.getElem?_eq_getElem hi))
  · rw [List.getElem?_eq_none (by rw [List.length_range]; omega), List.getElem?_eq_none (by omega)]
    rfl
variable {D : Ends} {tu tw tz : TS}
/-- for x in a new tuple; the target is a name -/
theorem s_forNT {xs : List V} {tl : TE} {j : Nat} (h : EvU tl σ H xs) (Pv : Addr → Nat → L2.St → Hp → Prop) (h0 : ∀ p H1, H p = none → Ex H H1 → H1 p = some (.tup xs) → Pv p 0 σ H1) (hl : ∀ p i σ' H', i ≤ xs.length → Pv p i σ' H' → SqT K H' p xs)
    (hs : ∀ p i x σ' H', xs[i]? = some x → Pv p i σ' H' → tu { D with nx := Pv p (i + 1), ct := Pv p (i + 1), bk := D.nx } (σ'.set j (some x)) H') (hd : ∀ p σ' H', Pv p xs.length σ' H' → D.nx σ' H') : tFor (iTup K tl) (gName j) tu D σ H :=
  h H (Ex.refl H) _ fun p H1 hp e h1 => ⟨p, rfl, ⟨xs, st_of h1⟩, for_tup (Pv p) (h0 p H1 hp e h1) (hl p) (hs p) (hd p)⟩
theorem q_forNT {xs : List V} {tl : TE} {j : Nat} (h : EvU tl σ H xs) (Pv : Addr → Nat → L2.St → Hp → Prop) (h0 : ∀ p H1, H p = none → Ex H H1 → H1 p = some (.tup xs) → Pv p 0 σ H1) (hl : ∀ p i σ' H', i ≤ xs.length → Pv p i σ' H' → SqT K H' p xs)
    (hs : ∀ p i x σ' H', xs[i]? = some x → Pv p i σ' H' → tu { D with nx := Pv p (i + 1), ct := Pv p (i + 1), bk := tz D } (σ'.set j (some x)) H') (hd : ∀ p σ' H', Pv p xs.length σ' H' → tz D σ' H') : tSeq (tFor (iTup K tl) (gName j) tu) tz D σ H :=
  s_forNT (D := { D with nx := tz D }) h Pv h0 hl hs hd
theorem q_par {i j : Nat} (h : Ev ta σ H x) (h2 : Ev tb σ H y) (k : ∀ H1, Ex H H1 → tz D ((σ.set i (some x)).set j (some y)) H1) : tSeq (tPar i j (tCons ta (tCons tb tNil))) tz D σ H :=
  h H (Ex.refl H) _ fun H1 e1 => h2 H1 e1 _ fun H2 e2 => ⟨x, y, rfl, k H2 (e1.trans e2)⟩
theorem q_parL {i j : Nat} {xs : List V} (h : EvL ta σ H xs) (h2 : ∀ p H1, H p = none → Ex H H1 → H1 p = some (.lst xs) → Ev tb σ H1 y) (k : ∀ p H1, H p = none → Ex H H1 → H1 p = some (.lst xs) → tz D ((σ.set i (some (.ref p))).set j (some y)) H1) : tSeq (tPar i j (tCons ta (tCons tb tNil))) tz D σ H :=
  h H (Ex.refl H) _ fun p H1 hp e1 hx => h2 p H1 hp e1 hx H1 (Ex.refl H1) _ fun H2 e2 => ⟨.ref p, y, rfl, k p H2 hp (e1.trans e2) (e2 _ _ hx)⟩
theorem q_par3 {i j l : Nat} {tc : TE} (h : Ev ta σ H x) (h2 : Ev tb σ H y) (h3 : Ev tc σ H z) (k : ∀ H1, Ex H H1 → tz D (((σ.set i (some x)).set j (some y)).set l (some z)) H1) : tSeq (tPar3 i j l (tCons ta (tCons tb (tCons tc tNil)))) tz D σ H :=
  h H (Ex.refl H) _ fun H1 e1 => h2 H1 e1 _ fun H2 e2 => h3 H2 (e1.trans e2) _ fun H3 e3 => ⟨x, y, z, rfl, k H3 ((e1.trans e2).trans e3)⟩
theorem s_par3 {i j l : Nat} {tc : TE} (h : Ev ta σ H x) (h2 : Ev tb σ H y) (h3 : Ev tc σ H z) (k : ∀ H1, Ex H H1 → D.nx (((σ.set i (some x)).set j (some y)).set l (some z)) H1) : tPar3 i j l (tCons ta (tCons tb (tCons tc tNil))) D σ H :=
  h H (Ex.refl H) _ fun H1 e1 => h2 H1 e1 _ fun H2 e2 => h3 H2 (e1.trans e2) _ fun H3 e3 => ⟨x, y, z, rfl, k H3 ((e1.trans e2).trans e3)⟩
/-- a, b = (e1, e2) where the tuple is made: two names; a name and an item of a list -/
theorem q_tupNN {i j : Nat} (h : Ev ta σ H x) (h2 : Ev tb σ H y) (k : ∀ H1, Ex H H1 → tz D ((σ.set i (some x)).set j (some y)) H1) : tSeq (tAsg (tTup (tCons ta (tCons tb tNil))) (gTup K 2 (gCons (gName i) (gCons (gName j) gNil)))) tz D σ H :=
  h H (Ex.refl H) _ fun H1 e1 => h2 H1 e1 _ fun H2 e2 => ⟨by show 2 ≤ sizeLine; decide, fun p hp => ⟨p, [x, y], rfl, st_of upd_same, rfl, x, [y], rfl, y, [], rfl, rfl, k _ ((e1.trans e2).trans (Ex.new hp))⟩⟩
theorem s_tupNS {i j : Nat} {to ti : TE} {l : Addr} {xs : List V} (h : Ev ta σ H x) (h2 : Ev tb σ H y) (hl : H l = some (.lst xs)) (ho : Ev to (σ.set i (some x)) H (.ref l)) (hi : Ev ti (σ.set i (some x)) H (.int (j : Int))) (hj : j < xs.length)
    (k : ∀ H1, Ex H H1 → D.nx (σ.set i (some x)) (upd H1 l (.lst (xs.set j y)))) : tAsg (tTup (tCons ta (tCons tb tNil))) (gTup K 2 (gCons (gName i) (gCons (gSub to ti rSetL) gNil))) D σ H :=
  h H (Ex.refl H) _ fun H1 e1 => h2 H1 e1 _ fun H2 e2 => ⟨by show 2 ≤ sizeLine; decide, fun p hp => ⟨p, [x, y], rfl, st_of upd_same, rfl, x, [y], rfl, y, [], rfl,
    ho _ ((e1.trans e2).trans (Ex.new hp)) _ fun H3 e3 => hi H3 (((e1.trans e2).trans (Ex.new hp)).trans e3) _ fun H4 e4 => ⟨l, xs, (j : Int), j, rfl, rfl, ((((e1.trans e2).trans (Ex.new hp)).trans e3).trans e4) l _ hl, ixN_nat hj, rfl, k H4 ((((e1.trans e2).trans (Ex.new hp)).trans e3).trans e4)⟩⟩⟩
def SpU (sp : Sp) (vs : List V) (H : Hp) (xs : List V) : Prop := ∀ H1, Ex H H1 → ∀ Q : VK, (∀ p H2, H1 p = none → Ex H1 H2 → H2 p = some (.tup xs) → Q (.ref p) H2) → ∀ E : XK, sp vs H1 Q E
theorem eu_call {sp : Sp} {dvs vs xs : List V} {E : XK} {ta : TA} (h : EvA ta σ H vs) (hs : SpU sp (vs ++ dvs) H xs) : EvU (tCall sp dvs E ta) σ H xs := fun H1 e Q q =>
  h H1 e _ fun H2 e2 => hs H2 (e.trans e2) Q (fun p H3 hp e3 h3 => q p H3 (fresh_back e2 hp) (e2.trans e3) h3) E
def RetU (xs : List V) (H : Hp) (Q : VK) : Prop := ∀ p H2, H p = none → Ex H H2 → H2 p = some (.tup xs) → Q (.ref p) H2
theorem RetU.go {xs : List V} {Q : VK} (k : RetU xs H Q) (e : Ex H H') {p : Addr} {H2 : Hp} (hp : H' p = none) (e2 : Ex H' H2) (h : H2 p = some (.tup xs)) : Q (.ref p) H2 := k p H2 (fresh_back e hp) (e.trans e2) h
end
end Own
/-! mathematics of digits; core Lean alone -/
namespace Own
def dg (b : Nat) (k : Nat) : List Nat := if h : 1 < b ∧ 0 < k then (k % b) :: dg b (k / b) else []
termination_by k
decreasing_by exact Nat.div_lt_self h.2 h.1
theorem dg_zero (b : Nat) : dg b 0 = [] := by
  rw [dg]
  simp
theorem dg_pos {b k : Nat} (hb : 1 < b) (hk : 0 < k) : dg b k = (k % b) :: dg b (k / b) := by
  rw [dg, dif_pos ⟨hb, hk⟩]
theorem dg_lt {b : Nat} (hb : 1 < b) (k : Nat) : ∀ d ∈ dg b k, d < b := by
  induction k using Nat.strongRecOn with
  | ind k ih =>
    by_cases hk : 0 < k
    · rw [dg_pos hb hk]
      intro d hd
      rcases List.mem_cons.mp hd with rfl | hd
      · exact Nat.mod_lt _ (by omega)
      · exact ih _ (Nat.div_lt_self hk hb) d hd
    · have : k = 0 := by omega
      subst this
      rw [dg_zero]
      intro d hd
      cases hd
theorem dg_len {b : Nat} (hb : 1 < b) : ∀ (n k : Nat), k < 2 ^ n → (dg b k).length ≤ n := by
  intro n
  induction n with
  | zero =>
    intro k h
    have : k = 0 := by
      have : (2 : Nat) ^ 0 = 1 := rfl
      omega
    subst this
    rw [dg_zero]
    exact Nat.le_refl _
  | succ n ih =>
    intro k h
    by_cases hk : 0 < k
    · rw [dg_pos hb hk, List.length_cons]
      have : k / b < 2 ^ n := by
        have h1 : k / b ≤ k / 2 := Nat.div_le_div_left hb (by decide)
        rw [Nat.pow_succ] at h
        omega
      have := ih _ this
      omega
    · have : k = 0 := by omega
      subst this
      rw [dg_zero]
      exact Nat.zero_le _
/-- the integer of a row of digits -/
def od (b : Nat) : List Nat → Nat
  | [] => 0
  | d :: r => d + b * od b r
theorem od_dg {b : Nat} (hb : 1 < b) (k : Nat) : od b (dg b k) = k := by
  induction k using Nat.strongRecOn with
  | ind k ih =>
    by_cases hk : 0 < k
    · rw [dg_pos hb hk, od, ih _ (Nat.div_lt_self hk hb)]
      exact Nat.mod_add_div k b
    · have : k = 0 := by omega
      subst this
      rw [dg_zero]
      rfl
theorem od_zeros (b : Nat) : ∀ n, od b (List.replicate n 0) = 0
  | 0 => rfl
  | n + 1 => by
    rw [List.replicate_succ, od, od_zeros b n]
    omega
theorem od_app (b : Nat) : ∀ (xs : List Nat) (n : Nat), od b (xs ++ List.replicate n 0) = od b xs
  | [], n => by
    rw [List.nil_append, od_zeros]
    rfl
  | d :: r, n => by
    rw [List.cons_append, od, od, od_app b r n]
theorem od_lt {b : Nat} (hb : b ≤ 1000) : ∀ (xs : List Nat), (∀ d ∈ xs, d < b) → od b xs < 2 ^ (10 * xs.length)
  | [], _ => by
    show 0 < 2 ^ 0
    decide
  | d :: r, h => by
    have ih := od_lt hb r fun x hx => h x (List.mem_cons_of_mem _ hx)
    have hd := h d (List.mem_cons_self ..)
    rw [od, List.length_cons, Nat.mul_add, Nat.pow_add]
    have h1 : b * od b r ≤ 1000 * od b r := Nat.mul_le_mul_right _ hb
    have h2 : (2 : Nat) ^ (10 * 1) = 1024 := rfl
    rw [h2]
    omega
/-- the sum of the digits -/
def ds (b k : Nat) : Nat := (dg b k).sum
theorem ds_zero (b : Nat) : ds b 0 = 0 := by
  unfold ds
  rw [dg_zero]
  rfl
theorem ds_pos {b k : Nat} (hb : 1 < b) (hk : 0 < k) : ds b k = k % b + ds b (k / b) := by
  unfold ds
  rw [dg_pos hb hk, List.sum_cons]
theorem ds_eq {b : Nat} (hb : 1 < b) (k : Nat) : ds b k = k % b + ds b (k / b) := by
  by_cases hk : 0 < k
  · exact ds_pos hb hk
  · have : k = 0 := by omega
    subst this
    rw [Nat.zero_mod, Nat.zero_div, ds_zero]
theorem ds_le {b : Nat} (hb : 1 < b) (k : Nat) : ds b k ≤ k := by
  induction k using Nat.strongRecOn with
  | ind k ih =>
    by_cases hk : 0 < k
    · rw [ds_pos hb hk]
      have h1 := ih _ (Nat.div_lt_self hk hb)
      have h2 := Nat.mod_add_div k b
      have h3 : 1 * (k / b) ≤ b * (k / b) := Nat.mul_le_mul_right _ (by omega)
      omega
    · have : k = 0 := by omega
      subst this
      rw [ds_zero]
      exact Nat.le_refl _
/-- carries where a carry comes in; with fuel by the size -/
def cc (b : Nat) (c x y : Nat) : Nat := if h : 1 < b ∧ (0 < x ∨ 0 < y) then
    (if b ≤ x % b + y % b + c then 1 else 0) + cc b (if b ≤ x % b + y % b + c then 1 else 0) (x / b) (y / b) else 0
termination_by x + y
decreasing_by
  rcases h.2 with hx | hy
  · have h1 := Nat.div_lt_self hx h.1
    have h2 := Nat.div_le_self y b
    omega
  · have h1 := Nat.div_lt_self hy h.1
    have h2 := Nat.div_le_self x b
    omega
/-- the rule by sums of digits, with a carry c coming in -/
theorem ds_add {b : Nat} (hb : 1 < b) : ∀ (n x y c : Nat), x + y ≤ n → c ≤ 1 → ds b x + ds b y + c = ds b (x + y + c) + (b - 1) * cc b c x y := by
  intro n
  induction n using Nat.strongRecOn with
  | ind n ih =>
    intro x y c hn hc
    by_cases hxy : 0 < x ∨ 0 < y
    · rw [cc, dif_pos ⟨hb, hxy⟩]
      have hlt : x / b + y / b < n := by
        rcases hxy with hx | hy
        · have h1 := Nat.div_lt_self hx hb
          have h2 := Nat.div_le_self y b
          omega
        · have h1 := Nat.div_lt_self hy hb
          have h2 := Nat.div_le_self x b
          omega
      have hx := Nat.mod_add_div x b
      have hy := Nat.mod_add_div y b
      have mx := Nat.mod_lt x (show 0 < b by omega)
      have my := Nat.mod_lt y (show 0 < b by omega)
      rw [ds_eq hb x, ds_eq hb y, ds_eq hb (x + y + c)]
      have hs : x + y + c = (x % b + y % b + c) + b * (x / b + y / b) := by
        rw [Nat.mul_add]
        omega
      by_cases hcar : b ≤ x % b + y % b + c
      · rw [if_pos hcar]
        have e : x + y + c = (x % b + y % b + c - b) + b * (x / b + y / b + 1) := by
          rw [Nat.mul_add b _ 1]
          omega
        have e1 : (x + y + c) % b = x % b + y % b + c - b := by
          rw [e, Nat.add_mul_mod_self_left, Nat.mod_eq_of_lt (by omega)]
        have e2 : (x + y + c) / b = x / b + y / b + 1 := by
          rw [e, Nat.add_mul_div_left _ _ (by omega), Nat.div_eq_of_lt (by omega)]
          omega
        rw [e1, e2]
        have := ih _ hlt (x / b) (y / b) 1 (Nat.le_refl _) (Nat.le_refl _)
        rw [Nat.mul_add]
        omega
      · rw [if_neg hcar]
        have e1 : (x + y + c) % b = x % b + y % b + c := by
          rw [hs, Nat.add_mul_mod_self_left, Nat.mod_eq_of_lt (by omega)]
        have e2 : (x + y + c) / b = x / b + y / b := by
          rw [hs, Nat.add_mul_div_left _ _ (by omega), Nat.div_eq_of_lt (by omega)]
          omega
        rw [e1, e2]
        have := ih _ hlt (x / b) (y / b) 0 (Nat.le_refl _) (Nat.zero_le _)
        simp only [Nat.add_zero] at this
        rw [Nat.mul_add]
        omega
    · have hx : x = 0 := by omega
      have hy : y = 0 := by omega
      subst hx hy
      rw [cc, dif_neg (by simp), ds_zero]
      have : ds b (0 + 0 + c) = c := by
        rw [Nat.zero_add]
        rcases Nat.le_one_iff_eq_zero_or_eq_one.mp hc with rfl | rfl
        · exact ds_zero b
        · rw [ds_pos hb (by decide), Nat.mod_eq_of_lt hb, Nat.div_eq_of_lt hb, ds_zero]
      omega
theorem ds_plus {b : Nat} (hb : 1 < b) (x y : Nat) : ds b x + ds b y = ds b (x + y) + (b - 1) * cc b 0 x y := by
  have := ds_add hb (x + y) x y 0 (Nat.le_refl _) (Nat.zero_le _)
  simpa using this
/-- place by place: no sum of digits reaches the base -/
def nc (b : Nat) : Nat → List Nat → Bool
  | 0, _ => true
  | n + 1, xs => decide ((xs.map (· % b)).sum < b) && nc b n (xs.map (· / b))
theorem le_sum : ∀ (xs : List Nat) (x : Nat), x ∈ xs → x ≤ xs.sum
  | [], _, h => by cases h
  | a :: r, x, h => by
    rw [List.sum_cons]
    rcases List.mem_cons.mp h with rfl | h
    · omega
    · have := le_sum r x h
      omega
/-- the same by sums of digits -/
theorem sum_split {b : Nat} (hb : 1 < b) : ∀ xs : List Nat, xs.sum = (xs.map (· % b)).sum + b * (xs.map (· / b)).sum
  | [] => rfl
  | x :: r => by
    rw [List.sum_cons, List.map_cons, List.map_cons, List.sum_cons, List.sum_cons, Nat.mul_add, sum_split hb r]
    have := Nat.mod_add_div x b
    omega
theorem sumds_split {b : Nat} (hb : 1 < b) : ∀ xs : List Nat, (xs.map (ds b)).sum = (xs.map (· % b)).sum + ((xs.map (· / b)).map (ds b)).sum
  | [] => rfl
  | x :: r => by
    simp only [List.map_cons, List.sum_cons]
    rw [sumds_split hb r, ds_eq hb x]
    omega
theorem ds_sum_le {b : Nat} (hb : 1 < b) : ∀ xs : List Nat, ds b xs.sum ≤ (xs.map (ds b)).sum
  | [] => by
    rw [List.sum_nil, ds_zero]
    exact Nat.zero_le _
  | x :: r => by
    rw [List.map_cons, List.sum_cons, List.sum_cons]
    have h1 := ds_plus hb x r.sum
    have h2 := ds_sum_le hb r
    omega
theorem ds_add_le {b : Nat} (hb : 1 < b) (x y : Nat) : ds b (x + y) ≤ ds b x + ds b y := by
  have := ds_plus hb x y
  omega
theorem nc_iff {b : Nat} (hb : 1 < b) : ∀ (n : Nat) (xs : List Nat), xs.sum ≤ n → (nc b n xs = true ↔ (xs.map (ds b)).sum = ds b xs.sum) := by
  intro n
  induction n with
  | zero =>
    intro xs h
    have hz : ∀ x ∈ xs, x = 0 := fun x hx => by
      have := le_sum xs x hx
      omega
    have e1 : (xs.map (ds b)).sum = 0 := by
      have : xs.map (ds b) = xs.map (fun _ => 0) := List.map_congr_left fun x hx => by rw [hz x hx, ds_zero]
      rw [this]
      clear this hz h
      induction xs with
      | nil => rfl
      | cons a r ih => simpa using ih
    have e2 : xs.sum = 0 := by omega
    rw [e1, e2, ds_zero]
    exact ⟨fun _ => rfl, fun _ => rfl⟩
  | succ n ih =>
    intro xs h
    unfold nc
    rw [Bool.and_eq_true, decide_eq_true_eq]
    have hs := sum_split hb xs
    have hd := sumds_split hb xs
    generalize hm : (xs.map (· % b)).sum = m at hs hd ⊢
    generalize hq : xs.map (· / b) = q at hs hd ⊢
    have hqn : q.sum ≤ n := by
      by_cases h0 : q.sum = 0
      · omega
      · have : 2 * q.sum ≤ b * q.sum := Nat.mul_le_mul_right _ hb
        omega
    have ihq := ih q hqn
    by_cases hlt : m < b
    · have e1 : xs.sum % b = m := by
        rw [hs, Nat.add_mul_mod_self_left, Nat.mod_eq_of_lt hlt]
      have e2 : xs.sum / b = q.sum := by
        rw [hs, Nat.add_mul_div_left _ _ (by omega), Nat.div_eq_of_lt hlt]
        omega
      rw [hd, ds_eq hb xs.sum, e1, e2, ihq]
      constructor
      · intro ⟨_, h2⟩
        omega
      · intro h2
        exact ⟨hlt, by omega⟩
    · constructor
      · intro ⟨h1, _⟩
        exact absurd h1 hlt
      · intro h2
        exfalso
        -- the sum of digits falls by a carry
        have e1 : ds b xs.sum = ds b (m + b * q.sum) := by rw [← hs]
        have e3 : ds b (m + b * q.sum) = m % b + ds b (m / b + q.sum) := by
          rw [ds_eq hb, Nat.add_mul_mod_self_left, Nat.add_mul_div_left _ _ (by omega)]
        have e4 := ds_add_le hb (m / b) q.sum
        have e5 := ds_sum_le hb q
        have e6 := ds_le hb (m / b)
        have e7 := Nat.mod_add_div m b
        have e8 : 2 * (m / b) ≤ b * (m / b) := Nat.mul_le_mul_right _ hb
        have e9 : 1 ≤ m / b := Nat.div_pos (by omega) (by omega)
        omega
end Own
/-! own words for the laws' dice: a list of three ints that draws change -/
namespace Own
open PySem PySem.Spec PyProof.Rows L2 Evl
abbrev N_ (n : Nat) : V := .int (n : Int)
def Exd (p : Addr) (H H' : Hp) : Prop := ∀ a o, a ≠ p → H a = some o → H' a = some o
def IsDice (H : Hp) (p : Addr) : Prop := ∃ a b c : Int, H p = some (.lst [.int a, .int b, .int c])
section
variable {K : PySem.W.Frag} {H H1 H2 H' : Hp} {p a : Addr} {xs : List V}
theorem Exd.refl : Exd p H H := fun _ _ _ h => h
theorem Exd.of (e : Ex H H') : Exd p H H' := fun a o _ h => e a o h
theorem Exd.trans (x : Exd p H H1) (y : Exd p H1 H2) : Exd p H H2 := fun a o n h => y a o n (x a o n h)
theorem Exd.put {o : HO} : Exd p H (upd H p o) := fun a u n h => by rw [upd_ne n]; exact h
theorem IsDice.ex (d : IsDice H p) (e : Ex H H') : IsDice H' p := by
  obtain ⟨a, b, c, h⟩ := d
  exact ⟨a, b, c, e _ _ h⟩
theorem IsDice.seq (d : IsDice H p) : ∃ a b c : Int, SqL K H p [.int a, .int b, .int c] := by
  obtain ⟨a, b, c, h⟩ := d
  exact ⟨a, b, c, sq_of h⟩
theorem exd_t (d : IsDice H p) (e : Exd p H H') (h : SqT K H a xs) : SqT K H' a xs := by
  obtain ⟨x, y, z, hd⟩ := d
  rcases h with (h | ⟨o, h⟩) | h
  · exact .inl (.inl (e a _ (fun z => by rw [z, hd] at h; cases h) h))
  · exact .inl (.inr ⟨o, e a _ (fun z => by rw [z, hd] at h; cases h) h⟩)
  · exact .inr h
theorem exd_l (n : a ≠ p) (e : Exd p H H') (h : SqL K H a xs) : SqL K H' a xs := by
  rcases h with (h | ⟨o, h⟩) | h
  · exact .inl (.inl (e a _ n h))
  · exact .inl (.inr ⟨o, e a _ n h⟩)
  · exact .inr h
theorem new_ne (n : H a = none) (d : IsDice H p) : a ≠ p := fun z => by
  obtain ⟨x, y, w, h⟩ := d
  rw [z, h] at n
  cases n
theorem Exd.free (e : Exd p H H') (n : H' a = none) (hn : a ≠ p) : H a = none := by
  cases q : H a with
  | none => rfl
  | some o =>
    rw [e a o hn q] at n
    cases n
theorem Exd.newI {H0 : Hp} {l : Addr} {o : HO} (e : Exd p H0 H) (n : H0 l = none) : Exd p H0 (upd H l o) := fun b u hb h => by
  rw [upd_ne (ne_of_none h n)]
  exact e b u hb h
end
theorem mod_lt64 {x m : Int} (h0 : 0 < m) (h : m < 2 ^ 64) : -(2 ^ 64) < x % m ∧ x % m < 2 ^ 64 := by
  have h1 := Int.emod_nonneg x (by omega : m ≠ 0)
  have h2 := Int.emod_lt_of_pos x h0
  omega
theorem mod_abs {x m : Int} {n : Nat} (h0 : 0 < m) (h : m.toNat ≤ 2 ^ n) : (x % m).natAbs < 2 ^ n := by
  have h1 := Int.emod_nonneg x (by omega : m ≠ 0)
  have h2 := Int.emod_lt_of_pos x h0
  omega
end Own
/-! own words: == of tuples and lists of ints -/
namespace Own
open PySem PySem.Spec PyProof.Rows L2 Evl
def pdI (ns : List Int) : List PyData := ns.map PyData.int
theorem dp_ints {K : PySem.W.Frag} {H : Hp} : ∀ ns : List Int, DpAll K H (ns.map V.int) (pdI ns)
  | [] => .nil
  | n :: r => .cons (.int n) (dp_ints r)
theorem canI : ∀ ns : List Int, PyData.canLayAll0 (pdI ns) = true
  | [] => rfl
  | n :: r => by
    show (PyData.canLay0 (.int n) && PyData.canLayAll0 (pdI r)) = true
    rw [canI r]
    rfl
theorem depthI : ∀ ns : List Int, PyData.depthAll (pdI ns) = 0
  | [] => rfl
  | n :: r => by
    show max (PyData.depth (.int n)) (PyData.depthAll (pdI r)) = 0
    rw [depthI r]
    rfl
theorem shapedT (ns : List Int) : SeqAt.shaped (.tuple (pdI ns)) = true := by
  show (PyData.canLayAll0 (pdI ns) && decide (PyData.depthAll (pdI ns) + 1 ≤ 64)) = true
  rw [canI, depthI]
  rfl
theorem shapedL (ns : List Int) : SeqAt.shaped (.list (pdI ns)) = true := by
  show (PyData.canLayAll0 (pdI ns) && decide (PyData.depthAll (pdI ns) + 1 ≤ 64)) = true
  rw [canI, depthI]
  rfl
theorem eqvI : ∀ ns ms : List Int, PyData.eqvAll (pdI ns) (pdI ms) = decide (ns = ms)
  | [], [] => rfl
  | [], m :: s => by
    rw [decide_eq_false (by simp)]
    rfl
  | n :: r, [] => by
    rw [decide_eq_false (by simp)]
    rfl
  | n :: r, m :: s => by
    show (PyData.eqv (.int n) (.int m) && PyData.eqvAll (pdI r) (pdI s)) = _
    rw [eqvI r s]
    show ((n == m) && decide (r = s)) = decide (n :: r = m :: s)
    by_cases h : n = m
    · subst h
      by_cases h2 : r = s
      · subst h2
        rw [decide_eq_true rfl, decide_eq_true rfl]
        simp
      · rw [decide_eq_false h2, decide_eq_false (fun z => h2 (List.cons.inj z).2), Bool.and_false]
    · rw [decide_eq_false (fun z => h (List.cons.inj z).1), show (n == m) = false from beq_eq_false_iff_ne.mpr h, Bool.false_and]
theorem eqvT (ns ms : List Int) : PyData.eqv (.tuple (pdI ns)) (.tuple (pdI ms)) = decide (ns = ms) := eqvI ns ms
theorem eqvL (ns ms : List Int) : PyData.eqv (.list (pdI ns)) (.list (pdI ms)) = decide (ns = ms) := eqvI ns ms
section
variable {K : PySem.W.Frag} {σ : L2.St} {H H' : Hp} {ta tb : TE}
theorem rv_neT {a b : Addr} {ns ms : List Int} (h1 : SqT K H a (ns.map V.int)) (h2 : SqT K H b (ms.map V.int)) : RV (rNeD K) (.ref a) (.ref b) H (.bl (!decide (ns = ms))) := fun H1 e _ q =>
  ⟨_, _, .tup (ex_t e h1) (dp_ints ns), .tup (ex_t e h2) (dp_ints ms), shapedT _, shapedT _, by rw [eqvT]; exact q H1 (Ex.refl H1)⟩
theorem rv_eqT {a b : Addr} {ns ms : List Int} (h1 : SqT K H a (ns.map V.int)) (h2 : SqT K H b (ms.map V.int)) : RV (rEqD K) (.ref a) (.ref b) H (.bl (decide (ns = ms))) := fun H1 e _ q =>
  ⟨_, _, .tup (ex_t e h1) (dp_ints ns), .tup (ex_t e h2) (dp_ints ms), shapedT _, shapedT _, by rw [eqvT]; exact q H1 (Ex.refl H1)⟩
theorem rv_neL {a b : Addr} {ns ms : List Int} (h1 : SqL K H a (ns.map V.int)) (h2 : SqL K H b (ms.map V.int)) : RV (rNeD K) (.ref a) (.ref b) H (.bl (!decide (ns = ms))) := fun H1 e _ q =>
  ⟨_, _, .lst (ex_l e h1) (dp_ints ns), .lst (ex_l e h2) (dp_ints ms), shapedL _, shapedL _, by rw [eqvL]; exact q H1 (Ex.refl H1)⟩
theorem rv_eqL {a b : Addr} {ns ms : List Int} (h1 : SqL K H a (ns.map V.int)) (h2 : SqL K H b (ms.map V.int)) : RV (rEqD K) (.ref a) (.ref b) H (.bl (decide (ns = ms))) := fun H1 e _ q =>
  ⟨_, _, .lst (ex_l e h1) (dp_ints ns), .lst (ex_l e h2) (dp_ints ms), shapedL _, shapedL _, by rw [eqvL]; exact q H1 (Ex.refl H1)⟩
/-- the first operand a new tuple -/
theorem ev_opU1 {r : R2} {xs : List V} {y z : V} (ha : EvU ta σ H xs) (hb : ∀ H1, Ex H H1 → Ev tb σ H1 y) (hr : ∀ p H1, H1 p = some (.tup xs) → Ex H H1 → RV r (.ref p) y H1 z) : Ev (tOp r ta tb) σ H z := fun H1 e Q q =>
  ha H1 e _ fun p H2 _ e2 hp => hb H2 (e.trans e2) H2 (Ex.refl H2) _ fun H3 e3 => hr p H3 (e3 p _ hp) ((e.trans e2).trans e3) H3 (Ex.refl H3) Q fun H4 e4 => q H4 ((e2.trans e3).trans e4)
/-- t + u of tuples, whatever object comes out -/
theorem catA_go {row q : Addr} {xs ys : List V} {Q : VK} (h1 : SqT K H row xs) (h2 : SqT K H q ys) (hl : xs.length + ys.length ≤ 100000) (k : ∀ a H', Ex H H' → SqT K H' a (xs ++ ys) → Q (.ref a) H') : rCatA K (.ref row) (.ref q) H Q :=
  ⟨row, q, xs, ys, rfl, rfl, h1, h2, sz_of hl, fun e => k q H (Ex.refl H) (by rw [e]; exact h2), fun _ e => k row H (Ex.refl H) (by rw [e, List.append_nil]; exact h1), fun _ _ p hp => k p _ (Ex.new hp) (st_of upd_same)⟩
/-- t[1:] of a tuple with an item -/
theorem eu_sl1 {a : Addr} {xs : List V} (h : Ev ta σ H (.ref a)) (hx : SqT K H a xs) (hl : 0 < xs.length) (hcut : cutV xs (some 1) none = xs.drop 1) : EvU (tSl (rSlT K) ta (tPart (tC (.int 1))) tNoPart) σ H (xs.drop 1) := fun H1 e Q q =>
  h H1 e _ fun H2 e2 => ⟨1, rfl, a, xs, rfl, ex_t (e.trans e2) hx, fun z => by
    have h1 := z.1
    rw [show HT.sIx xs.length 0 (some 1) = min 1 xs.length from HT.sIx_nat xs.length 0 1] at h1
    omega, fun p hp => q p _ (fresh_back e2 hp) (e2.trans (Ex.new hp)) (by rw [hcut]; exact upd_same)⟩
theorem ev_sumU {ns : List Int} (h : EvU ta σ H (ns.map V.int)) : Ev (tCB (rSumT K) (tCons ta tNil)) σ H (.int ns.sum) := fun H1 e _ q =>
  h H1 e _ fun p H2 _ e2 h2 => ⟨p, ns, rfl, st_of h2, q H2 e2⟩
/-- [..] * k -/
theorem el_rep {xs : List V} {k : Int} (h : EvL ta σ H xs) (h2 : Ev tb σ H (.int k)) (h0 : 0 ≤ k) (hk : xs.length * k.toNat ≤ 100000) (hk2 : k ≤ 100000) : EvL (tOp rRep ta tb) σ H (List.replicate k.toNat xs).flatten := fun H1 e Q q =>
  h H1 e _ fun p H2 hp e2 hx => h2 H2 (e.trans e2) _ fun H3 e3 => ⟨p, k, xs, rfl, rfl, e3 _ _ hx, by omega, by omega, sz_of hk, fun l hl => q l _ (fresh_back (e2.trans e3) hl) ((e2.trans e3).trans (Ex.new hl)) upd_same⟩
end
end Own
/-! own words: written tables with integer keys; their values integers, tuples of integers, tuples of those -/
namespace Own
open PySem PySem.Spec PyProof.Rows L2 Evl
theorem asInt_eq {v : Value} {i : Int} (h : asInt v = some i) : ∃ t, v = .int i t := by
  cases v <;> simp [asInt] at h
  subst h
  exact ⟨_, rfl⟩
theorem asInts_vals : ∀ {l : List Value} {ns : List Int}, asInts l = some ns → Vals (ns.map V.int) l
  | [], ns, h => by
    cases (Option.some.inj h : [] = ns)
    exact .nil
  | v :: r, ns, h => by
    unfold asInts at h
    split at h
    · rename_i i is h1 h2
      cases (Option.some.inj h : (i :: is) = ns)
      obtain ⟨t, rfl⟩ := asInt_eq h1
      exact .cons ⟨t, rfl⟩ (asInts_vals h2)
    · cases h
theorem asTup_eq {K : Fr_} {v : Value} {l : List Value} (h : asTup K v = some l) : ∃ (a : Addr) (o : Obj) (its : Array Value) (n : Nat), v = .ref a ∧ K.lookup a = some o ∧ o.cls = .type "tuple" ∧ o.data = .seq its n ∧ its.size ≤ 1000 ∧ its.toList = l := by
  unfold asTup at h
  split at h
  · split at h
    · rename_i a _ T dd its n sl e
      split at h
      · rename_i hc
        refine ⟨a, _, its, n, rfl, e, ?_, rfl, hc.2, Option.some.inj h⟩
        rw [hc.1]
      · cases h
    · cases h
  · cases h
theorem asRow_eq {K : Fr_} {v : Value} {ns : List Int} (h : asRow K v = some ns) : ∃ a : Addr, v = .ref a ∧ ∀ H, SqT K H a (ns.map V.int) := by
  unfold asRow at h
  split at h
  · rename_i l e
    obtain ⟨a, o, its, n, rfl, hl, hc, hd, hz, rfl⟩ := asTup_eq e
    exact ⟨a, rfl, fun H => .inr ⟨o, its, n, hl, hc, hd, Nat.le_trans hz (by decide), asInts_vals h⟩⟩
  · cases h
/-- a row of rows -/
def Rws (K : Fr_) (H : Hp) (rs : List Addr) (xss : List (List Int)) : Prop := rs.length = xss.length ∧ ∀ (i : Nat) (r : Addr) (xs : List Int), rs[i]? = some r → xss[i]? = some xs → SqT K H r (xs.map V.int)
theorem asRowsL_eq {K : Fr_} : ∀ {l : List Value} {xss : List (List Int)}, asRowsL K l = some xss → ∃ rs : List Addr, Vals (rs.map V.ref) l ∧ ∀ H, Rws K H rs xss
  | [], xss, h => by
    cases (Option.some.inj h : [] = xss)
    exact ⟨[], .nil, fun H => ⟨rfl, fun i r xs h => by simp at h⟩⟩
  | v :: l, xss, h => by
    unfold asRowsL at h
    split at h
    · rename_i i is h1 h2
      cases (Option.some.inj h : (i :: is) = xss)
      obtain ⟨a, rfl, hs⟩ := asRow_eq h1
      obtain ⟨rs, hv, hr⟩ := asRowsL_eq h2
      refine ⟨a :: rs, .cons rfl hv, fun H => ⟨by rw [List.length_cons, List.length_cons, (hr H).1], fun j r xs e1 e2 => ?_⟩⟩
      cases j with
      | zero =>
        cases (Option.some.inj e1 : a = r)
        cases (Option.some.inj e2 : i = xs)
        exact hs H
      | succ j => exact (hr H).2 j r xs e1 e2
    · cases h
theorem asRows_eq {K : Fr_} {v : Value} {xss : List (List Int)} (h : asRows K v = some xss) : ∃ (a : Addr) (rs : List Addr), v = .ref a ∧ ∀ H, SqT K H a (rs.map V.ref) ∧ Rws K H rs xss := by
  unfold asRows at h
  split at h
  · rename_i l e
    obtain ⟨a, o, its, n, rfl, hl, hc, hd, hz, rfl⟩ := asTup_eq e
    obtain ⟨rs, hv, hr⟩ := asRowsL_eq h
    exact ⟨a, rs, rfl, fun H => ⟨.inr ⟨o, its, n, hl, hc, hd, Nat.le_trans hz (by decide), hv⟩, hr H⟩⟩
  · cases h
theorem entriesI_find : ∀ {es : List DictEntry} {t : List (Int × Value)}, entriesI es = some t → (∀ e ∈ es, ∃ i tk, e.key = .int i tk ∧ e.hash = hashInt i) ∧ ∀ i, (es.find? fun e => Value.isInt i e.key).map (·.val) = t.lookup i
  | [], t, h => by
    cases (Option.some.inj h : [] = t)
    exact ⟨fun e he => (List.not_mem_nil he).elim, fun i => rfl⟩
  | e :: r, t, h => by
    unfold entriesI at h
    split at h
    · rename_i i is h1 h2
      split at h
      · rename_i hh
        cases (Option.some.inj h : ((i, e.val) :: is) = t)
        obtain ⟨tk, hk⟩ := asInt_eq h1
        obtain ⟨a1, a2⟩ := entriesI_find h2
        refine ⟨fun e' he => ?_, fun j => ?_⟩
        · rcases List.mem_cons.mp he with rfl | he
          · exact ⟨i, tk, hk, hh⟩
          · exact a1 e' he
        · rw [List.find?_cons, List.lookup_cons]
          have : Value.isInt j e.key = (i == j) := by rw [hk]; rfl
          rw [this]
          by_cases hij : i = j
          · subst hij
            rw [show (i == i) = true from beq_self_eq_true i]
            rfl
          · rw [show (i == j) = false from beq_eq_false_iff_ne.mpr hij, show (j == i) = false from beq_eq_false_iff_ne.mpr (Ne.symm hij)]
            exact a2 j
      · cases h
    · cases h
section
variable {X : Cx}
/-- d[i] of a written dict -/
def rIxW (K : Fr_) : R2 := fun x y H Q => ∃ (d : Addr) (i : Int) (t : List (Int × Value)) (u0 : Value) (v0 : V), x = .ref d ∧ y = .int i ∧ tabOf K d = some t ∧ t.lookup i = some u0 ∧ RelV v0 u0 ∧ Q v0 H
theorem ix_tab : IxR X (rIxW X.K) := by
  intro value slice pins s σ H x y v u Q I rx ry h hs
  obtain ⟨d, i, t, u0, v0, rfl, rfl, ht, hl, hr, q⟩ := h
  cases rx
  obtain ⟨tk, rfl⟩ := ry
  unfold tabOf at ht
  split at ht
  · rename_i T es n sl hk
    split at ht
    · rename_i hc
      obtain ⟨hT, hsl⟩ := hc
      subst hT hsl
      obtain ⟨a1, a2⟩ := entriesI_find ht
      have hm : s.heap.MapOf (intKind X.prog X.w) d (fun k => findBy Value.isInt es k) :=
        ⟨_, es, n, I.kIn d _ hk, ⟨rfl, rfl, rfl⟩, rfl, fun e he => by
          obtain ⟨j, tk, e1, e2⟩ := a1 e (Array.mem_toList_iff.mpr he)
          exact ⟨j, by rw [e1]; exact intKind_is X.prog X.w j tk, e2⟩, fun _ => rfl⟩
      have hf : (fun k => findBy Value.isInt es k) i = some u0 := by
        show findBy Value.isInt es i = some u0
        unfold findBy
        rw [← Array.find?_toList, a2 i]
        exact hl
      exact tail_any hm.typeIs slot_dict_getitem.lookup (wpAny_getItem_of (intKind_is X.prog X.w i tk) hm hf ⟨v0, H, I.tok _, hr, q⟩) hs
    · cases ht
  · cases ht
end
theorem mapV2_lookup {α β : Type} {f : α → Option β} : ∀ {t : List (Int × α)} {u : List (Int × β)}, mapV2 f t = some u → ∀ i w, u.lookup i = some w → ∃ v, t.lookup i = some v ∧ f v = some w
  | [], u, h, i, w, e => by
    cases (Option.some.inj h : [] = u)
    cases e
  | (j, v) :: r, u, h, i, w, e => by
    unfold mapV2 at h
    split at h
    · rename_i w' is h1 h2
      cases (Option.some.inj h : ((j, w') :: is) = u)
      rw [List.lookup_cons] at e ⊢
      by_cases hij : (i == j) = true
      · rw [hij] at e ⊢
        cases (Option.some.inj e : w' = w)
        exact ⟨v, rfl, h1⟩
      · rw [Bool.not_eq_true] at hij
        rw [hij] at e ⊢
        exact mapV2_lookup h2 i w e
    · cases h
section
variable {K : Fr_} {σ : L2.St} {H H' : Hp} {ta tb : TE}
theorem rv_tab0 {d : Addr} {t : List (Int × Int)} {i w : Int} (h : tab0 K d = some t) (hl : t.lookup i = some w) : RV (rIxW K) (.ref d) (.int i) H (.int w) := fun H1 _ _ q => by
  obtain ⟨t0, h1, h2⟩ := Option.bind_eq_some_iff.mp h
  obtain ⟨v, h3, h4⟩ := mapV2_lookup h2 i w hl
  obtain ⟨tk, rfl⟩ := asInt_eq h4
  exact ⟨d, i, t0, _, .int w, rfl, rfl, h1, h3, ⟨tk, rfl⟩, q H1 (Ex.refl H1)⟩
theorem tab1_get {d : Addr} {t : List (Int × List Int)} {i : Int} {w : List Int} (h : tab1 K d = some t) (hl : t.lookup i = some w) : ∃ a : Addr, (∀ H, SqT K H a (w.map V.int)) ∧ ∀ H, RV (rIxW K) (.ref d) (.int i) H (.ref a) := by
  obtain ⟨t0, h1, h2⟩ := Option.bind_eq_some_iff.mp h
  obtain ⟨v, h3, h4⟩ := mapV2_lookup h2 i w hl
  obtain ⟨a, rfl, hs⟩ := asRow_eq h4
  exact ⟨a, hs, fun H H1 _ _ q => ⟨d, i, t0, _, .ref a, rfl, rfl, h1, h3, rfl, q H1 (Ex.refl H1)⟩⟩
theorem tab2_get {d : Addr} {t : List (Int × List (List Int))} {i : Int} {w : List (List Int)} (h : tab2 K d = some t) (hl : t.lookup i = some w) : ∃ (a : Addr) (rs : List Addr), (∀ H, SqT K H a (rs.map V.ref) ∧ Rws K H rs w) ∧ ∀ H, RV (rIxW K) (.ref d) (.int i) H (.ref a) := by
  obtain ⟨t0, h1, h2⟩ := Option.bind_eq_some_iff.mp h
  obtain ⟨v, h3, h4⟩ := mapV2_lookup h2 i w hl
  obtain ⟨a, rs, rfl, hs⟩ := asRows_eq h4
  exact ⟨a, rs, hs, fun H H1 _ _ q => ⟨d, i, t0, _, .ref a, rfl, rfl, h1, h3, rfl, q H1 (Ex.refl H1)⟩⟩
/-- TAB[i][j], TAB[i][j][k] of written tables -/
theorem ev_tab0 {d : Addr} {t : List (Int × Int)} {i w : Int} (h : tab0 K d = some t) (hl : t.lookup i = some w) (ha : Ev ta σ H (.int i)) : Ev (tOp (rIxW K) (tC (.ref d)) ta) σ H (.int w) := ev_op ev_c ha (rv_tab0 h hl)
theorem ev_tab1 {d : Addr} {t : List (Int × List Int)} {i : Int} {j : Nat} {w : List Int} {x : Int} (h : tab1 K d = some t) (hl : t.lookup i = some w) (hx : w[j]? = some x) (ha : Ev ta σ H (.int i)) (hb : Ev tb σ H (.int (j : Int))) :
    Ev (tOp (rIxT K) (tOp (rIxW K) (tC (.ref d)) ta) tb) σ H (.int x) := by
  obtain ⟨a, hs, hr⟩ := tab1_get h hl
  exact ev_op (ev_op ev_c ha (hr H)) hb (rv_ixT (hs H) (atI_nat (by rw [List.getElem?_map, hx]; rfl)))
theorem ev_tab2 {d : Addr} {t : List (Int × List (List Int))} {i : Int} {j k : Nat} {w : List (List Int)} {xs : List Int} {x : Int} {tc : TE} (h : tab2 K d = some t) (hl : t.lookup i = some w) (hx : w[j]? = some xs) (hy : xs[k]? = some x) (ha : Ev ta σ H (.int i)) (hb : Ev tb σ H (.int (j : Int))) (hc : Ev tc σ H (.int (k : Int))) :
    Ev (tOp (rIxT K) (tOp (rIxT K) (tOp (rIxW K) (tC (.ref d)) ta) tb) tc) σ H (.int x) := by
  obtain ⟨a, rs, hs, hr⟩ := tab2_get h hl
  obtain ⟨h1, h2, h3⟩ := hs H
  have hj : j < rs.length := by rw [h2]; exact (List.getElem?_eq_some_iff.mp hx).1
  exact ev_op (ev_op (ev_op ev_c ha (hr H)) hb (rv_ixT (v := .ref rs[j]) h1 (atI_nat (by rw [List.getElem?_map, List.getElem?_eq_getElem hj]; rfl)))) hc (rv_ixT (h3 j _ xs (List.getElem?_eq_getElem hj) hx) (atI_nat (by rw [List.getElem?_map, hy]; rfl)))
end
end Own
/-! own words: enumerate, ranges by steps and from a place, lists of lists, sorted lists, values that are no integers -/
namespace Own
open PySem PySem.Spec PyProof.Rows L2 Evl
section
variable {K : PySem.W.Frag} {σ : L2.St} {H H' : Hp} {ta tb te : TE} {t : TT} {D : Ends} {tu tz : TS}
theorem for_enum {a : Addr} {xs : List V} {g : TG} {tb : TS} {D : Ends} {σ : L2.St} {H : Hp} (Pv : Nat → L2.St → Hp → Prop) (h0 : Pv 0 σ H) (hl : ∀ i σ H, i ≤ xs.length → Pv i σ H → SqL K H a xs)
    (hs : ∀ i x T σ H, xs[i]? = some x → Pv i σ H → H T = none → g (.ref T) σ (upd H T (.tup [.int (i : Nat), x])) fun σ2 H2 => tb { D with nx := Pv (i + 1), ct := Pv (i + 1), bk := D.nx } σ2 H2) (hd : ∀ σ H, Pv xs.length σ H → D.nx σ H) :
    ∃ W : Nat → Nat → L2.St → Hp → Prop, (∃ m, W 0 m σ H) ∧ ∀ i m σ H, W i m σ H →
      ((Ite K a).stop i H ∧ D.nx σ H) ∨ ((Ite K a).go i H ∧ ∃ N : L2.St → Hp → Prop, (∀ σ' H', N σ' H' → ∃ m', m' < m ∧ W (i + 1) m' σ' H') ∧ ∀ x H', (Ite K a).yld i H x H' → g x σ H' fun σ2 H2 => tb { D with nx := N, ct := N, bk := D.nx } σ2 H2) := by
  refine ⟨fun i m σ H => m = xs.length - i ∧ i ≤ xs.length ∧ Pv i σ H, ⟨xs.length, by simp, Nat.zero_le _, h0⟩, ?_⟩
  rintro i m σ H ⟨rfl, hi, p⟩
  have q := hl i σ H hi p
  by_cases hlt : i < xs.length
  · refine .inr ⟨⟨xs, xs[i], q, by simp [hlt]⟩, Pv (i + 1), fun σ' H' p' => ⟨xs.length - (i + 1), by omega, rfl, hlt, p'⟩, fun x H' y => ?_⟩
    obtain ⟨T, z, rfl, nT, rfl, f⟩ := y
    have hz := f xs q
    exact hs i z T σ H hz p nT
  · exact .inl ⟨⟨xs, q, by omega⟩, by
      have : i = xs.length := by omega
      subst this
      exact hd σ H p⟩
/-- for i, x in enumerate(new list), two names -/
theorem s_forEN {xs : List V} {ta : TE} {i1 i2 : Nat} (h : EvL ta σ H xs) (Pv : Addr → Nat → L2.St → Hp → Prop) (h0 : ∀ p H1, H p = none → Ex H H1 → H1 p = some (.lst xs) → Pv p 0 σ H1) (hl : ∀ p i σ' H', i ≤ xs.length → Pv p i σ' H' → SqL K H' p xs)
    (hs : ∀ p i x σ' H' H2, xs[i]? = some x → Pv p i σ' H' → Ex H' H2 → tu { D with nx := Pv p (i + 1), ct := Pv p (i + 1), bk := D.nx } ((σ'.set i1 (some (.int (i : Nat)))).set i2 (some x)) H2) (hd : ∀ p σ' H', Pv p xs.length σ' H' → D.nx σ' H') :
    tFor (iEnum K (tCons ta tNil)) (gTup K 2 (gCons (gName i1) (gCons (gName i2) gNil))) tu D σ H :=
  h H (Ex.refl H) _ fun p H1 hp e h1 => ⟨p, xs, rfl, sq_of h1, for_enum (xs := xs) (Pv p) (h0 p H1 hp e h1) (hl p) (fun i x T σ' H' hx hp nT => ⟨T, [.int (i : Nat), x], rfl, st_of upd_same, rfl, .int (i : Nat), [x], rfl, x, [], rfl, rfl, hs p i x σ' H' _ hx hp (Ex.new nT)⟩) (hd p)⟩
theorem q_forEN {xs : List V} {ta : TE} {i1 i2 : Nat} (h : EvL ta σ H xs) (Pv : Addr → Nat → L2.St → Hp → Prop) (h0 : ∀ p H1, H p = none → Ex H H1 → H1 p = some (.lst xs) → Pv p 0 σ H1) (hl : ∀ p i σ' H', i ≤ xs.length → Pv p i σ' H' → SqL K H' p xs)
    (hs : ∀ p i x σ' H' H2, xs[i]? = some x → Pv p i σ' H' → Ex H' H2 → tu { D with nx := Pv p (i + 1), ct := Pv p (i + 1), bk := tz D } ((σ'.set i1 (some (.int (i : Nat)))).set i2 (some x)) H2) (hd : ∀ p σ' H', Pv p xs.length σ' H' → tz D σ' H') :
    tSeq (tFor (iEnum K (tCons ta tNil)) (gTup K 2 (gCons (gName i1) (gCons (gName i2) gNil))) tu) tz D σ H := s_forEN (D := { D with nx := tz D }) h Pv h0 hl hs hd
/-- for i in range(a, b, -1) -/
theorem q_forRd {j : Nat} {lo n : Int} {ta : TA} (h : EvA ta σ H [.int lo, .int n, .int (-1)]) (hn : -100000 ≤ lo ∧ lo ≤ 100000 ∧ -100000 ≤ n ∧ n ≤ 100000) (Pv : Nat → L2.St → Hp → Prop) (h0 : ∀ H1, Ex H H1 → Pv 0 σ H1)
    (hs : ∀ (i : Nat) σ' H', (i : Int) < lo - n → Pv i σ' H' → tu { D with nx := Pv (i + 1), ct := Pv (i + 1), bk := tz D } (σ'.set j (some (.int (lo - (i : Int))))) H') (hd : ∀ σ' H', Pv (lo - n).toNat σ' H' → tz D σ' H') : tSeq (tFor (iRng3 ta) (gName j) tu) tz D σ H :=
  h H (Ex.refl H) _ fun H1 e => ⟨lo, n, -1, (lo - n).toNat, rfl, RgC.neg (by omega) (by omega) (by omega) (by omega), for_rangeC (lo := lo) (c := -1) (n := (lo - n).toNat) (D := { D with nx := tz D }) Pv (h0 H1 e) (fun i σ' H' hi p => by
    have e0 : lo + (i : Int) * -1 = lo - (i : Int) := by omega
    show tu { D with nx := Pv (i + 1), ct := Pv (i + 1), bk := tz D } (σ'.set j (some (.int (lo + (i : Int) * -1)))) H'
    rw [e0]
    exact hs i σ' H' (by omega) p) hd⟩
/-- [.. for i in range(lo, n) ..] -/
theorem el_lcR2 {ta : TA} {j : Nat} {vs : List Nat} {lo n : Int} (f : Nat → Bool) (v : Nat → V) (h : EvA ta σ H [.int lo, .int n]) (hn : -100000 ≤ lo ∧ lo ≤ 100000 ∧ n - lo ≤ 40000 ∧ -100000 ≤ n ∧ n ≤ 100000) (hw : ∀ x, wipe ((wipe σ vs).set j (some x)) vs = wipe σ vs)
    (ht : ∀ (i : Nat) H1, Ex H H1 → lo + (i : Int) < n → EvT t ((wipe σ vs).set j (some (.int (lo + (i : Int))))) H1 (f i)) (he : ∀ (i : Nat) H1, Ex H H1 → lo + (i : Int) < n → f i = true → Ev te ((wipe σ vs).set j (some (.int (lo + (i : Int))))) H1 (v i)) :
    EvL (tLc (iRng2 ta) (gName j) t te vs) σ H (given (n - lo).toNat f v) := fun H0 e Q q => h H0 e _ fun H1 e1 => ⟨lo, n, rfl, ⟨by omega, by omega, by omega, by omega⟩, fun Dl hD =>
  lc_range (lo := lo) (n := (n - lo).toNat) (Cw H1 f v Dl) ⟨hD, Ex.new hD, upd_same⟩ (fun i H' hi p => ⟨hw _, cw_turn p (by omega) (ht i H1 (e.trans e1) (by omega)) (fun hf => he i H1 (e.trans e1) (by omega) hf)⟩) (fun H' p => q Dl H' (fresh_back e1 p.1) (e1.trans p.2.1) p.2.2)⟩
/-- a new list of new lists -/
def EvLL (te : TE) (σ : L2.St) (H : Hp) (xss : List (List V)) : Prop := ∀ H1, Ex H H1 → ∀ Q : VK, (∀ (p : Addr) (rs : List Addr) H2, H1 p = none → Ex H1 H2 → H2 p = some (.lst (rs.map V.ref)) → rs.length = xss.length → (∀ (i : Nat) (r : Addr) (xs : List V), rs[i]? = some r → xss[i]? = some xs → H1 r = none ∧ H2 r = some (.lst xs)) → Q (.ref p) H2) → te σ H1 Q
theorem ell_is {xs ys : List (List V)} (h : EvLL te σ H xs) (e : xs = ys) : EvLL te σ H ys := e ▸ h
def LLw (H : Hp) (xss : List (List V)) (Dl : Addr) (i : Nat) (H' : Hp) : Prop := H Dl = none ∧ Ex H H' ∧ ∃ rs : List Addr, rs.length = i ∧ H' Dl = some (.lst (rs.map V.ref)) ∧ ∀ (k : Nat) (r : Addr) (xs : List V), rs[k]? = some r → xss[k]? = some xs → H r = none ∧ H' r = some (.lst xs) ∧ r ≠ Dl
theorem llw_turn {σ2 : L2.St} {xss : List (List V)} {Dl : Addr} {i : Nat} {xs : List V} (p : LLw H xss Dl i H') (hi : i < 50000) (hx : xss[i]? = some xs) (he : EvL te σ2 H xs) :
    tYes σ2 H' fun b H3 => if b = true then te σ2 H3 fun y H4 => ∃ acc, H4 Dl = some (.lst acc) ∧ acc.length < sizeLine ∧ LLw H xss Dl (i + 1) (upd H4 Dl (.lst (acc ++ [y]))) else LLw H xss Dl (i + 1) H3 := by
  obtain ⟨p1, p2, rs, p3, p4, p5⟩ := p
  show (if true = true then _ else LLw H xss Dl (i + 1) H')
  rw [if_pos rfl]
  refine (he H' p2 _ fun q H4 hq e4 h4 => ⟨rs.map V.ref, e4 _ _ p4, by rw [List.length_map]; exact sz_lt (by omega), p1, Ex.mut (p2.trans e4) p1, rs ++ [q], by rw [List.length_append, p3]; rfl, ?_, fun k r xs' hk hxk => ?_⟩)
  · rw [upd_same, List.map_append]
    rfl
  · by_cases hkr : k < rs.length
    · rw [List.getElem?_append_left hkr] at hk
      obtain ⟨a1, a2, a3⟩ := p5 k r xs' hk hxk
      exact ⟨a1, by rw [upd_ne a3]; exact e4 _ _ a2, a3⟩
    · rw [List.getElem?_append_right (by omega)] at hk
      have hk0 : k - rs.length = 0 := by
        have := (List.getElem?_eq_some_iff.mp hk).1
        rw [List.length_singleton] at this
        omega
      rw [hk0] at hk
      cases (Option.some.inj hk : q = r)
      have hki : k = i := by omega
      subst hki
      cases (Option.some.inj (hx.symm.trans hxk) : xs = xs')
      have hqD : q ≠ Dl := fun z => by
        subst z
        rw [hq] at p4
        cases p4
      exact ⟨fresh_back p2 hq, by rw [upd_ne hqD]; exact h4, hqD⟩
theorem ell_lcR1 {ta : TA} {j : Nat} {vs : List Nat} {n : Nat} {xss : List (List V)} (h : EvA ta σ H [.int (n : Int)]) (hn : n ≤ 40000) (hl : xss.length = n) (hw : ∀ x, wipe ((wipe σ vs).set j (some x)) vs = wipe σ vs)
    (he : ∀ (i : Nat) (xs : List V) H1, Ex H H1 → i < n → xss[i]? = some xs → EvL te ((wipe σ vs).set j (some (.int (i : Int)))) H1 xs) :
    EvLL (tLc (iRng1 ta) (gName j) tYes te vs) σ H xss := fun H0 e Q q => h H0 e _ fun H1 e1 => ⟨(n : Int), rfl, by omega, by omega, fun Dl hD => by
  rw [Int.toNat_natCast]
  refine lc_range (lo := 0) (n := n) (LLw H1 xss Dl) ⟨hD, Ex.new hD, [], rfl, upd_same, fun k r xs hk => by simp at hk⟩ (fun i H' hi p => ?_) (fun H' p => ?_)
  · have e0 : (0 : Int) + (i : Int) = (i : Int) := Int.zero_add _
    show wipe ((wipe σ vs).set j (some (.int ((0 : Int) + (i : Int))))) vs = wipe σ vs ∧ tYes ((wipe σ vs).set j (some (.int ((0 : Int) + (i : Int))))) H' fun b H3 => if b = true then te ((wipe σ vs).set j (some (.int ((0 : Int) + (i : Int))))) H3 fun y H4 => ∃ acc, H4 Dl = some (.lst acc) ∧ acc.length < sizeLine ∧ LLw H1 xss Dl (i + 1) (upd H4 Dl (.lst (acc ++ [y]))) else LLw H1 xss Dl (i + 1) H3
    rw [e0]
    have hx : xss[i]? = some xss[i] := List.getElem?_eq_getElem (by omega)
    exact ⟨hw _, llw_turn p (by omega) hx (he i _ H1 (e.trans e1) hi hx)⟩
  · obtain ⟨p1, p2, rs, p3, p4, p5⟩ := p
    exact q Dl rs H' (fresh_back e1 p1) (e1.trans p2) p4 (by omega) fun i r xs hr hx => ⟨fresh_back e1 (p5 i r xs hr hx).1, (p5 i r xs hr hx).2.1⟩⟩
/-- list(range(lo, n)) -/
theorem el_listR1 {n : Nat} (h : Ev ta σ H (.int (n : Int))) (hn : n ≤ 100000) : EvL (tLstRg (tRg1 ta)) σ H (rgV 0 (n : Int)) := fun H1 e Q q =>
  h H1 e _ fun H2 e2 => ⟨(n : Int), rfl, RgOk.of_le (by omega) (by omega) (by omega) (by omega), fun l hl => q l _ (fresh_back e2 hl) (e2.trans (Ex.new hl)) upd_same⟩
theorem el_listR2 {lo n : Nat} (h : Ev ta σ H (.int (lo : Int))) (h2 : Ev tb σ H (.int (n : Int))) (hn : n ≤ 100000) (hlo : lo ≤ 100000) : EvL (tLstRg (tRg2 ta tb)) σ H (rgV (lo : Int) (n : Int)) := fun H1 e Q q =>
  h H1 e _ fun H2 e2 => h2 H2 (e.trans e2) _ fun H3 e3 => ⟨(lo : Int), (n : Int), rfl, rfl, RgOk.of_le (by omega) (by omega) (by omega) (by omega), fun l hl => q l _ (fresh_back (e2.trans e3) hl) ((e2.trans e3).trans (Ex.new hl)) upd_same⟩
/-- sorted(..) of a list whose order is known -/
theorem el_sorted {a : Addr} {ns ts : List Int} (h : Ev ta σ H (.ref a)) (hx : SqL K H a (ns.map V.int)) (hp : ts.Perm ns) (hs : ts.Pairwise (· ≤ ·)) : EvL (tCB (rSortedI K) (tCons ta tNil)) σ H (ts.map V.int) := fun H1 e Q q =>
  h H1 e _ fun H2 e2 => ⟨a, ns, rfl, ex_l (e.trans e2) hx, fun ns' p p1 p2 hp' => by
    have : ns' = ts := PySem.W.ksm_same (p1.trans hp.symm) p2 hs
    subst this
    exact q p _ (fresh_back e2 hp') (e2.trans (Ex.new hp')) upd_same⟩
/-- what isinstance(.., int) and the rest of is_integer say of a value -/
inductive IntB (K : PySem.W.Frag) (H : Hp) : V → Bool → Prop
  | int (i : Int) : IntB K H (.int i) (decide (i.natAbs < 10 ^ 60))
  | bl (b : Bool) : IntB K H (.bl b) false
  | other {v : V} (n : String) (h : TyX K H v (.type n)) (hk : PySem.W.kitOne K (.type n) (.type "int") = some false) : IntB K H v false
theorem IntB.ex {v : V} {b : Bool} (e : Ex H H') (h : IntB K H v b) : IntB K H' v b := by
  cases h with
  | int i => exact .int i
  | bl b => exact .bl b
  | other n h hk => exact .other n (tyx_ex e h) hk
end
end Own
/-! own words that the laws share -/
namespace Own
open PySem PySem.Spec PyProof.Rows L2 Evl
theorem mapN (xs : List Nat) : xs.map N_ = (xs.map Int.ofNat).map V.int := by
  rw [List.map_map]
  rfl
theorem sumN : ∀ (xs : List Nat), (xs.map Int.ofNat).sum = ((xs.sum : Nat) : Int)
  | [] => rfl
  | x :: r => by
    rw [List.map_cons, List.sum_cons, List.sum_cons, sumN r]
    show (x : Int) + _ = _
    omega
theorem divW {x : Nat} {b : Nat} (h0 : 0 < b) (hb : b ≤ 1000) : CDivW (x : Int) (b : Int) := wide_div (b := 10) (by omega) (by show (Int.natAbs (b : Int)) < 1024; omega) (by decide) (by decide)
theorem int_div (x b : Nat) : (x : Int) / (b : Int) = ((x / b : Nat) : Int) := rfl
theorem int_mod (x b : Nat) : (x : Int) % (b : Int) = ((x % b : Nat) : Int) := rfl
def Bs (b : Nat) : Prop := 2 ≤ b ∧ b ≤ 1000
abbrev Gt (n : Nat) : Prop := n < 2 ^ 400
theorem dec_int {x y : Nat} : decide (V.int (x : Int) = V.int (y : Int)) = decide (x = y) := by
  by_cases h : x = y
  · subst h
    rw [decide_eq_true rfl, decide_eq_true rfl]
  · rw [decide_eq_false h, decide_eq_false (fun z => h (by have := V.int.inj z; omega))]
theorem minmax (M : Nat) (hM : 1 ≤ M ∧ M ≤ 60) (L : Nat) : ∃ n : Nat, n ≤ 100 ∧ (if (if (L : Int) < (M : Int) then (L : Int) else (M : Int)) > 1 then (if (L : Int) < (M : Int) then (L : Int) else (M : Int)) else 1) = (n : Int) := by
  have hz : ∀ z : Int, 0 ≤ z → z ≤ 60 → ∃ n : Nat, n ≤ 100 ∧ (if z > 1 then z else 1) = (n : Int) := fun z h0 h6 => by
    by_cases h : z > 1
    · exact ⟨z.toNat, by omega, by rw [if_pos h]; omega⟩
    · exact ⟨1, by omega, by rw [if_neg h]; rfl⟩
  refine hz _ ?_ ?_
  · split <;> omega
  · split <;> omega
theorem exd_lf {K : PySem.W.Frag} {H H' : Hp} {p a : Addr} {xs : List V} (n : H p = none) (e : Exd p H H') (h : SqL K H a xs) : SqL K H' a xs := by
  rcases h with (h | ⟨o, h⟩) | h
  · exact .inl (.inl (e a _ (ne_of_none h n) h))
  · exact .inl (.inr ⟨o, e a _ (ne_of_none h n) h⟩)
  · exact .inr h
theorem rep_zero (c : Nat) : (List.replicate c [V.int 0]).flatten = (List.replicate c 0).map N_ := by
  induction c with
  | zero => rfl
  | succ c ih =>
    rw [List.replicate_succ, List.flatten_cons, ih, List.replicate_succ, List.map_cons]
    rfl
theorem od_drop {b : Nat} {xs : List Nat} {i d : Nat} (hi : i < xs.length) (hd : xs.reverse[i]? = some d) : od b (xs.drop (xs.length - (i + 1))) = d + b * od b (xs.drop (xs.length - i)) := by
  have h1 : xs.reverse[i]? = xs[xs.length - 1 - i]? := List.getElem?_reverse hi
  rw [h1] at hd
  have h2 : xs.length - (i + 1) = xs.length - 1 - i := by omega
  have h3 : xs.length - 1 - i < xs.length := by omega
  rw [h2, List.drop_eq_getElem_cons h3, od]
  rw [List.getElem?_eq_getElem h3] at hd
  rw [Option.some.inj hd, show xs.length - 1 - i + 1 = xs.length - i by omega]
theorem cutTake (xs : List V) (f : Nat) : cutV xs none (some (f : Int)) = xs.take f := by
  unfold cutV
  rw [HT.sIx_none, show HT.sIx xs.length xs.length (some (f : Int)) = min f xs.length from HT.sIx_nat xs.length xs.length f, List.drop_zero, Nat.sub_zero]
  by_cases h : f ≤ xs.length
  · rw [Nat.min_eq_left h]
  · rw [Nat.min_eq_right (by omega), List.take_length, List.take_of_length_le (by omega)]
section
variable {K : PySem.W.Frag} {σ : L2.St} {H H' : Hp} {ta tb te : TE}
theorem el_revN {xs : List V} (h : EvL ta σ H xs) : EvL (tRevL K ta) σ H xs.reverse := fun H1 e Q q =>
  h H1 e _ fun a H2 na e2 h2 => ⟨a, xs, rfl, sq_of h2, fun l hl => q l _ (fresh_back e2 hl) (e2.trans (Ex.new hl)) upd_same⟩
end
theorem small_k {n : Nat} (h : n ≤ 1000) : n < 2 ^ 1000 := Nat.lt_of_le_of_lt h (Nat.lt_of_lt_of_le (show 1000 < 2 ^ 10 by decide) (Nat.pow_le_pow_right (by decide) (by decide : 10 ≤ 1000)))
end Own
/-! mathematics of digits, more: no carries by rests, blocks of digits, shifts; core Lean alone -/
namespace Own
/-- numbers without carries in base b -/
def CF (b : Nat) (xs : List Nat) : Prop := (xs.map (ds b)).sum = ds b xs.sum
def rsum (m : Nat) (xs : List Nat) : Nat := (xs.map (· % m)).sum
theorem mod_split {b : Nat} (hb : 1 < b) (x i : Nat) : x % b ^ (i + 1) = x % b + b * ((x / b) % b ^ i) := by
  rw [Nat.pow_succ, Nat.mul_comm, Nat.mod_mul]
theorem rsum_split {b : Nat} (hb : 1 < b) (i : Nat) : ∀ xs : List Nat, rsum (b ^ (i + 1)) xs = rsum b xs + b * rsum (b ^ i) (xs.map (· / b))
  | [] => rfl
  | x :: r => by
    have ih := rsum_split hb i r
    unfold rsum at ih ⊢
    simp only [List.map_cons, List.sum_cons]
    rw [ih, mod_split hb x i, Nat.mul_add]
    omega
theorem rsum_one (xs : List Nat) : rsum 1 xs = 0 := by
  unfold rsum
  induction xs with
  | nil => rfl
  | cons a r ih => rw [List.map_cons, List.sum_cons, ih, Nat.mod_one]
theorem sum_div_le {b : Nat} (hb : 1 < b) (xs : List Nat) : 2 * (xs.map (· / b)).sum ≤ xs.sum := by
  have h := sum_split hb xs
  have : 2 * (xs.map (· / b)).sum ≤ b * (xs.map (· / b)).sum := Nat.mul_le_mul_right _ hb
  omega
theorem rsum_zero {m : Nat} : ∀ xs : List Nat, xs.sum = 0 → rsum m xs = 0
  | [], _ => rfl
  | x :: r, h => by
    rw [List.sum_cons] at h
    have hx : x = 0 := by omega
    have := rsum_zero (m := m) r (by omega)
    unfold rsum at this ⊢
    rw [List.map_cons, List.sum_cons, this, hx, Nat.zero_mod]
theorem nc_rsum {b : Nat} (hb : 1 < b) : ∀ (n : Nat) (xs : List Nat), xs.sum ≤ n → (nc b n xs = true ↔ ∀ i, rsum (b ^ i) xs < b ^ i)
  | 0, xs, h => by
    refine ⟨fun _ i => ?_, fun _ => rfl⟩
    rw [rsum_zero xs (by omega)]
    exact Nat.pow_pos (by omega)
  | n + 1, xs, h => by
    have hq : (xs.map (· / b)).sum ≤ n := by
      have := sum_div_le hb xs
      omega
    have ih := nc_rsum hb n (xs.map (· / b)) hq
    unfold nc
    rw [Bool.and_eq_true, decide_eq_true_eq, ih]
    constructor
    · intro ⟨h1, h2⟩ i
      cases i with
      | zero =>
        rw [Nat.pow_zero, rsum_one]
        exact Nat.zero_lt_one
      | succ i =>
        rw [rsum_split hb i xs, Nat.pow_succ]
        have h3 := h2 i
        have h4 : b * (rsum (b ^ i) (xs.map (· / b)) + 1) ≤ b * b ^ i := Nat.mul_le_mul_left b h3
        have h5 : rsum b xs < b := h1
        rw [Nat.mul_add] at h4
        rw [Nat.mul_comm (b ^ i) b]
        omega
    · intro h2
      refine ⟨?_, fun i => ?_⟩
      · have := h2 1
        rw [Nat.pow_one] at this
        exact this
      · have h3 := h2 (i + 1)
        rw [rsum_split hb i xs, Nat.pow_succ, Nat.mul_comm (b ^ i) b] at h3
        exact Nat.lt_of_mul_lt_mul_left (show b * rsum (b ^ i) (xs.map (· / b)) < b * b ^ i by omega)
/-- no carries: the rests modulo each power of the base add up to less than this power -/
theorem cf_rsum {b : Nat} (hb : 1 < b) (xs : List Nat) : CF b xs ↔ ∀ i, rsum (b ^ i) xs < b ^ i := (nc_iff hb xs.sum xs (Nat.le_refl _)).symm.trans (nc_rsum hb xs.sum xs (Nat.le_refl _))
/-- blocks of f digits -/
theorem cf_block {p f : Nat} (hp : 1 < p) (hf : 1 ≤ f) {xs : List Nat} (h : CF p xs) : CF (p ^ f) xs := by
  have hq : 1 < p ^ f := Nat.lt_of_lt_of_le hp (by
    have := Nat.pow_le_pow_right (show 0 < p by omega) hf
    rwa [Nat.pow_one] at this)
  refine (cf_rsum hq xs).mpr fun i => ?_
  rw [← Nat.pow_mul]
  exact (cf_rsum hp xs).mp h (f * i)
theorem ds_mulb {b : Nat} (hb : 1 < b) (x : Nat) : ds b (b * x) = ds b x := by
  rw [ds_eq hb (b * x), Nat.mul_mod_right, Nat.mul_div_cancel_left _ (by omega), Nat.zero_add]
theorem ds_mulp {b : Nat} (hb : 1 < b) (x : Nat) : ∀ j, ds b (b ^ j * x) = ds b x
  | 0 => by rw [Nat.pow_zero, Nat.one_mul]
  | j + 1 => by rw [Nat.pow_succ, Nat.mul_comm (b ^ j) b, Nat.mul_assoc, ds_mulb hb, ds_mulp hb x j]
theorem sum_mul (c : Nat) : ∀ xs : List Nat, (xs.map (c * ·)).sum = c * xs.sum
  | [] => rfl
  | x :: r => by rw [List.map_cons, List.sum_cons, List.sum_cons, sum_mul c r, Nat.mul_add]
theorem cf_shift {p : Nat} (hp : 1 < p) (j : Nat) {xs : List Nat} (h : CF p xs) : CF p (xs.map (p ^ j * ·)) := by
  unfold CF at h ⊢
  rw [sum_mul, ds_mulp hp, ← h, List.map_map]
  exact congrArg List.sum (List.map_congr_left fun x _ => ds_mulp hp x j)
/-- shift sums add up -/
theorem ss_add {p f : Nat} (hp : 1 < p) (hf : 1 ≤ f) (j : Nat) {xs : List Nat} (h : CF p xs) : (xs.map fun x => ds (p ^ f) (p ^ j * x)).sum = ds (p ^ f) (p ^ j * xs.sum) := by
  have h1 := cf_block hp hf (cf_shift hp j h)
  unfold CF at h1
  rw [sum_mul, List.map_map] at h1
  exact h1
/-- a sum of digits and its number leave equal rests -/
theorem ds_mod {b : Nat} (hb : 1 < b) (n : Nat) : ds b n % (b - 1) = n % (b - 1) := by
  induction n using Nat.strongRecOn with
  | ind n ih =>
    by_cases hn : 0 < n
    · have h1 := ih _ (Nat.div_lt_self hn hb)
      rw [ds_eq hb n, Nat.add_mod, h1, ← Nat.add_mod]
      have e : n = n % b + n / b + (b - 1) * (n / b) := by
        have h2 := Nat.mod_add_div n b
        have h3 : b * (n / b) = (b - 1) * (n / b) + n / b := by
          have : b = (b - 1) + 1 := by omega
          rw [this, Nat.add_mul, Nat.one_mul, Nat.add_sub_cancel]
        omega
      have h4 : (n % b + n / b + (b - 1) * (n / b)) % (b - 1) = (n % b + n / b) % (b - 1) := Nat.add_mul_mod_self_left _ _ _
      rw [← e] at h4
      exact h4.symm
    · have : n = 0 := by omega
      subst this
      rw [ds_zero]
theorem ds_ne {b : Nat} (hb : 1 < b) {n : Nat} (hn : 0 < n) : 0 < ds b n := by
  induction n using Nat.strongRecOn with
  | ind n ih =>
    rw [ds_eq hb n]
    by_cases h : n % b = 0
    · have h1 := Nat.mod_add_div n b
      have h2 : 0 < n / b := by
        rcases Nat.eq_zero_or_pos (n / b) with h0 | h0
        · rw [h0, h] at h1
          omega
        · exact h0
      have := ih _ (Nat.div_lt_self hn hb) h2
      omega
    · omega
/-- a multiple of b - 1 above 0 has a sum of digits of at least b - 1 -/
theorem ds_ge {b : Nat} (hb : 1 < b) {n : Nat} (hn : 0 < n) (h : n % (b - 1) = 0) : b - 1 ≤ ds b n := by
  have h1 := ds_mod hb n
  rw [h] at h1
  have h2 := ds_ne hb hn
  exact Nat.le_of_dvd h2 (Nat.dvd_of_mod_eq_zero h1)
/-- rows of digits -/
theorem ds_od {b : Nat} (hb : 1 < b) : ∀ es : List Nat, (∀ e ∈ es, e < b) → ds b (od b es) = es.sum
  | [], _ => ds_zero b
  | e :: r, h => by
    have he := h e (List.mem_cons_self ..)
    rw [od, ds_eq hb, Nat.add_mul_mod_self_left, Nat.mod_eq_of_lt he, Nat.add_mul_div_left _ _ (by omega), Nat.div_eq_of_lt he, Nat.zero_add, ds_od hb r fun x hx => h x (List.mem_cons_of_mem _ hx), List.sum_cons]
/-- a row within another one, place by place -/
inductive Le2 : List Nat → List Nat → Prop
  | nil : Le2 [] []
  | cons {e d : Nat} {es ds_ : List Nat} (h : e ≤ d) (r : Le2 es ds_) : Le2 (e :: es) (d :: ds_)
theorem Le2.snoc {e d : Nat} : ∀ {es xs : List Nat}, Le2 es xs → e ≤ d → Le2 (es ++ [e]) (xs ++ [d])
  | _, _, .nil, h => .cons h .nil
  | _, _, .cons h1 r, h => .cons h1 (r.snoc h)
theorem le2_parts {b : Nat} (hb : 1 < b) : ∀ {es xs : List Nat}, Le2 es xs → (∀ d ∈ xs, d < b) → od b es ≤ od b xs ∧ ds b (od b es) + ds b (od b xs - od b es) = ds b (od b xs)
  | _, _, .nil, _ => ⟨Nat.le_refl _, by rw [show od b [] = 0 from rfl, Nat.sub_zero, ds_zero]⟩
  | e :: es, d :: xs, .cons h r, hx => by
    have hd := hx d (List.mem_cons_self ..)
    obtain ⟨h1, h2⟩ := le2_parts hb r fun z hz => hx z (List.mem_cons_of_mem _ hz)
    have h3 : b * od b es ≤ b * od b xs := Nat.mul_le_mul_left b h1
    refine ⟨by rw [od, od]; omega, ?_⟩
    have e1 : od b (d :: xs) - od b (e :: es) = (d - e) + b * (od b xs - od b es) := by
      rw [od, od, Nat.mul_sub]
      omega
    rw [e1, od, od]
    have step : ∀ (u v : Nat), u < b → ds b (u + b * v) = u + ds b v := fun u v hu => by
      rw [ds_eq hb, Nat.add_mul_mod_self_left, Nat.mod_eq_of_lt hu, Nat.add_mul_div_left _ _ (by omega), Nat.div_eq_of_lt hu, Nat.zero_add]
    rw [step e _ (by omega), step (d - e) _ (by omega), step d _ hd]
    omega
/-- the last one of numbers without carries may be parted once more -/
theorem cf_part {b : Nat} (hb : 1 < b) {xs : List Nat} {y z : Nat} (h : CF b (xs ++ [y])) (hz : z ≤ y) (hd : ds b z + ds b (y - z) = ds b y) : CF b (xs ++ [z] ++ [y - z]) := by
  unfold CF at h ⊢
  simp only [List.map_append, List.sum_append, List.map_cons, List.map_nil, List.sum_cons, List.sum_nil, Nat.add_zero] at h ⊢
  rw [show xs.sum + z + (y - z) = xs.sum + y by omega]
  omega
theorem cf_single (b x : Nat) : CF b [x] := by
  unfold CF
  simp
end Own
/-! mathematics of partings: digits at places, taken away from above as far as the shift sums let; core Lean alone -/
namespace Own
abbrev PL := List (Nat × Nat)
/-- the weight of a digit at place a in the shift sum j -/
def wt (p f j a : Nat) : Nat := p ^ ((a + j) % f)
def sj (p f j : Nat) (L : PL) : Nat := (L.map fun x => x.1 * wt p f j x.2).sum
def nl (p : Nat) (L : PL) : Nat := (L.map fun x => x.1 * p ^ x.2).sum
def cl (L : PL) : Nat := (L.map (·.1)).sum
/-- places fall, digits below p -/
inductive Vd (p : Nat) : PL → Prop
  | nil : Vd p []
  | cons {c a : Nat} {L : PL} (h : c < p) (hL : ∀ x ∈ L, x.2 < a) (r : Vd p L) : Vd p ((c, a) :: L)
theorem sj_cons (p f j c a : Nat) (L : PL) : sj p f j ((c, a) :: L) = c * wt p f j a + sj p f j L := by
  unfold sj
  rw [List.map_cons, List.sum_cons]
theorem nl_cons (p c a : Nat) (L : PL) : nl p ((c, a) :: L) = c * p ^ a + nl p L := by
  unfold nl
  rw [List.map_cons, List.sum_cons]
theorem cl_cons (c a : Nat) (L : PL) : cl ((c, a) :: L) = c + cl L := by
  unfold cl
  rw [List.map_cons, List.sum_cons]
theorem nl_lt {p : Nat} (hp : 1 < p) {L : PL} (h : Vd p L) : ∀ m, (∀ x ∈ L, x.2 < m) → nl p L < p ^ m := by
  induction h with
  | nil =>
    intro m _
    show 0 < _
    exact Nat.pow_pos (by omega)
  | @cons c a L hc hL r ih =>
    intro m hm
    have h1 := ih a hL
    have h2 : a < m := hm _ (List.mem_cons_self ..)
    rw [nl_cons]
    have h3 : c * p ^ a + p ^ a ≤ p ^ (a + 1) := by
      rw [Nat.pow_succ, Nat.mul_comm (p ^ a) p, ← Nat.succ_mul]
      exact Nat.mul_le_mul_right _ hc
    have h4 : p ^ (a + 1) ≤ p ^ m := Nat.pow_le_pow_right (by omega) h2
    omega
/-- digits above and below a place -/
theorem ds_high {b : Nat} (hb : 1 < b) (c : Nat) : ∀ (m r : Nat), r < b ^ m → ds b (c * b ^ m + r) = ds b c + ds b r
  | 0, r, h => by
    have : r = 0 := by rw [Nat.pow_zero] at h; omega
    subst this
    rw [Nat.pow_zero, Nat.mul_one, Nat.add_zero, ds_zero, Nat.add_zero]
  | m + 1, r, h => by
    have h1 : r / b < b ^ m := by
      rw [Nat.pow_succ] at h
      exact Nat.div_lt_of_lt_mul (by rw [Nat.mul_comm]; exact h)
    have ih := ds_high hb c m (r / b) h1
    have e : c * b ^ (m + 1) + r = r % b + b * (c * b ^ m + r / b) := by
      have h2 := Nat.mod_add_div r b
      rw [Nat.mul_add, Nat.pow_succ]
      have : c * (b ^ m * b) = b * (c * b ^ m) := by
        rw [← Nat.mul_assoc, Nat.mul_comm]
      omega
    have hm := Nat.mod_lt r (show 0 < b by omega)
    rw [e, ds_eq hb, Nat.add_mul_mod_self_left, Nat.mod_eq_of_lt hm, Nat.add_mul_div_left _ _ (by omega), Nat.div_eq_of_lt hm, Nat.zero_add, ih, ds_eq hb r]
    omega
theorem ds_small {b : Nat} (hb : 1 < b) {x : Nat} (h : x < b) : ds b x = x := by
  rw [ds_eq hb, Nat.mod_eq_of_lt h, Nat.div_eq_of_lt h, ds_zero, Nat.add_zero]
theorem ds_term {b : Nat} (hb : 1 < b) {c : Nat} (h : c < b) (a : Nat) : ds b (c * b ^ a) = c := by
  rw [Nat.mul_comm, ds_mulp hb, ds_small hb h]
theorem ds_nl {p : Nat} (hp : 1 < p) {L : PL} (h : Vd p L) : ds p (nl p L) = cl L := by
  induction h with
  | nil => exact ds_zero p
  | @cons c a L hc hL r ih => rw [nl_cons, cl_cons, ds_high hp c a _ (nl_lt hp r a hL), ih, ds_small hp hc]
theorem cf_two {b x y : Nat} (h : ds b x + ds b y = ds b (x + y)) : CF b [x, y] := by
  unfold CF
  simp only [List.map_cons, List.map_nil, List.sum_cons, List.sum_nil, Nat.add_zero]
  exact h
theorem ss_two {p f : Nat} (hp : 1 < p) (hf : 1 ≤ f) (j : Nat) {x y : Nat} (h : ds p x + ds p y = ds p (x + y)) : ds (p ^ f) (p ^ j * x) + ds (p ^ f) (p ^ j * y) = ds (p ^ f) (p ^ j * (x + y)) := by
  have h1 := ss_add hp hf j (cf_two h)
  simp only [List.map_cons, List.map_nil, List.sum_cons, List.sum_nil, Nat.add_zero] at h1
  exact h1
theorem q_gt {p f : Nat} (hp : 1 < p) (hf : 1 ≤ f) : 1 < p ^ f := Nat.lt_of_lt_of_le hp (by
  have := Nat.pow_le_pow_right (show 0 < p by omega) hf
  rwa [Nat.pow_one] at this)
theorem ds_wt {p f : Nat} (hp : 1 < p) (hf : 1 ≤ f) (j : Nat) {c : Nat} (hc : c < p) (a : Nat) : ds (p ^ f) (p ^ j * (c * p ^ a)) = c * wt p f j a := by
  have hq := q_gt hp hf
  have e : p ^ j * (c * p ^ a) = (p ^ f) ^ ((a + j) / f) * (c * p ^ ((a + j) % f)) := by
    have h1 := Nat.div_add_mod (a + j) f
    have h2 : p ^ j * (c * p ^ a) = c * p ^ (a + j) := by
      rw [Nat.pow_add]
      simp only [Nat.mul_comm, Nat.mul_left_comm]
    rw [h2, ← Nat.pow_mul, Nat.mul_left_comm, ← Nat.pow_add, h1]
  rw [e, ds_mulp hq]
  refine ds_small hq ?_
  have h3 : (a + j) % f < f := Nat.mod_lt _ (by omega)
  have h4 : p ^ ((a + j) % f + 1) ≤ p ^ f := Nat.pow_le_pow_right (by omega) h3
  have h5 : 0 < p ^ ((a + j) % f) := Nat.pow_pos (by omega)
  have h6 : c * p ^ ((a + j) % f) < p * p ^ ((a + j) % f) := Nat.mul_lt_mul_of_pos_right hc h5
  rw [Nat.pow_succ, Nat.mul_comm (p ^ ((a + j) % f)) p] at h4
  omega
/-- the shift sums of a number, by its digits -/
theorem sj_ds {p f : Nat} (hp : 1 < p) (hf : 1 ≤ f) (j : Nat) {L : PL} (h : Vd p L) : sj p f j L = ds (p ^ f) (p ^ j * nl p L) := by
  induction h with
  | nil =>
    show 0 = ds (p ^ f) (p ^ j * 0)
    rw [Nat.mul_zero, ds_zero]
  | @cons c a L hc hL r ih =>
    rw [sj_cons, nl_cons, ← ss_two hp hf j, ds_wt hp hf j hc, ih]
    rw [ds_high hp c a _ (nl_lt hp r a hL), ds_term hp hc, ds_small hp hc]
/-! taking away -/
def minN : List Nat → Nat
  | [] => 0
  | [x] => x
  | x :: y :: r => min x (minN (y :: r))
theorem minN_mem : ∀ xs : List Nat, xs ≠ [] → minN xs ∈ xs
  | [], h => absurd rfl h
  | [x], _ => List.mem_cons_self ..
  | x :: y :: r, _ => by
    have ih := minN_mem (y :: r) (by simp)
    show min x (minN (y :: r)) ∈ x :: y :: r
    rcases Nat.le_total x (minN (y :: r)) with h | h
    · rw [Nat.min_eq_left h]
      exact List.mem_cons_self ..
    · rw [Nat.min_eq_right h]
      exact List.mem_cons_of_mem _ ih
theorem minN_le : ∀ (xs : List Nat) (y : Nat), y ∈ xs → minN xs ≤ y
  | [], y, h => by simp at h
  | [x], y, h => by
    rw [List.mem_singleton.mp h]
    exact Nat.le_refl _
  | x :: z :: r, y, h => by
    show min x (minN (z :: r)) ≤ y
    rcases List.mem_cons.mp h with h | h
    · rw [h]
      exact Nat.min_le_left _ _
    · exact Nat.le_trans (Nat.min_le_right _ _) (minN_le (z :: r) y h)
def wl (p f a : Nat) : List Nat := (List.range f).map fun j => wt p f j a
/-- as much of the digit c at place a as the spare sums let -/
def cutN (p f c a : Nat) (sp : List Nat) : Nat := minN (c :: (List.range f).map fun j => sp.getD j 0 / wt p f j a)
def lessN (p f n a : Nat) (sp : List Nat) : List Nat := (List.range f).map fun j => sp.getD j 0 - n * wt p f j a
structure Lw where
  L : PL
  sp : List Nat
  tk : Nat
  mn : Nat
def chooseN : Nat → Nat → Nat
  | _, 0 => 1
  | 0, _ + 1 => 0
  | n + 1, k + 1 => chooseN n k + chooseN n (k + 1)
def low (p f : Nat) : PL → List Nat → Lw
  | [], sp => ⟨[], sp, 0, 1⟩
  | (c, a) :: L, sp =>
    if minN sp = 0 then ⟨(c, a) :: L, sp, 0, 1⟩ else
      let n := cutN p f c a sp
      let r := low p f L (lessN p f n a sp)
      ⟨if n < c then (c - n, a) :: r.L else r.L, r.sp, n * p ^ a + r.tk, (if n < c then chooseN c n else 1) * r.mn⟩
theorem cut_le (p f c a : Nat) (sp : List Nat) : cutN p f c a sp ≤ c := minN_le _ _ (List.mem_cons_self ..)
theorem wt_pos {p f j a : Nat} (hp : 1 < p) : 0 < wt p f j a := Nat.pow_pos (by omega)
theorem cut_mul {p f c a : Nat} {sp : List Nat} (hp : 1 < p) {j : Nat} (hj : j < f) : cutN p f c a sp * wt p f j a ≤ sp.getD j 0 := by
  have h : cutN p f c a sp ≤ sp.getD j 0 / wt p f j a := minN_le _ _ (List.mem_cons_of_mem _ (List.mem_map.mpr ⟨j, List.mem_range.mpr hj, rfl⟩))
  exact (Nat.le_div_iff_mul_le (wt_pos hp)).mp h
theorem cut_lt {p f c a : Nat} {sp : List Nat} (hp : 1 < p) (h : cutN p f c a sp < c) : ∃ j, j < f ∧ sp.getD j 0 < cutN p f c a sp * wt p f j a + wt p f j a := by
  have hm := minN_mem (c :: (List.range f).map fun j => sp.getD j 0 / wt p f j a) (by simp)
  rcases List.mem_cons.mp hm with e | e
  · have : cutN p f c a sp = c := e
    omega
  · obtain ⟨j, hj, e2⟩ := List.mem_map.mp e
    refine ⟨j, List.mem_range.mp hj, ?_⟩
    have e3 : sp.getD j 0 / wt p f j a = cutN p f c a sp := e2
    have := Nat.lt_div_mul_add (a := sp.getD j 0) (wt_pos (p := p) (f := f) (j := j) (a := a) hp)
    rw [e3] at this
    exact this
theorem less_get {p f n a : Nat} {sp : List Nat} {j : Nat} (hj : j < f) : (lessN p f n a sp).getD j 0 = sp.getD j 0 - n * wt p f j a := by
  unfold lessN
  rw [List.getD_eq_getElem?_getD, List.getElem?_map, List.getElem?_range hj]
  rfl
theorem less_len (p f n a : Nat) (sp : List Nat) : (lessN p f n a sp).length = f := by
  unfold lessN
  rw [List.length_map, List.length_range]
structure LowOk (p f : Nat) (L : PL) (sp : List Nat) (r : Lw) : Prop where
  eq : ∀ j, j < f → sp.getD j 0 + sj p f j r.L = r.sp.getD j 0 + sj p f j L
  nm : nl p L = nl p r.L + r.tk
  dg : cl L = cl r.L + ds p r.tk
  vd : Vd p r.L
  ps : ∀ x ∈ r.L, ∃ y ∈ L, y.2 = x.2
  po : ∀ x ∈ r.L, 0 < x.1
  le : ∀ j, j < f → r.sp.getD j 0 ≤ sp.getD j 0
  ln : r.sp.length = f
  st : minN r.sp = 0 ∨ ∀ x ∈ r.L, ∃ j, j < f ∧ r.sp.getD j 0 < wt p f j x.2
theorem low_ok {p f : Nat} (hp : 1 < p) : ∀ {L : PL} {sp : List Nat}, Vd p L → (∀ x ∈ L, 0 < x.1) → sp.length = f → LowOk p f L sp (low p f L sp)
  | [], sp, _, _, hl => ⟨fun _ _ => rfl, rfl, (by show 0 = 0 + ds p 0; rw [ds_zero]), .nil, (fun x h => nomatch h), (fun x h => nomatch h), fun _ _ => Nat.le_refl _, hl, .inr (fun x h => nomatch h)⟩
  | (c, a) :: L, sp, .cons hc hL r, h0, hl => by
    by_cases hz : minN sp = 0
    · have e : low p f ((c, a) :: L) sp = ⟨(c, a) :: L, sp, 0, 1⟩ := by
        rw [low, if_pos hz]
      rw [e]
      exact ⟨fun _ _ => rfl, rfl, (by show cl ((c, a) :: L) = cl ((c, a) :: L) + ds p 0; rw [ds_zero]; rfl), .cons hc hL r, fun x h => ⟨x, h, rfl⟩, h0, fun _ _ => Nat.le_refl _, hl, .inl hz⟩
    · have ih := low_ok hp (L := L) (sp := lessN p f (cutN p f c a sp) a sp) r (fun x h => h0 x (List.mem_cons_of_mem _ h)) (less_len ..)
      have e : low p f ((c, a) :: L) sp = ⟨if cutN p f c a sp < c then (c - cutN p f c a sp, a) :: (low p f L (lessN p f (cutN p f c a sp) a sp)).L else (low p f L (lessN p f (cutN p f c a sp) a sp)).L, (low p f L (lessN p f (cutN p f c a sp) a sp)).sp, cutN p f c a sp * p ^ a + (low p f L (lessN p f (cutN p f c a sp) a sp)).tk, (if cutN p f c a sp < c then chooseN c (cutN p f c a sp) else 1) * (low p f L (lessN p f (cutN p f c a sp) a sp)).mn⟩ := by
        rw [low, if_neg hz]
      rw [e]
      have hn := cut_le p f c a sp
      have hm : ∀ j, j < f → cutN p f c a sp * wt p f j a ≤ sp.getD j 0 := fun j hj => cut_mul hp hj
      have hlt := fun h => cut_lt (p := p) (f := f) (c := c) (a := a) (sp := sp) hp h
      generalize cutN p f c a sp = n at ih hn hm hlt ⊢
      generalize low p f L (lessN p f n a sp) = R at ih ⊢
      obtain ⟨i1, i2, i3, i4, i5, i6, i7, i8, i9⟩ := ih
      have hRa : ∀ x ∈ R.L, x.2 < a := fun x hx => by
        obtain ⟨y, hy, e⟩ := i5 x hx
        rw [← e]
        exact hL y hy
      have htk : R.tk < p ^ a := Nat.lt_of_le_of_lt (by rw [i2]; exact Nat.le_add_left ..) (nl_lt hp r a hL)
      have hds : ds p (n * p ^ a + R.tk) = n + ds p R.tk := by rw [ds_high hp n a _ htk, ds_small hp (by omega)]
      have hcn : c * p ^ a = (c - n) * p ^ a + n * p ^ a := by rw [← Nat.add_mul, Nat.sub_add_cancel hn]
      by_cases hlt2 : n < c
      · simp only [if_pos hlt2]
        refine ⟨fun j hj => ?_, ?_, ?_, .cons (by omega) hRa i4, fun x hx => ?_, fun x hx => ?_, fun j hj => ?_, i8, ?_⟩
        · have h1 := i1 j hj
          rw [less_get hj] at h1
          have h2 := hm j hj
          have h3 : c * wt p f j a = (c - n) * wt p f j a + n * wt p f j a := by rw [← Nat.add_mul, Nat.sub_add_cancel hn]
          show sp.getD j 0 + sj p f j ((c - n, a) :: R.L) = R.sp.getD j 0 + sj p f j ((c, a) :: L)
          rw [sj_cons, sj_cons]
          omega
        · show nl p ((c, a) :: L) = nl p ((c - n, a) :: R.L) + (n * p ^ a + R.tk)
          rw [nl_cons, nl_cons]
          omega
        · show cl ((c, a) :: L) = cl ((c - n, a) :: R.L) + ds p (n * p ^ a + R.tk)
          rw [cl_cons, cl_cons, hds]
          omega
        · rcases List.mem_cons.mp hx with rfl | hx
          · exact ⟨(c, a), List.mem_cons_self .., rfl⟩
          · obtain ⟨y, hy, e⟩ := i5 x hx
            exact ⟨y, List.mem_cons_of_mem _ hy, e⟩
        · rcases List.mem_cons.mp hx with rfl | hx
          · show 0 < c - n
            omega
          · exact i6 x hx
        · have h1 := i7 j hj
          rw [less_get hj] at h1
          show R.sp.getD j 0 ≤ sp.getD j 0
          omega
        · rcases i9 with h | h
          · exact .inl h
          · refine .inr fun x hx => ?_
            rcases List.mem_cons.mp hx with rfl | hx
            · obtain ⟨j, hj, h1⟩ := hlt hlt2
              refine ⟨j, hj, ?_⟩
              have h2 := i7 j hj
              rw [less_get hj] at h2
              have h3 := hm j hj
              show R.sp.getD j 0 < wt p f j a
              omega
            · exact h x hx
      · simp only [if_neg hlt2]
        have hnc : n = c := by omega
        subst hnc
        refine ⟨fun j hj => ?_, ?_, ?_, i4, fun x hx => ?_, i6, fun j hj => ?_, i8, i9⟩
        · have h1 := i1 j hj
          rw [less_get hj] at h1
          have h2 := hm j hj
          rw [sj_cons]
          show sp.getD j 0 + sj p f j R.L = R.sp.getD j 0 + (n * wt p f j a + sj p f j L)
          omega
        · rw [nl_cons]
          show n * p ^ a + nl p L = nl p R.L + (n * p ^ a + R.tk)
          omega
        · show cl ((n, a) :: L) = cl R.L + ds p (n * p ^ a + R.tk)
          rw [cl_cons, hds]
          omega
        · obtain ⟨y, hy, e⟩ := i5 x hx
          exact ⟨y, List.mem_cons_of_mem _ hy, e⟩
        · have h1 := i7 j hj
          rw [less_get hj] at h1
          show R.sp.getD j 0 ≤ sp.getD j 0
          omega
/-- the digits of one class of places -/
def ac (f t : Nat) (L : PL) : Nat := (L.map fun x => if x.2 % f = t then x.1 else 0).sum
theorem ac_cons (f t c a : Nat) (L : PL) : ac f t ((c, a) :: L) = (if a % f = t then c else 0) + ac f t L := by
  unfold ac
  rw [List.map_cons, List.sum_cons]
theorem ac_mem {f t : Nat} : ∀ {L : PL}, 0 < ac f t L → ∃ x ∈ L, x.2 % f = t
  | [], h => absurd h (by show ¬ 0 < 0; omega)
  | (c, a) :: L, h => by
    by_cases ha : a % f = t
    · exact ⟨(c, a), List.mem_cons_self .., ha⟩
    · rw [ac_cons, if_neg ha, Nat.zero_add] at h
      obtain ⟨x, hx, e⟩ := ac_mem h
      exact ⟨x, List.mem_cons_of_mem _ hx, e⟩
theorem wt_mod (p f j a : Nat) : wt p f j a = p ^ ((a % f + j) % f) := by
  unfold wt
  rw [Nat.mod_add_mod]
theorem sj1 (p : Nat) : ∀ L : PL, sj p 1 0 L = ac 1 0 L
  | [] => rfl
  | (c, a) :: L => by
    rw [sj_cons, ac_cons, sj1 p L, wt_mod, if_pos (Nat.mod_one a), Nat.mod_one, Nat.pow_zero, Nat.mul_one]
theorem sj2 (p : Nat) : ∀ L : PL, sj p 2 0 L = ac 2 0 L + p * ac 2 1 L ∧ sj p 2 1 L = p * ac 2 0 L + ac 2 1 L
  | [] => ⟨rfl, rfl⟩
  | (c, a) :: L => by
    obtain ⟨h0, h1⟩ := sj2 p L
    have hm : a % 2 = 0 ∨ a % 2 = 1 := by omega
    rw [sj_cons, sj_cons, ac_cons, ac_cons, h0, h1, wt_mod, wt_mod]
    rcases hm with e | e <;> rw [e] <;> simp [Nat.mul_add, Nat.mul_comm] <;> omega
theorem sj3 (p : Nat) : ∀ L : PL, sj p 3 0 L = ac 3 0 L + p * ac 3 1 L + p ^ 2 * ac 3 2 L ∧ sj p 3 1 L = p * ac 3 0 L + p ^ 2 * ac 3 1 L + ac 3 2 L ∧ sj p 3 2 L = p ^ 2 * ac 3 0 L + ac 3 1 L + p * ac 3 2 L
  | [] => ⟨rfl, rfl, rfl⟩
  | (c, a) :: L => by
    obtain ⟨h0, h1, h2⟩ := sj3 p L
    have hm : a % 3 = 0 ∨ a % 3 = 1 ∨ a % 3 = 2 := by omega
    rw [sj_cons, sj_cons, sj_cons, ac_cons, ac_cons, ac_cons, h0, h1, h2, wt_mod, wt_mod, wt_mod]
    rcases hm with e | e | e <;> rw [e] <;> simp [Nat.mul_add, Nat.mul_comm] <;> omega
/-- p and f of the seven fields -/
inductive PFq : Nat → Nat → Prop
  | one {p : Nat} (h : 1 < p) : PFq p 1
  | four : PFq 2 2
  | nine : PFq 3 2
  | eight : PFq 2 3
theorem min_pos {sp : List Nat} (h : minN sp ≠ 0) {j : Nat} (hj : j < sp.length) : 0 < sp.getD j 0 := by
  have := minN_le sp (sp.getD j 0) (by rw [List.getD_eq_getElem?_getD, List.getElem?_eq_getElem hj]; exact List.getElem_mem hj)
  omega
/-- what is left stops at 0 -/
theorem low_zero {p f m : Nat} (hpf : PFq p f) {L : PL} {sp : List Nat} (hl : sp.length = f) (hm : 1 ≤ m) (he : ∀ j, j < f → sp.getD j 0 + (p ^ f - 1) * m = sj p f j L) (hs : minN sp = 0 ∨ ∀ x ∈ L, ∃ j, j < f ∧ sp.getD j 0 < wt p f j x.2) : minN sp = 0 := by
  rcases hs with h | hs
  · exact h
  · by_cases h0 : minN sp = 0
    · exact h0
    · exfalso
      have st : ∀ t, 0 < ac f t L → ∃ j, j < f ∧ sp.getD j 0 < p ^ ((t + j) % f) := fun t ht => by
        obtain ⟨x, hx, e⟩ := ac_mem ht
        obtain ⟨j, hj, h1⟩ := hs x hx
        rw [wt_mod, e] at h1
        exact ⟨j, hj, h1⟩
      have pos : ∀ j, j < f → 0 < sp.getD j 0 := fun j hj => min_pos h0 (by omega)
      generalize sp.getD = g at he st pos
      cases hpf with
      | one hp =>
        have e0 := he 0 (by omega)
        have p0 := pos 0 (by omega)
        rw [sj1] at e0
        obtain ⟨j, hj, h1⟩ := st 0 (by omega)
        have : j = 0 := by omega
        subst this
        simp at h1
        omega
      | four =>
        have e0 := he 0 (by omega)
        have e1 := he 1 (by omega)
        have p0 := pos 0 (by omega)
        have p1 := pos 1 (by omega)
        rw [(sj2 2 L).1] at e0
        rw [(sj2 2 L).2] at e1
        have s0 : 0 < ac 2 0 L → g 1 0 < 2 := fun h => by
          obtain ⟨j, hj, h1⟩ := st 0 h
          have : j = 0 ∨ j = 1 := by omega
          rcases this with rfl | rfl <;> simp at h1 <;> omega
        have s1 : 0 < ac 2 1 L → g 0 0 < 2 := fun h => by
          obtain ⟨j, hj, h1⟩ := st 1 h
          have : j = 0 ∨ j = 1 := by omega
          rcases this with rfl | rfl <;> simp at h1 <;> omega
        generalize ac 2 0 L = A at *
        generalize ac 2 1 L = B at *
        omega
      | nine =>
        have e0 := he 0 (by omega)
        have e1 := he 1 (by omega)
        have p0 := pos 0 (by omega)
        have p1 := pos 1 (by omega)
        rw [(sj2 3 L).1] at e0
        rw [(sj2 3 L).2] at e1
        have s0 : 0 < ac 2 0 L → g 1 0 < 3 := fun h => by
          obtain ⟨j, hj, h1⟩ := st 0 h
          have : j = 0 ∨ j = 1 := by omega
          rcases this with rfl | rfl <;> simp at h1 <;> omega
        have s1 : 0 < ac 2 1 L → g 0 0 < 3 := fun h => by
          obtain ⟨j, hj, h1⟩ := st 1 h
          have : j = 0 ∨ j = 1 := by omega
          rcases this with rfl | rfl <;> simp at h1 <;> omega
        generalize ac 2 0 L = A at *
        generalize ac 2 1 L = B at *
        generalize g 0 0 = x at *
        generalize g 1 0 = y at *
        simp only [Nat.reducePow, Nat.reduceSub] at e0 e1
        by_cases hA : A = 0
        · by_cases hB : B = 0
          · omega
          · have : x = 1 ∨ x = 2 := by omega
            rcases this with rfl | rfl <;> omega
        · have hy : y = 1 ∨ y = 2 := by omega
          by_cases hB : B = 0
          · rcases hy with rfl | rfl <;> omega
          · have hx : x = 1 ∨ x = 2 := by omega
            rcases hy with rfl | rfl <;> rcases hx with rfl | rfl <;> omega
      | eight =>
        have e0 := he 0 (by omega)
        have e1 := he 1 (by omega)
        have e2 := he 2 (by omega)
        have p0 := pos 0 (by omega)
        have p1 := pos 1 (by omega)
        have p2 := pos 2 (by omega)
        rw [(sj3 2 L).1] at e0
        rw [(sj3 2 L).2.1] at e1
        rw [(sj3 2 L).2.2] at e2
        have three : ∀ j, j < 3 → j = 0 ∨ j = 1 ∨ j = 2 := fun j h => by omega
        have s0 : 0 < ac 3 0 L → g 1 0 < 2 ∨ g 2 0 < 4 := fun h => by
          obtain ⟨j, hj, h1⟩ := st 0 h
          rcases three j hj with rfl | rfl | rfl <;> simp at h1 <;> omega
        have s1 : 0 < ac 3 1 L → g 0 0 < 2 ∨ g 1 0 < 4 := fun h => by
          obtain ⟨j, hj, h1⟩ := st 1 h
          rcases three j hj with rfl | rfl | rfl <;> simp at h1 <;> omega
        have s2 : 0 < ac 3 2 L → g 0 0 < 4 ∨ g 2 0 < 2 := fun h => by
          obtain ⟨j, hj, h1⟩ := st 2 h
          rcases three j hj with rfl | rfl | rfl <;> simp at h1 <;> omega
        generalize ac 3 0 L = A at *
        generalize ac 3 1 L = B at *
        generalize ac 3 2 L = C at *
        generalize g 0 0 = x at *
        generalize g 1 0 = y at *
        generalize g 2 0 = z at *
        simp only [Nat.reducePow, Nat.reduceSub] at e0 e1 e2
        clear hs he st pos h0
        have hA : A = 0 ∨ y = 1 ∨ z = 1 ∨ z = 2 ∨ z = 3 := by omega
        have hB : B = 0 ∨ x = 1 ∨ y = 1 ∨ y = 2 ∨ y = 3 := by omega
        have hC : C = 0 ∨ z = 1 ∨ x = 1 ∨ x = 2 ∨ x = 3 := by omega
        clear s0 s1 s2
        rcases hA with h | h | h | h | h <;> rcases hB with k | k | k | k | k <;> rcases hC with l | l | l | l | l <;> subst_vars <;> omega
end Own
/-! partings: the chain of least numbers, and its differences; core Lean alone -/
namespace Own
theorem PFq.p {p f : Nat} (h : PFq p f) : 1 < p ∧ 1 ≤ f ∧ f ≤ 3 := by
  cases h with
  | one h => exact ⟨h, by omega, by omega⟩
  | four => exact ⟨by omega, by omega, by omega⟩
  | nine => exact ⟨by omega, by omega, by omega⟩
  | eight => exact ⟨by omega, by omega, by omega⟩
/-- a shift sum that q - 1 divides tells that q - 1 divides the number -/
theorem dvd_ss {p f j n m : Nat} (hp : 1 < p) (hf : 1 ≤ f) (hj : j < f) (h : ds (p ^ f) (p ^ j * n) = (p ^ f - 1) * m) : n % (p ^ f - 1) = 0 := by
  have hq := q_gt hp hf
  have h1 := ds_mod hq (p ^ j * n)
  rw [h, Nat.mul_mod_right] at h1
  have h2 : (p ^ f - 1) ∣ p ^ j * n := Nat.dvd_of_mod_eq_zero h1.symm
  have h3 : (p ^ f - 1) ∣ p ^ (f - j) * (p ^ j * n) := Nat.dvd_mul_left_of_dvd h2 _
  have h4 : p ^ (f - j) * (p ^ j * n) = (p ^ f - 1) * n + n := by
    rw [← Nat.mul_assoc, ← Nat.pow_add, Nat.sub_add_cancel (Nat.le_of_lt hj), ← Nat.succ_mul]
    congr 1
    omega
  rw [h4] at h3
  exact Nat.mod_eq_zero_of_dvd ((Nat.dvd_add_right (Nat.dvd_mul_right _ _)).mp h3)
/-- the least shift sum of b is just m times q - 1 -/
def Mn (p f m b : Nat) : Prop := (∀ j, j < f → (p ^ f - 1) * m ≤ ds (p ^ f) (p ^ j * b)) ∧ ∃ j, j < f ∧ ds (p ^ f) (p ^ j * b) = (p ^ f - 1) * m
/-- b is left of a -/
def Lft (p a b : Nat) : Prop := b ≤ a ∧ ds p a = ds p b + ds p (a - b)
def FI (p f d k : Nat) (xs : List Nat) : Prop := ∀ i, i < xs.length → Lft p ((k :: xs).getD i 0) (xs.getD i 0) ∧ Mn p f (d - i) (xs.getD i 0)
structure Stt (p f : Nat) (m : Nat) (L : PL) (sp : List Nat) (n : Nat) : Prop where
  vd : Vd p L
  po : ∀ x ∈ L, 0 < x.1
  ln : sp.length = f
  nm : nl p L = n
  eq : ∀ j, j < f → sp.getD j 0 + (p ^ f - 1) * m = sj p f j L
def moreN (s : Nat) (sp : List Nat) : List Nat := sp.map (· + s)
theorem more_get {s : Nat} {sp : List Nat} {j : Nat} (h : j < sp.length) : (moreN s sp).getD j 0 = sp.getD j 0 + s := by
  unfold moreN
  rw [List.getD_eq_getElem?_getD, List.getD_eq_getElem?_getD, List.getElem?_map, List.getElem?_eq_getElem h]
  rfl
theorem step_ok {p f m : Nat} (hpf : PFq p f) {L : PL} {sp : List Nat} {n : Nat} (h : Stt p f (m + 1) L sp n) :
    Stt p f m (low p f L sp).L (moreN (p ^ f - 1) (low p f L sp).sp) (nl p (low p f L sp).L) ∧ Lft p n (nl p (low p f L sp).L) ∧ Mn p f (m + 1) (nl p (low p f L sp).L) ∧ n = nl p (low p f L sp).L + (low p f L sp).tk := by
  obtain ⟨hp, hf, hf3⟩ := hpf.p
  have r := low_ok (f := f) hp h.vd h.po h.ln
  generalize low p f L sp = R at r ⊢
  have he : ∀ j, j < f → R.sp.getD j 0 + (p ^ f - 1) * (m + 1) = sj p f j R.L := fun j hj => by
    have h1 := r.eq j hj
    have h2 := h.eq j hj
    omega
  have hz := low_zero hpf (sp := R.sp) (L := R.L) (m := m + 1) r.ln (by omega) he r.st
  have hs : ∀ j, j < f → ds (p ^ f) (p ^ j * nl p R.L) = R.sp.getD j 0 + (p ^ f - 1) * (m + 1) := fun j hj => by rw [← sj_ds hp hf j r.vd, he j hj]
  have hne : R.sp ≠ [] := fun z => by
    have h1 := r.ln
    rw [z] at h1
    have : ([] : List Nat).length = 0 := rfl
    omega
  obtain ⟨j0, hj0, e0⟩ := List.getElem_of_mem (minN_mem R.sp hne)
  have hj0f : j0 < f := by rw [← r.ln]; exact hj0
  have e1 : R.sp.getD j0 0 = 0 := by
    rw [List.getD_eq_getElem?_getD, List.getElem?_eq_getElem hj0, ← hz, ← e0]
    rfl
  have hn := h.nm
  have hnm := r.nm
  refine ⟨⟨r.vd, r.po, by unfold moreN; rw [List.length_map]; exact r.ln, rfl, fun j hj => ?_⟩, ⟨by omega, ?_⟩, ⟨fun j hj => ?_, j0, hj0f, ?_⟩, by omega⟩
  · rw [more_get (by rw [r.ln]; exact hj), ← he j hj, Nat.mul_succ]
    omega
  · have h3 : n - nl p R.L = R.tk := by omega
    rw [h3, ← hn, ds_nl hp h.vd, ds_nl hp r.vd]
    exact r.dg
  · rw [hs j hj]
    omega
  · rw [hs j0 hj0f, e1, Nat.zero_add]
theorem getD_app {xs : List Nat} {x i : Nat} (h : i < xs.length) : (xs ++ [x]).getD i 0 = xs.getD i 0 := by
  rw [List.getD_eq_getElem?_getD, List.getD_eq_getElem?_getD, List.getElem?_append_left h]
theorem getD_last (xs : List Nat) (x : Nat) : (xs ++ [x]).getD xs.length 0 = x := by
  rw [List.getD_eq_getElem?_getD, List.getElem?_append_right (Nat.le_refl _), Nat.sub_self]
  rfl
theorem fi_snoc {p f d k x : Nat} {xs : List Nat} (h : FI p f d k xs) (h1 : Lft p ((k :: xs).getD xs.length 0) x) (h2 : Mn p f (d - xs.length) x) : FI p f d k (xs ++ [x]) := by
  intro i hi
  rw [List.length_append, List.length_singleton] at hi
  by_cases hlt : i < xs.length
  · have h3 := h i hlt
    rw [getD_app hlt]
    have e : (k :: (xs ++ [x])).getD i 0 = (k :: xs).getD i 0 := by
      show ((k :: xs) ++ [x]).getD i 0 = _
      exact getD_app (by rw [List.length_cons]; omega)
    rw [e]
    exact h3
  · have hie : i = xs.length := by omega
    subst hie
    rw [getD_last]
    have e : (k :: (xs ++ [x])).getD xs.length 0 = (k :: xs).getD xs.length 0 := by
      show ((k :: xs) ++ [x]).getD xs.length 0 = _
      exact getD_app (by rw [List.length_cons]; omega)
    rw [e]
    exact ⟨h1, h2⟩
/-- the differences of s 0, s 1, .., s n -/
def difs (s : Nat → Nat) (n : Nat) : List Nat := (List.range n).map fun i => s i - s (i + 1)
theorem difs_succ (s : Nat → Nat) (n : Nat) : difs s (n + 1) = difs s n ++ [s n - s (n + 1)] := by
  unfold difs
  rw [List.range_succ, List.map_append]
  rfl
theorem difs_sum (s : Nat → Nat) : ∀ n, (∀ i, i < n → s (i + 1) ≤ s i) → (difs s n).sum + s n = s 0
  | 0, _ => by
    show 0 + s 0 = s 0
    omega
  | n + 1, h => by
    have h1 := difs_sum s n fun i hi => h i (by omega)
    have h2 := h n (by omega)
    rw [difs_succ, List.sum_append, List.sum_singleton]
    omega
theorem difs_ds {p : Nat} (s : Nat → Nat) : ∀ n, (∀ i, i < n → ds p (s i) = ds p (s (i + 1)) + ds p (s i - s (i + 1))) → ((difs s n).map (ds p)).sum + ds p (s n) = ds p (s 0)
  | 0, _ => by
    show 0 + ds p (s 0) = ds p (s 0)
    omega
  | n + 1, h => by
    have h1 := difs_ds s n fun i hi => h i (by omega)
    have h2 := h n (by omega)
    rw [difs_succ, List.map_append, List.sum_append]
    simp only [List.map_cons, List.map_nil, List.sum_cons, List.sum_nil]
    omega
/-- the parting of a chain -/
def seqN (k : Nat) (xs : List Nat) (i : Nat) : Nat := (k :: xs ++ [0]).getD i 0
def partN (k : Nat) (xs : List Nat) : List Nat := (difs (seqN k xs) (xs.length + 1)).reverse
/-- what a parting is -/
structure Prt (p s d k : Nat) (ms : List Nat) : Prop where
  len : ms.length = d + 1
  sum : ms.sum = k
  dg : (ms.map (ds p)).sum = ds p k
  mul : ∀ i, i < d → 0 < ms.getD i 0 ∧ ms.getD i 0 % s = 0
theorem seq_lo {k : Nat} {xs : List Nat} {i : Nat} (h : i ≤ xs.length) : seqN k xs i = (k :: xs).getD i 0 := by
  unfold seqN
  exact getD_app (xs := k :: xs) (by rw [List.length_cons]; omega)
theorem seq_hi (k : Nat) (xs : List Nat) : seqN k xs (xs.length + 1) = 0 := by
  unfold seqN
  exact getD_last (k :: xs) 0
theorem seq_step {p f d k : Nat} {xs : List Nat} (h : FI p f d k xs) (hl : xs.length = d) : ∀ i, i < d + 1 → seqN k xs (i + 1) ≤ seqN k xs i ∧ ds p (seqN k xs i) = ds p (seqN k xs (i + 1)) + ds p (seqN k xs i - seqN k xs (i + 1)) := by
  intro i hi
  by_cases hid : i < d
  · obtain ⟨⟨h1, h2⟩, _⟩ := h i (by omega)
    rw [seq_lo (i := i) (by omega), seq_lo (i := i + 1) (by omega)]
    have e : (k :: xs).getD (i + 1) 0 = xs.getD i 0 := by simp [List.getD_eq_getElem?_getD]
    rw [e]
    exact ⟨h1, h2⟩
  · have : i = d := by omega
    subst this
    rw [← hl, seq_hi]
    refine ⟨Nat.zero_le _, ?_⟩
    rw [ds_zero, Nat.sub_zero, Nat.zero_add]
theorem mn_mul {p f m b : Nat} (hpf : PFq p f) (h : Mn p f m b) : b % (p ^ f - 1) = 0 := by
  obtain ⟨hp, hf, _⟩ := hpf.p
  obtain ⟨_, j, hj, e⟩ := h
  exact dvd_ss hp hf hj e
theorem prt_of {p f d k : Nat} (hpf : PFq p f) {xs : List Nat} (h : FI p f d k xs) (hl : xs.length = d) : Prt p (p ^ f - 1) d k (partN k xs) := by
  obtain ⟨hp, hf, _⟩ := hpf.p
  have st := seq_step h hl
  have hlen : (difs (seqN k xs) (d + 1)).length = d + 1 := by unfold difs; rw [List.length_map, List.length_range]
  have hp2 : partN k xs = (difs (seqN k xs) (d + 1)).reverse := by unfold partN; rw [hl]
  have hz : seqN k xs (d + 1) = 0 := by rw [← hl]; exact seq_hi k xs
  have h0 : seqN k xs 0 = k := rfl
  refine ⟨by rw [hp2, List.length_reverse, hlen], ?_, ?_, fun i hi => ?_⟩
  · have := difs_sum (seqN k xs) (d + 1) fun i hi => (st i hi).1
    rw [hp2, List.sum_reverse]
    omega
  · have := difs_ds (p := p) (seqN k xs) (d + 1) fun i hi => (st i hi).2
    rw [hz, ds_zero, h0] at this
    rw [hp2, List.map_reverse, List.sum_reverse]
    omega
  · have e : (partN k xs).getD i 0 = seqN k xs (d - i) - seqN k xs (d - i + 1) := by
      rw [hp2, List.getD_eq_getElem?_getD, List.getElem?_reverse (by rw [hlen]; omega), hlen]
      unfold difs
      rw [List.getElem?_map, List.getElem?_range (by omega), show d + 1 - 1 - i = d - i by omega]
      rfl
    rw [e]
    -- s (d - i) is of the chain, and s (d - i + 1) is of the chain or 0
    have g : ∀ t, t < d → seqN k xs (t + 1) = xs.getD t 0 ∧ Mn p f (d - t) (seqN k xs (t + 1)) := fun t ht => by
      have h3 : seqN k xs (t + 1) = xs.getD t 0 := by
        rw [seq_lo (by omega)]
        simp [List.getD_eq_getElem?_getD]
      exact ⟨h3, h3 ▸ (h t (by omega)).2⟩
    obtain ⟨_, ma⟩ := g (d - i - 1) (by omega)
    rw [show d - i - 1 + 1 = d - i by omega, show d - (d - i - 1) = i + 1 by omega] at ma
    have hle := (st (d - i) (by omega)).1
    have da := mn_mul hpf ma
    have hq := q_gt hp hf
    by_cases hi0 : i = 0
    · subst hi0
      rw [Nat.sub_zero, hz, Nat.sub_zero]
      refine ⟨?_, by rw [Nat.sub_zero] at da; exact da⟩
      obtain ⟨_, j, hj, e1⟩ := ma
      rcases Nat.eq_zero_or_pos (seqN k xs d) with z | z
      · exfalso
        rw [Nat.sub_zero, z, Nat.mul_zero, ds_zero, Nat.zero_add, Nat.mul_one] at e1
        omega
      · exact z
    · obtain ⟨_, mb⟩ := g (d - i) (by omega)
      rw [show d - (d - i) = i by omega] at mb
      have db := mn_mul hpf mb
      refine ⟨?_, ?_⟩
      · rcases Nat.eq_zero_or_pos (seqN k xs (d - i) - seqN k xs (d - i + 1)) with z | z
        · exfalso
          have e2 : seqN k xs (d - i) = seqN k xs (d - i + 1) := by omega
          obtain ⟨hb1, _⟩ := ma
          obtain ⟨_, j, hj, e3⟩ := mb
          have h5 := hb1 j hj
          rw [e2, e3, Nat.mul_succ] at h5
          omega
        · exact z
      · exact Nat.sub_mod_eq_zero_of_mod_eq (by rw [da, db])
end Own
/-! own rules: zip of a list and a tuple -/
namespace Own
open PySem PySem.Spec PyProof.Rows L2 Evl
/-- what zip asks of a thing that it walks: its iterator at turn i, its items -/
structure Kd where
  St : Heap → Addr → Addr → Nat → Prop
  Sq : Heap → Addr → Array Value → Prop
structure KdOk (κ : Kd) : Prop where
  stay : ∀ {h h' : Heap} {a l : Addr} {i : Nat}, κ.St h a l i → (∀ o, h.get? a = some o → h'.get? a = some o) → κ.St h' a l i
  seq : ∀ {h h' : Heap} {l : Addr} {xs : Array Value}, κ.Sq h l xs → (∀ o, h.get? l = some o → h'.get? l = some o) → κ.Sq h' l xs
  here : ∀ {h : Heap} {a l : Addr} {i : Nat}, κ.St h a l i → ∃ o, h.get? a = some o ∧ ∀ v, o.data ≠ .cell v
  nxt : ∀ {P : Program} {w : World} {A : Around} {E : Value → Shared → Prop} {s : Shared} {a l : Addr} {i : Nat} {xs : Array Value} {x : Value} {Q : Value → Shared → Prop}, κ.St s.heap a l i → κ.Sq s.heap l xs → xs[i]? = some x →
    (∀ h', κ.St h' a l (i + 1) → Heap.SameBut a s.heap h' → Q x { s with heap := h' }) → wpAny (model P w) A (Builtin.SmallTypes.nextOf (.ref a)) Q E s
  out : ∀ {P : Program} {w : World} {A : Around} {E : Value → Shared → Prop} {s : Shared} {a l : Addr} {i : Nat} {xs : Array Value} {Q : Value → Shared → Prop}, A.handled = none → κ.St s.heap a l i → κ.Sq s.heap l xs → xs[i]? = none →
    (∀ h' e, Heap.ExtBut a s.heap h' → (∃ o, h'.get? e = some o ∧ o.cls = .type "StopIteration") → E (.ref e) { s with heap := h' }) → wpAny (model P w) A (Builtin.SmallTypes.nextOf (.ref a)) Q E s
def kL : Kd := ⟨fun h a l i => h.IsListIter a l i, fun h l xs => h.IsList l xs⟩
def kT : Kd := ⟨fun h a l i => h.IsTupleIter a l i, fun h l xs => h.IsTuple l xs⟩
theorem kL_ok : KdOk kL where
  stay := fun x e => x.at e
  seq := fun ⟨o, ho, r⟩ e => ⟨o, e _ ho, r⟩
  here := fun ⟨o, ho, _, hd⟩ => ⟨o, ho, fun v z => by rw [hd] at z; cases z⟩
  nxt := fun h1 h2 h3 q => wpAny_nextOf_list_item h1 h2 h3 q
  out := fun h0 h1 h2 h3 q => wpAny_nextOf_list_end h0 h1 h2 h3 q
theorem kT_ok : KdOk kT where
  stay := fun x e => x.at e
  seq := fun ⟨o, ho, r⟩ e => ⟨o, e _ ho, r⟩
  here := fun ⟨o, ho, _, hd⟩ => ⟨o, ho, fun v z => by rw [hd] at z; cases z⟩
  nxt := fun h1 h2 h3 q => RZ.nextOf_tuple_item h1 h2 h3 q
  out := fun h0 h1 h2 h3 q => RZ.nextOf_tuple_end h0 h1 h2 h3 q
section
variable {prog : Program} {w : World} {A : Around} {E : Value → Shared → Prop} {s : Shared} {κ μ : Kd} {z TI TO a1 a2 l1 l2 : Addr} {n m : Nat} {xs ys : Array Value}
theorem zk_item {x y a b : Value} {Q : Value → Shared → Prop} (kκ : KdOk κ) (kμ : KdOk μ) (D : ZipApart z TI TO a1 a2 l1 l2) (Z : IsZip s.heap z TI TO .none) (hI : IsPair s.heap TI (.ref a1) (.ref a2)) (hO : IsPair s.heap TO a b) (u1 : κ.St s.heap a1 l1 n) (u2 : μ.St s.heap a2 l2 m) (v1 : κ.Sq s.heap l1 xs) (v2 : μ.Sq s.heap l2 ys) (hx : xs[n]? = some x) (hy : ys[m]? = some y)
    (fin : ∀ h', IsZip h' z TI TO (rawInt s.heap.objs.size) → IsPair h' TO x y → κ.St h' a1 l1 (n + 1) → μ.St h' a2 l2 (m + 1) → IsPair h' s.heap.objs.size x y → h'.objs.size = s.heap.objs.size + 1 → (∀ c o, c ≠ z → c ≠ TO → c ≠ a1 → c ≠ a2 → s.heap.get? c = some o → h'.get? c = some o) → Q (.ref s.heap.objs.size) { s with heap := h' }) :
    wpAny (model prog w) A (Builtin.«zip.__next__» ⟨[.ref z], []⟩) (fun r s' => ∃ v, r = .done (.ret v) ∧ Q v s') E s := by
  show wpAny _ _ (field (.ref z) 2 >>= _) _ _ _
  refine wpAny_bind (wpAny_field Z rfl (x := .bool false) rfl ?_); show wpAny _ _ (field (.ref z) 3 >>= _) _ _ _
  refine wpAny_bind (wpAny_field Z rfl (x := .ref TI) rfl (wpAny_bind (wpAny_seqItems hI rfl ?_)))
  show wpAny _ _ (Builtin.SmallTypes.ownedTupleIsFree (.ref z) >>= _) _ _ _
  refine wpAny_bind ?_; unfold Builtin.SmallTypes.ownedTupleIsFree
  refine wpAny_bind (wpAny_field Z rfl (x := .none) rfl (wpAny_pure ?_)); simp only [if_true]
  refine wpAny_bind (wpAny_rule (wpAny_bind (wpAny_field Z rfl (x := .ref TO) rfl (wpAny_bind (wpAny_setField_rec Z (by simp) fun hA ZA sA => ?_)))))
  replace ZA : IsZip hA z TI TO .ellipsis := ZA
  refine wpAny_bind ?_; simp only [List.zipIdx_cons, List.zipIdx_nil, List.forIn_cons, List.forIn_nil]
  refine wpAny_bind (wpAny_bind (wpAny_onRaise ?_)); show wpAny _ _ (Builtin.SmallTypes.nextOf (.ref a1) >>= _) _ _ _
  refine wpAny_bind (kκ.nxt (kκ.stay u1 fun o e => sA.extBut _ _ D.i1z e) (kκ.seq v1 fun o e => sA.extBut _ _ D.l1z e) hx fun hB uB sB => wpAny_pure ?_)
  have OB : IsPair hB TO a b := sB.extBut _ _ D.TOi1 (sA.extBut _ _ D.TOz hO)
  refine wpAny_bind (wpAny_seqItems OB rfl (wpAny_bind (wpAny_updateSeq_pair OB fun hC OC sC => ?_)))
  replace OC : IsPair hC TO x b := OC
  refine wpAny_bind (wpAny_letGo (wpAny_pure ?_)); refine wpAny_bind (wpAny_bind (wpAny_onRaise ?_)); show wpAny _ _ (Builtin.SmallTypes.nextOf (.ref a2) >>= _) _ _ _
  refine wpAny_bind (kμ.nxt (kμ.stay u2 fun o e => sC.extBut _ _ D.TOi2.symm (sB.extBut _ _ D.i12.symm (sA.extBut _ _ D.i2z e))) (kμ.seq v2 fun o e => sC.extBut _ _ D.l2TO (sB.extBut _ _ D.l2i1 (sA.extBut _ _ D.l2z e))) hy fun hD uD sD => wpAny_pure ?_)
  have OD : IsPair hD TO x b := sD.extBut _ _ D.TOi2 OC
  refine wpAny_bind (wpAny_seqItems OD rfl (wpAny_bind (wpAny_updateSeq_pair OD fun hF OF sF => ?_)))
  replace OF : IsPair hF TO x y := OF
  refine wpAny_bind (wpAny_letGo (wpAny_pure (wpAny_pure (wpAny_bind (wpAny_seqItems OF rfl (wpAny_bind (wpAny_newTuple ?_)))))))
  have many : hF.objs.size = s.heap.objs.size := by rw [sF.1, sD.1, sC.1, sB.1, sA.1]
  have ZF : IsZip hF z TI TO .ellipsis := sF.extBut _ _ D.TOz.symm (sD.extBut _ _ D.i2z.symm (sC.extBut _ _ D.TOz.symm (sB.extBut _ _ D.i1z.symm ZA)))
  have old : ∀ c o, c ≠ z → c ≠ TO → c ≠ a1 → c ≠ a2 → s.heap.get? c = some o → hF.get? c = some o := fun c o n1 n2 n3 n4 e => sF.extBut _ _ n2 (sD.extBut _ _ n4 (sC.extBut _ _ n2 (sB.extBut _ _ n3 (sA.extBut _ _ n1 e))))
  have wA : κ.St hF a1 l1 (n + 1) := kκ.stay uB fun o e => sF.extBut _ _ D.TOi1.symm (sD.extBut _ _ D.i12 (sC.extBut _ _ D.TOi1.symm e))
  have wB : μ.St hF a2 l2 (m + 1) := kμ.stay uD fun o e => sF.extBut _ _ D.TOi2.symm e
  have zl : z < hF.objs.size := Heap.lt_size ZF
  show wpAny _ _ (Builtin.SmallTypes.ownedTupleHandOut (.ref z) (.ref hF.objs.size) >>= _) _ _ _
  refine wpAny_bind ?_; unfold Builtin.SmallTypes.ownedTupleHandOut
  have ZG : IsZip (hF.push { cls := .type "tuple", data := .seq #[x, y] }) z TI TO .ellipsis := Heap.get?_push_of_some _ ZF
  refine wpAny_bind (wpAny_setField_rec ZG (by simp) fun hG' ZG' sG' => ?_)
  replace ZG' : IsZip hG' z TI TO (rawInt hF.objs.size) := ZG'
  refine wpAny_setField_rec ZG' (by simp) fun hK ZK sK => ?_
  replace ZK : IsZip hK z TI TO (rawInt hF.objs.size) := ZK
  have lift : ∀ c o, c ≠ z → hF.get? c = some o → hK.get? c = some o := fun c o n1 e => sK.extBut _ _ n1 (sG'.extBut _ _ n1 (Heap.get?_push_of_some _ e))
  have TK : IsPair hK hF.objs.size x y := sK.extBut _ _ (Nat.ne_of_gt zl) (sG'.extBut _ _ (Nat.ne_of_gt zl) (Heap.get?_push_size _ rfl))
  have nK : hK.objs.size = hF.objs.size + 1 := by rw [sK.1, sG'.1, Heap.size_push]
  have ne1 : a1 ≠ z := D.i1z
  rw [many] at ZK TK nK
  refine wpAny_pure ⟨_, rfl, ?_⟩; show Q (.ref hF.objs.size) _; rw [many]
  exact fin hK ZK (lift _ _ D.TOz OF) (kκ.stay wA fun o e => lift _ o D.i1z e) (kμ.stay wB fun o e => lift _ o D.i2z e) TK nK fun c o n1 n2 n3 n4 e => lift c o n1 (old c o n1 n2 n3 n4 e)
theorem zk_end {a b : Value} {Q : Fin → Shared → Prop} (kκ : KdOk κ) (kμ : KdOk μ) (hh : A.handled = none) (D : ZipApart z TI TO a1 a2 l1 l2) (Z : IsZip s.heap z TI TO .none) (hI : IsPair s.heap TI (.ref a1) (.ref a2)) (hO : IsPair s.heap TO a b) (u1 : κ.St s.heap a1 l1 n) (u2 : μ.St s.heap a2 l2 m) (v1 : κ.Sq s.heap l1 xs) (v2 : μ.Sq s.heap l2 ys) (hend : xs[n]? = none ∨ ys[m]? = none)
    (hE : ∀ h' e, (∀ c o, c ≠ z → c ≠ TO → c ≠ a1 → c ≠ a2 → s.heap.get? c = some o → h'.get? c = some o) → (∃ o, h'.get? e = some o ∧ o.cls = .type "StopIteration") → E (.ref e) { s with heap := h' }) : wpAny (model prog w) A (Builtin.«zip.__next__» ⟨[.ref z], []⟩) Q E s := by
  show wpAny _ _ (field (.ref z) 2 >>= _) _ _ _
  refine wpAny_bind (wpAny_field Z rfl (x := .bool false) rfl ?_); show wpAny _ _ (field (.ref z) 3 >>= _) _ _ _
  refine wpAny_bind (wpAny_field Z rfl (x := .ref TI) rfl (wpAny_bind (wpAny_seqItems hI rfl ?_)))
  show wpAny _ _ (Builtin.SmallTypes.ownedTupleIsFree (.ref z) >>= _) _ _ _
  refine wpAny_bind ?_; unfold Builtin.SmallTypes.ownedTupleIsFree
  refine wpAny_bind (wpAny_field Z rfl (x := .none) rfl (wpAny_pure ?_)); simp only [if_true]
  refine wpAny_bind (wpAny_rule (wpAny_bind (wpAny_field Z rfl (x := .ref TO) rfl (wpAny_bind (wpAny_setField_rec Z (by simp) fun hA ZA sA => ?_)))))
  replace ZA : IsZip hA z TI TO .ellipsis := ZA
  refine wpAny_bind ?_; simp only [List.zipIdx_cons, List.zipIdx_nil, List.forIn_cons, List.forIn_nil]
  refine wpAny_bind (wpAny_bind (wpAny_onRaise ?_)); show wpAny _ _ (Builtin.SmallTypes.nextOf (.ref a1) >>= _) _ _ _
  by_cases hx : xs[n]? = none
  · refine wpAny_bind (kκ.out hh (kκ.stay u1 fun o e => sA.extBut _ _ D.i1z e) (kκ.seq v1 fun o e => sA.extBut _ _ D.l1z e) hx fun hB e sB he => ?_)
    obtain ⟨oe, g1, g2⟩ := he
    have ZB : IsZip hB z TI TO .ellipsis := sB _ _ D.i1z.symm ZA
    have hez : e ≠ z := fun q => by rw [q, ZB] at g1; cases g1; simp at g2
    exact wpAny_setField_rec ZB (by simp) fun hC _ sC => hE hC e (fun c o n1 _ n3 _ q => sC.extBut _ _ n1 (sB _ _ n3 (sA.extBut _ _ n1 q))) ⟨oe, sC.extBut _ _ hez g1, g2⟩
  · obtain ⟨x, hx'⟩ := Option.ne_none_iff_exists'.mp hx
    have hy : ys[m]? = none := hend.resolve_left hx
    refine wpAny_bind (kκ.nxt (kκ.stay u1 fun o e => sA.extBut _ _ D.i1z e) (kκ.seq v1 fun o e => sA.extBut _ _ D.l1z e) hx' fun hB uB sB => wpAny_pure ?_)
    have OB : IsPair hB TO a b := sB.extBut _ _ D.TOi1 (sA.extBut _ _ D.TOz hO)
    refine wpAny_bind (wpAny_seqItems OB rfl (wpAny_bind (wpAny_updateSeq_pair OB fun hC OC sC => ?_)))
    refine wpAny_bind (wpAny_letGo (wpAny_pure ?_)); refine wpAny_bind (wpAny_bind (wpAny_onRaise ?_)); show wpAny _ _ (Builtin.SmallTypes.nextOf (.ref a2) >>= _) _ _ _
    refine wpAny_bind (kμ.out hh (kμ.stay u2 fun o e => sC.extBut _ _ D.TOi2.symm (sB.extBut _ _ D.i12.symm (sA.extBut _ _ D.i2z e))) (kμ.seq v2 fun o e => sC.extBut _ _ D.l2TO (sB.extBut _ _ D.l2i1 (sA.extBut _ _ D.l2z e))) hy fun hD e sD he => ?_)
    obtain ⟨oe, g1, g2⟩ := he
    have ZD : IsZip hD z TI TO .ellipsis := sD _ _ D.i2z.symm (sC.extBut _ _ D.TOz.symm (sB.extBut _ _ D.i1z.symm ZA))
    have hez : e ≠ z := fun q => by rw [q, ZD] at g1; cases g1; simp at g2
    exact wpAny_setField_rec ZD (by simp) fun hF _ sF => hE hF e (fun c o n1 n2 n3 n4 q => sF.extBut _ _ n1 (sD _ _ n4 (sC.extBut _ _ n2 (sB.extBut _ _ n3 (sA.extBut _ _ n1 q))))) ⟨oe, sF.extBut _ _ hez g1, g2⟩
theorem zk_nextI {x y a b : Value} {Q : Option Value → Shared → Prop} (kκ : KdOk κ) (kμ : KdOk μ) (D : ZipApart z TI TO a1 a2 l1 l2) (Z : IsZip s.heap z TI TO .none) (hI : IsPair s.heap TI (.ref a1) (.ref a2)) (hO : IsPair s.heap TO a b) (u1 : κ.St s.heap a1 l1 n) (u2 : μ.St s.heap a2 l2 m) (v1 : κ.Sq s.heap l1 xs) (v2 : μ.Sq s.heap l2 ys) (hx : xs[n]? = some x) (hy : ys[m]? = some y)
    (fin : ∀ h', IsZip h' z TI TO (rawInt s.heap.objs.size) → IsPair h' TO x y → κ.St h' a1 l1 (n + 1) → μ.St h' a2 l2 (m + 1) → IsPair h' s.heap.objs.size x y → h'.objs.size = s.heap.objs.size + 1 → (∀ c o, c ≠ z → c ≠ TO → c ≠ a1 → c ≠ a2 → s.heap.get? c = some o → h'.get? c = some o) → Q (some (.ref s.heap.objs.size)) { s with heap := h' }) :
    wpAny (model prog w) A (pyNext (.ref z)) Q E s := by
  have T : s.TypeIs (.ref z) "zip" := ⟨_, Z, rfl⟩
  unfold pyNext
  exact wpAny_bind (wpAny_attempt (wpAny_callSpecial?_slot (name := Str.ofString "__next__") T F.slot_zip_next (wpAny_call_entry F.slot_zip_next T F.entry_zip_next
    (zk_item kκ kμ D Z hI hO u1 u2 v1 v2 hx hy fun h' b1 b2 b3 b4 b5 b6 b7 => wpAny_pure (fin h' b1 b2 b3 b4 b5 b6 b7)) (F.args_zip_next_1 _))))
theorem zk_nextE {a b : Value} {Q : Option Value → Shared → Prop} (kκ : KdOk κ) (kμ : KdOk μ) (hh : A.handled = none) (D : ZipApart z TI TO a1 a2 l1 l2) (Z : IsZip s.heap z TI TO .none) (hI : IsPair s.heap TI (.ref a1) (.ref a2)) (hO : IsPair s.heap TO a b) (u1 : κ.St s.heap a1 l1 n) (u2 : μ.St s.heap a2 l2 m) (v1 : κ.Sq s.heap l1 xs) (v2 : μ.Sq s.heap l2 ys) (hend : xs[n]? = none ∨ ys[m]? = none)
    (fin : ∀ h', (∀ c o, c ≠ z → c ≠ TO → c ≠ a1 → c ≠ a2 → s.heap.get? c = some o → h'.get? c = some o) → Q none { s with heap := h' }) : wpAny (model prog w) A (pyNext (.ref z)) Q E s := by
  have T : s.TypeIs (.ref z) "zip" := ⟨_, Z, rfl⟩
  unfold pyNext
  refine wpAny_bind (wpAny_attempt (wpAny_callSpecial?_slot (name := Str.ofString "__next__") T F.slot_zip_next (wpAny_call_entry F.slot_zip_next T F.entry_zip_next (zk_end kκ kμ hh D Z hI hO u1 u2 v1 v2 hend fun h' e hk he => ?_) (F.args_zip_next_1 _))))
  obtain ⟨o, ho, hc⟩ := he
  exact wpAny_bind (wpAny_isInstance (T := "StopIteration") (b := true) ⟨o, ho, hc⟩ isSubtype_stop (wpAny_pure (fin _ hk)))
end
abbrev zmA (h : Heap) (l : Addr) : Heap := h.push { cls := .type "list_iterator", data := .fields #[.ref l, .int 0 0] }
abbrev zmB (h : Heap) (l t : Addr) : Heap := (zmA h l).push { cls := .type "tuple_iterator", data := .fields #[.ref t, .int 0 0] }
abbrev zmC (h : Heap) (l t : Addr) : Heap := (zmB h l t).push { cls := .type "tuple", data := .seq #[.ref h.objs.size, .ref (zmA h l).objs.size] }
abbrev zmD (h : Heap) (l t : Addr) : Heap := (zmC h l t).push { cls := .type "tuple", data := .seq #[.none, .none] }
abbrev zmE (h : Heap) (l t : Addr) : Heap := (zmD h l t).push { cls := .type "zip", data := .fields #[.none, .bool false, .bool false, .ref (zmB h l t).objs.size, .ref (zmC h l t).objs.size] }
theorem zm_new (l t : Addr) (xs ys : Array Value) : Meets (Builtin.«zip.__new__» ⟨[.type "zip", .ref l, .ref t], []⟩) (fun _ R s => s.heap.IsList l xs ∧ s.heap.IsTuple t ys ∧ R (.ok (.ret (.ref (zmD s.heap l t).objs.size))) { s with heap := zmE s.heap l t }) :=
  .of_wp fun prog w A R s h => by
    obtain ⟨hp, g, d, tk, os⟩ := s
    obtain ⟨v1, v2, h⟩ := h
    have sub := PySem.sub_zip
    have V1 : Heap.IsList (Shared.heap ⟨hp, g, d, tk, os⟩) l xs := v1
    have V2 : Heap.IsTuple (Shared.heap ⟨hp.push { cls := .type "list_iterator", data := .fields #[.ref l, .int 0 0] }, g, d, tk, os⟩) t ys := Heap.IsTuple.push v2 _
    wp_walk using wpAny_pyIter_list V1, wpAny_pyIter_tuple V2
    exact ⟨_, rfl, h⟩
section
variable {prog : Program} {w : World} {A : Around} {E : Value → Shared → Prop} {s : Shared}
theorem call_zm {l t : Addr} {xs ys : Array Value} {Q : Value → Shared → Prop} (v1 : s.heap.IsList l xs) (v2 : s.heap.IsTuple t ys)
    (fin : ∀ h', IsZip h' (s.heap.objs.size + 4) (s.heap.objs.size + 2) (s.heap.objs.size + 3) .none → IsPair h' (s.heap.objs.size + 2) (.ref s.heap.objs.size) (.ref (s.heap.objs.size + 1)) → IsPair h' (s.heap.objs.size + 3) .none .none → h'.IsListIter s.heap.objs.size l 0 → h'.IsTupleIter (s.heap.objs.size + 1) t 0 →
      (∀ c o, s.heap.get? c = some o → h'.get? c = some o) → Q (.ref (s.heap.objs.size + 4)) { s with heap := h' }) :
    wpAny (model prog w) A (call (.type "zip") [.ref l, .ref t]) Q E s := by
  refine callType_new F.called_zip (by decide) (F.typeCall_zip_2 _ _) (F.newCall_zip_2 _ _) (fun ob => F.args_object_init_3 ob _ _) F.entry_zip_new (zm_new l t xs ys) ⟨v1, v2, ?_⟩
  have n1 : (zmA s.heap l).objs.size = s.heap.objs.size + 1 := Heap.size_push ..
  have n2 : (zmB s.heap l t).objs.size = s.heap.objs.size + 2 := by rw [Heap.size_push, n1]
  have n3 : (zmC s.heap l t).objs.size = s.heap.objs.size + 3 := by rw [Heap.size_push, n2]
  have n4 : (zmD s.heap l t).objs.size = s.heap.objs.size + 4 := by rw [Heap.size_push, n3]
  have up : ∀ {h : Heap} {o : Obj} {c : Addr} {u : Obj}, h.get? c = some u → (h.push o).get? c = some u := fun e => Heap.get?_push_of_some _ e
  have o5 : (zmE s.heap l t).get? (zmD s.heap l t).objs.size = some _ := Heap.get?_push_size _ rfl
  have o4 : (zmE s.heap l t).get? (zmC s.heap l t).objs.size = some _ := up (Heap.get?_push_size _ rfl)
  have o3 : (zmE s.heap l t).get? (zmB s.heap l t).objs.size = some _ := up (up (Heap.get?_push_size _ rfl))
  have o2 : (zmE s.heap l t).get? (zmA s.heap l).objs.size = some _ := up (up (up (Heap.get?_push_size _ rfl)))
  have o1 : (zmE s.heap l t).get? s.heap.objs.size = some _ := up (up (up (up (Heap.get?_push_size _ rfl))))
  rw [n2, n3, n4] at o5; rw [n1, n2] at o3; rw [n3] at o4; rw [n1] at o2
  show _ ∧ _
  rw [n4]
  exact ⟨⟨_, o5, rfl⟩, fin _ o5 o3 o4 ⟨_, o1, rfl, rfl⟩ ⟨_, o2, rfl, rfl⟩ fun c o x => up (up (up (up (up x))))⟩
end
/-- the list at a and the tuple at b, their items in new pairs -/
def Itm (K : PySem.W.Frag) (a b : Addr) : It :=
  ⟨fun i H => ∃ (xs ys : List V) (x y : V), SqL K H a xs ∧ SqT K H b ys ∧ xs[i]? = some x ∧ ys[i]? = some y, fun i H v H' => ∃ T x y, v = .ref T ∧ H T = none ∧ H' = upd H T (.tup [x, y]) ∧ (∀ xs, SqL K H a xs → xs[i]? = some x) ∧ ∀ ys, SqT K H b ys → ys[i]? = some y,
    fun i H => ∃ xs ys : List V, SqL K H a xs ∧ SqT K H b ys ∧ (xs.length ≤ i ∨ ys.length ≤ i)⟩
theorem mem5 {α : Type} {c z a b d e : α} (h : c ∈ [z, a, b, d, e]) : c = z ∨ c = a ∨ c = b ∨ c = d ∨ c = e := by simpa using h
theorem turn_zm {P : Program} {w : World} {K : PySem.W.Frag} {elts : List Expr} {kk : Nat} {tpos : Pos} {a b z TI TO i1 i2 : Addr} (D : ZipApart z TI TO i1 i2 a b) :
    Turn P w K (.Tuple elts kk tpos) (Itm K a b) [z, TI, TO, i1, i2] z (fun i h => IsZip h z TI TO .none ∧ IsPair h TI (.ref i1) (.ref i2) ∧ (∃ x y, IsPair h TO x y) ∧ kL.St h i1 a i ∧ kT.St h i2 b i) where
  mem := by simp
  obj := fun i h st c hc => by
    obtain ⟨Z, hI, ⟨x, y, hO⟩, u1, u2⟩ := st
    rcases mem5 hc with q | q | q | q | q <;> rw [q]
    · exact ⟨_, Z, fun v q => nomatch q⟩
    · exact ⟨_, hI, fun v q => nomatch q⟩
    · exact ⟨_, hO, fun v q => nomatch q⟩
    · exact kL_ok.here u1
    · exact kT_ok.here u2
  keep := fun i h h' st k => by
    obtain ⟨Z, hI, ⟨x, y, hO⟩, u1, u2⟩ := st
    exact ⟨k z (by simp) _ Z, k TI (by simp) _ hI, ⟨x, y, k TO (by simp) _ hO⟩, kL_ok.stay u1 fun o q => k i1 (by simp) o q, kT_ok.stay u2 fun o q => k i2 (by simp) o q⟩
  item := by
    intro X hP hw hK hc i pins s σ H E I hf st hg
    subst hP hw hK
    obtain ⟨Z, hI, ⟨x0, y0, hO⟩, u1, u2⟩ := st
    obtain ⟨xs, ys, x, y, qx, qy, hx, hy⟩ := hg
    obtain ⟨its, rv, p, _⟩ := I.list qx
    obtain ⟨jts, rw', p2, _⟩ := I.tuple qy
    obtain ⟨u, hu, ru⟩ := rv.get hx
    obtain ⟨v, hv, rv'⟩ := rw'.get hy
    have zl : z < s.heap.objs.size := Heap.lt_size Z
    refine zk_nextI kL_ok kT_ok D Z hI hO u1 u2 p.isList p2 (x := u) (y := v) (by simpa using hu) (by simpa using hv) fun h' Z' O' u1' u2' T' _ old => ?_
    refine ⟨_, rfl, wpAny_letOwnedTupleGo_zip (s := { s with heap := h' }) Z' fun g Z2 sb => ?_⟩
    have T2 : g.get? s.heap.objs.size = some { cls := .type "tuple", data := .seq #[u, v] } := (sb.2 _ (Nat.ne_of_gt zl)).trans T'
    have nw : ObjOk X.prog X.w (upd H s.heap.objs.size (.tup [x, y])) g s.heap.objs.size (.tup [x, y]) := ⟨by show 2 ≤ sizeLine; decide, [u, v], .cons ru (.cons rv' .nil), ⟨_, T2, rfl, _, rfl⟩⟩
    have I1 : Inv X pins σ (upd H s.heap.objs.size (.tup [x, y])) { s with heap := g } :=
      I.turnedNew (t' := s.toks) (ch := [z, TI, TO, i1, i2]) (fun c o hb q => (sb.2 c fun e => hb (by simp [e])).trans (old c o (fun e => hb (by simp [e])) (fun e => hb (by simp [e])) (fun e => hb (by simp [e])) (fun e => hb (by simp [e])) q)) hf (Nat.le_refl _) nw
    refine ⟨.ref s.heap.objs.size, _, I1, rfl, ⟨_, x, y, rfl, I.hok.fresh (Nat.le_refl _), rfl, fun l hl => (I.list_inj hl qx).symm ▸ hx, fun l hl => (I.tuple_inj hl qy).symm ▸ hy⟩, ⟨Z2, ?_, ⟨u, v, ?_⟩, kL_ok.stay u1' fun o q => (sb.2 _ D.i1z).trans q, kT_ok.stay u2' fun o q => (sb.2 _ D.i2z).trans q⟩, fun c hcm => ?_⟩
    · exact (sb.2 _ D.TIz).trans (old _ _ D.TIz D.TITO D.TIi1 D.TIi2 hI)
    · exact (sb.2 _ D.TOz).trans O'
    · have lt : c < s.heap.objs.size := by
        rcases mem5 hcm with q | q | q | q | q <;> rw [q]
        · exact zl
        · exact Heap.lt_size hI
        · exact Heap.lt_size hO
        · exact Heap.lt_size (kL_ok.here u1).choose_spec.1
        · exact Heap.lt_size (kT_ok.here u2).choose_spec.1
      rw [upd_ne (Nat.ne_of_lt lt)]
      exact (hf c hcm).1
  done := by
    intro X hP hw hK hc i pins s σ H E I hf st hg
    subst hP hw hK
    obtain ⟨Z, hI, ⟨x0, y0, hO⟩, u1, u2⟩ := st
    obtain ⟨xs, ys, qx, qy, hend⟩ := hg
    obtain ⟨its, rv, p, _⟩ := I.list qx
    obtain ⟨jts, rw', p2, _⟩ := I.tuple qy
    have e1 := rv.length
    have e2 := rw'.length
    have he : its.toArray[i]? = none ∨ jts.toArray[i]? = none := hend.elim (fun q => .inl (by simp; omega)) fun q => .inr (by simp; omega)
    exact zk_nextE kL_ok kT_ok (I.ok.hd hc) D Z hI hO u1 u2 p.isList p2 he fun h' old => ⟨rfl, I.turnedL (t' := s.toks) (ch := [z, TI, TO, i1, i2]) (fun c o hb q => old c o (fun e => hb (by simp [e])) (fun e => hb (by simp [e])) (fun e => hb (by simp [e])) (fun e => hb (by simp [e])) q) hf⟩
  self := fun A i s Q E st h => wpAny_pyIter_zip st.1 h
def iZipM (K : PySem.W.Frag) (ta : TA) : TI := fun σ H R => ta σ H fun vs H1 => ∃ a b xs ys, vs = [.ref a, .ref b] ∧ SqL K H1 a xs ∧ SqT K H1 b ys ∧ R (Itm K a b) H1
theorem pi_zipM {X : Cx} {e e2 : Expr} {ta : TA} {p pos tpos : Pos} {elts : List Expr} {kk : Nat} (hg : Gl X "zip") (hm : X.mg "zip" = none) (ha : PA X [e, e2] ta) (hs : starEach [e, e2] X.env = (false, eval e X.env) :: starEach [e2] X.env := by rfl) (hpl : (backTo pos (starEach [e2] X.env)).any (·.1) = false := by rfl) :
    PI X (.Tuple elts kk tpos) (.Call (.Name "zip" p) [e, e2] [] pos) (iZipM X.K ta) := by
  refine ⟨fun pins s σ H R I h => Call_ (ld_blt I hg hm PyProof.Rows.boot_zip (PyProof.Rows.callWith_type1 (thn (ha.run pos pins s σ H _ I h) fun us s1 ⟨vs, H1, I1, r1, q1⟩ => ?_) hs hpl))⟩
  obtain ⟨a, b, xs, ys, ex, qx, qy, q⟩ := q1
  subst ex
  obtain _ | ⟨r, rr⟩ := r1
  obtain _ | ⟨r', rr⟩ := rr
  cases rr
  cases r
  cases r'
  obtain ⟨its, rv, p1, _⟩ := I1.list qx
  obtain ⟨jts, rw', p2, _⟩ := I1.tuple qy
  have lb : b < s1.heap.objs.size := by
    obtain ⟨o, ho, _⟩ := id p2
    exact Heap.lt_size ho
  refine call_zm p1.isList p2 fun h' Z hI hO u1 u2 hk => wpAny_pyIter_zip Z ?_
  refine ⟨s1.heap.objs.size + 4, [s1.heap.objs.size + 4, s1.heap.objs.size + 2, s1.heap.objs.size + 3, s1.heap.objs.size, s1.heap.objs.size + 1], _, _, H1, rfl, I1.kept (t' := s1.toks) hk, turn_zm (PySem.W.ktu_apart s1.heap.objs.size a b p1.lt lb), ⟨Z, hI, ⟨_, _, hO⟩, u1, u2⟩, fun c hcm => ?_, q⟩
  have le : s1.heap.objs.size ≤ c := by rcases mem5 hcm with z | z | z | z | z <;> rw [z] <;> omega
  exact I1.fpOk le (I1.hok.fresh le)
section
variable {K : PySem.W.Frag} {σ : L2.St} {H H' : Hp} {ta tb te : TE} {t : TT}
theorem walk_zm {a b : Addr} {xs ys : List V} {n : Nat} (hn : n = min xs.length ys.length) : Walk (Itm K a b) n (fun H => SqL K H a xs ∧ SqT K H b ys) (YPair (fun i => xs[i]?) (fun i => ys[i]?)) := by
  subst hn
  refine ⟨fun i _ hi q => ?_, fun _ q => ⟨xs, ys, q.1, q.2, by omega⟩, fun i H v H' _ q ⟨T, x, y, h1, h2, h3, h4, h5⟩ => ⟨T, x, y, h1, h2, h3, h4 xs q.1, h5 ys q.2⟩⟩
  have h1 : i < xs.length := by omega
  have h2 : i < ys.length := by omega
  exact ⟨xs, ys, xs[i], ys[i], q.1, q.2, by simp [h1], by simp [h2]⟩
/-- a comprehension over zip(list, tuple), its two names in the slots i1, i2 -/
theorem el_lcZM {a b : Addr} {xs ys : List V} {tl : TA} {i1 i2 : Nat} {vs : List Nat} (f : Nat → Bool) (v : Nat → V) (h : EvA tl σ H [.ref a, .ref b]) (hx : SqL K H a xs) (hy : SqT K H b ys) (hz : xs.length ≤ 40000) (hw : ∀ x y, wipe (((wipe σ vs).set i1 (some x)).set i2 (some y)) vs = wipe σ vs)
    (ht : ∀ (i : Nat) (x y : V) H1, Ex H H1 → xs[i]? = some x → ys[i]? = some y → EvT t (((wipe σ vs).set i1 (some x)).set i2 (some y)) H1 (f i)) (he : ∀ (i : Nat) (x y : V) H1, Ex H H1 → xs[i]? = some x → ys[i]? = some y → f i = true → Ev te (((wipe σ vs).set i1 (some x)).set i2 (some y)) H1 (v i)) :
    EvL (tLc (iZipM K tl) (gTup K 2 (gCons (gName i1) (gCons (gName i2) gNil))) t te vs) σ H (given (min xs.length ys.length) f v) := fun H0 e Q q => h H0 e _ fun H1 e1 => ⟨a, b, xs, ys, rfl, ex_l (e.trans e1) hx, ex_t (e.trans e1) hy, fun Dl hD =>
  lc_it (walk_zm (xs := xs) (ys := ys) rfl) (Cw H1 f v Dl) ⟨hD, Ex.new hD, upd_same⟩ (fun i H' _ p => ⟨ex_l ((e.trans e1).trans p.2.1) hx, ex_t ((e.trans e1).trans p.2.1) hy⟩) (fun i x H' H'' hi p y => by
    obtain ⟨T, u, u', rfl, nT, rfl, g1, g2⟩ := y
    obtain ⟨p1, p2, p3⟩ := p
    have p' : Cw H1 f v Dl i (upd H' T (.tup [u, u'])) := ⟨p1, p2.trans (Ex.new nT), (Ex.new nT) _ _ p3⟩
    exact ⟨T, [u, u'], rfl, st_of upd_same, rfl, u, [u'], rfl, u', [], rfl, rfl, hw _ _, cw_turn p' (by omega) (ht i u u' H1 (e.trans e1) g1 g2) (fun hf => he i u u' H1 (e.trans e1) g1 g2 hf)⟩)
    (fun H' p => q Dl H' (fresh_back e1 p.1) (e1.trans p.2.1) p.2.2)⟩
end
end Own
/-! own rules: xs[lo::s] of a list; min and max with default=; math.comb; >= of tuples -/
namespace Own
open PySem PySem.Spec PyProof.Rows L2 Evl
/-- the items at lo, lo + s, .. -/
def pickL {α : Type} (xs : List α) (lo s : Nat) : List α := (sliceRange ((min lo xs.length : Nat) : Int) (xs.length : Int) (s : Int)).filterMap (xs[·]?)
theorem vals_pick {xs : List V} {us : List Value} (r : Vals xs us) : ∀ is : List Nat, Vals (is.filterMap (xs[·]?)) (is.filterMap (us[·]?))
  | [] => .nil
  | i :: is => by
    have ih := vals_pick r is
    rw [List.filterMap_cons, List.filterMap_cons]
    cases h : xs[i]? with
    | none =>
      rw [r.none_of h]
      exact ih
    | some x =>
      obtain ⟨u, hu, ru⟩ := r.get h
      rw [hu]
      exact .cons ru ih
theorem bounds_step (lo s n : Nat) (hs : 0 < s) : sliceBounds (some (lo : Int)) none (some (s : Int)) n = (((min lo n : Nat) : Int), (n : Int), (s : Int)) := by
  have h1 : (s : Int) > 0 := by omega
  have h2 : ¬ ((lo : Int) < 0) := by omega
  simp only [sliceBounds, Option.getD_some, h1, h2, if_true, if_false, Prod.mk.injEq, and_true]
  omega
theorem slice_step (its : List Value) (lo s : Nat) (hs : 0 < s) : slicePick its.toArray (some (lo : Int)) none (some (s : Int)) = (pickL its lo s).toArray := by
  unfold slicePick pickL
  rw [List.size_toArray, bounds_step lo s _ hs]
  simp
def tSlS (K : PySem.W.Frag) (te : TE) (tl ts : TO) : TE := fun σ H Q => te σ H fun x H1 => tl σ H1 fun l H2 => ts σ H2 fun st H3 => ∃ (a : Addr) (xs : List V) (lo s : Nat), x = .ref a ∧ l = some (lo : Int) ∧ st = some (s : Int) ∧ 0 < s ∧ SqL K H3 a xs ∧ ∀ p, H3 p = none → Q (.ref p) (upd H3 p (.lst (pickL xs lo s)))
theorem pickL_len {α : Type} (xs : List α) (lo s : Nat) (hs : 0 < s) : (pickL xs lo s).length ≤ xs.length := by
  unfold pickL
  exact Nat.le_trans (List.length_filterMap_le _ _) (sliceRange_length_le _ _ _ _ (fun _ => ⟨by omega, by omega⟩) fun h => absurd (show (s : Int) > 0 by omega) h)
section
variable {X : Cx}
theorem pe_sliceS {e lo st : Expr} {te : TE} {tl ts : TO} {p3 pos : Pos} (he : PE X e te) (hl : PO X (some lo) tl) (hst : PO X (some st) ts) : PE X (.Subscript e (.Slice (some lo) none (some st) p3) pos) (tSlS X.K te tl ts) := by
  refine ⟨fun pins s σ H Q I h => Subscript_ (thn (he.run pins s σ H _ I h) fun v s1 ⟨x, H1, I1, r1, q1⟩ => ?_)⟩
  refine wpAny_Slice (thn (hl.run pins s1 σ H1 _ I1 q1) fun vl s2 ⟨l, H2, I2, pl, q2⟩ => ?_)
  refine thn (po_none.run pins s2 σ H2 (fun o H3 => o = none ∧ H3 = H2) I2 ⟨rfl, rfl⟩) fun vu s3 ⟨u, H3, I3, pu, eu, e3⟩ => ?_
  subst eu e3
  refine thn (hst.run pins s3 σ H3 _ I3 q2) fun vs s4 ⟨o, H4, I4, ps, q4⟩ => ?_
  obtain ⟨a, xs, n, k, ex, el, eo, hk, hx, q⟩ := q4
  subst ex el eo
  cases r1
  have I5 : Inv X pins σ H4 { s4 with heap := s4.heap.push { cls := .type "slice", data := .fields #[vl, vu, vs] } } := I4.kept (t' := s4.toks) fun b ob q => Heap.get?_push_of_some _ q
  obtain ⟨its, r, ht, hz⟩ := I5.list hx
  have hlen := r.length
  show wpAny (model X.prog X.w) X.A (subscriptTail e (.Slice (some lo) none (some st) p3) (.ref a) (.ref s4.heap.objs.size)) (EP X pins σ Q) X.xe { s4 with heap := s4.heap.push { cls := .type "slice", data := .fields #[vl, vu, vs] } }
  refine tail_any (ops := [.ref a, .ref s4.heap.objs.size]) ht.isList.typeIs slot_list_getitem.lookup ?_ (by with_unfolding_all rfl)
  refine wpAny_getItem_list_slice ht.isList (Heap.IsSliceOf.new _ vl vu vs) pl pu ps (fun z => by have := Option.some.inj z; omega) ?_ (by rw [List.size_toArray]; omega)
  rw [slice_step _ _ _ hk]
  refine ⟨.ref _, _, I5.laid (t' := s4.toks) (o := .lst (pickL xs n k)) (fun b ob q => Heap.get?_push_of_some _ q) (Nat.le_refl _) ?_, rfl, q _ (I5.hok.fresh (Nat.le_refl _))⟩
  refine ⟨Nat.le_trans (pickL_len xs n k hk) hz, _, 0, ?_, Heap.get?_push_size _ rfl⟩
  unfold pickL
  rw [hlen]
  exact vals_pick r _
end
section
variable {K : PySem.W.Frag} {σ : L2.St} {H H' : Hp} {ta tb te : TE} {tl ts : TO}
theorem el_slS {a : Addr} {xs : List V} {lo s : Nat} (h : Ev te σ H (.ref a)) (h1 : EvO tl σ H (some (lo : Int))) (h2 : EvO ts σ H (some (s : Int))) (hs : 0 < s) (hx : SqL K H a xs) : EvL (tSlS K te tl ts) σ H (pickL xs lo s) := fun H1 e Q q =>
  h H1 e _ fun H2 e2 => h1 H2 (e.trans e2) _ fun H3 e3 => h2 H3 ((e.trans e2).trans e3) _ fun H4 e4 => ⟨a, xs, lo, s, rfl, rfl, rfl, hs, ex_l (((e.trans e2).trans e3).trans e4) hx, fun p hp => q p _ (fresh_back ((e2.trans e3).trans e4) hp) (((e2.trans e3).trans e4).trans (Ex.new hp)) upd_same⟩
end
/-! the items of one class -/
def strd (f : Nat) : Nat → List Nat → List Nat
  | _, [] => []
  | 0, x :: r => x :: strd f (f - 1) r
  | t + 1, _ :: r => strd f t r
theorem pick_nil {α : Type} (lo s : Nat) : pickL ([] : List α) lo s = [] := by
  unfold pickL
  simp
theorem range_cons (lo n s : Nat) (hs : 0 < s) (h : lo < n) : sliceRange (lo : Int) (n : Int) (s : Int) = lo :: sliceRange ((lo + s : Nat) : Int) (n : Int) (s : Int) := by
  have hc : (s : Int) > 0 := by omega
  unfold sliceRange
  simp only [hc, if_true]
  rw [if_pos (show (lo : Int) < n by omega)]
  have e1 : ((n : Int) - (lo : Int) + s - 1) / s = ((n - lo + s - 1) / s : Nat) := by
    rw [show ((n : Int) - (lo : Int) + s - 1) = ((n - lo + s - 1 : Nat) : Int) by omega]
    rfl
  rw [e1, Int.toNat_natCast]
  have e2 : (if ((lo + s : Nat) : Int) < n then ((n : Int) - ((lo + s : Nat) : Int) + s - 1) / s else 0).toNat + 1 = (n - lo + s - 1) / s := by
    by_cases h2 : lo + s < n
    · rw [if_pos (by omega), show ((n : Int) - ((lo + s : Nat) : Int) + s - 1) = ((n - (lo + s) + s - 1 : Nat) : Int) by omega]
      show ((((n - (lo + s) + s - 1) / s : Nat) : Int)).toNat + 1 = _
      rw [Int.toNat_natCast, show n - lo + s - 1 = (n - (lo + s) + s - 1) + s by omega, Nat.add_div_right _ hs]
    · rw [if_neg (by omega)]
      show 0 + 1 = _
      have h3 : (n - lo + s - 1) / s = 1 := by
        rw [show n - lo + s - 1 = (n - lo - 1) + s by omega, Nat.add_div_right _ hs, Nat.div_eq_of_lt (by omega)]
      rw [h3]
  rw [← e2, List.range_succ_eq_map, List.map_cons, List.map_map]
  refine congr (congrArg List.cons ?_) ?_
  · show ((lo : Int) + s * ((0 : Nat) : Int)).toNat = lo
    rw [Int.natCast_zero, Int.mul_zero]
    omega
  · refine List.map_congr_left fun k _ => ?_
    show ((lo : Int) + s * ((k + 1 : Nat) : Int)).toNat = ((((lo + s : Nat) : Int)) + s * (k : Int)).toNat
    rw [Int.natCast_add k 1, Int.mul_add]
    congr 1
    omega
theorem range_nil (lo n s : Nat) (hs : 0 < s) (h : n ≤ lo) : sliceRange (lo : Int) (n : Int) (s : Int) = [] := by
  have hc : (s : Int) > 0 := by omega
  unfold sliceRange
  simp only [hc, if_true]
  rw [if_neg (show ¬ (lo : Int) < n by omega)]
  rfl
theorem range_shift (s : Nat) (hs : 0 < s) : ∀ (m lo n : Nat), n ≤ lo + m → sliceRange ((lo + 1 : Nat) : Int) ((n + 1 : Nat) : Int) (s : Int) = (sliceRange (lo : Int) (n : Int) (s : Int)).map (· + 1)
  | 0, lo, n, h => by
    rw [range_nil _ _ _ hs (by omega), range_nil _ _ _ hs (by omega)]
    rfl
  | m + 1, lo, n, h => by
    by_cases h2 : lo < n
    · rw [range_cons _ _ _ hs (show lo + 1 < n + 1 by omega), range_cons _ _ _ hs h2, List.map_cons, show lo + 1 + s = lo + s + 1 by omega, range_shift s hs m (lo + s) n (by omega)]
    · rw [range_nil _ _ _ hs (by omega), range_nil _ _ _ hs (by omega)]
      rfl
theorem pick_go (f : Nat) (hf : 0 < f) : ∀ (xs : List Nat) (lo : Nat), (sliceRange (lo : Int) (xs.length : Int) (f : Int)).filterMap (xs[·]?) = strd f lo xs
  | [], lo => by
    show (sliceRange (lo : Int) ((0 : Nat) : Int) (f : Int)).filterMap _ = _
    rw [range_nil _ _ _ hf (Nat.zero_le _)]
    cases lo <;> rfl
  | x :: r, 0 => by
    rw [List.length_cons, range_cons 0 _ _ hf (by omega), List.filterMap_cons]
    show x :: (sliceRange ((0 + f : Nat) : Int) ((r.length + 1 : Nat) : Int) (f : Int)).filterMap ((x :: r)[·]?) = x :: strd f (f - 1) r
    rw [show 0 + f = (f - 1) + 1 by omega, range_shift f hf r.length (f - 1) r.length (by omega), List.filterMap_map, ← pick_go f hf r (f - 1)]
    rfl
  | x :: r, lo + 1 => by
    rw [List.length_cons, range_shift f hf r.length lo r.length (by omega), List.filterMap_map]
    show _ = strd f lo r
    rw [← pick_go f hf r lo]
    rfl
theorem pick_strd (f : Nat) (hf : 0 < f) (xs : List Nat) (lo : Nat) : pickL xs lo f = strd f lo xs := by
  unfold pickL
  by_cases h : lo ≤ xs.length
  · rw [Nat.min_eq_left h]
    exact pick_go f hf xs lo
  · rw [Nat.min_eq_right (by omega), range_nil _ _ _ hf (Nat.le_refl _), ← pick_go f hf xs lo, range_nil _ _ _ hf (by omega)]
theorem pick_map {α β : Type} (g : α → β) (xs : List α) (lo s : Nat) : pickL (xs.map g) lo s = (pickL xs lo s).map g := by
  unfold pickL
  rw [List.length_map, List.map_filterMap]
  congr 1
  funext i
  rw [List.getElem?_map]
end Own
/-! own rules: min and max with default= -/
namespace Own
open PySem PySem.Spec PyProof.Rows L2 Evl
theorem kw_tree {prog : Program} {w : World} {A : Around} {E : Value → Shared → Prop} {s : Shared} {id : String} {b : Builtin} {us : List Value} {kw : List (Str × Value)} {Q : Value → Shared → Prop} (hk : builtinKind id = none) (hp : plainId id = true) (hb : entryFor table id = some b) (ha : argsOk id ⟨us, kw⟩)
    (hc : wpAny (model prog w) A.in1 (b ⟨us, kw⟩) (fun r s' => match r with
      | .done g => (match (Except.ok g : Result) with
        | .ok (.ret v) => Q v s'
        | .ok _ => False
        | .error e => E e s')
      | .again c' => c'.quiet = true ∧ codeAny (model prog w) A c' (fun r s' => match r with
        | .ok (.ret v) => Q v s'
        | .ok _ => False
        | .error e => E e s') s') E s) : wpAny (model prog w) A (call (.builtin id) us kw) Q E s := by
  refine wpAny_call (codeAny_call_builtin hp hb ?_); simp only [checkBuiltinCall, hk]
  cases z : Manifest.signature? id with
  | none => exact wpAny_pure hc
  | some sg =>
    simp only [argsOk, z] at ha
    show wpAny _ A.in1 (Bind.checkArgs id sg ⟨us, kw⟩) _ _ s
    rw [show Bind.checkArgs id sg ⟨us, kw⟩ = pure () from ha]
    exact wpAny_pure hc
section
variable {prog : Program} {w : World} {A : Around} {R : Result → Shared → Prop} {I : Addr} {fp wr : List Addr} {n : Nat} {P : Nat → Value → Prop} {St : Nat → Heap → Prop}
theorem minD_turn (dv : Value) (W : Walks prog w A.in1 I fp wr n P St) (bt : Nat → Nat → Bool) (cmp : CmpOf prog w A.in1 .Lt P bt) (B : Addr) (hB : B ∉ fp) : ∀ (k j : Nat) (s : Shared) (vb : Value) (c : Nat), n - (j + 1) = k → j + 1 ≤ n → St (j + 1) s.heap → P (argBest bt j) vb → s.heap.get? B = some { cls := .type "list", dict := none, data := .seq #[vb, vb] c, slots := #[] } →
    (∀ v h' tk, P (argBest bt (n - 1)) v → (∀ b o, b ∉ wr → b ≠ B → s.heap.get? b = some o → h'.get? b = some o) → R (.ok (.ret v)) { s with heap := h', toks := tk }) → codeAny (model prog w) A (.builtin "min.loop" ⟨[.ref I, .none, .ref B], [("default", dv)]⟩) R s := by
  have Bw : B ∉ wr := fun h => hB (W.sub _ h)
  have nm : (toString "min" ++ toString ".loop" : String) = "min.loop" := by decide
  intro k
  induction k with
  | zero =>
    intro j s vb c hk hj st hp hs fin
    have jn : j + 1 = n := by omega
    refine codeAny_builtin F.entry_min_loop ?_; rw [Around.under_plainId F.plain_min_loop _]
    show wpAny _ A.in1 (seqItems? (.ref B) >>= _) _ _ s
    refine wpAny_bind (wpAny_seqItems hs rfl ?_); show wpAny _ A.in1 (tryCatch (pyNext (.ref I)) _ >>= _) _ _ s
    refine wpAny_bind (wpAny_tryCatch (W.done s _ _ (jn ▸ st) fun h1 t1 k1 => ?_))
    show wpAny _ A.in1 (updateSeq B (fun _ => #[]) >>= _) _ _ _
    refine wpAny_bind (wpAny_updateSeq (k1 B _ Bw hs) rfl (wpAny_bind (wpAny_letGo (wpAny_pure ?_))))
    exact fin vb _ t1 (by rw [← jn]; exact hp) fun b o nb nB e => (Heap.get?_update_other _ _ (Ne.symm nB)).trans (k1 b o nb e)
  | succ k ih =>
    intro j s vb c hk hj st hp hs fin
    have lt : j + 1 < n := by omega
    refine codeAny_builtin F.entry_min_loop ?_; rw [Around.under_plainId F.plain_min_loop _]
    show wpAny _ A.in1 (seqItems? (.ref B) >>= _) _ _ s
    refine wpAny_bind (wpAny_seqItems hs rfl ?_); show wpAny _ A.in1 (tryCatch (pyNext (.ref I)) _ >>= _) _ _ s
    refine wpAny_bind (wpAny_tryCatch (W.item (j + 1) s _ _ lt st fun v h1 t1 p1 st1 k1 => ?_))
    have hs1 := k1 B _ Bw hs
    show wpAny _ A.in1 (tryCatch (holding [v, v] (richCompare .Lt v vb >>= _)) _ >>= _) _ _ _
    refine wpAny_bind (wpAny_tryCatch (wpAny_holding (wpAny_bind (cmp (j + 1) (argBest bt j) v vb _ _ _ p1 hp ?_))))
    refine wpAny_bind (wpAny_holding (wpAny_truthy_bool ?_)); refine wpAny_bind (wpAny_letGo (wpAny_pure ?_))
    cases yes : bt (j + 1) (argBest bt j) with
    | true =>
      simp only [if_true]
      refine wpAny_bind (wpAny_updateSeq hs1 rfl (wpAny_bind (wpAny_letGo ?_))); rw [nm]
      refine wpAny_pure ⟨plainId_quiet F.plain_min_loop _, ih (j + 1) _ v _ (by omega) lt (W.frame _ _ _ st1 fun b hb o e => ?_) (by simp only [argBest, yes, if_true]; exact p1) (Heap.get?_update_self _ hs1 rfl) fun v2 h2 t2 p2 k2 => ?_⟩
      · exact (Heap.get?_update_other _ _ fun h : B = b => hB (h ▸ hb)).trans e
      · exact fin v2 h2 t2 p2 fun b o nb nB e => k2 b o nb nB ((Heap.get?_update_other _ _ (Ne.symm nB)).trans (k1 b o nb e))
    | false =>
      simp only [Bool.false_eq_true, if_false]
      refine wpAny_bind (wpAny_letGo ?_); rw [nm]
      refine wpAny_pure ⟨plainId_quiet F.plain_min_loop _, ih (j + 1) _ vb _ (by omega) lt st1 (by simp only [argBest, yes, Bool.false_eq_true, if_false]; exact hp) hs1 fun v2 h2 t2 p2 k2 => ?_⟩
      exact fin v2 h2 t2 p2 fun b o nb nB e => k2 b o nb nB (k1 b o nb e)
theorem minD_first (dv : Value) (W : Walks prog w A.in1 I fp wr n P St) (bt : Nat → Nat → Bool) (cmp : CmpOf prog w A.in1 .Lt P bt) (B : Addr) (hB : B ∉ fp) {s : Shared} {c : Nat} (st : St 0 s.heap) (hs : s.heap.get? B = some { cls := .type "list", dict := none, data := .seq #[] c, slots := #[] })
    (fin : ∀ v h' tk, (0 < n → P (argBest bt (n - 1)) v) → (n = 0 → v = dv) → (∀ b o, b ∉ wr → b ≠ B → s.heap.get? b = some o → h'.get? b = some o) → R (.ok (.ret v)) { s with heap := h', toks := tk }) : codeAny (model prog w) A (.builtin "min.loop" ⟨[.ref I, .none, .ref B], [("default", dv)]⟩) R s := by
  have Bw : B ∉ wr := fun h => hB (W.sub _ h)
  have nm : (toString "min" ++ toString ".loop" : String) = "min.loop" := by decide
  refine codeAny_builtin F.entry_min_loop ?_; rw [Around.under_plainId F.plain_min_loop _]
  show wpAny _ A.in1 (seqItems? (.ref B) >>= _) _ _ s
  refine wpAny_bind (wpAny_seqItems hs rfl ?_); show wpAny _ A.in1 (tryCatch (pyNext (.ref I)) _ >>= _) _ _ s
  by_cases hn : n = 0
  · refine wpAny_bind (wpAny_tryCatch (W.done s _ _ (hn ▸ st) fun h1 t1 k1 => wpAny_bind (wpAny_rule (wpAny_pure ?_))))
    exact fin dv h1 t1 (fun z => absurd z (by omega)) (fun _ => rfl) fun b o nb _ e => k1 b o nb e
  · refine wpAny_bind (wpAny_tryCatch (W.item 0 s _ _ (by omega) st fun v h1 t1 p1 st1 k1 => ?_))
    have hs1 := k1 B _ Bw hs
    show wpAny _ A.in1 (updateSeq B (fun _ => #[v, v]) >>= _) _ _ _
    refine wpAny_bind (wpAny_updateSeq hs1 rfl ?_); rw [nm]
    refine wpAny_pure ⟨plainId_quiet F.plain_min_loop _, minD_turn dv W bt cmp B hB _ 0 _ v _ rfl (by omega) (W.frame _ _ _ st1 fun b hb o e => ?_) p1 (Heap.get?_update_self _ hs1 rfl) fun v2 h2 t2 p2 k2 => ?_⟩
    · exact (Heap.get?_update_other _ _ fun h : B = b => hB (h ▸ hb)).trans e
    · exact fin v2 h2 t2 (fun _ => p2) (fun z => absurd z hn) fun b o nb nB e => k2 b o nb nB ((Heap.get?_update_other _ _ (Ne.symm nB)).trans (k1 b o nb e))
end
theorem minD_args (a d : Value) : argsOk "min" ⟨[a], [(Str.ofString "default", d)]⟩ := by unfold argsOk; kernel_rfl
section
variable {prog : Program} {w : World} {A : Around} {E : Value → Shared → Prop} {s : Shared} {l : Addr} {its : List Value} {ns : List Int} {Q : Value → Shared → Prop}
theorem minD_ints {xs : Array (Int × Tok)} (dv : Value) (hh : A.handled = none) (hl : s.heap.IsList l (intItems xs))
    (fin : ∀ v h' tk, (0 < xs.size → (intItems xs)[argBest (fun i j => decide (numAt xs i < numAt xs j)) (xs.size - 1)]? = some v) → (xs.size = 0 → v = dv) → (∀ b o, s.heap.get? b = some o → h'.get? b = some o) → Q v { s with heap := h', toks := tk }) :
    wpAny (model prog w) A (call (.builtin "min") [.ref l] [(Str.ofString "default", dv)]) Q E s := by
  have nm : (toString "min" ++ toString ".loop" : String) = "min.loop" := by decide
  refine kw_tree F.kind_min F.plain_min F.entry_min (minD_args _ _) ?_
  show wpAny _ A.in1 (Builtin.Builtins.bindParams "min" ["key", "default"] 0 ⟨[], [(Str.ofString "default", dv)]⟩ >>= _) _ _ s
  refine wpAny_bind (wpAny_of_eq (show Builtin.Builtins.bindParams "min" ["key", "default"] 0 ⟨[], [(Str.ofString "default", dv)]⟩ = pure [none, some dv] from by first | rfl | kernel_rfl) (wpAny_bind (wpAny_pure (wpAny_bind ?_))))
  refine iter_intList hl fun s2 e st hfp hlI => ?_
  subst e
  refine wpAny_bind (wpAny_newObj_type ?_)
  rw [nm]
  refine wpAny_pure ⟨plainId_quiet F.plain_min_loop _, ?_⟩
  have W := Walks.list (prog := prog) (w := w) (A := A.in1) hh s.heap.objs.size l hlI (intItems xs)
  refine minD_first (A := A) (n := (intItems xs).size) (c := 0) dv W _ (CmpOf.ints_lt (numAt xs) (fun _ _ => intItems_at)) _ ?_ ?_ ?_ fun v h' tk p0 d0 hk => ?_
  · exact fun hm => Nat.lt_irrefl _ (hfp _ hm)
  · exact W.frame _ _ _ st fun b _ o e => Heap.get?_push_of_some _ e
  · exact Heap.get?_push_size _ rfl
  have sz : (intItems xs).size = xs.size := by simp [intItems]
  rw [sz] at p0 d0
  exact fin v h' tk p0 d0 (old_kept fun b o nb e => hk b o (by simpa using nb) (Nat.ne_of_lt (Heap.lt_size e)) (Heap.get?_push_of_some _ e))
theorem minD_raw (dv : Value) (hh : A.handled = none) (hl : s.heap.IsList l its.toArray) (hi : IntsAre its ns)
    (h : ∀ h' tk, (∀ b o, s.heap.get? b = some o → h'.get? b = some o) → (ns = [] → Q dv { s with heap := h', toks := tk }) ∧ ∀ M t', M ∈ ns → (∀ a, a ∈ ns → M ≤ a) → Q (.int M t') { s with heap := h', toks := tk }) : wpAny (model prog w) A (call (.builtin "min") [.ref l] [(Str.ofString "default", dv)]) Q E s := by
  obtain ⟨xs, e⟩ := hi.allInts.items
  have hn : numsOf (intItems xs).toList = ns := by rw [← e]; exact hi.numsOf
  rw [nums_intItems] at hn
  subst hn
  rw [e] at hl
  refine minD_ints dv hh hl fun v h' tk hv hd hk => ?_
  obtain ⟨q0, q1⟩ := h h' tk hk
  by_cases hz : xs.size = 0
  · rw [hd hz]
    exact q0 (List.eq_nil_of_length_eq_zero (by rw [List.length_map, Array.length_toList]; exact hz))
  · obtain ⟨t, rfl⟩ := intItems_at (hv (by omega))
    obtain ⟨h1, h2⟩ := argBest_lt (numAt xs) (xs.size - 1)
    refine q1 _ t ?_ fun a ha => ?_
    · rw [numAt_eq]; exact PySem.getD_mem (by rw [List.length_map, Array.length_toList]; omega)
    · obtain ⟨j, hj, rfl⟩ := mem_getD ha
      rw [List.length_map, Array.length_toList] at hj
      rw [← numAt_eq]
      exact h2 j (by omega)
end
def rMinD (K : PySem.W.Frag) (d : V) : List V → List V → Hp → VK → Prop := fun vs zs H Q => ∃ (a : Addr) (ns : List Int), vs = [V.ref a] ∧ zs = [d] ∧ SqL K H a (ns.map V.int) ∧ (ns = [] → Q d H) ∧ ∀ M, M ∈ ns → (∀ a, a ∈ ns → M ≤ a) → Q (.int M) H
theorem cr_minD {X : Cx} {d : V} (hc : X.calm = true) : CallRK X (.builtin "min") [Str.ofString "default"] (rMinD X.K d) := by
  intro pins s σ H vs zs us ws Q I r rz h
  obtain ⟨a, ns, rfl, rfl, hs, q0, q1⟩ := h
  obtain rfl := Vals.ref1 r
  obtain ⟨w1, rfl, e1⟩ := vals1 rz
  obtain ⟨its, rv, hl, _⟩ := I.list hs
  exact minD_raw w1 (I.ok.hd hc) hl.isList rv.ints fun h' tk hk => ⟨fun hz => ⟨d, H, I.kept hk, e1, q0 hz⟩, fun M t' h1 h2 => ⟨.int M, H, I.kept hk, ⟨_, rfl⟩, q1 M h1 h2⟩⟩
section
variable {K : PySem.W.Frag} {σ : L2.St} {H : Hp} {ta td : TE}
theorem ev_minD {ns : List Int} {d r : V} (h : EvL ta σ H (ns.map V.int)) (hd : Ev td σ H d) (h0 : ns = [] → r = d) (h1 : ∀ M, M ∈ ns → (∀ a, a ∈ ns → M ≤ a) → r = .int M) : Ev (tCKw (rMinD K d) (tCons ta tNil) (tCons td tNil)) σ H r := fun H1 e Q q =>
  h H1 e _ fun p H2 _ e2 h2 => hd H2 (e.trans e2) _ fun H3 e3 => ⟨p, ns, rfl, rfl, sq_of (e3 _ _ h2), (fun z => h0 z ▸ q H3 (e2.trans e3)), fun M a b => h1 M a b ▸ q H3 (e2.trans e3)⟩
theorem ev_minDV {a : Addr} {ns : List Int} {d r : V} (h : Ev ta σ H (.ref a)) (hx : SqL K H a (ns.map V.int)) (hd : Ev td σ H d) (h0 : ns = [] → r = d) (h1 : ∀ M, M ∈ ns → (∀ a, a ∈ ns → M ≤ a) → r = .int M) : Ev (tCKw (rMinD K d) (tCons ta tNil) (tCons td tNil)) σ H r := fun H1 e Q q =>
  h H1 e _ fun H2 e2 => hd H2 (e.trans e2) _ fun H3 e3 => ⟨a, ns, rfl, rfl, ex_l ((e.trans e2).trans e3) hx, (fun z => h0 z ▸ q H3 (e2.trans e3)), fun M a b => h1 M a b ▸ q H3 (e2.trans e3)⟩
end
section
variable {prog : Program} {w : World} {A : Around} {R : Result → Shared → Prop} {I : Addr} {fp wr : List Addr} {n : Nat} {P : Nat → Value → Prop} {St : Nat → Heap → Prop}
theorem maxD_turn (dv : Value) (W : Walks prog w A.in1 I fp wr n P St) (bt : Nat → Nat → Bool) (cmp : CmpOf prog w A.in1 .Gt P bt) (B : Addr) (hB : B ∉ fp) : ∀ (k j : Nat) (s : Shared) (vb : Value) (c : Nat), n - (j + 1) = k → j + 1 ≤ n → St (j + 1) s.heap → P (argBest bt j) vb → s.heap.get? B = some { cls := .type "list", dict := none, data := .seq #[vb, vb] c, slots := #[] } →
    (∀ v h' tk, P (argBest bt (n - 1)) v → (∀ b o, b ∉ wr → b ≠ B → s.heap.get? b = some o → h'.get? b = some o) → R (.ok (.ret v)) { s with heap := h', toks := tk }) → codeAny (model prog w) A (.builtin "max.loop" ⟨[.ref I, .none, .ref B], [("default", dv)]⟩) R s := by
  have Bw : B ∉ wr := fun h => hB (W.sub _ h)
  have nm : (toString "max" ++ toString ".loop" : String) = "max.loop" := by decide
  intro k
  induction k with
  | zero =>
    intro j s vb c hk hj st hp hs fin
    have jn : j + 1 = n := by omega
    refine codeAny_builtin F.entry_max_loop ?_; rw [Around.under_plainId F.plain_max_loop _]
    show wpAny _ A.in1 (seqItems? (.ref B) >>= _) _ _ s
    refine wpAny_bind (wpAny_seqItems hs rfl ?_); show wpAny _ A.in1 (tryCatch (pyNext (.ref I)) _ >>= _) _ _ s
    refine wpAny_bind (wpAny_tryCatch (W.done s _ _ (jn ▸ st) fun h1 t1 k1 => ?_))
    show wpAny _ A.in1 (updateSeq B (fun _ => #[]) >>= _) _ _ _
    refine wpAny_bind (wpAny_updateSeq (k1 B _ Bw hs) rfl (wpAny_bind (wpAny_letGo (wpAny_pure ?_))))
    exact fin vb _ t1 (by rw [← jn]; exact hp) fun b o nb nB e => (Heap.get?_update_other _ _ (Ne.symm nB)).trans (k1 b o nb e)
  | succ k ih =>
    intro j s vb c hk hj st hp hs fin
    have lt : j + 1 < n := by omega
    refine codeAny_builtin F.entry_max_loop ?_; rw [Around.under_plainId F.plain_max_loop _]
    show wpAny _ A.in1 (seqItems? (.ref B) >>= _) _ _ s
    refine wpAny_bind (wpAny_seqItems hs rfl ?_); show wpAny _ A.in1 (tryCatch (pyNext (.ref I)) _ >>= _) _ _ s
    refine wpAny_bind (wpAny_tryCatch (W.item (j + 1) s _ _ lt st fun v h1 t1 p1 st1 k1 => ?_))
    have hs1 := k1 B _ Bw hs
    show wpAny _ A.in1 (tryCatch (holding [v, v] (richCompare .Gt v vb >>= _)) _ >>= _) _ _ _
    refine wpAny_bind (wpAny_tryCatch (wpAny_holding (wpAny_bind (cmp (j + 1) (argBest bt j) v vb _ _ _ p1 hp ?_))))
    refine wpAny_bind (wpAny_holding (wpAny_truthy_bool ?_)); refine wpAny_bind (wpAny_letGo (wpAny_pure ?_))
    cases yes : bt (j + 1) (argBest bt j) with
    | true =>
      simp only [if_true]
      refine wpAny_bind (wpAny_updateSeq hs1 rfl (wpAny_bind (wpAny_letGo ?_))); rw [nm]
      refine wpAny_pure ⟨plainId_quiet F.plain_max_loop _, ih (j + 1) _ v _ (by omega) lt (W.frame _ _ _ st1 fun b hb o e => ?_) (by simp only [argBest, yes, if_true]; exact p1) (Heap.get?_update_self _ hs1 rfl) fun v2 h2 t2 p2 k2 => ?_⟩
      · exact (Heap.get?_update_other _ _ fun h : B = b => hB (h ▸ hb)).trans e
      · exact fin v2 h2 t2 p2 fun b o nb nB e => k2 b o nb nB ((Heap.get?_update_other _ _ (Ne.symm nB)).trans (k1 b o nb e))
    | false =>
      simp only [Bool.false_eq_true, if_false]
      refine wpAny_bind (wpAny_letGo ?_); rw [nm]
      refine wpAny_pure ⟨plainId_quiet F.plain_max_loop _, ih (j + 1) _ vb _ (by omega) lt st1 (by simp only [argBest, yes, Bool.false_eq_true, if_false]; exact hp) hs1 fun v2 h2 t2 p2 k2 => ?_⟩
      exact fin v2 h2 t2 p2 fun b o nb nB e => k2 b o nb nB (k1 b o nb e)
theorem maxD_first (dv : Value) (W : Walks prog w A.in1 I fp wr n P St) (bt : Nat → Nat → Bool) (cmp : CmpOf prog w A.in1 .Gt P bt) (B : Addr) (hB : B ∉ fp) {s : Shared} {c : Nat} (st : St 0 s.heap) (hs : s.heap.get? B = some { cls := .type "list", dict := none, data := .seq #[] c, slots := #[] })
    (fin : ∀ v h' tk, (0 < n → P (argBest bt (n - 1)) v) → (n = 0 → v = dv) → (∀ b o, b ∉ wr → b ≠ B → s.heap.get? b = some o → h'.get? b = some o) → R (.ok (.ret v)) { s with heap := h', toks := tk }) : codeAny (model prog w) A (.builtin "max.loop" ⟨[.ref I, .none, .ref B], [("default", dv)]⟩) R s := by
  have Bw : B ∉ wr := fun h => hB (W.sub _ h)
  have nm : (toString "max" ++ toString ".loop" : String) = "max.loop" := by decide
  refine codeAny_builtin F.entry_max_loop ?_; rw [Around.under_plainId F.plain_max_loop _]
  show wpAny _ A.in1 (seqItems? (.ref B) >>= _) _ _ s
  refine wpAny_bind (wpAny_seqItems hs rfl ?_); show wpAny _ A.in1 (tryCatch (pyNext (.ref I)) _ >>= _) _ _ s
  by_cases hn : n = 0
  · refine wpAny_bind (wpAny_tryCatch (W.done s _ _ (hn ▸ st) fun h1 t1 k1 => wpAny_bind (wpAny_rule (wpAny_pure ?_))))
    exact fin dv h1 t1 (fun z => absurd z (by omega)) (fun _ => rfl) fun b o nb _ e => k1 b o nb e
  · refine wpAny_bind (wpAny_tryCatch (W.item 0 s _ _ (by omega) st fun v h1 t1 p1 st1 k1 => ?_))
    have hs1 := k1 B _ Bw hs
    show wpAny _ A.in1 (updateSeq B (fun _ => #[v, v]) >>= _) _ _ _
    refine wpAny_bind (wpAny_updateSeq hs1 rfl ?_); rw [nm]
    refine wpAny_pure ⟨plainId_quiet F.plain_max_loop _, maxD_turn dv W bt cmp B hB _ 0 _ v _ rfl (by omega) (W.frame _ _ _ st1 fun b hb o e => ?_) p1 (Heap.get?_update_self _ hs1 rfl) fun v2 h2 t2 p2 k2 => ?_⟩
    · exact (Heap.get?_update_other _ _ fun h : B = b => hB (h ▸ hb)).trans e
    · exact fin v2 h2 t2 (fun _ => p2) (fun z => absurd z hn) fun b o nb nB e => k2 b o nb nB ((Heap.get?_update_other _ _ (Ne.symm nB)).trans (k1 b o nb e))
end
theorem maxD_args (a d : Value) : argsOk "max" ⟨[a], [(Str.ofString "default", d)]⟩ := by unfold argsOk; kernel_rfl
section
variable {prog : Program} {w : World} {A : Around} {E : Value → Shared → Prop} {s : Shared} {l : Addr} {its : List Value} {ns : List Int} {Q : Value → Shared → Prop}
theorem maxD_ints {xs : Array (Int × Tok)} (dv : Value) (hh : A.handled = none) (hl : s.heap.IsList l (intItems xs))
    (fin : ∀ v h' tk, (0 < xs.size → (intItems xs)[argBest (fun i j => decide (numAt xs i > numAt xs j)) (xs.size - 1)]? = some v) → (xs.size = 0 → v = dv) → (∀ b o, s.heap.get? b = some o → h'.get? b = some o) → Q v { s with heap := h', toks := tk }) :
    wpAny (model prog w) A (call (.builtin "max") [.ref l] [(Str.ofString "default", dv)]) Q E s := by
  have nm : (toString "max" ++ toString ".loop" : String) = "max.loop" := by decide
  refine kw_tree F.kind_max F.plain_max F.entry_max (maxD_args _ _) ?_
  show wpAny _ A.in1 (Builtin.Builtins.bindParams "max" ["key", "default"] 0 ⟨[], [(Str.ofString "default", dv)]⟩ >>= _) _ _ s
  refine wpAny_bind (wpAny_of_eq (show Builtin.Builtins.bindParams "max" ["key", "default"] 0 ⟨[], [(Str.ofString "default", dv)]⟩ = pure [none, some dv] from by first | rfl | kernel_rfl) (wpAny_bind (wpAny_pure (wpAny_bind ?_))))
  refine iter_intList hl fun s2 e st hfp hlI => ?_
  subst e
  refine wpAny_bind (wpAny_newObj_type ?_)
  rw [nm]
  refine wpAny_pure ⟨plainId_quiet F.plain_max_loop _, ?_⟩
  have W := Walks.list (prog := prog) (w := w) (A := A.in1) hh s.heap.objs.size l hlI (intItems xs)
  refine maxD_first (A := A) (n := (intItems xs).size) (c := 0) dv W _ (CmpOf.ints_gt (numAt xs) (fun _ _ => intItems_at)) _ ?_ ?_ ?_ fun v h' tk p0 d0 hk => ?_
  · exact fun hm => Nat.lt_irrefl _ (hfp _ hm)
  · exact W.frame _ _ _ st fun b _ o e => Heap.get?_push_of_some _ e
  · exact Heap.get?_push_size _ rfl
  have sz : (intItems xs).size = xs.size := by simp [intItems]
  rw [sz] at p0 d0
  exact fin v h' tk p0 d0 (old_kept fun b o nb e => hk b o (by simpa using nb) (Nat.ne_of_lt (Heap.lt_size e)) (Heap.get?_push_of_some _ e))
theorem maxD_raw (dv : Value) (hh : A.handled = none) (hl : s.heap.IsList l its.toArray) (hi : IntsAre its ns)
    (h : ∀ h' tk, (∀ b o, s.heap.get? b = some o → h'.get? b = some o) → (ns = [] → Q dv { s with heap := h', toks := tk }) ∧ ∀ M t', M ∈ ns → (∀ a, a ∈ ns → a ≤ M) → Q (.int M t') { s with heap := h', toks := tk }) : wpAny (model prog w) A (call (.builtin "max") [.ref l] [(Str.ofString "default", dv)]) Q E s := by
  obtain ⟨xs, e⟩ := hi.allInts.items
  have hn : numsOf (intItems xs).toList = ns := by rw [← e]; exact hi.numsOf
  rw [nums_intItems] at hn
  subst hn
  rw [e] at hl
  refine maxD_ints dv hh hl fun v h' tk hv hd hk => ?_
  obtain ⟨q0, q1⟩ := h h' tk hk
  by_cases hz : xs.size = 0
  · rw [hd hz]
    exact q0 (List.eq_nil_of_length_eq_zero (by rw [List.length_map, Array.length_toList]; exact hz))
  · obtain ⟨t, rfl⟩ := intItems_at (hv (by omega))
    obtain ⟨h1, h2⟩ := argBest_gt (numAt xs) (xs.size - 1)
    refine q1 _ t ?_ fun a ha => ?_
    · rw [numAt_eq]; exact PySem.getD_mem (by rw [List.length_map, Array.length_toList]; omega)
    · obtain ⟨j, hj, rfl⟩ := mem_getD ha
      rw [List.length_map, Array.length_toList] at hj
      rw [← numAt_eq]
      exact h2 j (by omega)
end
def rMaxD (K : PySem.W.Frag) (d : V) : List V → List V → Hp → VK → Prop := fun vs zs H Q => ∃ (a : Addr) (ns : List Int), vs = [V.ref a] ∧ zs = [d] ∧ SqL K H a (ns.map V.int) ∧ (ns = [] → Q d H) ∧ ∀ M, M ∈ ns → (∀ a, a ∈ ns → a ≤ M) → Q (.int M) H
theorem cr_maxD {X : Cx} {d : V} (hc : X.calm = true) : CallRK X (.builtin "max") [Str.ofString "default"] (rMaxD X.K d) := by
  intro pins s σ H vs zs us ws Q I r rz h
  obtain ⟨a, ns, rfl, rfl, hs, q0, q1⟩ := h
  obtain rfl := Vals.ref1 r
  obtain ⟨w1, rfl, e1⟩ := vals1 rz
  obtain ⟨its, rv, hl, _⟩ := I.list hs
  exact maxD_raw w1 (I.ok.hd hc) hl.isList rv.ints fun h' tk hk => ⟨fun hz => ⟨d, H, I.kept hk, e1, q0 hz⟩, fun M t' h1 h2 => ⟨.int M, H, I.kept hk, ⟨_, rfl⟩, q1 M h1 h2⟩⟩
section
variable {K : PySem.W.Frag} {σ : L2.St} {H : Hp} {ta td : TE}
theorem ev_maxD {ns : List Int} {d r : V} (h : EvL ta σ H (ns.map V.int)) (hd : Ev td σ H d) (h0 : ns = [] → r = d) (h1 : ∀ M, M ∈ ns → (∀ a, a ∈ ns → a ≤ M) → r = .int M) : Ev (tCKw (rMaxD K d) (tCons ta tNil) (tCons td tNil)) σ H r := fun H1 e Q q =>
  h H1 e _ fun p H2 _ e2 h2 => hd H2 (e.trans e2) _ fun H3 e3 => ⟨p, ns, rfl, rfl, sq_of (e3 _ _ h2), (fun z => h0 z ▸ q H3 (e2.trans e3)), fun M a b => h1 M a b ▸ q H3 (e2.trans e3)⟩
theorem ev_maxDV {a : Addr} {ns : List Int} {d r : V} (h : Ev ta σ H (.ref a)) (hx : SqL K H a (ns.map V.int)) (hd : Ev td σ H d) (h0 : ns = [] → r = d) (h1 : ∀ M, M ∈ ns → (∀ a, a ∈ ns → a ≤ M) → r = .int M) : Ev (tCKw (rMaxD K d) (tCons ta tNil) (tCons td tNil)) σ H r := fun H1 e Q q =>
  h H1 e _ fun H2 e2 => hd H2 (e.trans e2) _ fun H3 e3 => ⟨a, ns, rfl, rfl, ex_l ((e.trans e2).trans e3) hx, (fun z => h0 z ▸ q H3 (e2.trans e3)), fun M a b => h1 M a b ▸ q H3 (e2.trans e3)⟩
end
end Own
/-! own rules: math.comb of small numbers; orders of tuples; None -/
namespace Own
open PySem PySem.Spec PyProof.Rows L2 Evl PySem.Calls
namespace Cmb
theorem entry : entryFor table "math.comb" = some Builtin.«math.comb» := entryFor_of_tree (by kernel_rfl)
theorem kind : builtinKind "math.comb" = none := by kernel_rfl
theorem plain : plainId "math.comb" = true := by decide +kernel
theorem args (a b : Value) : argsOk "math.comb" ⟨[a, b], []⟩ := by unfold argsOk; kernel_rfl
end Cmb
theorem run_comb (a : Int) (t : Tok) (b : Int) (u : Tok) (h0 : ¬ a < 0) (h1 : ¬ b < 0) (h2 : ¬ b > a) (h3 : ¬ min b (a - b) > Builtin.Math.maxSsize) (h4 : ¬ min b (a - b) > Builtin.Math.manyFactors) (h5 : ¬ min b (a - b) > 9000)
    (hsz : (Builtin.Math.fallingProduct a (min b (a - b)).toNat / Builtin.Math.fallingProduct (min b (a - b)) (min b (a - b)).toNat).natAbs.log2 < bitsLine) :
    Gives (Builtin.«math.comb» ⟨[.int a t, .int b u], []⟩) (.int (Builtin.Math.fallingProduct a (min b (a - b)).toNat / Builtin.Math.fallingProduct (min b (a - b)) (min b (a - b)).toNat)) :=
  .of_wp fun M A E s Q h => by
    obtain ⟨hp, g, d, tk, os⟩ := s
    wp_walk
    (try (refine wpAny_ite_false (decide_eq_false (Nat.not_le.mpr hsz)) ?_; wp_walk))
    exact ⟨_, rfl, h⟩
theorem comb_small : ((List.range 7).all fun a => (List.range (a + 1)).all fun b => decide (Builtin.Math.fallingProduct (a : Int) (min (b : Int) ((a : Int) - b)).toNat / Builtin.Math.fallingProduct (min (b : Int) ((a : Int) - b)) (min (b : Int) ((a : Int) - b)).toNat = ((chooseN a b : Nat) : Int)) && decide (chooseN a b ≤ 20)) = true := by decide +kernel
def rComb : List V → Hp → VK → Prop := fun vs H Q => ∃ a b : Nat, vs = [N_ a, N_ b] ∧ a < 7 ∧ b ≤ a ∧ Q (N_ (chooseN a b)) H
theorem comb_eq {a b : Nat} (ha : a < 7) (hb : b ≤ a) : Builtin.Math.fallingProduct (a : Int) (min (b : Int) ((a : Int) - b)).toNat / Builtin.Math.fallingProduct (min (b : Int) ((a : Int) - b)) (min (b : Int) ((a : Int) - b)).toNat = ((chooseN a b : Nat) : Int) ∧ chooseN a b ≤ 20 := by
  have h := List.all_eq_true.mp (List.all_eq_true.mp comb_small a (List.mem_range.mpr ha)) b (List.mem_range.mpr (by omega))
  simp only [Bool.and_eq_true, decide_eq_true_eq] at h
  exact h
theorem cr_comb {X : Cx} : CallR X (.builtin "math.comb") rComb := by
  intro pins s σ H vs us Q I r h
  obtain ⟨a, b, rfl, ha, hb, q⟩ := h
  obtain ⟨t, u, rfl⟩ := Vals.int2 r
  obtain ⟨e, hl⟩ := comb_eq ha hb
  have m1 : Builtin.Math.maxSsize = 9223372036854775807 := rfl
  have m2 : Builtin.Math.manyFactors = 20000 := rfl
  refine call_function_meets Cmb.kind Cmb.plain Cmb.entry (Cmb.args _ _) (run_comb (a : Int) t (b : Int) u (by omega) (by omega) (by omega) (by omega) (by omega) (by omega) ?_).meets ?_
  · rw [e]
    refine Nat.lt_of_le_of_lt (m := 5) ?_ (by decide)
    show (chooseN a b).log2 ≤ 5
    by_cases h0 : chooseN a b = 0
    · rw [h0]
      decide
    · exact Nat.le_of_lt_succ ((Nat.log2_lt h0).mpr (by show _ < 64; omega))
  · rw [e]
    exact ⟨N_ (chooseN a b), H, I.tok _, ⟨_, rfl⟩, q⟩
theorem rc_comb {H : Hp} {a b : Nat} (ha : a < 7) (hb : b ≤ a) : RC rComb [N_ a, N_ b] H (N_ (chooseN a b)) := fun H1 _ _ q => ⟨a, b, rfl, ha, hb, q H1 (Ex.refl H1)⟩
/-- t >= u of tuples of the same integers -/
def rGeS (K : PySem.W.Frag) : R2 := fun x y H Q => ∃ (a b : Addr) (ns : List Int), x = .ref a ∧ y = .ref b ∧ SqT K H a (ns.map V.int) ∧ SqT K H b (ns.map V.int) ∧ Q (.bl true) H
theorem lex_same : ∀ (k i : Nat), Ob.lexAt (fun _ => true) (fun _ => true) true i k = true
  | 0, _ => rfl
  | k + 1, i => by
    rw [Ob.lexAt_succ, if_pos rfl]
    exact lex_same k (i + 1)
theorem op_geS {X : Cx} (hu : X.A.units < cLine) : OpR X (compareOp .GtE) (rGeS X.K) := by
  intro pins s σ H x y v u Q I rx ry h
  obtain ⟨a, b, ns, rfl, rfl, ha, hb, q⟩ := h
  cases rx
  cases ry
  obtain ⟨its, r1, p1, _⟩ := I.tuple ha
  obtain ⟨jts, r2, p2, _⟩ := I.tuple hb
  have i1 : IntsAre its ns := Vals.ints r1
  have i2 : IntsAre jts ns := Vals.ints r2
  have l1 : its.toArray.size = ns.length := by rw [List.size_toArray]; exact i1.length
  have l2 : jts.toArray.size = ns.length := by rw [List.size_toArray]; exact i2.length
  have it1 : ∀ j (h : j < its.toArray.size), ∃ t, its.toArray[j] = .int (ns.getD j 0) t := fun j h => PyProof.Rows.IntsAre.int_at i1 _ _ (by simp at h; simp [h])
  have it2 : ∀ j (h : j < jts.toArray.size), ∃ t, jts.toArray[j] = .int (ns.getD j 0) t := fun j h => PyProof.Rows.IntsAre.int_at i2 _ _ (by simp at h; simp [h])
  have R := Ob.RcOp.tuples_ge (A := X.A) (s := s) (e := fun _ => true) (r := fun _ => true) p1 p2 hu (fun j g1 g2 => by
    obtain ⟨t, et⟩ := it1 j g1
    obtain ⟨t', et'⟩ := it2 j g2
    rw [et, et']
    have z := SeqAt.EqAt.int_int (A := X.A.in1) (s := s) (ns.getD j 0) t (ns.getD j 0) t'
    rw [show (ns.getD j 0 == ns.getD j 0) = true from beq_self_eq_true _] at z
    exact z) (fun j g1 g2 _ => by
    obtain ⟨t, et⟩ := it1 j g1
    obtain ⟨t', et'⟩ := it2 j g2
    rw [et, et']
    have z := Ob.RcOp.ge_int (A := X.A.in1) (s := s) (ns.getD j 0) (ns.getD j 0) t t'
    rw [decide_eq_true (Int.le_refl _)] at z
    exact z)
  rw [l1, l2, decide_eq_true (Nat.le_refl _), lex_same] at R
  have z : wpAny (model X.prog X.w) X.A (compareOp .GtE (.ref a) (.ref b)) (EP X pins σ Q) X.xe s := R X.prog X.w X.xe (EP X pins σ Q) ⟨.bl _, H, I, rfl, q⟩
  exact z
theorem rv_geS {K : PySem.W.Frag} {H : Hp} {a b : Addr} {ns : List Int} (h1 : SqT K H a (ns.map V.int)) (h2 : SqT K H b (ns.map V.int)) : RV (rGeS K) (.ref a) (.ref b) H (.bl true) := fun H1 e _ q => ⟨a, b, ns, rfl, rfl, ex_t e h1, ex_t e h2, q H1 (Ex.refl H1)⟩
theorem pe_sliceSK {X : Cx} {K : PySem.W.Frag} (hK : X.K = K) {e lo st : Expr} {te : TE} {tl ts : TO} {p3 pos : Pos} (he : PE X e te) (hl : PO X (some lo) tl) (hst : PO X (some st) ts) : PE X (.Subscript e (.Slice (some lo) none (some st) p3) pos) (tSlS K te tl ts) := by
  subst hK
  exact pe_sliceS he hl hst
theorem pi_zipMK {X : Cx} {K : PySem.W.Frag} (hK : X.K = K) {e e2 : Expr} {ta : TA} {p pos tpos : Pos} {elts : List Expr} {kk : Nat} (hg : Gl X "zip") (hm : X.mg "zip" = none) (ha : PA X [e, e2] ta) (hs : starEach [e, e2] X.env = (false, eval e X.env) :: starEach [e2] X.env := by rfl) (hpl : (backTo pos (starEach [e2] X.env)).any (·.1) = false := by rfl) :
    PI X (.Tuple elts kk tpos) (.Call (.Name "zip" p) [e, e2] [] pos) (iZipM K ta) := by
  subst hK
  exact pi_zipM hg hm ha hs hpl
end Own
/-! the digits of a number as digits at places, from above; shift sums by classes of places -/
namespace Own
def hdR (xs : List Nat) : Nat → PL
  | 0 => []
  | i + 1 => if 0 < xs.getD i 0 then (xs.getD i 0, i) :: hdR xs i else hdR xs i
theorem hdR_lt (xs : List Nat) : ∀ i, ∀ x ∈ hdR xs i, x.2 < i ∧ 0 < x.1 ∧ x.1 = xs.getD x.2 0
  | 0, x, h => by cases h
  | i + 1, x, h => by
    unfold hdR at h
    split at h
    · rename_i hp
      rcases List.mem_cons.mp h with rfl | h
      · exact ⟨Nat.lt_succ_self i, hp, rfl⟩
      · obtain ⟨h1, h2⟩ := hdR_lt xs i x h
        exact ⟨by omega, h2⟩
    · obtain ⟨h1, h2⟩ := hdR_lt xs i x h
      exact ⟨by omega, h2⟩
theorem hdR_vd {p : Nat} {xs : List Nat} (h : ∀ d ∈ xs, d < p) (h0 : 0 < p) : ∀ i, Vd p (hdR xs i)
  | 0 => .nil
  | i + 1 => by
    unfold hdR
    split
    · refine .cons ?_ (fun x hx => (hdR_lt xs i x hx).1) (hdR_vd h h0 i)
      by_cases hi : i < xs.length
      · rw [List.getD_eq_getElem?_getD, List.getElem?_eq_getElem hi]
        exact h _ (List.getElem_mem hi)
      · rw [List.getD_eq_getElem?_getD, List.getElem?_eq_none (by omega)]
        exact h0
    · exact hdR_vd h h0 i
theorem hdR_len (xs : List Nat) : ∀ i, (hdR xs i).length ≤ i
  | 0 => Nat.le_refl _
  | i + 1 => by
    have := hdR_len xs i
    unfold hdR
    split
    · rw [List.length_cons]; omega
    · omega
theorem od_snoc (b : Nat) : ∀ (xs : List Nat) (x : Nat), od b (xs ++ [x]) = od b xs + x * b ^ xs.length
  | [], x => by
    show x + b * 0 = 0 + x * b ^ 0
    rw [Nat.pow_zero]
    omega
  | y :: r, x => by
    rw [List.cons_append, od, od_snoc b r x, od, List.length_cons, Nat.pow_succ, Nat.mul_add]
    have : b * (x * b ^ r.length) = x * (b ^ r.length * b) := by
      rw [Nat.mul_left_comm, Nat.mul_comm b]
    omega
theorem getD_get {xs : List Nat} {i : Nat} (h : i < xs.length) : xs[i]? = some (xs.getD i 0) := by
  rw [List.getElem?_eq_getElem h, List.getD_eq_getElem?_getD, List.getElem?_eq_getElem h]
  rfl
theorem take_succ {xs : List Nat} {i : Nat} (h : i < xs.length) : xs.take (i + 1) = xs.take i ++ [xs.getD i 0] := by
  rw [List.take_add_one, getD_get h]
  rfl
theorem nl_hdR {p : Nat} (xs : List Nat) : ∀ i, i ≤ xs.length → nl p (hdR xs i) = od p (xs.take i)
  | 0, _ => rfl
  | i + 1, h => by
    have ih := nl_hdR (p := p) xs i (by omega)
    rw [take_succ (by omega), od_snoc, List.length_take, Nat.min_eq_left (by omega), ← ih]
    rw [show hdR xs (i + 1) = if 0 < xs.getD i 0 then (xs.getD i 0, i) :: hdR xs i else hdR xs i from rfl]
    split
    · rw [nl_cons]
      omega
    · have : xs.getD i 0 = 0 := by omega
      rw [this, Nat.zero_mul]
      omega
/-- the sum by places -/
def gsum (p f j : Nat) : Nat → List Nat → Nat
  | _, [] => 0
  | a, x :: r => x * wt p f j a + gsum p f j (a + 1) r
theorem gsum_snoc (p f j : Nat) : ∀ (xs : List Nat) (a x : Nat), gsum p f j a (xs ++ [x]) = gsum p f j a xs + x * wt p f j (a + xs.length)
  | [], a, x => by
    show x * wt p f j a + 0 = 0 + x * wt p f j (a + 0)
    rw [Nat.add_zero, Nat.zero_add]
    rfl
  | y :: r, a, x => by
    rw [List.cons_append, gsum, gsum_snoc p f j r (a + 1) x, gsum, List.length_cons, show a + 1 + r.length = a + (r.length + 1) by omega]
    omega
theorem sj_hdR {p f j : Nat} (xs : List Nat) : ∀ i, i ≤ xs.length → sj p f j (hdR xs i) = gsum p f j 0 (xs.take i)
  | 0, _ => rfl
  | i + 1, h => by
    have ih := sj_hdR (p := p) (f := f) (j := j) xs i (by omega)
    rw [take_succ (by omega), gsum_snoc, List.length_take, Nat.min_eq_left (by omega), Nat.zero_add, ← ih]
    rw [show hdR xs (i + 1) = if 0 < xs.getD i 0 then (xs.getD i 0, i) :: hdR xs i else hdR xs i from rfl]
    split
    · rw [sj_cons]
      omega
    · have : xs.getD i 0 = 0 := by omega
      rw [this, Nat.zero_mul]
      omega
def tsum (F : Nat → Nat) : Nat → Nat
  | 0 => 0
  | n + 1 => tsum F n + F n
theorem tsum_succ (F : Nat → Nat) : ∀ n, tsum F (n + 1) = F 0 + tsum (fun t => F (t + 1)) n
  | 0 => by
    show 0 + F 0 = F 0 + 0
    omega
  | n + 1 => by
    show tsum F (n + 1) + F (n + 1) = F 0 + (tsum (fun t => F (t + 1)) n + F (n + 1))
    rw [tsum_succ F n]
    omega
theorem tsum_congr {F G : Nat → Nat} : ∀ n, (∀ t, t < n → F t = G t) → tsum F n = tsum G n
  | 0, _ => rfl
  | n + 1, h => by
    show tsum F n + F n = tsum G n + G n
    rw [tsum_congr n fun t ht => h t (by omega), h n (by omega)]
theorem tsum_range (F : Nat → Nat) : ∀ n, ((List.range n).map F).sum = tsum F n
  | 0 => rfl
  | n + 1 => by
    rw [List.range_succ, List.map_append, List.sum_append, tsum_range F n]
    show tsum F n + (F n + 0) = tsum F n + F n
    omega
theorem wt_per (p f j a : Nat) : wt p f j (a + f) = wt p f j a := by
  unfold wt
  rw [show a + f + j = a + j + f by omega, Nat.add_mod_right]
theorem strd_nil (f t : Nat) : strd f t [] = [] := by cases t <;> rfl
/-- by classes -/
theorem cls_sum (p g j : Nat) : ∀ (xs : List Nat) (a : Nat), tsum (fun t => (strd (g + 1) t xs).sum * wt p (g + 1) j (a + t)) (g + 1) = gsum p (g + 1) j a xs
  | [], a => by
    have : ∀ n, tsum (fun t => (strd (g + 1) t []).sum * wt p (g + 1) j (a + t)) n = 0 := by
      intro n
      induction n with
      | zero => rfl
      | succ n ih =>
        show tsum (fun t => (strd (g + 1) t []).sum * wt p (g + 1) j (a + t)) n + (strd (g + 1) n []).sum * wt p (g + 1) j (a + n) = 0
        rw [ih, strd_nil, List.sum_nil, Nat.zero_mul]
    exact this _
  | x :: r, a => by
    have ih := cls_sum p g j r (a + 1)
    rw [tsum_succ, gsum]
    show (x + (strd (g + 1) g r).sum) * wt p (g + 1) j (a + 0) + tsum (fun t => (strd (g + 1) t r).sum * wt p (g + 1) j (a + (t + 1))) g = _
    rw [← ih]
    show _ = x * wt p (g + 1) j a + (tsum (fun t => (strd (g + 1) t r).sum * wt p (g + 1) j (a + 1 + t)) g + (strd (g + 1) g r).sum * wt p (g + 1) j (a + 1 + g))
    rw [show wt p (g + 1) j (a + 1 + g) = wt p (g + 1) j a from by rw [show a + 1 + g = a + (g + 1) by omega]; exact wt_per p (g + 1) j a, show wt p (g + 1) j (a + 0) = wt p (g + 1) j a from rfl, Nat.add_mul]
    have : tsum (fun t => (strd (g + 1) t r).sum * wt p (g + 1) j (a + (t + 1))) g = tsum (fun t => (strd (g + 1) t r).sum * wt p (g + 1) j (a + 1 + t)) g := tsum_congr g fun t _ => by rw [show a + (t + 1) = a + 1 + t by omega]
    rw [this]
    omega
theorem spare_eq {p f j : Nat} (hf : 1 ≤ f) (xs : List Nat) : ((List.range f).map fun t => (strd f t xs).sum * wt p f j t).sum = sj p f j (hdR xs xs.length) := by
  rw [tsum_range, sj_hdR xs xs.length (Nat.le_refl _), List.take_length]
  obtain ⟨g, rfl⟩ : ∃ g, f = g + 1 := ⟨f - 1, by omega⟩
  rw [← cls_sum p g j xs 0]
  exact tsum_congr _ fun t _ => by rw [Nat.zero_add]
/-- the places of k -/
def topL (p k : Nat) : PL := hdR (dg p k) (dg p k).length
structure TopOk (p f k : Nat) : Prop where
  vd : Vd p (topL p k)
  po : ∀ x ∈ topL p k, 0 < x.1
  nm : nl p (topL p k) = k
  ss : ∀ j, sj p f j (topL p k) = ds (p ^ f) (p ^ j * k)
theorem top_ok {p f : Nat} (hp : 1 < p) (hf : 1 ≤ f) (k : Nat) : TopOk p f k := by
  have v : Vd p (topL p k) := hdR_vd (fun d hd => dg_lt hp k d hd) (by omega) _
  have n : nl p (topL p k) = k := by
    unfold topL
    rw [nl_hdR _ _ (Nat.le_refl _), List.take_length, od_dg hp]
  exact ⟨v, fun x hx => (hdR_lt _ _ x hx).2.1, n, fun j => by rw [sj_ds hp hf j v, n]⟩
end Own
/-! choices and lots modulo a prime, by digits -/
namespace Own
/-- digit by digit within -/
def wiB (b : Nat) (i j : Nat) : Bool := if h : 1 < b ∧ 0 < i then decide (i % b ≤ j % b) && wiB b (i / b) (j / b) else true
termination_by i
decreasing_by exact Nat.div_lt_self h.2 h.1
theorem wi_zero (b j : Nat) : wiB b 0 j = true := by
  rw [wiB, dif_neg (by simp)]
theorem wi_pos {b i : Nat} (hb : 1 < b) (hi : 0 < i) (j : Nat) : wiB b i j = (decide (i % b ≤ j % b) && wiB b (i / b) (j / b)) := by
  rw [wiB, dif_pos ⟨hb, hi⟩]
theorem wi_eq {b : Nat} (hb : 1 < b) (i j : Nat) : wiB b i j = (decide (i % b ≤ j % b) && wiB b (i / b) (j / b)) := by
  by_cases hi : 0 < i
  · exact wi_pos hb hi j
  · have : i = 0 := by omega
    subst this
    rw [Nat.zero_mod, Nat.zero_div, wi_zero, wi_zero]
    simp
def inW (b i j : Nat) : Prop := i ≤ j ∧ ds b i + ds b (j - i) = ds b j
theorem wi_iff {b : Nat} (hb : 1 < b) : ∀ i j : Nat, wiB b i j = true ↔ inW b i j := by
  intro i
  induction i using Nat.strongRecOn with
  | ind i ih =>
    intro j
    by_cases hi : 0 < i
    · rw [wi_pos hb hi, Bool.and_eq_true, decide_eq_true_eq, ih _ (Nat.div_lt_self hi hb)]
      unfold inW
      have ei := Nat.mod_add_div i b
      have ej := Nat.mod_add_div j b
      have li := Nat.mod_lt i (show 0 < b by omega)
      have lj := Nat.mod_lt j (show 0 < b by omega)
      have step : ∀ u v : Nat, u < b → ds b (u + b * v) = u + ds b v := fun u v hu => by
        rw [ds_eq hb, Nat.add_mul_mod_self_left, Nat.mod_eq_of_lt hu, Nat.add_mul_div_left _ _ (by omega), Nat.div_eq_of_lt hu, Nat.zero_add]
      rw [ds_eq hb i, ds_eq hb j]
      by_cases hle : i % b ≤ j % b
      · have hm : i ≤ j ↔ i / b ≤ j / b := by
          constructor
          · intro h
            exact Nat.div_le_div_right h
          · intro h
            have : b * (i / b) ≤ b * (j / b) := Nat.mul_le_mul_left b h
            omega
        rw [hm]
        constructor
        · intro ⟨_, h1, h2⟩
          have h3 : b * (i / b) ≤ b * (j / b) := Nat.mul_le_mul_left b h1
          have e : j - i = (j % b - i % b) + b * (j / b - i / b) := by
            rw [Nat.mul_sub]
            omega
          refine ⟨h1, ?_⟩
          rw [e, step _ _ (by omega)]
          omega
        · intro ⟨h1, h2⟩
          have h3 : b * (i / b) ≤ b * (j / b) := Nat.mul_le_mul_left b h1
          have e : j - i = (j % b - i % b) + b * (j / b - i / b) := by
            rw [Nat.mul_sub]
            omega
          rw [e, step _ _ (by omega)] at h2
          exact ⟨hle, h1, by omega⟩
      · constructor
        · intro ⟨h, _⟩
          exact absurd h hle
        · intro ⟨h1, h2⟩
          exfalso
          have h4 : i / b < j / b := by
            rcases Nat.lt_or_ge (i / b) (j / b) with h | h
            · exact h
            · have : b * (j / b) ≤ b * (i / b) := Nat.mul_le_mul_left b h
              omega
          have h5 : b * (i / b + 1) ≤ b * (j / b) := Nat.mul_le_mul_left b h4
          rw [Nat.mul_add] at h5
          have e : j - i = (b + j % b - i % b) + b * (j / b - i / b - 1) := by
            rw [Nat.mul_sub, Nat.mul_sub]
            omega
          rw [e, step _ _ (by omega)] at h2
          clear ih e
          generalize i / b = I at *
          generalize j / b = J at *
          have h6 := ds_add_le hb I (J - I - 1)
          rw [show I + (J - I - 1) = J - 1 by omega] at h6
          have h7 := ds_add_le hb (J - 1) 1
          rw [show J - 1 + 1 = J by omega, ds_small hb hb] at h7
          omega
    · have : i = 0 := by omega
      subst this
      rw [wi_zero]
      unfold inW
      rw [ds_zero, Nat.sub_zero]
      simp
/-- choices, as a product of numbers below 21 -/
def luN (p n k : Nat) : Nat := if h : 1 < p ∧ 0 < k then chooseN (n % p) (k % p) * luN p (n / p) (k / p) else 1
termination_by k
decreasing_by exact Nat.div_lt_self h.2 h.1
theorem lu_zero (p n : Nat) : luN p n 0 = 1 := by
  rw [luN, dif_neg (by simp)]
theorem choose_zero (n : Nat) : chooseN n 0 = 1 := by cases n <;> rfl
theorem lu_eq {p : Nat} (hp : 1 < p) (n k : Nat) : luN p n k = chooseN (n % p) (k % p) * luN p (n / p) (k / p) := by
  by_cases hk : 0 < k
  · rw [luN, dif_pos ⟨hp, hk⟩]
  · have : k = 0 := by omega
    subst this
    rw [Nat.zero_mod, Nat.zero_div, lu_zero, lu_zero, choose_zero]
def lucR (p : Nat) : List Nat → List Nat → Nat → Nat
  | x :: r, y :: s, m => lucR p r s (m * chooseN x y % p)
  | _, _, m => m
theorem lucR_eq {p : Nat} (hp : 1 < p) : ∀ (k n m : Nat), k ≤ n → m < p → lucR p (dg p n) (dg p k) m = m * luN p n k % p := by
  intro k
  induction k using Nat.strongRecOn with
  | ind k ih =>
    intro n m hkn hm
    by_cases hk : 0 < k
    · rw [dg_pos hp hk, dg_pos hp (show 0 < n by omega), lucR, ih _ (Nat.div_lt_self hk hp) _ _ (Nat.div_le_div_right hkn) (Nat.mod_lt _ (by omega)), lu_eq hp n k, Nat.mod_mul_mod, Nat.mul_assoc]
    · have : k = 0 := by omega
      subst this
      rw [dg_zero, lu_zero, Nat.mul_one, Nat.mod_eq_of_lt hm]
      cases dg p n <;> rfl
/-- the rest of the number of choices -/
def chR (p n k : Nat) : Nat := if wiB p k n = true then luN p n k % p else 0
/-- numbers one after the other: w the sum of those ahead -/
def FN (p : Nat) : Nat → List Nat → Nat
  | _, [] => 1
  | w, x :: r => luN p (w + x) x * FN p (w + x) r
/-- one place: t the sum of the digits ahead -/
def plM : Nat → List Nat → Nat
  | _, [] => 1
  | t, x :: r => chooseN (t + x) x * plM (t + x) r
theorem fn_zero (p : Nat) : ∀ (xs : List Nat) (w : Nat), xs.sum = 0 → FN p w xs = 1
  | [], _, _ => rfl
  | x :: r, w, h => by
    rw [List.sum_cons] at h
    have hx : x = 0 := by omega
    subst hx
    rw [FN, lu_zero, fn_zero p r _ (by omega)]
theorem mod_add_lt {p x y : Nat} (h : x % p + y % p < p) : (x + y) % p = x % p + y % p ∧ (x + y) / p = x / p + y / p := by
  have h0 : 0 < p := by omega
  have e : x + y = (x % p + y % p) + p * (x / p + y / p) := by
    have h1 := Nat.mod_add_div x p
    have h2 := Nat.mod_add_div y p
    rw [Nat.mul_add]
    omega
  constructor
  · rw [e, Nat.add_mul_mod_self_left, Nat.mod_eq_of_lt h]
  · rw [e, Nat.add_mul_div_left _ _ h0, Nat.div_eq_of_lt h, Nat.zero_add]
theorem fn_split {p : Nat} (hp : 1 < p) : ∀ (xs : List Nat) (w : Nat), w % p + (xs.map (· % p)).sum < p → FN p w xs = plM (w % p) (xs.map (· % p)) * FN p (w / p) (xs.map (· / p))
  | [], _, _ => rfl
  | x :: r, w, h => by
    rw [List.map_cons, List.sum_cons] at h
    obtain ⟨e1, e2⟩ := mod_add_lt (x := w) (y := x) (p := p) (by omega)
    have ih := fn_split hp r (w + x) (by rw [e1]; omega)
    rw [FN, ih, lu_eq hp (w + x) x, e1, e2, List.map_cons, List.map_cons, plM, FN]
    simp only [Nat.mul_assoc, Nat.mul_comm, Nat.mul_left_comm]
theorem fn_snoc (p x : Nat) : ∀ (xs : List Nat) (w : Nat), FN p w (xs ++ [x]) = FN p w xs * luN p (w + xs.sum + x) x
  | [], w => by
    show luN p (w + x) x * 1 = 1 * luN p (w + 0 + x) x
    rw [Nat.mul_one, Nat.one_mul, Nat.add_zero]
  | y :: r, w => by
    rw [List.cons_append, FN, fn_snoc p x r (w + y), FN, List.sum_cons, Nat.mul_assoc, show w + (y + r.sum) + x = w + y + r.sum + x by omega]
theorem cf_step {b : Nat} (hb : 1 < b) (xs : List Nat) : CF b xs ↔ (xs.map (· % b)).sum < b ∧ CF b (xs.map (· / b)) := by
  have h1 := nc_iff hb (xs.sum + 1) xs (by omega)
  have h2 := nc_iff hb xs.sum (xs.map (· / b)) (by have := sum_div_le hb xs; omega)
  unfold CF
  rw [← h1, ← h2, nc, Bool.and_eq_true, decide_eq_true_eq]
theorem cf_nil (b : Nat) : CF b [] := by
  unfold CF
  rw [List.map_nil, List.sum_nil, ds_zero]
theorem cf_zeros {b : Nat} : ∀ {xs : List Nat}, xs.sum = 0 → CF b xs
  | [], _ => cf_nil b
  | x :: r, h => by
    rw [List.sum_cons] at h
    have hx : x = 0 := by omega
    have ih := cf_zeros (b := b) (xs := r) (by omega)
    unfold CF at ih ⊢
    rw [List.map_cons, List.sum_cons, List.sum_cons, hx, ih, ds_zero, Nat.zero_add, Nat.zero_add]
/-! the law's own choices -/
def bkL (p s : Nat) : List Nat := ((List.range (p - 1)).map (· + 1)).filter fun o => decide (o * s % p = 1)
def bkN (p s : Nat) : Nat := (bkL p s).getD 0 0
def stF (p t f : Nat) : Nat → Nat
  | 0 => f
  | s + 1 => stF p t f s * (t + (s + 1)) * bkN p (s + 1) % p
def plC (p : Nat) : Nat → Nat → List Nat → Nat
  | _, f, [] => f
  | t, f, r :: rs => plC p (t + r) (stF p t f r) rs
def P4 : List Nat := [2, 3, 5, 7]
theorem chk_st : P4.all (fun p => (List.range p).all fun f => (List.range p).all fun t => (List.range p).all fun r => if t + r < p then decide (stF p t f r = f * chooseN (t + r) r % p) else decide (stF p t f r = 0)) = true := by decide +kernel
theorem chk_bk : P4.all (fun p => (List.range p).all fun s => s == 0 || decide ((bkL p s).length ≠ 0 ∧ bkN p s < p)) = true := by decide +kernel
theorem p4_2 {p : Nat} (hp : p ∈ P4) : 1 < p ∧ p ≤ 7 := by
  unfold P4 at hp
  simp only [List.mem_cons, List.not_mem_nil, or_false] at hp
  omega
theorem st_get {p f t r : Nat} (hp : p ∈ P4) (hf : f < p) (ht : t < p) (hr : r < p) : (t + r < p → stF p t f r = f * chooseN (t + r) r % p) ∧ (p ≤ t + r → stF p t f r = 0) := by
  have h := List.all_eq_true.mp (List.all_eq_true.mp (List.all_eq_true.mp (List.all_eq_true.mp chk_st p hp) f (List.mem_range.mpr hf)) t (List.mem_range.mpr ht)) r (List.mem_range.mpr hr)
  constructor
  · intro h1
    rw [if_pos h1] at h
    exact of_decide_eq_true h
  · intro h1
    rw [if_neg (by omega)] at h
    exact of_decide_eq_true h
theorem st_zero (p t : Nat) : ∀ r, stF p t 0 r = 0
  | 0 => rfl
  | r + 1 => by
    rw [stF, st_zero p t r, Nat.zero_mul, Nat.zero_mul, Nat.zero_mod]
theorem st_lt {p t f : Nat} (hp : 0 < p) (hf : f < p) : ∀ r, stF p t f r < p
  | 0 => hf
  | r + 1 => Nat.mod_lt _ hp
theorem pl_zero (p : Nat) : ∀ (rs : List Nat) (t : Nat), plC p t 0 rs = 0
  | [], _ => rfl
  | r :: rs, t => by rw [plC, st_zero, pl_zero p rs]
theorem pl_get {p : Nat} (hp : p ∈ P4) : ∀ (rs : List Nat) (t f : Nat), (∀ r ∈ rs, r < p) → f < p → t < p → plC p t f rs = if t + rs.sum < p then f * plM t rs % p else 0
  | [], t, f, _, hf, ht => by
    rw [plC, plM, List.sum_nil, if_pos (by omega), Nat.mul_one, Nat.mod_eq_of_lt hf]
  | r :: rs, t, f, hr, hf, ht => by
    obtain ⟨h1, h2⟩ := st_get hp hf ht (hr r (List.mem_cons_self ..))
    rw [plC, List.sum_cons]
    by_cases hlt : t + r < p
    · rw [pl_get hp rs (t + r) _ (fun x hx => hr x (List.mem_cons_of_mem _ hx)) (st_lt (by omega) hf r) hlt, h1 hlt, plM, show t + (r + rs.sum) = t + r + rs.sum by omega]
      split
      · rw [Nat.mod_mul_mod, Nat.mul_assoc]
      · rfl
    · rw [h2 (by omega), pl_zero, if_neg (by omega)]
/-- the value of the law's choices -/
noncomputable def chV (p : Nat) (xs : List Nat) : Nat := open Classical in if CF p xs then FN p 0 xs % p else 0
theorem chV_yes {p : Nat} {xs : List Nat} (h : CF p xs) : chV p xs = FN p 0 xs % p := by
  unfold chV
  rw [if_pos h]
theorem chV_no {p : Nat} {xs : List Nat} (h : ¬ CF p xs) : chV p xs = 0 := by
  unfold chV
  rw [if_neg h]
noncomputable def chF (p f : Nat) (xs : List Nat) : Nat := f * chV p xs % p
theorem chF_step {p : Nat} (hp : p ∈ P4) {f : Nat} (hf : f < p) (xs : List Nat) : chF p (plC p 0 f (xs.map (· % p))) (xs.map (· / p)) = chF p f xs := by
  obtain ⟨h1, h7⟩ := p4_2 hp
  have hm : ∀ r ∈ xs.map (· % p), r < p := fun r hr => by
    obtain ⟨x, _, rfl⟩ := List.mem_map.mp hr
    exact Nat.mod_lt _ (by omega)
  have hs := cf_step h1 xs
  rw [pl_get hp _ 0 f hm hf (by omega), Nat.zero_add]
  unfold chF
  by_cases hlt : (xs.map (· % p)).sum < p
  · rw [if_pos hlt]
    by_cases hc : CF p (xs.map (· / p))
    · have hx : CF p xs := hs.mpr ⟨hlt, hc⟩
      have h2 := fn_split h1 xs 0 (by rw [Nat.zero_mod]; omega)
      rw [Nat.zero_mod, Nat.zero_div] at h2
      rw [chV_yes hc, chV_yes hx, h2, Nat.mod_mul_mod, Nat.mul_mod_mod, Nat.mul_mod_mod, Nat.mul_assoc]
    · have hx : ¬ CF p xs := fun z => hc (hs.mp z).2
      rw [chV_no hc, chV_no hx, Nat.mul_zero, Nat.mul_zero]
  · have hx : ¬ CF p xs := fun z => hlt (hs.mp z).1
    rw [if_neg hlt, chV_no hx, Nat.zero_mul, Nat.mul_zero]
theorem chF_end {p : Nat} (hp : 1 < p) {f : Nat} (hf : f < p) {xs : List Nat} (h : xs.sum = 0) : chF p f xs = f := by
  unfold chF
  rw [chV_yes (cf_zeros h), fn_zero p xs 0 h, Nat.mod_eq_of_lt hp, Nat.mul_one, Nat.mod_eq_of_lt hf]
theorem chV_lt {p : Nat} (hp : 1 < p) (xs : List Nat) : chV p xs < p := by
  unfold chV
  split
  · exact Nat.mod_lt _ (by omega)
  · omega
/-! digits at a place -/
def dt (p n t : Nat) : Nat := n / p ^ t % p
theorem dt_zero (p n : Nat) : dt p n 0 = n % p := by
  unfold dt
  rw [Nat.pow_zero, Nat.div_one]
theorem dt_succ (p n t : Nat) : dt p n (t + 1) = dt p (n / p) t := by
  unfold dt
  rw [Nat.pow_succ, Nat.mul_comm, Nat.div_div_eq_div_mul]
theorem dg_get {p : Nat} (hp : 1 < p) : ∀ (t n : Nat), (dg p n).getD t 0 = dt p n t
  | 0, n => by
    rw [dt_zero]
    by_cases h : 0 < n
    · rw [dg_pos hp h]
      rfl
    · have : n = 0 := by omega
      subst this
      rw [dg_zero, Nat.zero_mod]
      rfl
  | t + 1, n => by
    rw [dt_succ, ← dg_get hp t (n / p)]
    by_cases h : 0 < n
    · rw [dg_pos hp h]
      simp [List.getD_eq_getElem?_getD]
    · have : n = 0 := by omega
      subst this
      rw [dg_zero, Nat.zero_div, dg_zero]
      simp [List.getD_eq_getElem?_getD]
/-- a carry at a place -/
theorem carry_no {p : Nat} (hp : 1 < p) {pre post : List Nat} {x t : Nat} (h : p ≤ dt p pre.sum t + dt p x t) : ¬ CF p (pre ++ x :: post) := fun z => by
  have h1 := (cf_rsum hp _).mp z (t + 1)
  have h2 : rsum (p ^ (t + 1)) (pre ++ x :: post) = rsum (p ^ (t + 1)) pre + x % p ^ (t + 1) + rsum (p ^ (t + 1)) post := by
    unfold rsum
    rw [List.map_append, List.sum_append, List.map_cons, List.sum_cons]
    omega
  have h3 : ∀ (m : Nat) (ys : List Nat), ys.sum % m ≤ rsum m ys := by
    intro m ys
    induction ys with
    | nil =>
      show 0 % m ≤ 0
      rw [Nat.zero_mod]
      exact Nat.le_refl _
    | cons y r ih =>
      have e1 : (y + r.sum) % m ≤ y % m + r.sum % m := by
        rw [Nat.add_mod]
        exact Nat.mod_le _ _
      unfold rsum at ih ⊢
      rw [List.map_cons, List.sum_cons, List.sum_cons]
      omega
  have h4 : ∀ n, dt p n t * p ^ t ≤ n % p ^ (t + 1) := fun n => by
    unfold dt
    rw [Nat.pow_succ, Nat.mod_mul, Nat.mul_comm]
    exact Nat.le_add_left _ _
  have h5 := h4 pre.sum
  have h6 := h4 x
  have h7 := h3 (p ^ (t + 1)) pre
  have h8 : p * p ^ t ≤ (dt p pre.sum t + dt p x t) * p ^ t := Nat.mul_le_mul_right _ h
  rw [Nat.add_mul] at h8
  rw [Nat.pow_succ, Nat.mul_comm (p ^ t) p] at h1
  rw [Nat.pow_succ, Nat.mul_comm (p ^ t) p] at h2 h5 h6 h7
  omega
theorem add_digits {p : Nat} (hp : 1 < p) : ∀ (m w x : Nat), w + x ≤ m → (∀ t, dt p w t + dt p x t < p) → (∀ t, dt p (w + x) t = dt p w t + dt p x t) ∧ ds p (w + x) = ds p w + ds p x := by
  intro m
  induction m using Nat.strongRecOn with
  | ind m ih =>
    intro w x hm h
    have h0 := h 0
    rw [dt_zero, dt_zero] at h0
    obtain ⟨e1, e2⟩ := mod_add_lt h0
    by_cases hz : w + x = 0
    · have hw : w = 0 := by omega
      have hx : x = 0 := by omega
      subst hw hx
      refine ⟨fun t => ?_, by rw [ds_zero]⟩
      unfold dt
      rw [Nat.zero_div, Nat.zero_mod]
    · have hlt : w / p + x / p < m := by
        rw [← e2]
        exact Nat.lt_of_lt_of_le (Nat.div_lt_self (by omega) hp) hm
      obtain ⟨i1, i2⟩ := ih _ hlt (w / p) (x / p) (Nat.le_refl _) fun t => by
        have := h (t + 1)
        rw [dt_succ, dt_succ] at this
        exact this
      refine ⟨fun t => ?_, ?_⟩
      · cases t with
        | zero => rw [dt_zero, dt_zero, dt_zero, e1]
        | succ t => rw [dt_succ, dt_succ, dt_succ, e2, i1 t]
      · rw [ds_eq hp (w + x), e1, e2, i2, ds_eq hp w, ds_eq hp x]
        omega
theorem cf_more {p : Nat} {pre : List Nat} {x : Nat} (h : CF p pre) (hx : ds p (pre.sum + x) = ds p pre.sum + ds p x) : CF p (pre ++ [x]) := by
  unfold CF at h ⊢
  rw [List.map_append, List.sum_append, List.sum_append]
  simp only [List.map_cons, List.map_nil, List.sum_cons, List.sum_nil, Nat.add_zero]
  omega
/-- the product over places below i -/
def pcN (p w x : Nat) : Nat → Nat
  | 0 => 1
  | i + 1 => pcN p w x i * chooseN (dt p w i + dt p x i) (dt p x i)
theorem pc_shift (p w x : Nat) : ∀ i, pcN p w x (i + 1) = chooseN (dt p w 0 + dt p x 0) (dt p x 0) * pcN p (w / p) (x / p) i
  | 0 => by
    show 1 * _ = _ * 1
    rw [Nat.one_mul, Nat.mul_one]
  | i + 1 => by
    rw [pcN, pc_shift p w x i, pcN, dt_succ, dt_succ, Nat.mul_assoc]
theorem pc_lu {p : Nat} (hp : 1 < p) : ∀ (i w x : Nat), (dg p x).length ≤ i → (∀ t, dt p w t + dt p x t < p) → pcN p w x i = luN p (w + x) x
  | 0, w, x, h, _ => by
    have hx : x = 0 := by
      by_cases z : 0 < x
      · rw [dg_pos hp z, List.length_cons] at h
        omega
      · omega
    subst hx
    rw [lu_zero]
    rfl
  | i + 1, w, x, h, hd => by
    have h0 := hd 0
    rw [dt_zero, dt_zero] at h0
    obtain ⟨e1, e2⟩ := mod_add_lt h0
    have hl : (dg p (x / p)).length ≤ i := by
      by_cases z : 0 < x
      · rw [dg_pos hp z, List.length_cons] at h
        omega
      · have : x = 0 := by omega
        subst this
        rw [Nat.zero_div, dg_zero]
        exact Nat.zero_le _
    rw [pc_shift, pc_lu hp i (w / p) (x / p) hl (fun t => by
      have := hd (t + 1)
      rw [dt_succ, dt_succ] at this
      exact this), lu_eq hp (w + x) x, e1, e2, dt_zero, dt_zero]
end Own
/-! own rules: zip of a tuple, a list and a tuple -/
namespace Own
open PySem PySem.Spec PyProof.Rows L2 Evl
abbrev IsTrip (h : Heap) (T : Addr) (a b c : Value) : Prop := h.get? T = some { cls := .type "tuple", data := .seq #[a, b, c] }
structure Z3A (z TI TO i1 i2 i3 l1 l2 l3 : Addr) : Prop where
  TIz : TI ≠ z
  TOz : TO ≠ z
  i1z : i1 ≠ z
  i2z : i2 ≠ z
  i3z : i3 ≠ z
  TITO : TI ≠ TO
  TIi1 : TI ≠ i1
  TIi2 : TI ≠ i2
  TIi3 : TI ≠ i3
  TOi1 : TO ≠ i1
  TOi2 : TO ≠ i2
  TOi3 : TO ≠ i3
  i12 : i1 ≠ i2
  i13 : i1 ≠ i3
  i23 : i2 ≠ i3
  l1z : l1 ≠ z
  l2z : l2 ≠ z
  l2TO : l2 ≠ TO
  l2i1 : l2 ≠ i1
  l3z : l3 ≠ z
  l3TO : l3 ≠ TO
  l3i1 : l3 ≠ i1
  l3i2 : l3 ≠ i2
theorem z3_neN {a b : Nat} (h : a ≠ b) : (a : Addr) ≠ b := h
theorem z3_apart (I l1 l2 l3 : Nat) (h1 : l1 < I) (h2 : l2 < I) (h3 : l3 < I) : Z3A (I + 5) (I + 3) (I + 4) I (I + 1) (I + 2) l1 l2 l3 := by
  constructor <;> (refine z3_neN ?_; omega)
section
variable {prog : Program} {w : World} {A : Around} {E : Value → Shared → Prop} {s : Shared} {κ μ ν : Kd} {z TI TO a1 a2 a3 l1 l2 l3 : Addr} {n m k : Nat} {xs ys ws : Array Value}
theorem upd_trip {T : Addr} {a b c x : Value} {k : Nat} {Q : Unit → Shared → Prop} (hT : IsTrip s.heap T a b c)
    (h : ∀ h', h'.get? T = some { cls := .type "tuple", data := .seq ((#[a, b, c] : Array Value).setIfInBounds k x) } → Heap.SameBut T s.heap h' → Q () { s with heap := h' }) :
    wpAny (model prog w) A (updateSeq T (·.setIfInBounds k x)) Q E s := by
  refine wpAny_updateSeq hT rfl (h _ ?_ (Heap.SameBut.update ..))
  rw [Heap.get?_update_self _ hT rfl]
  simp [Obj.mapSeq]
theorem z3_item {x y v a b c : Value} {Q : Value → Shared → Prop} (kκ : KdOk κ) (kμ : KdOk μ) (kν : KdOk ν) (D : Z3A z TI TO a1 a2 a3 l1 l2 l3) (Z : IsZip s.heap z TI TO .none) (hI : IsTrip s.heap TI (.ref a1) (.ref a2) (.ref a3)) (hO : IsTrip s.heap TO a b c) (u1 : κ.St s.heap a1 l1 n) (u2 : μ.St s.heap a2 l2 m) (u3 : ν.St s.heap a3 l3 k) (v1 : κ.Sq s.heap l1 xs) (v2 : μ.Sq s.heap l2 ys) (v3 : ν.Sq s.heap l3 ws) (hx : xs[n]? = some x) (hy : ys[m]? = some y) (hv : ws[k]? = some v)
    (fin : ∀ h', IsZip h' z TI TO (rawInt s.heap.objs.size) → IsTrip h' TO x y v → κ.St h' a1 l1 (n + 1) → μ.St h' a2 l2 (m + 1) → ν.St h' a3 l3 (k + 1) → IsTrip h' s.heap.objs.size x y v → h'.objs.size = s.heap.objs.size + 1 → (∀ c o, c ≠ z → c ≠ TO → c ≠ a1 → c ≠ a2 → c ≠ a3 → s.heap.get? c = some o → h'.get? c = some o) → Q (.ref s.heap.objs.size) { s with heap := h' }) :
    wpAny (model prog w) A (Builtin.«zip.__next__» ⟨[.ref z], []⟩) (fun r s' => ∃ v, r = .done (.ret v) ∧ Q v s') E s := by
  show wpAny _ _ (field (.ref z) 2 >>= _) _ _ _
  refine wpAny_bind (wpAny_field Z rfl (x := .bool false) rfl ?_); show wpAny _ _ (field (.ref z) 3 >>= _) _ _ _
  refine wpAny_bind (wpAny_field Z rfl (x := .ref TI) rfl (wpAny_bind (wpAny_seqItems hI rfl ?_)))
  show wpAny _ _ (Builtin.SmallTypes.ownedTupleIsFree (.ref z) >>= _) _ _ _
  refine wpAny_bind ?_; unfold Builtin.SmallTypes.ownedTupleIsFree
  refine wpAny_bind (wpAny_field Z rfl (x := .none) rfl (wpAny_pure ?_)); simp only [if_true]
  refine wpAny_bind (wpAny_rule (wpAny_bind (wpAny_field Z rfl (x := .ref TO) rfl (wpAny_bind (wpAny_setField_rec Z (by simp) fun hA ZA sA => ?_)))))
  replace ZA : IsZip hA z TI TO .ellipsis := ZA
  refine wpAny_bind ?_; simp only [List.zipIdx_cons, List.zipIdx_nil, List.forIn_cons, List.forIn_nil]
  refine wpAny_bind (wpAny_bind (wpAny_onRaise ?_)); show wpAny _ _ (Builtin.SmallTypes.nextOf (.ref a1) >>= _) _ _ _
  refine wpAny_bind (kκ.nxt (kκ.stay u1 fun o e => sA.extBut _ _ D.i1z e) (kκ.seq v1 fun o e => sA.extBut _ _ D.l1z e) hx fun hB uB sB => wpAny_pure ?_)
  have OB : IsTrip hB TO a b c := sB.extBut _ _ D.TOi1 (sA.extBut _ _ D.TOz hO)
  refine wpAny_bind (wpAny_seqItems OB rfl (wpAny_bind (upd_trip OB fun hC OC sC => ?_)))
  replace OC : IsTrip hC TO x b c := OC
  refine wpAny_bind (wpAny_letGo (wpAny_pure ?_)); refine wpAny_bind (wpAny_bind (wpAny_onRaise ?_)); show wpAny _ _ (Builtin.SmallTypes.nextOf (.ref a2) >>= _) _ _ _
  refine wpAny_bind (kμ.nxt (kμ.stay u2 fun o e => sC.extBut _ _ D.TOi2.symm (sB.extBut _ _ D.i12.symm (sA.extBut _ _ D.i2z e))) (kμ.seq v2 fun o e => sC.extBut _ _ D.l2TO (sB.extBut _ _ D.l2i1 (sA.extBut _ _ D.l2z e))) hy fun hD uD sD => wpAny_pure ?_)
  have OD : IsTrip hD TO x b c := sD.extBut _ _ D.TOi2 OC
  refine wpAny_bind (wpAny_seqItems OD rfl (wpAny_bind (upd_trip OD fun hF OF sF => ?_)))
  replace OF : IsTrip hF TO x y c := OF
  refine wpAny_bind (wpAny_letGo (wpAny_pure ?_)); refine wpAny_bind (wpAny_bind (wpAny_onRaise ?_)); show wpAny _ _ (Builtin.SmallTypes.nextOf (.ref a3) >>= _) _ _ _
  refine wpAny_bind (kν.nxt (kν.stay u3 fun o e => sF.extBut _ _ D.TOi3.symm (sD.extBut _ _ D.i23.symm (sC.extBut _ _ D.TOi3.symm (sB.extBut _ _ D.i13.symm (sA.extBut _ _ D.i3z e))))) (kν.seq v3 fun o e => sF.extBut _ _ D.l3TO (sD.extBut _ _ D.l3i2 (sC.extBut _ _ D.l3TO (sB.extBut _ _ D.l3i1 (sA.extBut _ _ D.l3z e))))) hv fun hU uU sU => wpAny_pure ?_)
  have OU : IsTrip hU TO x y c := sU.extBut _ _ D.TOi3 OF
  refine wpAny_bind (wpAny_seqItems OU rfl (wpAny_bind (upd_trip OU fun hW OW sW => ?_)))
  replace OW : IsTrip hW TO x y v := OW
  refine wpAny_bind (wpAny_letGo (wpAny_pure (wpAny_pure (wpAny_bind (wpAny_seqItems OW rfl (wpAny_bind (wpAny_newTuple ?_)))))))
  have many : hW.objs.size = s.heap.objs.size := by rw [sW.1, sU.1, sF.1, sD.1, sC.1, sB.1, sA.1]
  have ZW : IsZip hW z TI TO .ellipsis := sW.extBut _ _ D.TOz.symm (sU.extBut _ _ D.i3z.symm (sF.extBut _ _ D.TOz.symm (sD.extBut _ _ D.i2z.symm (sC.extBut _ _ D.TOz.symm (sB.extBut _ _ D.i1z.symm ZA)))))
  have old : ∀ c o, c ≠ z → c ≠ TO → c ≠ a1 → c ≠ a2 → c ≠ a3 → s.heap.get? c = some o → hW.get? c = some o := fun c o n1 n2 n3 n4 n5 e => sW.extBut _ _ n2 (sU.extBut _ _ n5 (sF.extBut _ _ n2 (sD.extBut _ _ n4 (sC.extBut _ _ n2 (sB.extBut _ _ n3 (sA.extBut _ _ n1 e))))))
  have wA : κ.St hW a1 l1 (n + 1) := kκ.stay uB fun o e => sW.extBut _ _ D.TOi1.symm (sU.extBut _ _ D.i13 (sF.extBut _ _ D.TOi1.symm (sD.extBut _ _ D.i12 (sC.extBut _ _ D.TOi1.symm e))))
  have wB : μ.St hW a2 l2 (m + 1) := kμ.stay uD fun o e => sW.extBut _ _ D.TOi2.symm (sU.extBut _ _ D.i23 (sF.extBut _ _ D.TOi2.symm e))
  have wC : ν.St hW a3 l3 (k + 1) := kν.stay uU fun o e => sW.extBut _ _ D.TOi3.symm e
  have zl : z < hW.objs.size := Heap.lt_size ZW
  show wpAny _ _ (Builtin.SmallTypes.ownedTupleHandOut (.ref z) (.ref hW.objs.size) >>= _) _ _ _
  refine wpAny_bind ?_; unfold Builtin.SmallTypes.ownedTupleHandOut
  have ZG : IsZip (hW.push { cls := .type "tuple", data := .seq #[x, y, v] }) z TI TO .ellipsis := Heap.get?_push_of_some _ ZW
  refine wpAny_bind (wpAny_setField_rec ZG (by simp) fun hG' ZG' sG' => ?_)
  replace ZG' : IsZip hG' z TI TO (rawInt hW.objs.size) := ZG'
  refine wpAny_setField_rec ZG' (by simp) fun hK ZK sK => ?_
  replace ZK : IsZip hK z TI TO (rawInt hW.objs.size) := ZK
  have lift : ∀ c o, c ≠ z → hW.get? c = some o → hK.get? c = some o := fun c o n1 e => sK.extBut _ _ n1 (sG'.extBut _ _ n1 (Heap.get?_push_of_some _ e))
  have TK : IsTrip hK hW.objs.size x y v := sK.extBut _ _ (Nat.ne_of_gt zl) (sG'.extBut _ _ (Nat.ne_of_gt zl) (Heap.get?_push_size _ rfl))
  have nK : hK.objs.size = hW.objs.size + 1 := by rw [sK.1, sG'.1, Heap.size_push]
  rw [many] at ZK TK nK
  refine wpAny_pure ⟨_, rfl, ?_⟩; show Q (.ref hW.objs.size) _; rw [many]
  exact fin hK ZK (lift _ _ D.TOz OW) (kκ.stay wA fun o e => lift _ o D.i1z e) (kμ.stay wB fun o e => lift _ o D.i2z e) (kν.stay wC fun o e => lift _ o D.i3z e) TK nK fun c o n1 n2 n3 n4 n5 e => lift c o n1 (old c o n1 n2 n3 n4 n5 e)
theorem z3_end {a b c : Value} {Q : Fin → Shared → Prop} (kκ : KdOk κ) (kμ : KdOk μ) (kν : KdOk ν) (hh : A.handled = none) (D : Z3A z TI TO a1 a2 a3 l1 l2 l3) (Z : IsZip s.heap z TI TO .none) (hI : IsTrip s.heap TI (.ref a1) (.ref a2) (.ref a3)) (hO : IsTrip s.heap TO a b c) (u1 : κ.St s.heap a1 l1 n) (u2 : μ.St s.heap a2 l2 m) (u3 : ν.St s.heap a3 l3 k) (v1 : κ.Sq s.heap l1 xs) (v2 : μ.Sq s.heap l2 ys) (v3 : ν.Sq s.heap l3 ws) (hend : xs[n]? = none ∨ ys[m]? = none ∨ ws[k]? = none)
    (hE : ∀ h' e, (∀ c o, c ≠ z → c ≠ TO → c ≠ a1 → c ≠ a2 → c ≠ a3 → s.heap.get? c = some o → h'.get? c = some o) → (∃ o, h'.get? e = some o ∧ o.cls = .type "StopIteration") → E (.ref e) { s with heap := h' }) : wpAny (model prog w) A (Builtin.«zip.__next__» ⟨[.ref z], []⟩) Q E s := by
  show wpAny _ _ (field (.ref z) 2 >>= _) _ _ _
  refine wpAny_bind (wpAny_field Z rfl (x := .bool false) rfl ?_); show wpAny _ _ (field (.ref z) 3 >>= _) _ _ _
  refine wpAny_bind (wpAny_field Z rfl (x := .ref TI) rfl (wpAny_bind (wpAny_seqItems hI rfl ?_)))
  show wpAny _ _ (Builtin.SmallTypes.ownedTupleIsFree (.ref z) >>= _) _ _ _
  refine wpAny_bind ?_; unfold Builtin.SmallTypes.ownedTupleIsFree
  refine wpAny_bind (wpAny_field Z rfl (x := .none) rfl (wpAny_pure ?_)); simp only [if_true]
  refine wpAny_bind (wpAny_rule (wpAny_bind (wpAny_field Z rfl (x := .ref TO) rfl (wpAny_bind (wpAny_setField_rec Z (by simp) fun hA ZA sA => ?_)))))
  replace ZA : IsZip hA z TI TO .ellipsis := ZA
  refine wpAny_bind ?_; simp only [List.zipIdx_cons, List.zipIdx_nil, List.forIn_cons, List.forIn_nil]
  refine wpAny_bind (wpAny_bind (wpAny_onRaise ?_)); show wpAny _ _ (Builtin.SmallTypes.nextOf (.ref a1) >>= _) _ _ _
  by_cases hx : xs[n]? = none
  · refine wpAny_bind (kκ.out hh (kκ.stay u1 fun o e => sA.extBut _ _ D.i1z e) (kκ.seq v1 fun o e => sA.extBut _ _ D.l1z e) hx fun hB e sB he => ?_)
    obtain ⟨oe, g1, g2⟩ := he
    have ZB : IsZip hB z TI TO .ellipsis := sB _ _ D.i1z.symm ZA
    have hez : e ≠ z := fun q => by rw [q, ZB] at g1; cases g1; simp at g2
    exact wpAny_setField_rec ZB (by simp) fun hC _ sC => hE hC e (fun c o n1 _ n3 _ _ q => sC.extBut _ _ n1 (sB _ _ n3 (sA.extBut _ _ n1 q))) ⟨oe, sC.extBut _ _ hez g1, g2⟩
  · obtain ⟨x, hx'⟩ := Option.ne_none_iff_exists'.mp hx
    refine wpAny_bind (kκ.nxt (kκ.stay u1 fun o e => sA.extBut _ _ D.i1z e) (kκ.seq v1 fun o e => sA.extBut _ _ D.l1z e) hx' fun hB uB sB => wpAny_pure ?_)
    have OB : IsTrip hB TO a b c := sB.extBut _ _ D.TOi1 (sA.extBut _ _ D.TOz hO)
    refine wpAny_bind (wpAny_seqItems OB rfl (wpAny_bind (upd_trip OB fun hC OC sC => ?_)))
    replace OC : IsTrip hC TO x b c := OC
    refine wpAny_bind (wpAny_letGo (wpAny_pure ?_)); refine wpAny_bind (wpAny_bind (wpAny_onRaise ?_)); show wpAny _ _ (Builtin.SmallTypes.nextOf (.ref a2) >>= _) _ _ _
    have s2 : μ.St hC a2 l2 m := kμ.stay u2 fun o e => sC.extBut _ _ D.TOi2.symm (sB.extBut _ _ D.i12.symm (sA.extBut _ _ D.i2z e))
    have q2 : μ.Sq hC l2 ys := kμ.seq v2 fun o e => sC.extBut _ _ D.l2TO (sB.extBut _ _ D.l2i1 (sA.extBut _ _ D.l2z e))
    by_cases hy : ys[m]? = none
    · refine wpAny_bind (kμ.out hh s2 q2 hy fun hD e sD he => ?_)
      obtain ⟨oe, g1, g2⟩ := he
      have ZD : IsZip hD z TI TO .ellipsis := sD _ _ D.i2z.symm (sC.extBut _ _ D.TOz.symm (sB.extBut _ _ D.i1z.symm ZA))
      have hez : e ≠ z := fun q => by rw [q, ZD] at g1; cases g1; simp at g2
      exact wpAny_setField_rec ZD (by simp) fun hF _ sF => hE hF e (fun c o n1 n2 n3 n4 _ q => sF.extBut _ _ n1 (sD _ _ n4 (sC.extBut _ _ n2 (sB.extBut _ _ n3 (sA.extBut _ _ n1 q))))) ⟨oe, sF.extBut _ _ hez g1, g2⟩
    · obtain ⟨y, hy'⟩ := Option.ne_none_iff_exists'.mp hy
      have hv : ws[k]? = none := (hend.resolve_left hx).resolve_left hy
      refine wpAny_bind (kμ.nxt s2 q2 hy' fun hD uD sD => wpAny_pure ?_)
      have OD : IsTrip hD TO x b c := sD.extBut _ _ D.TOi2 OC
      refine wpAny_bind (wpAny_seqItems OD rfl (wpAny_bind (upd_trip OD fun hF OF sF => ?_)))
      refine wpAny_bind (wpAny_letGo (wpAny_pure ?_)); refine wpAny_bind (wpAny_bind (wpAny_onRaise ?_)); show wpAny _ _ (Builtin.SmallTypes.nextOf (.ref a3) >>= _) _ _ _
      refine wpAny_bind (kν.out hh (kν.stay u3 fun o e => sF.extBut _ _ D.TOi3.symm (sD.extBut _ _ D.i23.symm (sC.extBut _ _ D.TOi3.symm (sB.extBut _ _ D.i13.symm (sA.extBut _ _ D.i3z e))))) (kν.seq v3 fun o e => sF.extBut _ _ D.l3TO (sD.extBut _ _ D.l3i2 (sC.extBut _ _ D.l3TO (sB.extBut _ _ D.l3i1 (sA.extBut _ _ D.l3z e))))) hv fun hU e sU he => ?_)
      obtain ⟨oe, g1, g2⟩ := he
      have ZU : IsZip hU z TI TO .ellipsis := sU _ _ D.i3z.symm (sF.extBut _ _ D.TOz.symm (sD.extBut _ _ D.i2z.symm (sC.extBut _ _ D.TOz.symm (sB.extBut _ _ D.i1z.symm ZA))))
      have hez : e ≠ z := fun q => by rw [q, ZU] at g1; cases g1; simp at g2
      exact wpAny_setField_rec ZU (by simp) fun hW _ sW => hE hW e (fun c o n1 n2 n3 n4 n5 q => sW.extBut _ _ n1 (sU _ _ n5 (sF.extBut _ _ n2 (sD.extBut _ _ n4 (sC.extBut _ _ n2 (sB.extBut _ _ n3 (sA.extBut _ _ n1 q))))))) ⟨oe, sW.extBut _ _ hez g1, g2⟩
theorem z3_nextI {x y v a b c : Value} {Q : Option Value → Shared → Prop} (kκ : KdOk κ) (kμ : KdOk μ) (kν : KdOk ν) (D : Z3A z TI TO a1 a2 a3 l1 l2 l3) (Z : IsZip s.heap z TI TO .none) (hI : IsTrip s.heap TI (.ref a1) (.ref a2) (.ref a3)) (hO : IsTrip s.heap TO a b c) (u1 : κ.St s.heap a1 l1 n) (u2 : μ.St s.heap a2 l2 m) (u3 : ν.St s.heap a3 l3 k) (v1 : κ.Sq s.heap l1 xs) (v2 : μ.Sq s.heap l2 ys) (v3 : ν.Sq s.heap l3 ws) (hx : xs[n]? = some x) (hy : ys[m]? = some y) (hv : ws[k]? = some v)
    (fin : ∀ h', IsZip h' z TI TO (rawInt s.heap.objs.size) → IsTrip h' TO x y v → κ.St h' a1 l1 (n + 1) → μ.St h' a2 l2 (m + 1) → ν.St h' a3 l3 (k + 1) → IsTrip h' s.heap.objs.size x y v → h'.objs.size = s.heap.objs.size + 1 → (∀ c o, c ≠ z → c ≠ TO → c ≠ a1 → c ≠ a2 → c ≠ a3 → s.heap.get? c = some o → h'.get? c = some o) → Q (some (.ref s.heap.objs.size)) { s with heap := h' }) :
    wpAny (model prog w) A (pyNext (.ref z)) Q E s := by
  have T : s.TypeIs (.ref z) "zip" := ⟨_, Z, rfl⟩
  unfold pyNext
  exact wpAny_bind (wpAny_attempt (wpAny_callSpecial?_slot (name := Str.ofString "__next__") T F.slot_zip_next (wpAny_call_entry F.slot_zip_next T F.entry_zip_next
    (z3_item kκ kμ kν D Z hI hO u1 u2 u3 v1 v2 v3 hx hy hv fun h' b1 b2 b3 b4 b5 b6 b7 b8 => wpAny_pure (fin h' b1 b2 b3 b4 b5 b6 b7 b8)) (F.args_zip_next_1 _))))
theorem z3_nextE {a b c : Value} {Q : Option Value → Shared → Prop} (kκ : KdOk κ) (kμ : KdOk μ) (kν : KdOk ν) (hh : A.handled = none) (D : Z3A z TI TO a1 a2 a3 l1 l2 l3) (Z : IsZip s.heap z TI TO .none) (hI : IsTrip s.heap TI (.ref a1) (.ref a2) (.ref a3)) (hO : IsTrip s.heap TO a b c) (u1 : κ.St s.heap a1 l1 n) (u2 : μ.St s.heap a2 l2 m) (u3 : ν.St s.heap a3 l3 k) (v1 : κ.Sq s.heap l1 xs) (v2 : μ.Sq s.heap l2 ys) (v3 : ν.Sq s.heap l3 ws) (hend : xs[n]? = none ∨ ys[m]? = none ∨ ws[k]? = none)
    (fin : ∀ h', (∀ c o, c ≠ z → c ≠ TO → c ≠ a1 → c ≠ a2 → c ≠ a3 → s.heap.get? c = some o → h'.get? c = some o) → Q none { s with heap := h' }) : wpAny (model prog w) A (pyNext (.ref z)) Q E s := by
  have T : s.TypeIs (.ref z) "zip" := ⟨_, Z, rfl⟩
  unfold pyNext
  refine wpAny_bind (wpAny_attempt (wpAny_callSpecial?_slot (name := Str.ofString "__next__") T F.slot_zip_next (wpAny_call_entry F.slot_zip_next T F.entry_zip_next (z3_end kκ kμ kν hh D Z hI hO u1 u2 u3 v1 v2 v3 hend fun h' e hk he => ?_) (F.args_zip_next_1 _))))
  obtain ⟨o, ho, hc⟩ := he
  exact wpAny_bind (wpAny_isInstance (T := "StopIteration") (b := true) ⟨o, ho, hc⟩ isSubtype_stop (wpAny_pure (fin _ hk)))
end
abbrev z3a (h : Heap) (t : Addr) : Heap := h.push { cls := .type "tuple_iterator", data := .fields #[.ref t, .int 0 0] }
abbrev z3b (h : Heap) (t l : Addr) : Heap := (z3a h t).push { cls := .type "list_iterator", data := .fields #[.ref l, .int 0 0] }
abbrev z3c (h : Heap) (t l u : Addr) : Heap := (z3b h t l).push { cls := .type "tuple_iterator", data := .fields #[.ref u, .int 0 0] }
abbrev z3d (h : Heap) (t l u : Addr) : Heap := (z3c h t l u).push { cls := .type "tuple", data := .seq #[.ref h.objs.size, .ref (z3a h t).objs.size, .ref (z3b h t l).objs.size] }
abbrev z3e (h : Heap) (t l u : Addr) : Heap := (z3d h t l u).push { cls := .type "tuple", data := .seq #[.none, .none, .none] }
abbrev z3f (h : Heap) (t l u : Addr) : Heap := (z3e h t l u).push { cls := .type "zip", data := .fields #[.none, .bool false, .bool false, .ref (z3c h t l u).objs.size, .ref (z3d h t l u).objs.size] }
theorem z3_new (t l u : Addr) (xs ys ws : Array Value) : Meets (Builtin.«zip.__new__» ⟨[.type "zip", .ref t, .ref l, .ref u], []⟩) (fun _ R s => s.heap.IsTuple t xs ∧ s.heap.IsList l ys ∧ s.heap.IsTuple u ws ∧ R (.ok (.ret (.ref (z3e s.heap t l u).objs.size))) { s with heap := z3f s.heap t l u }) :=
  .of_wp fun prog w A R s h => by
    obtain ⟨hp, g, d, tk, os⟩ := s
    obtain ⟨v1, v2, v3, h⟩ := h
    have sub := PySem.sub_zip
    have V1 : Heap.IsTuple (Shared.heap ⟨hp, g, d, tk, os⟩) t xs := v1
    have V2 : Heap.IsList (Shared.heap ⟨z3a hp t, g, d, tk, os⟩) l ys := Heap.IsList.push v2 _
    have V3 : Heap.IsTuple (Shared.heap ⟨z3b hp t l, g, d, tk, os⟩) u ws := Heap.IsTuple.push (Heap.IsTuple.push v3 _) _
    wp_walk using wpAny_pyIter_tuple V1, wpAny_pyIter_list V2, wpAny_pyIter_tuple V3
    exact ⟨_, rfl, h⟩
namespace Z3F
theorem typeCall (a b c : Value) : checkTypeCall "zip" ⟨[a, b, c], []⟩ = pure () := by kernel_rfl
theorem newCall (a b c : Value) : checkBuiltinCall "zip.__new__" ⟨[.type "zip", a, b, c], []⟩ = pure () := by kernel_rfl
theorem init4 (a b c d : Value) : argsOk "object.__init__" ⟨[a, b, c, d], []⟩ := by
  unfold argsOk; rw [signature?_of (id := "object.__init__") (n := ['_', '_', 't', 'i', 'n', 'i', '_', '_']) (o := ['t', 'c', 'e', 'j', 'b', 'o']) (by kernel_rfl) F.owner_object]; kernel_rfl
end Z3F
section
variable {prog : Program} {w : World} {A : Around} {E : Value → Shared → Prop} {s : Shared}
theorem call_z3 {t l u : Addr} {xs ys ws : Array Value} {Q : Value → Shared → Prop} (v1 : s.heap.IsTuple t xs) (v2 : s.heap.IsList l ys) (v3 : s.heap.IsTuple u ws)
    (fin : ∀ h', IsZip h' (s.heap.objs.size + 5) (s.heap.objs.size + 3) (s.heap.objs.size + 4) .none → IsTrip h' (s.heap.objs.size + 3) (.ref s.heap.objs.size) (.ref (s.heap.objs.size + 1)) (.ref (s.heap.objs.size + 2)) → IsTrip h' (s.heap.objs.size + 4) .none .none .none → h'.IsTupleIter s.heap.objs.size t 0 → h'.IsListIter (s.heap.objs.size + 1) l 0 → h'.IsTupleIter (s.heap.objs.size + 2) u 0 →
      (∀ c o, s.heap.get? c = some o → h'.get? c = some o) → Q (.ref (s.heap.objs.size + 5)) { s with heap := h' }) :
    wpAny (model prog w) A (call (.type "zip") [.ref t, .ref l, .ref u]) Q E s := by
  refine callType_new F.called_zip (by decide) (Z3F.typeCall _ _ _) (Z3F.newCall _ _ _) (fun ob => Z3F.init4 ob _ _ _) F.entry_zip_new (z3_new t l u xs ys ws) ⟨v1, v2, v3, ?_⟩
  have n1 : (z3a s.heap t).objs.size = s.heap.objs.size + 1 := Heap.size_push ..
  have n2 : (z3b s.heap t l).objs.size = s.heap.objs.size + 2 := by rw [Heap.size_push, n1]
  have n3 : (z3c s.heap t l u).objs.size = s.heap.objs.size + 3 := by rw [Heap.size_push, n2]
  have n4 : (z3d s.heap t l u).objs.size = s.heap.objs.size + 4 := by rw [Heap.size_push, n3]
  have n5 : (z3e s.heap t l u).objs.size = s.heap.objs.size + 5 := by rw [Heap.size_push, n4]
  have up : ∀ {h : Heap} {o : Obj} {c : Addr} {u : Obj}, h.get? c = some u → (h.push o).get? c = some u := fun e => Heap.get?_push_of_some _ e
  have o6 : (z3f s.heap t l u).get? (z3e s.heap t l u).objs.size = some _ := Heap.get?_push_size _ rfl
  have o5 : (z3f s.heap t l u).get? (z3d s.heap t l u).objs.size = some _ := up (Heap.get?_push_size _ rfl)
  have o4 : (z3f s.heap t l u).get? (z3c s.heap t l u).objs.size = some _ := up (up (Heap.get?_push_size _ rfl))
  have o3 : (z3f s.heap t l u).get? (z3b s.heap t l).objs.size = some _ := up (up (up (Heap.get?_push_size _ rfl)))
  have o2 : (z3f s.heap t l u).get? (z3a s.heap t).objs.size = some _ := up (up (up (up (Heap.get?_push_size _ rfl))))
  have o1 : (z3f s.heap t l u).get? s.heap.objs.size = some _ := up (up (up (up (up (Heap.get?_push_size _ rfl)))))
  rw [n3, n4, n5] at o6; rw [n4] at o5; rw [n1, n2, n3] at o4; rw [n2] at o3; rw [n1] at o2
  show _ ∧ _
  rw [n5]
  exact ⟨⟨_, o6, rfl⟩, fin _ o6 o4 o5 ⟨_, o1, rfl, rfl⟩ ⟨_, o2, rfl, rfl⟩ ⟨_, o3, rfl, rfl⟩ fun c o x => up (up (up (up (up (up x)))))⟩
end
/-- the tuple at a, the list at b, the tuple at c, their items in new triples -/
def It3 (K : PySem.W.Frag) (a b c : Addr) : It :=
  ⟨fun i H => ∃ (xs ys ws : List V) (x y v : V), SqT K H a xs ∧ SqL K H b ys ∧ SqT K H c ws ∧ xs[i]? = some x ∧ ys[i]? = some y ∧ ws[i]? = some v,
    fun i H r H' => ∃ T x y v, r = .ref T ∧ H T = none ∧ H' = upd H T (.tup [x, y, v]) ∧ (∀ xs, SqT K H a xs → xs[i]? = some x) ∧ (∀ ys, SqL K H b ys → ys[i]? = some y) ∧ ∀ ws, SqT K H c ws → ws[i]? = some v,
    fun i H => ∃ xs ys ws : List V, SqT K H a xs ∧ SqL K H b ys ∧ SqT K H c ws ∧ (xs.length ≤ i ∨ ys.length ≤ i ∨ ws.length ≤ i)⟩
theorem mem6 {α : Type} {c z a b d e f : α} (h : c ∈ [z, a, b, d, e, f]) : c = z ∨ c = a ∨ c = b ∨ c = d ∨ c = e ∨ c = f := by simpa using h
theorem turn_z3 {P : Program} {w : World} {K : PySem.W.Frag} {elts : List Expr} {kk : Nat} {tpos : Pos} {a b c z TI TO i1 i2 i3 : Addr} (D : Z3A z TI TO i1 i2 i3 a b c) :
    Turn P w K (.Tuple elts kk tpos) (It3 K a b c) [z, TI, TO, i1, i2, i3] z (fun i h => IsZip h z TI TO .none ∧ IsTrip h TI (.ref i1) (.ref i2) (.ref i3) ∧ (∃ x y v, IsTrip h TO x y v) ∧ kT.St h i1 a i ∧ kL.St h i2 b i ∧ kT.St h i3 c i) where
  mem := by simp
  obj := fun i h st d hd => by
    obtain ⟨Z, hI, ⟨x, y, v, hO⟩, u1, u2, u3⟩ := st
    rcases mem6 hd with q | q | q | q | q | q <;> rw [q]
    · exact ⟨_, Z, fun v q => nomatch q⟩
    · exact ⟨_, hI, fun v q => nomatch q⟩
    · exact ⟨_, hO, fun v q => nomatch q⟩
    · exact kT_ok.here u1
    · exact kL_ok.here u2
    · exact kT_ok.here u3
  keep := fun i h h' st k => by
    obtain ⟨Z, hI, ⟨x, y, v, hO⟩, u1, u2, u3⟩ := st
    exact ⟨k z (by simp) _ Z, k TI (by simp) _ hI, ⟨x, y, v, k TO (by simp) _ hO⟩, kT_ok.stay u1 fun o q => k i1 (by simp) o q, kL_ok.stay u2 fun o q => k i2 (by simp) o q, kT_ok.stay u3 fun o q => k i3 (by simp) o q⟩
  item := by
    intro X hP hw hK hc i pins s σ H E I hf st hg
    subst hP hw hK
    obtain ⟨Z, hI, ⟨x0, y0, v0, hO⟩, u1, u2, u3⟩ := st
    obtain ⟨xs, ys, ws, x, y, r, qx, qy, qw, hx, hy, hr⟩ := hg
    obtain ⟨its, rv, p, _⟩ := I.tuple qx
    obtain ⟨jts, rw', p2, _⟩ := I.list qy
    obtain ⟨kts, rw3, p3, _⟩ := I.tuple qw
    obtain ⟨u, hu, ru⟩ := rv.get hx
    obtain ⟨v, hv, rv'⟩ := rw'.get hy
    obtain ⟨v3, hv3, rv3⟩ := rw3.get hr
    have zl : z < s.heap.objs.size := Heap.lt_size Z
    refine z3_nextI kT_ok kL_ok kT_ok D Z hI hO u1 u2 u3 p p2.isList p3 (x := u) (y := v) (v := v3) (by simpa using hu) (by simpa using hv) (by simpa using hv3) fun h' Z' O' u1' u2' u3' T' _ old => ?_
    refine ⟨_, rfl, wpAny_letOwnedTupleGo_zip (s := { s with heap := h' }) Z' fun g Z2 sb => ?_⟩
    have T2 : g.get? s.heap.objs.size = some { cls := .type "tuple", data := .seq #[u, v, v3] } := (sb.2 _ (Nat.ne_of_gt zl)).trans T'
    have nw : ObjOk X.prog X.w (upd H s.heap.objs.size (.tup [x, y, r])) g s.heap.objs.size (.tup [x, y, r]) := ⟨by show 3 ≤ sizeLine; decide, [u, v, v3], .cons ru (.cons rv' (.cons rv3 .nil)), ⟨_, T2, rfl, _, rfl⟩⟩
    have I1 : Inv X pins σ (upd H s.heap.objs.size (.tup [x, y, r])) { s with heap := g } :=
      I.turnedNew (t' := s.toks) (ch := [z, TI, TO, i1, i2, i3]) (fun c o hb q => (sb.2 c fun e => hb (by simp [e])).trans (old c o (fun e => hb (by simp [e])) (fun e => hb (by simp [e])) (fun e => hb (by simp [e])) (fun e => hb (by simp [e])) (fun e => hb (by simp [e])) q)) hf (Nat.le_refl _) nw
    refine ⟨.ref s.heap.objs.size, _, I1, rfl, ⟨_, x, y, r, rfl, I.hok.fresh (Nat.le_refl _), rfl, fun l hl => (I.tuple_inj hl qx).symm ▸ hx, fun l hl => (I.list_inj hl qy).symm ▸ hy, fun l hl => (I.tuple_inj hl qw).symm ▸ hr⟩, ⟨Z2, ?_, ⟨u, v, v3, ?_⟩, kT_ok.stay u1' fun o q => (sb.2 _ D.i1z).trans q, kL_ok.stay u2' fun o q => (sb.2 _ D.i2z).trans q, kT_ok.stay u3' fun o q => (sb.2 _ D.i3z).trans q⟩, fun c hcm => ?_⟩
    · exact (sb.2 _ D.TIz).trans (old _ _ D.TIz D.TITO D.TIi1 D.TIi2 D.TIi3 hI)
    · exact (sb.2 _ D.TOz).trans O'
    · have lt : c < s.heap.objs.size := by
        rcases mem6 hcm with q | q | q | q | q | q <;> rw [q]
        · exact zl
        · exact Heap.lt_size hI
        · exact Heap.lt_size hO
        · exact Heap.lt_size (kT_ok.here u1).choose_spec.1
        · exact Heap.lt_size (kL_ok.here u2).choose_spec.1
        · exact Heap.lt_size (kT_ok.here u3).choose_spec.1
      rw [upd_ne (Nat.ne_of_lt lt)]
      exact (hf c hcm).1
  done := by
    intro X hP hw hK hc i pins s σ H E I hf st hg
    subst hP hw hK
    obtain ⟨Z, hI, ⟨x0, y0, v0, hO⟩, u1, u2, u3⟩ := st
    obtain ⟨xs, ys, ws, qx, qy, qw, hend⟩ := hg
    obtain ⟨its, rv, p, _⟩ := I.tuple qx
    obtain ⟨jts, rw', p2, _⟩ := I.list qy
    obtain ⟨kts, rw3, p3, _⟩ := I.tuple qw
    have e1 := rv.length
    have e2 := rw'.length
    have e3 := rw3.length
    have he : its.toArray[i]? = none ∨ jts.toArray[i]? = none ∨ kts.toArray[i]? = none := hend.elim (fun q => .inl (by simp; omega)) fun q => q.elim (fun q => .inr (.inl (by simp; omega))) fun q => .inr (.inr (by simp; omega))
    exact z3_nextE kT_ok kL_ok kT_ok (I.ok.hd hc) D Z hI hO u1 u2 u3 p p2.isList p3 he fun h' old => ⟨rfl, I.turnedL (t' := s.toks) (ch := [z, TI, TO, i1, i2, i3]) (fun c o hb q => old c o (fun e => hb (by simp [e])) (fun e => hb (by simp [e])) (fun e => hb (by simp [e])) (fun e => hb (by simp [e])) (fun e => hb (by simp [e])) q) hf⟩
  self := fun A i s Q E st h => wpAny_pyIter_zip st.1 h
def iZip3 (K : PySem.W.Frag) (ta : TA) : TI := fun σ H R => ta σ H fun vs H1 => ∃ a b c xs ys ws, vs = [.ref a, .ref b, .ref c] ∧ SqT K H1 a xs ∧ SqL K H1 b ys ∧ SqT K H1 c ws ∧ R (It3 K a b c) H1
theorem pi_zip3 {X : Cx} {e e2 e3 : Expr} {ta : TA} {p pos tpos : Pos} {elts : List Expr} {kk : Nat} (hg : Gl X "zip") (hm : X.mg "zip" = none) (ha : PA X [e, e2, e3] ta) (hs : starEach [e, e2, e3] X.env = (false, eval e X.env) :: starEach [e2, e3] X.env := by rfl) (hpl : (backTo pos (starEach [e2, e3] X.env)).any (·.1) = false := by rfl) :
    PI X (.Tuple elts kk tpos) (.Call (.Name "zip" p) [e, e2, e3] [] pos) (iZip3 X.K ta) := by
  refine ⟨fun pins s σ H R I h => Call_ (ld_blt I hg hm PyProof.Rows.boot_zip (PyProof.Rows.callWith_type1 (thn (ha.run pos pins s σ H _ I h) fun us s1 ⟨vs, H1, I1, r1, q1⟩ => ?_) hs hpl))⟩
  obtain ⟨a, b, c, xs, ys, ws, ex, qx, qy, qw, q⟩ := q1
  subst ex
  obtain _ | ⟨r, rr⟩ := r1
  obtain _ | ⟨r', rr⟩ := rr
  obtain _ | ⟨r'', rr⟩ := rr
  cases rr
  cases r
  cases r'
  cases r''
  obtain ⟨its, rv, p1, _⟩ := I1.tuple qx
  obtain ⟨jts, rw', p2, _⟩ := I1.list qy
  obtain ⟨kts, rw3, p3, _⟩ := I1.tuple qw
  have la : a < s1.heap.objs.size := by
    obtain ⟨o, ho, _⟩ := id p1
    exact Heap.lt_size ho
  have lc : c < s1.heap.objs.size := by
    obtain ⟨o, ho, _⟩ := id p3
    exact Heap.lt_size ho
  refine call_z3 p1 p2.isList p3 fun h' Z hI hO u1 u2 u3 hk => wpAny_pyIter_zip Z ?_
  refine ⟨s1.heap.objs.size + 5, [s1.heap.objs.size + 5, s1.heap.objs.size + 3, s1.heap.objs.size + 4, s1.heap.objs.size, s1.heap.objs.size + 1, s1.heap.objs.size + 2], _, _, H1, rfl, I1.kept (t' := s1.toks) hk, turn_z3 (z3_apart s1.heap.objs.size a b c la p2.lt lc), ⟨Z, hI, ⟨_, _, _, hO⟩, u1, u2, u3⟩, fun c hcm => ?_, q⟩
  have le : s1.heap.objs.size ≤ c := by rcases mem6 hcm with z | z | z | z | z | z <;> rw [z] <;> omega
  exact I1.fpOk le (I1.hok.fresh le)
end Own
/-! own words: a written dict of tuples of tuples of tuples -/
namespace Own
open PySem PySem.Spec PyProof.Rows L2 Evl
def Rws3 (K : Fr_) (H : Hp) (rs : List Addr) (xss : List (List (List Int))) : Prop := rs.length = xss.length ∧ ∀ (i : Nat) (r : Addr) (xs : List (List Int)), rs[i]? = some r → xss[i]? = some xs → ∃ ss : List Addr, ∀ H, SqT K H r (ss.map V.ref) ∧ Rws K H ss xs
theorem asRows3L_eq {K : Fr_} : ∀ {l : List Value} {xss : List (List (List Int))}, asRows3L K l = some xss → ∃ rs : List Addr, Vals (rs.map V.ref) l ∧ ∀ H, Rws3 K H rs xss
  | [], xss, h => by
    cases (Option.some.inj h : [] = xss)
    exact ⟨[], .nil, fun H => ⟨rfl, fun i r xs h => by simp at h⟩⟩
  | v :: l, xss, h => by
    unfold asRows3L at h
    split at h
    · rename_i i is h1 h2
      cases (Option.some.inj h : (i :: is) = xss)
      obtain ⟨a, ss, rfl, hs⟩ := asRows_eq h1
      obtain ⟨rs, hv, hr⟩ := asRows3L_eq h2
      refine ⟨a :: rs, .cons rfl hv, fun H => ⟨by rw [List.length_cons, List.length_cons, (hr H).1], fun j r xs e1 e2 => ?_⟩⟩
      cases j with
      | zero =>
        cases (Option.some.inj e1 : a = r)
        cases (Option.some.inj e2 : i = xs)
        exact ⟨ss, hs⟩
      | succ j => exact (hr H).2 j r xs e1 e2
    · cases h
theorem asRows3_eq {K : Fr_} {v : Value} {xss : List (List (List Int))} (h : asRows3 K v = some xss) : ∃ (a : Addr) (rs : List Addr), v = .ref a ∧ ∀ H, SqT K H a (rs.map V.ref) ∧ Rws3 K H rs xss := by
  unfold asRows3 at h
  split at h
  · rename_i l e
    obtain ⟨a, o, its, n, rfl, hl, hc, hd, hz, rfl⟩ := asTup_eq e
    obtain ⟨rs, hv, hr⟩ := asRows3L_eq h
    exact ⟨a, rs, rfl, fun H => ⟨.inr ⟨o, its, n, hl, hc, hd, Nat.le_trans hz (by decide), hv⟩, hr H⟩⟩
  · cases h
theorem tab3_get {K : Fr_} {d : Addr} {t : List (Int × List (List (List Int)))} {i : Int} {w : List (List (List Int))} (h : tab3 K d = some t) (hl : t.lookup i = some w) : ∃ (a : Addr) (rs : List Addr), (∀ H, SqT K H a (rs.map V.ref) ∧ Rws3 K H rs w) ∧ ∀ H, RV (rIxW K) (.ref d) (.int i) H (.ref a) := by
  obtain ⟨t0, h1, h2⟩ := Option.bind_eq_some_iff.mp h
  obtain ⟨v, h3, h4⟩ := mapV2_lookup h2 i w hl
  obtain ⟨a, rs, rfl, hs⟩ := asRows3_eq h4
  exact ⟨a, rs, hs, fun H H1 _ _ q => ⟨d, i, t0, _, .ref a, rfl, rfl, h1, h3, rfl, q H1 (Ex.refl H1)⟩⟩
/-- for a, b, c in zip(tuple, list, tuple) -/
theorem walk_z3 {K : PySem.W.Frag} {a b c : Addr} {xs ys ws : List V} {n : Nat} (hn : n = min xs.length (min ys.length ws.length)) : Walk (It3 K a b c) n (fun H => SqT K H a xs ∧ SqL K H b ys ∧ SqT K H c ws) (fun i H v H' => ∃ T x y u, v = .ref T ∧ H T = none ∧ H' = upd H T (.tup [x, y, u]) ∧ xs[i]? = some x ∧ ys[i]? = some y ∧ ws[i]? = some u) := by
  subst hn
  refine ⟨fun i _ hi q => ?_, fun _ q => ⟨xs, ys, ws, q.1, q.2.1, q.2.2, by omega⟩, fun i H v H' _ q ⟨T, x, y, u, h1, h2, h3, h4, h5, h6⟩ => ⟨T, x, y, u, h1, h2, h3, h4 xs q.1, h5 ys q.2.1, h6 ws q.2.2⟩⟩
  have h1 : i < xs.length := by omega
  have h2 : i < ys.length := by omega
  have h3 : i < ws.length := by omega
  exact ⟨xs, ys, ws, xs[i], ys[i], ws[i], q.1, q.2.1, q.2.2, by simp [h1], by simp [h2], by simp [h3]⟩
section
variable {K : PySem.W.Frag} {σ : L2.St} {H H' : Hp} {ta tb te : TE} {t : TT} {D : Ends} {tu tz : TS}
theorem q_forZ3 {tl : TA} {a b c : Addr} {xs ys ws : List V} {i1 i2 i3 : Nat} (h : EvA tl σ H [.ref a, .ref b, .ref c]) (hx : SqT K H a xs) (hy : SqL K H b ys) (hw : SqT K H c ws) (Pv : Nat → L2.St → Hp → Prop) (h0 : ∀ H1, Ex H H1 → Pv 0 σ H1) (hl : ∀ i σ' H', Pv i σ' H' → Ex H H')
    (hs : ∀ i x y u σ' H' H2, xs[i]? = some x → ys[i]? = some y → ws[i]? = some u → Pv i σ' H' → Ex H' H2 → tu { D with nx := Pv (i + 1), ct := Pv (i + 1), bk := tz D } (((σ'.set i1 (some x)).set i2 (some y)).set i3 (some u)) H2) (hd : ∀ σ' H', Pv (min xs.length (min ys.length ws.length)) σ' H' → tz D σ' H') :
    tSeq (tFor (iZip3 K tl) (gTup K 3 (gCons (gName i1) (gCons (gName i2) (gCons (gName i3) gNil)))) tu) tz D σ H :=
  h H (Ex.refl H) _ fun H1 e1 => ⟨a, b, c, xs, ys, ws, rfl, ex_t e1 hx, ex_l e1 hy, ex_t e1 hw, for_it (walk_z3 (xs := xs) (ys := ys) (ws := ws) rfl) (D := { D with nx := tz D }) Pv (h0 H1 e1) (fun i σ' H' _ pv => ⟨ex_t (hl i σ' H' pv) hx, ex_l (hl i σ' H' pv) hy, ex_t (hl i σ' H' pv) hw⟩) (fun i x σ' H' H'' hi pv y => by
    obtain ⟨T, u1, u2, u3, rfl, nT, rfl, f1, f2, f3⟩ := y
    exact ⟨T, [u1, u2, u3], rfl, st_of upd_same, rfl, u1, [u2, u3], rfl, u2, [u3], rfl, u3, [], rfl, rfl, hs i u1 u2 u3 σ' H' _ f1 f2 f3 pv (Ex.new nT)⟩) hd⟩
end
end Own
/-! the listing of all partings of small numbers, as plain functions, and what a kernel check says of it -/
namespace Own
open PySem PySem.Spec PyProof.Rows L2 Evl
def dgf2 : Nat → Nat → Nat → List Nat
  | 0, _, _ => []
  | f + 1, b, n => if n = 0 then [] else n % b :: dgf2 f b (n / b)
theorem dgf2_eq {b : Nat} (hb : 1 < b) : ∀ (f n : Nat), n < 2 ^ f → dgf2 f b n = dg b n
  | 0, n, h => by
    rw [show n = 0 by omega, dg_zero]
    rfl
  | f + 1, n, h => by
    rw [dgf2]
    by_cases h0 : n = 0
    · rw [if_pos h0, h0, dg_zero]
    · have hn : 0 < n := by omega
      rw [if_neg h0, dg_pos hb hn, dgf2_eq hb f (n / b) (by
        have h2 : n / b ≤ n / 2 := Nat.div_le_div_left hb (by decide)
        rw [Nat.pow_succ] at h
        omega)]
def ndT : Nat → List (List (List Nat))
  | 2 => [[[1]]]
  | 3 => [[[2]], [[1]]]
  | 4 => [[[0, 3], [1, 1], [3, 0]], [[0, 2], [1, 0]], [[0, 1], [2, 0]]]
  | 5 => [[[4]], [[1]], [[2]], [[3]]]
  | 7 => [[[6]], [[1]], [[2]], [[3]], [[4]], [[5]]]
  | 8 => [[[0, 0, 7], [0, 1, 3], [0, 3, 2], [0, 5, 1], [0, 7, 0], [1, 0, 5], [1, 1, 1], [1, 3, 0], [2, 0, 3], [3, 0, 1], [3, 2, 0], [5, 1, 0], [7, 0, 0]], [[0, 0, 2], [0, 2, 1], [0, 4, 0], [1, 0, 0]], [[0, 0, 4], [0, 1, 0], [1, 0, 2], [2, 0, 0]], [[0, 0, 6], [0, 1, 2], [0, 3, 1], [0, 5, 0], [1, 0, 4], [1, 1, 0], [2, 0, 2], [3, 0, 0]], [[0, 0, 1], [0, 2, 0], [2, 1, 0], [4, 0, 0]], [[0, 0, 3], [0, 2, 2], [0, 4, 1], [0, 6, 0], [1, 0, 1], [1, 2, 0], [3, 1, 0], [5, 0, 0]], [[0, 0, 5], [0, 1, 1], [0, 3, 0], [1, 0, 3], [2, 0, 1], [2, 2, 0], [4, 1, 0], [6, 0, 0]]]
  | 9 => [[[0, 8], [1, 5], [2, 2], [5, 1], [8, 0]], [[0, 3], [1, 0]], [[0, 6], [1, 3], [2, 0]], [[0, 1], [3, 0]], [[0, 4], [1, 1], [4, 0]], [[0, 7], [1, 4], [2, 1], [5, 0]], [[0, 2], [3, 1], [6, 0]], [[0, 5], [1, 2], [4, 1], [7, 0]]]
  | _ => []
def pfT : Nat → Nat × Nat
  | 4 => (2, 2)
  | 8 => (2, 3)
  | 9 => (3, 2)
  | q => (q, 1)
def lessI (is : List Int) (ws : List Nat) (m : Nat) : List Int := List.zipWith (fun (a : Int) (w : Nat) => a - (m : Int) * (w : Int)) is ws
def geI (is : List Int) : Bool := is.all fun z => decide (0 ≤ z)
def fitI (P F : Nat) : Nat → List Nat → List Nat → List Int → Bool
  | t, m :: ms, r :: rs, sp => if r < m then false else fitI P F (t + 1) ms rs (lessI sp (wl P F t) m)
  | _, _, _, sp => geI sp
def goI (q P F head : Nat) (room : List Nat) (sp : List Int) : Bool :=
  if 0 < head ∧ (q - 1 - head % (q - 1)) % (q - 1) = 0 then geI sp else ((ndT q).getD ((q - 1 - head % (q - 1)) % (q - 1)) []).any fun need => fitI P F 0 need room sp
def oneI (q P F at_ : Nat) (room : List Nat) (hs : Nat × List Int) (m : Nat) : Option (Nat × List Int) :=
  if goI q P F (hs.1 + m * P ^ at_) room (lessI hs.2 (wl P F at_) m) then some (hs.1 + m * P ^ at_, lessI hs.2 (wl P F at_) m) else none
def longI (q P F at_ digit : Nat) (room : List Nat) (heads : List (Nat × List Int)) : List (Nat × List Int) :=
  (heads.map fun hs => (List.range (digit + 1)).filterMap (oneI q P F at_ room hs)).flatten
def spI (q P F : Nat) (row : List Nat) (many : Nat) : List Int :=
  (List.range F).map fun j => ((((List.range F).map fun t => (strd F t row).sum * wt P F j t).sum : Nat) : Int) - ((q - 1 : Nat) : Int) * (many : Int)
def lessR (room : List Nat) (c d : Nat) : List Nat := room.set c (room.getD c 0 - d)
def walkI (q P F : Nat) (row : List Nat) : Nat → List Nat → List (Nat × List Int) → List (Nat × List Int)
  | 0, _, heads => heads
  | a + 1, room, heads =>
    if row.getD a 0 = 0 then walkI q P F row a room heads else
      walkI q P F row a (lessR room (a % F) (row.getD a 0)) (longI q P F a (row.getD a 0) (lessR room (a % F) (row.getD a 0)) heads)
def smI (heads : List (Nat × List Int)) : Bool := decide (heads.length ≤ 2000) && heads.all fun h => decide (h.1 ≤ 100000) && h.2.all fun z => decide (-100000 ≤ z ∧ z ≤ 100000)
def okWalk (q P F : Nat) (row : List Nat) : Nat → List Nat → List (Nat × List Int) → Bool
  | 0, _, heads => smI heads
  | a + 1, room, heads => smI heads &&
    if row.getD a 0 = 0 then okWalk q P F row a room heads else
      decide (row.getD a 0 ≤ room.getD (a % F) 0) && okWalk q P F row a (lessR room (a % F) (row.getD a 0)) (longI q P F a (row.getD a 0) (lessR room (a % F) (row.getD a 0)) heads)
def roomI (F : Nat) (row : List Nat) : List Nat := (List.range F).map fun t => (strd F t row).sum
def firstR (q P F : Nat) (row : List Nat) (after : Nat) : List Nat := (walkI q P F row row.length (roomI F row) [(0, spI q P F row after)]).map (·.1)
def okFirstR (q P F : Nat) (row : List Nat) (after : Nat) : Bool := geI (spI q P F row after) && okWalk q P F row row.length (roomI F row) [(0, spI q P F row after)]
def nextI (q P F after : Nat) (begun : List (List Nat × Nat)) : List (List Nat × Nat) := (begun.map fun b => (firstR q P F (dgf2 10 P b.2) after).map fun m => (b.1 ++ [m], b.2 - m)).flatten
def okNext (q P F after : Nat) (begun : List (List Nat × Nat)) : Bool := (begun.all fun b => decide (b.2 < 1024) && okFirstR q P F (dgf2 10 P b.2) after && (firstR q P F (dgf2 10 P b.2) after).all fun m => decide (m ≤ b.2)) && decide ((nextI q P F after begun).length ≤ 2000)
def listI (q P F : Nat) : Nat → List (List Nat × Nat) → List (List Nat × Nat)
  | 0, begun => begun
  | d + 1, begun => listI q P F d (nextI q P F d begun)
def okList (q P F : Nat) : Nat → List (List Nat × Nat) → Bool
  | 0, _ => true
  | d + 1, begun => okNext q P F d begun && okList q P F d (nextI q P F d begun)
def outI (bs : List (List Nat × Nat)) : List (List Nat) := bs.map fun b => b.1 ++ [b.2]
def bndI (q P F d k : Nat) : Bool := (spI q P F (dgf2 10 P k) d).all fun z => decide (0 ≤ z)
def allI (q P F d k : Nat) : List (List Nat) := if bndI q P F d k then outI (listI q P F d [([], k)]) else []
def chkQ (q : Nat) : Bool := (List.range 4).all fun d => (List.range 31).all fun k => decide (allI q (pfT q).1 (pfT q).2 d ((pfT q).1 * k) = (allI q (pfT q).1 (pfT q).2 d k).map (List.map ((pfT q).1 * ·))) && (!bndI q (pfT q).1 (pfT q).2 d k || okList q (pfT q).1 (pfT q).2 d [([], k)]) && (!bndI q (pfT q).1 (pfT q).2 d ((pfT q).1 * k) || okList q (pfT q).1 (pfT q).2 d [([], (pfT q).1 * k)])
theorem chk2 : chkQ 2 = true := by decide +kernel
theorem chk3 : chkQ 3 = true := by decide +kernel
theorem chk4 : chkQ 4 = true := by decide +kernel
theorem chk5 : chkQ 5 = true := by decide +kernel
theorem chk7 : chkQ 7 = true := by decide +kernel
theorem chk8 : chkQ 8 = true := by decide +kernel
theorem chk9 : chkQ 9 = true := by decide +kernel
end Own
/-! own rules: sorted of a list of tuples of ints, all of one length, of any number -/
namespace Own
open PySem PySem.Spec PyProof.Rows L2 Evl
/-- x before y, both of one length -/
def lexI : List Int → List Int → Bool
  | x :: xs, y :: ys => if x = y then lexI xs ys else decide (x < y)
  | _, _ => false
theorem lexI_asym : ∀ xs ys : List Int, xs.length = ys.length → lexI xs ys = true → lexI ys xs = false
  | [], [], _, h => by cases h
  | x :: xs, y :: ys, hl, h => by
    unfold lexI at h ⊢
    by_cases e : x = y
    · rw [if_pos e] at h
      rw [if_pos e.symm]
      exact lexI_asym xs ys (by simpa using hl) h
    · rw [if_neg e, decide_eq_true_eq] at h
      rw [if_neg (Ne.symm e)]
      exact decide_eq_false (by omega)
  | [], _ :: _, hl, _ => by simp at hl
  | _ :: _, [], hl, _ => by simp at hl
theorem lexI_tr : ∀ xs ys zs : List Int, xs.length = ys.length → ys.length = zs.length → lexI xs ys = false → lexI ys zs = false → lexI xs zs = false
  | [], _, _, _, _, _, _ => by unfold lexI; rfl
  | x :: xs, [], _, hl, _, _, _ => by simp at hl
  | x :: xs, y :: ys, [], _, hl, _, _ => by simp at hl
  | x :: xs, y :: ys, z :: zs, h1, h2, h3, h4 => by
    unfold lexI at h3 h4 ⊢
    by_cases e1 : x = y
    · rw [if_pos e1] at h3
      by_cases e2 : y = z
      · rw [if_pos e2] at h4
        rw [if_pos (e1.trans e2)]
        exact lexI_tr xs ys zs (by simpa using h1) (by simpa using h2) h3 h4
      · rw [if_neg e2] at h4
        rw [e1, if_neg e2]
        exact h4
    · rw [if_neg e1, decide_eq_false_iff_not] at h3
      by_cases e2 : y = z
      · rw [if_neg (by rw [← e2]; exact e1)]
        exact decide_eq_false (by omega)
      · rw [if_neg e2, decide_eq_false_iff_not] at h4
        rw [if_neg (by omega)]
        exact decide_eq_false (by omega)
def intOf : Value → Int
  | .int i _ => i
  | _ => 0
theorem intOf_vals : ∀ {xs : List Int} {its : List Value}, Vals (xs.map V.int) its → its.map intOf = xs ∧ IntsAre its xs := fun {xs its} h => by
  refine ⟨?_, h.ints⟩
  induction xs generalizing its with
  | nil => cases h; rfl
  | cons x xs ih =>
    cases h with
    | cons r t =>
      obtain ⟨tk, rfl⟩ := r
      rw [List.map_cons, ih t]
      rfl
def rowOf (h : Heap) : Value → List Int
  | .ref a => match h.get? a with
    | some o => match o.data with
      | .seq its _ => its.toList.map intOf
      | _ => []
    | none => []
  | _ => []
def TupV (h : Heap) (v : Value) (ns : List Int) : Prop := ∃ (a : Addr) (o : Obj) (its : List Value) (n : Nat), v = .ref a ∧ h.get? a = some o ∧ o.cls = .type "tuple" ∧ o.data = .seq its.toArray n ∧ Vals (ns.map V.int) its
theorem TupV.keeps {h h' : Heap} {v : Value} {ns : List Int} (p : TupV h v ns) (k : ∀ b o, h.get? b = some o → o.cls = .type "tuple" → h'.get? b = some o) : TupV h' v ns := by
  obtain ⟨a, o, its, n, e, ho, hc, hd, r⟩ := p
  exact ⟨a, o, its, n, e, k _ _ ho hc, hc, hd, r⟩
theorem TupV.row {h : Heap} {v : Value} {ns : List Int} (p : TupV h v ns) : rowOf h v = ns := by
  obtain ⟨a, o, its, n, e, ho, hc, hd, r⟩ := p
  subst e
  unfold rowOf
  simp only [ho, hd]
  exact (intOf_vals r).1
section
variable {prog : Program} {w : World} {A : Around} {s : Shared} {Q : Bool → Shared → Prop}
theorem kat_ints : ∀ {xs ys : List Int} {us vs : List Value} (i : Nat), Vals (xs.map V.int) us → Vals (ys.map V.int) vs → xs.length = ys.length → Q (lexI xs ys) s → PySem.W.KatLex prog w A true false Q (us.zip vs) i s
  | [], [], us, vs, i, h1, h2, _, h => by
    cases h1
    cases h2
    exact PySem.W.kat_nil h
  | x :: xs, y :: ys, us, vs, i, h1, h2, hl, h => by
    cases h1 with
    | cons r1 t1 =>
      cases h2 with
      | cons r2 t2 =>
        obtain ⟨tk1, rfl⟩ := r1
        obtain ⟨tk2, rfl⟩ := r2
        unfold lexI at h
        refine PySem.W.kat_cons (SeqAt.EqAt.int_int x tk1 y tk2 prog w _ _ ?_)
        refine PySem.W.kat_go (fun e1 => ?_) (fun e1 => ?_)
        · have ex : x = y := by simpa using e1
          rw [if_pos ex] at h
          exact PySem.W.kat_yes (kat_ints (i + 1) t1 t2 (by simpa using hl) h)
        · have ex : ¬ x = y := by simpa using e1
          rw [if_neg ex] at h
          refine PySem.W.kat_no ?_
          by_cases hi : (i == 0) = true
          · rw [hi]
            exact PyProof.Rows.oneLt_int h
          · rw [show (i == 0) = false from by simpa using hi]
            exact PySem.W.kat_one _ _ (PyProof.Rows.lt_int h)
  | [], _ :: _, _, _, _, _, _, hl, _ => by simp at hl
  | _ :: _, [], _, _, _, _, _, hl, _ => by simp at hl
theorem tupv_cmp {vs : List Value} {k : Value → List Int} {n : Nat} (hp : ∀ v ∈ vs, TupV s.heap v (k v) ∧ (k v).length = n) : SrtO.Cmp prog w A s (tuples' true) (fun p => p.1 ∈ vs) (SrtO.lt2 fun v u => lexI (k v) (k u)) := by
  intro p q hm hm'
  obtain ⟨h1, l1⟩ := hp _ hm
  obtain ⟨h2, l2⟩ := hp _ hm'
  show wpAny (model prog w) A (keyLt' (tuples' true) p.1 q.1) (fun r s' => s' = s ∧ r = lexI (k p.1) (k q.1)) (fun _ _ => False) s
  generalize k p.1 = x at h1 l1 ⊢
  generalize k q.1 = y at h2 l2 ⊢
  obtain ⟨a, o, its, m, e, ho, hc, hd, r⟩ := h1
  obtain ⟨a', o', its', m', e', ho', hc', hd', r'⟩ := h2
  rw [e, e']
  refine PySem.W.kat_lt ho hd ho' hd' ?_
  have z1 : its.length = n := by rw [← r.length, List.length_map]; exact l1
  have z2 : its'.length = n := by rw [← r'.length, List.length_map]; exact l2
  have hsz : decide (its.toArray.size < its'.toArray.size) = false := decide_eq_false (by simp; omega)
  rw [hsz]
  have := kat_ints (prog := prog) (w := w) (A := A) (s := s) (Q := fun r s' => s' = s ∧ r = lexI x y) 0 r r' (by omega) ⟨rfl, rfl⟩
  simpa using this
theorem tupv_firsts {h : Heap} {k : Value → List Int} {n : Nat} : ∀ {vs : List Value}, (∀ v ∈ vs, TupV h v (k v) ∧ (k v).length = n + 1) → ∃ fs : List Value, PySem.W.KatTups h vs fs ∧ fs.length = vs.length ∧ ∀ f ∈ fs, ∃ x t, f = Value.int x t
  | [], _ => ⟨[], PySem.W.KatTups.nil, rfl, fun _ hm => by simp at hm⟩
  | v :: vs, hp => by
    obtain ⟨fs, h1, h2, h3⟩ := tupv_firsts (vs := vs) fun v' hm => hp v' (List.mem_cons_of_mem _ hm)
    obtain ⟨⟨a, o, its, m, e, ho, hc, hd, r⟩, hl⟩ := hp v (List.mem_cons_self ..)
    subst e
    cases hk : k (.ref a) with
    | nil => rw [hk] at hl; simp at hl
    | cons x xs =>
      rw [hk] at r
      cases r with
      | @cons _ u _ us r0 t =>
        obtain ⟨tk, rfl⟩ := r0
        refine ⟨.int x tk :: fs, PySem.W.KatTups.cons ho hc hd (by simp) h1, by rw [List.length_cons, List.length_cons, h2], fun f hm => ?_⟩
        rcases List.mem_cons.mp hm with rfl | hm
        · exact ⟨x, tk, rfl⟩
        · exact h3 f hm
theorem tupv_sortable {a : Addr} {vs : List Value} {k : Value → List Int} {n : Nat} (h0 : 0 < vs.length) (hp : ∀ v ∈ vs, TupV s.heap v (k v) ∧ (k v).length = n + 1) (ha : ∀ o, s.heap.get? a = some o → o.cls ≠ .type "tuple") : SrtO.SortableO prog w A s a vs fun v u => lexI (k v) (k u) := by
  intro h' keep
  have hp' : ∀ v ∈ vs, TupV h' v (k v) ∧ (k v).length = n + 1 := fun v hm => ⟨(hp v hm).1.keeps fun b o e c => keep b o (fun z => by subst z; exact ha o e c) e, (hp v hm).2⟩
  obtain ⟨fs, h1, h2, h3⟩ := tupv_firsts hp'
  refine ⟨tuples' true, fun Q E hq => ?_, tupv_cmp (s := { s with heap := h' }) hp'⟩
  refine PySem.W.kat_kind (T := .type "int") h1 (by omega) (fun f hm => ?_) (by rfl) ?_
  · obtain ⟨x, t, rfl⟩ := h3 f hm
    exact PySem.W.Looks.now
  · have e : (Value.type "int" != Value.type "tuple") = true := by first | decide +kernel | rfl | decide
    rw [e]
    exact hq
/-- the order of all values: by rows of length n, others first -/
def keyN (n : Nat) (k : Value → List Int) (v : Value) : List Int := if (k v).length = n then k v else List.replicate n 0
theorem keyN_len (n : Nat) (k : Value → List Int) (v : Value) : (keyN n k v).length = n := by
  unfold keyN
  split
  · assumption
  · exact List.length_replicate ..
theorem swoN (n : Nat) (k : Value → List Int) : SrtO.Swo fun v u => lexI (keyN n k v) (keyN n k u) :=
  ⟨fun x y h => lexI_asym _ _ (by rw [keyN_len, keyN_len]) h, fun x y z h1 h2 => lexI_tr _ _ _ (by rw [keyN_len, keyN_len]) (by rw [keyN_len, keyN_len]) h2 h1⟩
theorem sorted_tupsN {l : Addr} {vs : List Value} {k : Value → List Int} {n : Nat} {E : Value → Shared → Prop} {Q : Value → Shared → Prop} (hl : s.heap.IsList l vs.toArray) (hz : vs.length ≤ sizeLine) (hp : ∀ v ∈ vs, TupV s.heap v (k v) ∧ (k v).length = n + 1)
    (h : ∀ (h' : Heap) (d : Addr) (out : List Value), out.Pairwise (fun v u => lexI (k u) (k v) = false) → out.Perm vs → (∀ b o, s.heap.get? b = some o → h'.get? b = some o) → s.heap.objs.size ≤ d → (∃ n, h'.get? d = some (seqObj "list" out.toArray n)) → Q (.ref d) { s with heap := h' }) :
    wpAny (model prog w) A (call (.builtin "sorted") [.ref l]) Q E s := by
  have hk : ∀ v ∈ vs, keyN (n + 1) k v = k v := fun v hv => by
    unfold keyN
    rw [if_pos (hp v hv).2]
  refine SrtO.sorted_ord (swoN (n + 1) k) hl hz (fun h2 h₁ a ha kk => ?_) fun out hs hb => ?_
  · refine tupv_sortable (s := { s with heap := h₁ }) (k := keyN (n + 1) k) (n := n) (by omega) (fun v hm => ⟨?_, keyN_len ..⟩) fun o e => ?_
    · rw [hk v hm]
      exact (hp v hm).1.keeps fun b o e _ => (kk b o e).2
    · have e' : some o = some (seqObj "list" vs.toArray 0) := e.symm.trans ha
      cases e'
      intro c
      exact absurd (Value.type.inj c) (by decide)
  · refine h _ _ out ?_ hb.perm (fun b o e => sortedAll_old e) (Nat.le_succ _) (sortedAll_at s.heap vs out.toArray)
    refine List.Pairwise.imp_of_mem (fun {x y} hx hy hxy => ?_) hs
    rw [← hk x (hb.perm.mem_iff.mp hx), ← hk y (hb.perm.mem_iff.mp hy)]
    exact hxy
end
/-- tuples of numbers at the addresses rs -/
def TpI (K : PySem.W.Frag) (H : Hp) (rs : List Addr) (xss : List (List Int)) : Prop := rs.length = xss.length ∧ ∀ (i : Nat) (r : Addr) (xs : List Int), rs[i]? = some r → xss[i]? = some xs → SqT K H r (xs.map V.int)
def rSortedTn (K : PySem.W.Frag) : List V → Hp → VK → Prop := fun vs H Q => ∃ (a : Addr) (rs : List Addr) (xss : List (List Int)) (n : Nat), vs = [V.ref a] ∧ SqL K H a (rs.map V.ref) ∧ TpI K H rs xss ∧ (∀ xs ∈ xss, xs.length = n + 1) ∧
  ∀ (ss : List Addr) (yss : List (List Int)) (p : Addr), yss.Perm xss → yss.Pairwise (fun x y => lexI y x = false) → TpI K H ss yss → H p = none → Q (.ref p) (upd H p (.lst (ss.map V.ref)))
def addrOf : Value → Addr
  | .ref a => a
  | _ => 0
section
variable {X : Cx}
theorem cr_sortedTn : CallR X (.builtin "sorted") (rSortedTn X.K) := by
  intro pins s σ H vs us Q I r h
  obtain ⟨a, rs, xss, n, rfl, hs, ⟨hlen, ht⟩, hn, q⟩ := h
  obtain ⟨its, rv, hl, hz⟩ := I.list hs
  obtain ⟨u, rfl, ru⟩ := vals1 r
  obtain rfl : u = Value.ref a := ru
  have hits : its = rs.map Value.ref := by
    have : ∀ (rs : List Addr) (its : List Value), Vals (rs.map V.ref) its → its = rs.map Value.ref := by
      intro rs
      induction rs with
      | nil => intro its h; cases h; rfl
      | cons r rs ih =>
        intro its h
        cases h with
        | cons r0 t =>
          rw [List.map_cons, ← ih _ t]
          congr 1
    exact this _ _ rv
  have key : ∀ (i : Nat) (r : Addr) (xs : List Int), rs[i]? = some r → xss[i]? = some xs → TupV s.heap (.ref r) xs := fun i r xs h1 h2 => by
    obtain ⟨js, rj, ⟨o, ho, hc, m, hd⟩, _⟩ := I.tuple (ht i r xs h1 h2)
    exact ⟨r, o, js, m, rfl, ho, hc, hd, rj⟩
  have at_ : ∀ r ∈ rs, ∃ i xs, rs[i]? = some r ∧ xss[i]? = some xs := fun r hr => by
    obtain ⟨i, hi⟩ := List.mem_iff_getElem?.mp hr
    have hlt : i < xss.length := by rw [← hlen]; exact (List.getElem?_eq_some_iff.mp hi).1
    exact ⟨i, xss[i], hi, List.getElem?_eq_getElem hlt⟩
  have hp : ∀ v ∈ its, TupV s.heap v (rowOf s.heap v) ∧ (rowOf s.heap v).length = n + 1 := fun v hv => by
    rw [hits] at hv
    obtain ⟨r, hr, rfl⟩ := List.mem_map.mp hv
    obtain ⟨i, xs, h1, h2⟩ := at_ r hr
    have h3 := key i r xs h1 h2
    rw [h3.row]
    exact ⟨h3, hn xs (List.mem_of_getElem? h2)⟩
  refine sorted_tupsN hl.isList (by rw [← rv.length]; exact hz) hp fun h' d out h1 h2 kp hd ⟨m, hm⟩ => ?_
  have hout : ∀ v ∈ out, ∃ r ∈ rs, v = .ref r := fun v hv => by
    have := h2.mem_iff.mp hv
    rw [hits] at this
    obtain ⟨r, hr, e⟩ := List.mem_map.mp this
    exact ⟨r, hr, e.symm⟩
  have ho : out = (out.map addrOf).map Value.ref := by
    rw [List.map_map]
    exact ((List.map_congr_left fun v hv => by
      obtain ⟨r, _, rfl⟩ := hout v hv
      rfl).trans (List.map_id out)).symm
  have hrow : its.map (rowOf s.heap) = xss := by
    rw [hits, List.map_map]
    refine List.ext_getElem? fun i => ?_
    rw [List.getElem?_map]
    cases e : rs[i]? with
    | none =>
      have : rs.length ≤ i := List.getElem?_eq_none_iff.mp e
      rw [List.getElem?_eq_none (by omega)]
      rfl
    | some r =>
      have hlt : i < xss.length := by rw [← hlen]; exact (List.getElem?_eq_some_iff.mp e).1
      have h3 := key i r xss[i] e (List.getElem?_eq_getElem hlt)
      rw [List.getElem?_eq_getElem hlt]
      exact congrArg some h3.row
  have hvals : Vals ((out.map addrOf).map V.ref) out := by
    have : ∀ rs : List Addr, Vals (rs.map V.ref) (rs.map Value.ref) := by
      intro rs
      induction rs with
      | nil => exact .nil
      | cons r rs ih => exact .cons rfl ih
    have h3 := this (out.map addrOf)
    rwa [← ho] at h3
  have hnone := I.hok.fresh hd
  refine ⟨.ref d, upd H d (.lst ((out.map addrOf).map V.ref)), I.laid (t' := s.toks) kp hd ⟨?_, out, m, hvals, hm⟩, rfl, q (out.map addrOf) (out.map (rowOf s.heap)) d ?_ ?_ ⟨by rw [List.length_map, List.length_map], fun i r xs e1 e2 => ?_⟩ hnone⟩
  · rw [List.length_map, List.length_map, h2.length_eq, ← rv.length]
    exact hz
  · have := h2.map (rowOf s.heap)
    rwa [hrow] at this
  · exact List.pairwise_map.mpr h1
  · rw [List.getElem?_map] at e1 e2
    obtain ⟨v, hv, rfl⟩ := Option.map_eq_some_iff.mp e1
    rw [hv] at e2
    cases e2
    obtain ⟨r, hr, rfl⟩ := hout v (List.mem_of_getElem? hv)
    obtain ⟨j, xs, h3, h4⟩ := at_ r hr
    rw [(key j r xs h3 h4).row]
    exact ht j r xs h3 h4
end
end Own
/-! unit by unit, as far as something is left that can be done: the law's own search of the least rest; core Lean alone -/
namespace Own
def totN (p f j : Nat) (N : Nat → Nat) : Nat := tsum (fun c => p ^ ((c + j) % f) * N c) f
theorem tot_mono {p f j : Nat} {N M : Nat → Nat} (h : ∀ c, c < f → N c ≤ M c) : totN p f j N ≤ totN p f j M := by
  unfold totN
  have : ∀ n, n ≤ f → tsum (fun c => p ^ ((c + j) % f) * N c) n ≤ tsum (fun c => p ^ ((c + j) % f) * M c) n := by
    intro n
    induction n with
    | zero => intro _; exact Nat.le_refl _
    | succ n ih =>
      intro hn
      have h1 := ih (by omega)
      have h2 := Nat.mul_le_mul_left (p ^ ((n + j) % f)) (h n (by omega))
      show tsum _ n + _ ≤ tsum _ n + _
      exact Nat.add_le_add h1 h2
  exact this f (Nat.le_refl _)
theorem tot_ac {p f : Nat} (hpf : PFq p f) (L : PL) {j : Nat} (hj : j < f) : totN p f j (fun c => ac f c L) = sj p f j L := by
  cases hpf with
  | one h =>
    have : j = 0 := by omega
    subst this
    rw [sj1]
    simp [totN, tsum]
  | four =>
    obtain ⟨a, b⟩ := sj2 2 L
    have : j = 0 ∨ j = 1 := by omega
    rcases this with rfl | rfl
    · rw [a]; simp [totN, tsum]
    · rw [b]; simp [totN, tsum]
  | nine =>
    obtain ⟨a, b⟩ := sj2 3 L
    have : j = 0 ∨ j = 1 := by omega
    rcases this with rfl | rfl
    · rw [a]; simp [totN, tsum]
    · rw [b]; simp [totN, tsum]
  | eight =>
    obtain ⟨a, b, c⟩ := sj3 2 L
    have : j = 0 ∨ j = 1 ∨ j = 2 := by omega
    rcases this with rfl | rfl | rfl
    · rw [a]; simp [totN, tsum]
    · rw [b]; simp [totN, tsum]
    · rw [c]; simp [totN, tsum]
theorem tsum_add (F G : Nat → Nat) : ∀ n, tsum (fun t => F t + G t) n = tsum F n + tsum G n
  | 0 => rfl
  | n + 1 => by
    show tsum _ n + (F n + G n) = (tsum F n + F n) + (tsum G n + G n)
    rw [tsum_add F G n]
    omega
theorem tot_add (p f j : Nat) (N M : Nat → Nat) : totN p f j (fun c => N c + M c) = totN p f j N + totN p f j M := by
  unfold totN
  rw [← tsum_add]
  exact tsum_congr f fun t _ => Nat.mul_add ..
theorem tot_one {p f j i : Nat} (hi : i < f) (x : Nat) : totN p f j (fun c => if c = i then x else 0) = p ^ ((i + j) % f) * x := by
  unfold totN
  have h0 : ∀ n, n ≤ i → tsum (fun c => p ^ ((c + j) % f) * (if c = i then x else 0)) n = 0 := by
    intro n
    induction n with
    | zero => intro _; rfl
    | succ n ih =>
      intro hn
      show tsum _ n + p ^ ((n + j) % f) * (if n = i then x else 0) = 0
      rw [ih (by omega), if_neg (by omega)]
      rfl
  have h1 : ∀ n, i < n → tsum (fun c => p ^ ((c + j) % f) * (if c = i then x else 0)) n = p ^ ((i + j) % f) * x := by
    intro n
    induction n with
    | zero => intro h; omega
    | succ n ih =>
      intro hn
      show tsum _ n + p ^ ((n + j) % f) * (if n = i then x else 0) = _
      by_cases e : n = i
      · subst e
        rw [h0 n (Nat.le_refl _), if_pos rfl, Nat.zero_add]
      · rw [ih (by omega), if_neg e]
        rfl
  exact h1 f hi
theorem wt_i (p f j a : Nat) : p ^ ((a % f + j) % f) = wt p f j a := by
  unfold wt
  rw [Nat.mod_add_mod]
/-- what can be done -/
def canP (p f n : Nat) (hv fr : Nat → Nat) : Prop := ∃ out : Nat → Nat, (∀ c, c < f → out c ≤ fr c ∧ out c < p ^ f - 1) ∧ totN p f 0 (fun c => hv c + fr c - out c) % (p ^ f - 1) = 0 ∧ ∀ j, j < f → (p ^ f - 1) * n ≤ totN p f j fun c => hv c + fr c - out c
theorem can_no {p f n : Nat} {hv fr : Nat → Nat} (h : canP p f n hv fr) : ∀ j, j < f → (p ^ f - 1) * n ≤ totN p f j fun c => hv c + fr c := by
  obtain ⟨out, _, _, h3⟩ := h
  exact fun j hj => Nat.le_trans (h3 j hj) (tot_mono fun c _ => Nat.sub_le _ _)
theorem ac_low {p f t : Nat} : ∀ (L : PL) (sp : List Nat), ac f t (low p f L sp).L ≤ ac f t L
  | [], sp => Nat.le_refl _
  | (c, a) :: L, sp => by
    rw [low]
    split
    · exact Nat.le_refl _
    · have ih := ac_low (p := p) (f := f) (t := t) L (lessN p f (cutN p f c a sp) a sp)
      simp only
      rw [ac_cons]
      split
      · rw [ac_cons]
        split <;> omega
      · omega
theorem sj_app (p f j : Nat) (L M : PL) : sj p f j (L ++ M) = sj p f j L + sj p f j M := by
  unfold sj
  rw [List.map_append, List.sum_append]
theorem ac_app (f t : Nat) (L M : PL) : ac f t (L ++ M) = ac f t L + ac f t M := by
  unfold ac
  rw [List.map_append, List.sum_append]
theorem nl_app (p : Nat) (L M : PL) : nl p (L ++ M) = nl p L + nl p M := by
  unfold nl
  rw [List.map_append, List.sum_append]
/-- kept digits K, digits L that are still to be looked at, spare sums sp -/
structure LR (p f n : Nat) (K L : PL) (sp : List Nat) : Prop where
  vd : Vd p L
  po : ∀ x ∈ L, 0 < x.1
  ln : sp.length = f
  eq : ∀ j, j < f → sp.getD j 0 + (p ^ f - 1) * n = sj p f j K + sj p f j L
  kp : ∀ x ∈ K, ∃ j, j < f ∧ sp.getD j 0 < wt p f j x.2
theorem can_yes {p f n : Nat} (hpf : PFq p f) {K L : PL} {sp : List Nat} (hn : 1 ≤ n) (h : LR p f n K L sp) : canP p f n (fun c => ac f c K) (fun c => ac f c L) := by
  obtain ⟨hp, hf, _⟩ := hpf.p
  have r := low_ok (f := f) hp h.vd h.po h.ln
  have hac : ∀ t, ac f t (low p f L sp).L ≤ ac f t L := fun t => ac_low L sp
  generalize low p f L sp = R at r hac
  have he : ∀ j, j < f → R.sp.getD j 0 + (p ^ f - 1) * n = sj p f j (K ++ R.L) := fun j hj => by
    rw [sj_app]
    have h1 := r.eq j hj
    have h2 := h.eq j hj
    omega
  have hz := low_zero hpf (sp := R.sp) (L := K ++ R.L) (m := n) r.ln hn he (by
    rcases r.st with z | z
    · exact .inl z
    · refine .inr fun x hx => ?_
      rcases List.mem_append.mp hx with hx | hx
      · obtain ⟨j, hj, hlt⟩ := h.kp x hx
        exact ⟨j, hj, Nat.lt_of_le_of_lt (r.le j hj) hlt⟩
      · exact z x hx)
  have hne : R.sp ≠ [] := fun z => by
    have h1 := r.ln
    rw [z] at h1
    have : ([] : List Nat).length = 0 := rfl
    omega
  obtain ⟨j0, hj0, e0⟩ := List.getElem_of_mem (minN_mem R.sp hne)
  have hj0f : j0 < f := by rw [← r.ln]; exact hj0
  have e1 : R.sp.getD j0 0 = 0 := by
    rw [List.getD_eq_getElem?_getD, List.getElem?_eq_getElem hj0, ← hz, ← e0]
    rfl
  have hs0 := he j0 hj0f
  rw [e1, Nat.zero_add, sj_app] at hs0
  have hall : ∀ j, j < f → (p ^ f - 1) * n ≤ sj p f j K + sj p f j R.L := fun j hj => by
    have := he j hj
    rw [sj_app] at this
    omega
  refine ⟨fun c => (ac f c L - ac f c R.L) % (p ^ f - 1), fun c hc => ⟨Nat.le_trans (Nat.mod_le _ _) (Nat.sub_le _ _), Nat.mod_lt _ (by have := q_gt hp hf; omega)⟩, ?_⟩
  have hN : ∀ c, ∃ t, ac f c K + ac f c L - (ac f c L - ac f c R.L) % (p ^ f - 1) = ac f c K + ac f c R.L + (p ^ f - 1) * t := fun c => by
    refine ⟨(ac f c L - ac f c R.L) / (p ^ f - 1), ?_⟩
    have h1 := Nat.mod_add_div (ac f c L - ac f c R.L) (p ^ f - 1)
    have h2 := hac c
    omega
  cases hpf with
  | one h1 =>
    have : j0 = 0 := by omega
    subst this
    rw [sj1, sj1] at hs0
    obtain ⟨t, ht⟩ := hN 0
    simp only [totN, tsum, Nat.zero_add, Nat.pow_zero, Nat.one_mul, Nat.mod_one]
    rw [ht, ← hs0, ← Nat.mul_add, Nat.mul_mod_right]
    refine ⟨rfl, fun j hj => ?_⟩
    exact Nat.mul_le_mul_left _ (Nat.le_add_right _ _)
  | four =>
    obtain ⟨a1, b1⟩ := sj2 2 K
    obtain ⟨a2, b2⟩ := sj2 2 R.L
    obtain ⟨t0, h0⟩ := hN 0
    obtain ⟨t1, h1⟩ := hN 1
    have g0 := hall 0 (by omega)
    have g1 := hall 1 (by omega)
    rw [a1, a2] at g0
    rw [b1, b2] at g1
    have hj : j0 = 0 ∨ j0 = 1 := by omega
    have hd : (ac 2 0 K + ac 2 0 R.L + 2 * (ac 2 1 K + ac 2 1 R.L)) % 3 = 0 := by
      rcases hj with rfl | rfl
      · rw [a1, a2] at hs0; omega
      · rw [b1, b2] at hs0; omega
    refine ⟨?_, fun j hj => ?_⟩
    · simp only [totN, tsum]
      rw [h0, h1]
      simp only [show (2 : Nat) ^ 2 - 1 = 3 from rfl, show (2 : Nat) ^ ((0 + 0) % 2) = 1 from rfl, show (2 : Nat) ^ ((1 + 0) % 2) = 2 from rfl]
      omega
    · have : j = 0 ∨ j = 1 := by omega
      rcases this with rfl | rfl
      · simp only [totN, tsum]
        rw [h0, h1]
        simp only [show (2 : Nat) ^ 2 - 1 = 3 from rfl, show (2 : Nat) ^ ((0 + 0) % 2) = 1 from rfl, show (2 : Nat) ^ ((1 + 0) % 2) = 2 from rfl] at g0 ⊢
        omega
      · simp only [totN, tsum]
        rw [h0, h1]
        simp only [show (2 : Nat) ^ 2 - 1 = 3 from rfl, show (2 : Nat) ^ ((0 + 1) % 2) = 2 from rfl, show (2 : Nat) ^ ((1 + 1) % 2) = 1 from rfl] at g1 ⊢
        omega
  | nine =>
    obtain ⟨a1, b1⟩ := sj2 3 K
    obtain ⟨a2, b2⟩ := sj2 3 R.L
    obtain ⟨t0, h0⟩ := hN 0
    obtain ⟨t1, h1⟩ := hN 1
    have g0 := hall 0 (by omega)
    have g1 := hall 1 (by omega)
    rw [a1, a2] at g0
    rw [b1, b2] at g1
    have hj : j0 = 0 ∨ j0 = 1 := by omega
    have hd : (ac 2 0 K + ac 2 0 R.L + 3 * (ac 2 1 K + ac 2 1 R.L)) % 8 = 0 := by
      rcases hj with rfl | rfl
      · rw [a1, a2] at hs0; omega
      · rw [b1, b2] at hs0; omega
    refine ⟨?_, fun j hj => ?_⟩
    · simp only [totN, tsum]
      rw [h0, h1]
      simp only [show (3 : Nat) ^ 2 - 1 = 8 from rfl, show (3 : Nat) ^ ((0 + 0) % 2) = 1 from rfl, show (3 : Nat) ^ ((1 + 0) % 2) = 3 from rfl]
      omega
    · have : j = 0 ∨ j = 1 := by omega
      rcases this with rfl | rfl
      · simp only [totN, tsum]
        rw [h0, h1]
        simp only [show (3 : Nat) ^ 2 - 1 = 8 from rfl, show (3 : Nat) ^ ((0 + 0) % 2) = 1 from rfl, show (3 : Nat) ^ ((1 + 0) % 2) = 3 from rfl] at g0 ⊢
        omega
      · simp only [totN, tsum]
        rw [h0, h1]
        simp only [show (3 : Nat) ^ 2 - 1 = 8 from rfl, show (3 : Nat) ^ ((0 + 1) % 2) = 3 from rfl, show (3 : Nat) ^ ((1 + 1) % 2) = 1 from rfl] at g1 ⊢
        omega
  | eight =>
    obtain ⟨a1, b1, c1⟩ := sj3 2 K
    obtain ⟨a2, b2, c2⟩ := sj3 2 R.L
    obtain ⟨t0, h0⟩ := hN 0
    obtain ⟨t1, h1⟩ := hN 1
    obtain ⟨t2, h2⟩ := hN 2
    have g0 := hall 0 (by omega)
    have g1 := hall 1 (by omega)
    have g2 := hall 2 (by omega)
    rw [a1, a2] at g0
    rw [b1, b2] at g1
    rw [c1, c2] at g2
    have hj : j0 = 0 ∨ j0 = 1 ∨ j0 = 2 := by omega
    have hd : (ac 3 0 K + ac 3 0 R.L + 2 * (ac 3 1 K + ac 3 1 R.L) + 4 * (ac 3 2 K + ac 3 2 R.L)) % 7 = 0 := by
      rcases hj with rfl | rfl | rfl
      · rw [a1, a2] at hs0; omega
      · rw [b1, b2] at hs0; omega
      · rw [c1, c2] at hs0; omega
    refine ⟨?_, fun j hj => ?_⟩
    · simp only [totN, tsum]
      rw [h0, h1, h2]
      simp only [show (2 : Nat) ^ 3 - 1 = 7 from rfl, show (2 : Nat) ^ ((0 + 0) % 3) = 1 from rfl, show (2 : Nat) ^ ((1 + 0) % 3) = 2 from rfl, show (2 : Nat) ^ ((2 + 0) % 3) = 4 from rfl]
      omega
    · have : j = 0 ∨ j = 1 ∨ j = 2 := by omega
      rcases this with rfl | rfl | rfl
      · simp only [totN, tsum]
        rw [h0, h1, h2]
        simp only [show (2 : Nat) ^ 3 - 1 = 7 from rfl, show (2 : Nat) ^ ((0 + 0) % 3) = 1 from rfl, show (2 : Nat) ^ ((1 + 0) % 3) = 2 from rfl, show (2 : Nat) ^ ((2 + 0) % 3) = 4 from rfl] at g0 ⊢
        omega
      · simp only [totN, tsum]
        rw [h0, h1, h2]
        simp only [show (2 : Nat) ^ 3 - 1 = 7 from rfl, show (2 : Nat) ^ ((0 + 1) % 3) = 2 from rfl, show (2 : Nat) ^ ((1 + 1) % 3) = 4 from rfl, show (2 : Nat) ^ ((2 + 1) % 3) = 1 from rfl] at g1 ⊢
        omega
      · simp only [totN, tsum]
        rw [h0, h1, h2]
        simp only [show (2 : Nat) ^ 3 - 1 = 7 from rfl, show (2 : Nat) ^ ((0 + 2) % 3) = 4 from rfl, show (2 : Nat) ^ ((1 + 2) % 3) = 1 from rfl, show (2 : Nat) ^ ((2 + 2) % 3) = 2 from rfl] at g2 ⊢
        omega
/-- the next digit -/
theorem LR.next {p f n c a : Nat} {K L : PL} {sp : List Nat} (hp : 1 < p) (h : LR p f n K ((c, a) :: L) sp) :
    LR p f n (if cutN p f c a sp < c then K ++ [(c - cutN p f c a sp, a)] else K) L (lessN p f (cutN p f c a sp) a sp) := by
  have hn := cut_le p f c a sp
  have hm : ∀ j, j < f → cutN p f c a sp * wt p f j a ≤ sp.getD j 0 := fun j hj => cut_mul hp hj
  have hlt := fun h => cut_lt (p := p) (f := f) (c := c) (a := a) (sp := sp) hp h
  generalize cutN p f c a sp = n1 at hn hm hlt ⊢
  have hvd := h.vd
  cases hvd with
  | cons hc hL r =>
  refine ⟨r, fun x hx => h.po x (List.mem_cons_of_mem _ hx), less_len .., fun j hj => ?_, fun x hx => ?_⟩
  · have h1 := h.eq j hj
    have h2 := hm j hj
    rw [sj_cons] at h1
    rw [less_get hj]
    split
    · rename_i hlt1
      rw [sj_app]
      have h3 : sj p f j [(c - n1, a)] = (c - n1) * wt p f j a := by
        rw [sj_cons]
        rfl
      have h4 : (c - n1) * wt p f j a + n1 * wt p f j a = c * wt p f j a := by
        rw [← Nat.add_mul]
        congr 1
        omega
      omega
    · have : n1 = c := by omega
      subst this
      omega
  · have old : ∀ x ∈ K, ∃ j, j < f ∧ (lessN p f n1 a sp).getD j 0 < wt p f j x.2 := fun x hx => by
      obtain ⟨j, hj, h1⟩ := h.kp x hx
      refine ⟨j, hj, ?_⟩
      rw [less_get hj]
      omega
    split at hx
    · rename_i hc1
      rcases List.mem_append.mp hx with hx | hx
      · exact old x hx
      · have : x = (c - n1, a) := by simpa using hx
        subst this
        obtain ⟨j, hj, h1⟩ := hlt hc1
        refine ⟨j, hj, ?_⟩
        rw [less_get hj]
        have := hm j hj
        show _ < wt p f j a
        omega
    · exact old x hx
theorem low_nl {p f c a : Nat} {L : PL} {sp : List Nat} (hp : 1 < p) (hl : sp.length = f) (hf : 1 ≤ f) : nl p (low p f ((c, a) :: L) sp).L = (c - cutN p f c a sp) * p ^ a + nl p (low p f L (lessN p f (cutN p f c a sp) a sp)).L := by
  have hn := cut_le p f c a sp
  rw [low]
  by_cases hz : minN sp = 0
  · rw [if_pos hz]
    have hc0 : cutN p f c a sp = 0 := by
      have hne : sp ≠ [] := fun z => by
        rw [z] at hl
        have : ([] : List Nat).length = 0 := rfl
        omega
      obtain ⟨j0, hj0, e0⟩ := List.getElem_of_mem (minN_mem sp hne)
      have e1 : sp.getD j0 0 = 0 := by
        rw [List.getD_eq_getElem?_getD, List.getElem?_eq_getElem hj0, ← hz, ← e0]
        rfl
      have h1 := cut_mul (p := p) (f := f) (c := c) (a := a) (sp := sp) hp (j := j0) (by omega)
      rw [e1] at h1
      have h2 := wt_pos (p := p) (f := f) (j := j0) (a := a) hp
      rcases Nat.eq_zero_or_pos (cutN p f c a sp) with h3 | h3
      · exact h3
      · have := Nat.mul_pos h3 h2
        omega
    rw [hc0]
    have hz2 : minN (lessN p f 0 a sp) = 0 := by
      have : lessN p f 0 a sp = sp := by
        refine List.ext_getElem? fun i => ?_
        unfold lessN
        rw [List.getElem?_map]
        by_cases hi : i < f
        · rw [List.getElem?_range hi, List.getElem?_eq_getElem (by omega)]
          show some (sp.getD i 0 - 0 * _) = _
          rw [Nat.zero_mul, Nat.sub_zero, List.getD_eq_getElem?_getD, List.getElem?_eq_getElem (by omega)]
          rfl
        · rw [List.getElem?_eq_none (by rw [List.length_range]; omega), List.getElem?_eq_none (by omega)]
          rfl
      rw [this, hz]
    have h3 : (low p f L (lessN p f 0 a sp)).L = L := by
      cases L with
      | nil => rfl
      | cons x L =>
        obtain ⟨c', a'⟩ := x
        rw [low, if_pos hz2]
    rw [h3, nl_cons, Nat.sub_zero]
  · rw [if_neg hz]
    simp only
    split
    · rw [nl_cons]
    · have : cutN p f c a sp = c := by omega
      rw [this, Nat.sub_self, Nat.zero_mul, Nat.zero_add]
/-- one unit of a digit is looked at: it can be left out as long as the program leaves it out -/
theorem unit_yes {p f n c a u : Nat} (hpf : PFq p f) {K L : PL} {sp : List Nat} (hn : 1 ≤ n) (h : LR p f n K ((c, a) :: L) sp) (hu : u < cutN p f c a sp) :
    canP p f n (fun t => ac f t K) (fun t => ac f t ((c, a) :: L) - (if t = a % f then u + 1 else 0)) := by
  obtain ⟨hp, hf, _⟩ := hpf.p
  have hc := cut_le p f c a sp
  have hm : ∀ j, j < f → (u + 1) * wt p f j a ≤ sp.getD j 0 := fun j hj => Nat.le_trans (Nat.mul_le_mul_right _ hu) (cut_mul hp hj)
  have hvd := h.vd
  cases hvd with
  | cons hcp hL r =>
  have hbase : LR p f n K (if u + 1 < c then (c - (u + 1), a) :: L else L) (lessN p f (u + 1) a sp) := by
    refine ⟨?_, fun x hx => ?_, less_len .., fun j hj => ?_, fun x hx => ?_⟩
    · split
      · exact .cons (by omega) hL r
      · exact r
    · split at hx
      · rcases List.mem_cons.mp hx with rfl | hx
        · show 0 < c - (u + 1)
          omega
        · exact h.po x (List.mem_cons_of_mem _ hx)
      · exact h.po x (List.mem_cons_of_mem _ hx)
    · have h1 := h.eq j hj
      have h2 := hm j hj
      rw [sj_cons] at h1
      rw [less_get hj]
      split
      · rw [sj_cons]
        have h4 : (c - (u + 1)) * wt p f j a + (u + 1) * wt p f j a = c * wt p f j a := by
          rw [← Nat.add_mul]
          congr 1
          omega
        omega
      · have : u + 1 = c := by omega
        rw [this] at h2 ⊢
        omega
    · obtain ⟨j, hj, h1⟩ := h.kp x hx
      refine ⟨j, hj, ?_⟩
      rw [less_get hj]
      omega
  have := can_yes hpf hn hbase
  have e : (fun t => ac f t (if u + 1 < c then (c - (u + 1), a) :: L else L)) = (fun t => ac f t ((c, a) :: L) - (if t = a % f then u + 1 else 0)) := funext fun t => by
    rw [ac_cons]
    split
    · rw [ac_cons]
      by_cases ht : a % f = t
      · rw [if_pos ht, if_pos ht, if_pos ht.symm]
        omega
      · rw [if_neg ht, if_neg ht, if_neg (Ne.symm ht)]
        omega
    · have : u + 1 = c := by omega
      by_cases ht : a % f = t
      · rw [if_pos ht, if_pos ht.symm]
        omega
      · rw [if_neg ht, if_neg (Ne.symm ht)]
        omega
  rw [e] at this
  exact this
theorem unit_no {p f n c a u : Nat} (hpf : PFq p f) {K L : PL} {sp : List Nat} (h : LR p f n K ((c, a) :: L) sp) (h1 : cutN p f c a sp ≤ u) (h2 : u < c) :
    ¬ canP p f n (fun t => ac f t K + (if t = a % f then u - cutN p f c a sp else 0)) (fun t => ac f t ((c, a) :: L) - (if t = a % f then u + 1 else 0)) := by
  obtain ⟨hp, hf, _⟩ := hpf.p
  intro hcan
  obtain ⟨j, hj, hlt⟩ := cut_lt (p := p) (f := f) (c := c) (a := a) (sp := sp) hp (by omega)
  have h3 := can_no hcan j hj
  have h4 := h.eq j hj
  have hi : a % f < f := Nat.mod_lt _ (by omega)
  have e : totN p f j (fun t => ac f t K + (if t = a % f then u - cutN p f c a sp else 0) + (ac f t ((c, a) :: L) - (if t = a % f then u + 1 else 0))) + totN p f j (fun t => if t = a % f then cutN p f c a sp + 1 else 0) = totN p f j (fun t => ac f t K) + totN p f j (fun t => ac f t ((c, a) :: L)) := by
    rw [← tot_add, ← tot_add]
    congr 1
    funext t
    have : t = a % f → u + 1 ≤ ac f t ((c, a) :: L) := fun e => by
      rw [ac_cons, if_pos e.symm]
      omega
    by_cases ht : t = a % f
    · have := this ht
      simp only [if_pos ht]
      omega
    · simp only [if_neg ht]
      omega
  rw [tot_one hi, tot_ac hpf _ hj, tot_ac hpf _ hj, wt_i] at e
  rw [Nat.mul_add, Nat.mul_one, Nat.mul_comm] at e
  omega
/-- digits at places are told by their number -/
theorem vd_uniq {p : Nat} (hp : 1 < p) : ∀ {L M : PL}, Vd p L → Vd p M → (∀ x ∈ L, 0 < x.1) → (∀ x ∈ M, 0 < x.1) → nl p L = nl p M → L = M
  | [], [], _, _, _, _, _ => rfl
  | [], (d, b) :: M, _, _, _, pm, h => by
    rw [nl_cons] at h
    have h1 := pm _ (List.mem_cons_self ..)
    have := Nat.mul_pos (show 0 < d from h1) (Nat.pow_pos (n := b) (show 0 < p by omega))
    have h0 : nl p [] = 0 := rfl
    omega
  | (c, a) :: L, [], _, _, pl, _, h => by
    rw [nl_cons] at h
    have h1 := pl _ (List.mem_cons_self ..)
    have := Nat.mul_pos (show 0 < c from h1) (Nat.pow_pos (n := a) (show 0 < p by omega))
    have h0 : nl p [] = 0 := rfl
    omega
  | (c, a) :: L, (d, b) :: M, vl, vm, pl, pm, h => by
    have hl1 := nl_lt hp vl (a + 1) (fun x hx => by
      cases vl with
      | cons _ hL _ =>
        rcases List.mem_cons.mp hx with rfl | hx
        · exact Nat.lt_succ_self _
        · have := hL x hx; omega)
    have hm1 := nl_lt hp vm (b + 1) (fun x hx => by
      cases vm with
      | cons _ hL _ =>
        rcases List.mem_cons.mp hx with rfl | hx
        · exact Nat.lt_succ_self _
        · have := hL x hx; omega)
    cases vl with
    | cons hc hL rl =>
    cases vm with
    | cons hd hM rm =>
    have hc0 : 0 < c := pl _ (List.mem_cons_self ..)
    have hd0 : 0 < d := pm _ (List.mem_cons_self ..)
    have ll := nl_lt hp rl a hL
    have lm := nl_lt hp rm b hM
    have hca : p ^ a ≤ c * p ^ a := Nat.le_mul_of_pos_left _ hc0
    have hdb : p ^ b ≤ d * p ^ b := Nat.le_mul_of_pos_left _ hd0
    have hab : a = b := by
      rw [nl_cons] at hl1 hm1
      rw [nl_cons, nl_cons] at h
      rcases Nat.lt_trichotomy a b with z | z | z
      · have := Nat.pow_le_pow_right (show 0 < p by omega) (show a + 1 ≤ b from z)
        omega
      · exact z
      · have := Nat.pow_le_pow_right (show 0 < p by omega) (show b + 1 ≤ a from z)
        omega
    subst hab
    rw [nl_cons, nl_cons] at h
    have hcd : c = d := by
      have h1 : (c * p ^ a + nl p L) / p ^ a = c := by
        rw [Nat.add_comm, Nat.add_mul_div_right _ _ (Nat.pow_pos (by omega)), Nat.div_eq_of_lt ll, Nat.zero_add]
      have h2 : (d * p ^ a + nl p M) / p ^ a = d := by
        rw [Nat.add_comm, Nat.add_mul_div_right _ _ (Nat.pow_pos (by omega)), Nat.div_eq_of_lt lm, Nat.zero_add]
      rw [← h1, ← h2, h]
    subst hcd
    rw [vd_uniq hp rl rm (fun x hx => pl x (List.mem_cons_of_mem _ hx)) (fun x hx => pm x (List.mem_cons_of_mem _ hx)) (by omega)]
end Own
/-! own rules: comprehensions whose items are new objects; extend by such a one -/
namespace Own
open PySem PySem.Spec PyProof.Rows L2 Evl
/-- what is told of an item stays, also where a list is written -/
structure Kp (P : Nat → Addr → Hp → Prop) : Prop where
  ex : ∀ i r H H', P i r H → Ex H H' → P i r H'
  put : ∀ i r H H' p ys, H p = some (.lst ys) → Exd p H H' → P i r H → P i r H'
def Cwr (H : Hp) (P : Nat → Addr → Hp → Prop) (Dl : Addr) (i : Nat) (H' : Hp) : Prop := H Dl = none ∧ Ex H H' ∧ ∃ rs : List Addr, rs.length = i ∧ H' Dl = some (.lst (rs.map V.ref)) ∧ ∀ (j : Nat) (r : Addr), rs[j]? = some r → P j r H'
def EvLR (te : TE) (σ : L2.St) (H : Hp) (n : Nat) (P : Nat → Addr → Hp → Prop) : Prop := ∀ H1, Ex H H1 → ∀ Q : VK, (∀ (p : Addr) (rs : List Addr) H2, H1 p = none → Ex H1 H2 → H2 p = some (.lst (rs.map V.ref)) → rs.length = n → (∀ (j : Nat) (r : Addr), rs[j]? = some r → P j r H2) → Q (.ref p) H2) → te σ H1 Q
/-- the item is a new object -/
def EvR (te : TE) (σ : L2.St) (H : Hp) (P : Addr → Hp → Prop) : Prop := ∀ H1, Ex H H1 → ∀ Q : VK, (∀ r H2, Ex H1 H2 → P r H2 → Q (.ref r) H2) → te σ H1 Q
section
variable {K : PySem.W.Frag} {σ : L2.St} {H H' : Hp} {t : TT} {te ta tb tl : TE} {x y v : V} {D : Ends} {tu tz : TS} {P : Nat → Addr → Hp → Prop}
theorem cwr_turn {Dl : Addr} {i : Nat} {σ2 : L2.St} (kp : Kp P) (p : Cwr H P Dl i H') (hi : i < 50000) (he : EvR te σ2 H (P i)) :
    tYes σ2 H' fun b H3 => if b = true then te σ2 H3 fun y H4 => ∃ acc, H4 Dl = some (.lst acc) ∧ acc.length < sizeLine ∧ Cwr H P Dl (i + 1) (upd H4 Dl (.lst (acc ++ [y]))) else Cwr H P Dl (i + 1) H3 := by
  obtain ⟨p1, p2, rs, p3, p4, p5⟩ := p
  show (if true = true then te σ2 H' (fun y H4 => ∃ acc, H4 Dl = some (.lst acc) ∧ acc.length < sizeLine ∧ Cwr H P Dl (i + 1) (upd H4 Dl (.lst (acc ++ [y])))) else Cwr H P Dl (i + 1) H')
  rw [if_pos rfl]
  refine he H' p2 _ fun r H4 e4 q => ?_
  have hD := e4 _ _ p4
  have x5 : Exd Dl H4 (upd H4 Dl (.lst (rs.map V.ref ++ [.ref r]))) := Exd.put
  refine ⟨rs.map V.ref, hD, by rw [List.length_map, p3]; exact Nat.lt_of_lt_of_le (show i < 50001 by omega) (by decide), p1, (p2.trans e4).mut p1, rs ++ [r], by rw [List.length_append, p3]; rfl, by rw [upd_same, List.map_append]; rfl, fun j r' e6 => ?_⟩
  by_cases hj : j < rs.length
  · rw [List.getElem?_append_left hj] at e6
    exact kp.put _ _ _ _ _ _ hD x5 (kp.ex _ _ _ _ (p5 j r' e6) e4)
  · rw [List.getElem?_append_right (by omega)] at e6
    have hj2 : j - rs.length = 0 := by
      have := (List.getElem?_eq_some_iff.mp e6).1
      rw [List.length_singleton] at this
      omega
    rw [hj2] at e6
    cases e6
    have hji : j = i := by omega
    rw [hji]
    exact kp.put _ _ _ _ _ _ hD x5 q
theorem lr_lcR1 {ta : TA} {j : Nat} {vs : List Nat} {n : Nat} (kp : Kp P) (h : EvA ta σ H [.int (n : Int)]) (hn : n ≤ 40000) (hw : ∀ x, wipe ((wipe σ vs).set j (some x)) vs = wipe σ vs)
    (he : ∀ (i : Nat) H1, Ex H H1 → i < n → EvR te ((wipe σ vs).set j (some (.int (i : Int)))) H1 (P i)) : EvLR (tLc (iRng1 ta) (gName j) tYes te vs) σ H n P := fun H0 e Q q => h H0 e _ fun H1 e1 => ⟨(n : Int), rfl, by omega, by omega, fun Dl hD => by
  rw [Int.toNat_natCast]
  exact lc_range (lo := 0) (n := n) (Cwr H1 P Dl) ⟨hD, Ex.new hD, [], rfl, upd_same, fun j r e => by simp at e⟩ (fun i H' hi p => by
    have e0 : (0 : Int) + (i : Int) = (i : Int) := Int.zero_add _
    show wipe ((wipe σ vs).set j (some (.int ((0 : Int) + (i : Int))))) vs = wipe σ vs ∧ tYes ((wipe σ vs).set j (some (.int ((0 : Int) + (i : Int))))) H' fun b H3 => if b = true then te ((wipe σ vs).set j (some (.int ((0 : Int) + (i : Int))))) H3 fun y H4 => ∃ acc, H4 Dl = some (.lst acc) ∧ acc.length < sizeLine ∧ Cwr H1 P Dl (i + 1) (upd H4 Dl (.lst (acc ++ [y]))) else Cwr H1 P Dl (i + 1) H3
    rw [e0]
    exact ⟨hw _, cwr_turn kp p (by omega) (he i H1 (e.trans e1) hi)⟩) (fun H' p => by
      obtain ⟨p1, p2, rs, p3, p4, p5⟩ := p
      exact q Dl rs H' (fresh_back e1 p1) (e1.trans p2) p4 p3 p5)⟩
theorem lr_lcL {a : Addr} {xs : List V} {j : Nat} {vs : List Nat} (kp : Kp P) (h : Ev tl σ H (.ref a)) (hx : SqL K H a xs) (hz : xs.length ≤ 40000) (hw : ∀ x, wipe ((wipe σ vs).set j (some x)) vs = wipe σ vs)
    (he : ∀ (i : Nat) (x : V) H1, Ex H H1 → xs[i]? = some x → EvR te ((wipe σ vs).set j (some x)) H1 (P i)) : EvLR (tLc (iList K tl) (gName j) tYes te vs) σ H xs.length P := fun H0 e Q q => h H0 e _ fun H1 e1 => ⟨a, rfl, ⟨xs, ex_l (e.trans e1) hx⟩, fun Dl hD =>
  lc_list (xs := xs) (Cwr H1 P Dl) ⟨hD, Ex.new hD, [], rfl, upd_same, fun j r e => by simp at e⟩ (fun i H' _ p => ex_l ((e.trans e1).trans p.2.1) hx) (fun i x H' hi p => ⟨hw x, cwr_turn kp p (by have := (List.getElem?_eq_some_iff.mp hi).1; omega) (he i x H1 (e.trans e1) hi)⟩)
    (fun H' p => by
      obtain ⟨p1, p2, rs, p3, p4, p5⟩ := p
      exact q Dl rs H' (fresh_back e1 p1) (e1.trans p2) p4 p3 p5)⟩
theorem s_extR {l : Addr} {xs : List V} {n : Nat} (hl : H l = some (.lst xs)) (ha : Ev ta σ H (.ref l)) (h : EvLR te σ H n P) (hz : xs.length + n ≤ 100000) (k : ∀ (rs : List Addr) H1, Ex H H1 → rs.length = n → (∀ (j : Nat) (r : Addr), rs[j]? = some r → P j r H1) → D.nx σ (upd H1 l (.lst (xs ++ rs.map V.ref)))) : tDrop (tBM K "list" rExtend ta (tCons te tNil)) D σ H := ha H (Ex.refl H) _ fun H1 e1 =>
  ⟨Or.inl ⟨rfl, xs, sq_of (e1 l _ hl)⟩, h H1 e1 _ fun p rs H2 hp e2 h2 hn hP => ⟨l, p, xs, rs.map V.ref, rfl, rfl, e2 l _ (e1 l _ hl), h2, sz_of (by rw [List.length_map]; omega), k rs H2 (e1.trans e2) hn hP⟩⟩
theorem s_asgLR {i : Nat} {n : Nat} (h : EvLR te σ H n P) (k : ∀ (p : Addr) (rs : List Addr) H1, H p = none → Ex H H1 → H1 p = some (.lst (rs.map V.ref)) → rs.length = n → (∀ (j : Nat) (r : Addr), rs[j]? = some r → P j r H1) → D.nx (σ.set i (some (.ref p))) H1) : tAsg te (gName i) D σ H := h H (Ex.refl H) _ fun p rs H1 np e1 h1 hn hP => k p rs H1 np e1 h1 hn hP
end
/-- rows of numbers -/
def PRow (K : PySem.W.Frag) (f : Nat → List Nat) (i : Nat) (r : Addr) (H : Hp) : Prop := SqT K H r ((f i).map N_)
theorem sqt_put {K : PySem.W.Frag} {H H' : Hp} {p m : Addr} {ys xs : List V} (hp : H p = some (.lst ys)) (e : Exd p H H') (h : SqT K H m xs) : SqT K H' m xs := by
  rcases h with (h | ⟨o, h⟩) | h
  · exact .inl (.inl (e m _ (fun z => by rw [z, hp] at h; cases h) h))
  · exact .inl (.inr ⟨o, e m _ (fun z => by rw [z, hp] at h; cases h) h⟩)
  · exact .inr h
theorem kp_row (K : PySem.W.Frag) (f : Nat → List Nat) : Kp (PRow K f) := ⟨fun i r H H' h e => ex_t e h, fun i r H H' p ys hp e h => sqt_put hp e h⟩
/-- pairs of a row and a number -/
def PPair (K : PySem.W.Frag) (f : Nat → List Nat × Nat) (i : Nat) (r : Addr) (H : Hp) : Prop := ∃ m, H r = some (.tup [.ref m, N_ (f i).2]) ∧ SqT K H m ((f i).1.map N_)
theorem kp_pair (K : PySem.W.Frag) (f : Nat → List Nat × Nat) : Kp (PPair K f) := ⟨fun i r H H' ⟨m, h1, h2⟩ e => ⟨m, e _ _ h1, ex_t e h2⟩, fun i r H H' p ys hp e ⟨m, h1, h2⟩ => ⟨m, e _ _ (fun z => by rw [z, hp] at h1; cases h1) h1, sqt_put hp e h2⟩⟩
/-- tuples of natural numbers that stand in the heap -/
def Tps (K : PySem.W.Frag) (H : Hp) (rs : List Addr) (xss : List (List Nat)) : Prop := rs.length = xss.length ∧ ∀ (i : Nat) (r : Addr) (xs : List Nat), rs[i]? = some r → xss[i]? = some xs → SqT K H r (xs.map N_)
theorem Tps.ex {K : PySem.W.Frag} {H H' : Hp} {rs : List Addr} {xss : List (List Nat)} (h : Tps K H rs xss) (e : Ex H H') : Tps K H' rs xss := ⟨h.1, fun i r xs e1 e2 => ex_t e (h.2 i r xs e1 e2)⟩
theorem Tps.put {K : PySem.W.Frag} {H H' : Hp} {rs : List Addr} {xss : List (List Nat)} {p : Addr} {ys : List V} (h : Tps K H rs xss) (hp : H p = some (.lst ys)) (e : Exd p H H') : Tps K H' rs xss := ⟨h.1, fun i r xs e1 e2 => sqt_put hp e (h.2 i r xs e1 e2)⟩
/-- the pairs that stand in the heap -/
def Prs (K : PySem.W.Frag) (H : Hp) (ts : List Addr) (bs : List (List Nat × Nat)) : Prop := ts.length = bs.length ∧ ∀ (i : Nat) (t : Addr) (x : List Nat × Nat), ts[i]? = some t → bs[i]? = some x → ∃ m, H t = some (.tup [.ref m, N_ x.2]) ∧ SqT K H m (x.1.map N_)
theorem Prs.nil (K : PySem.W.Frag) (H : Hp) : Prs K H [] [] := ⟨rfl, fun i t x h => by simp at h⟩
theorem Prs.ex {K : PySem.W.Frag} {H H' : Hp} {ts : List Addr} {bs : List (List Nat × Nat)} (h : Prs K H ts bs) (e : Ex H H') : Prs K H' ts bs := ⟨h.1, fun i t x e1 e2 => by
  obtain ⟨m, h1, h2⟩ := h.2 i t x e1 e2
  exact ⟨m, e _ _ h1, ex_t e h2⟩⟩
theorem Prs.put {K : PySem.W.Frag} {H H' : Hp} {ts : List Addr} {bs : List (List Nat × Nat)} {p : Addr} {ys : List V} (h : Prs K H ts bs) (hp : H p = some (.lst ys)) (e : Exd p H H') : Prs K H' ts bs := ⟨h.1, fun i t x e1 e2 => by
  obtain ⟨m, h1, h2⟩ := h.2 i t x e1 e2
  exact ⟨m, e _ _ (fun z => by rw [z, hp] at h1; cases h1) h1, sqt_put hp e h2⟩⟩
theorem Prs.app {K : PySem.W.Frag} {H : Hp} {ts us : List Addr} {bs cs : List (List Nat × Nat)} (h : Prs K H ts bs) (k : Prs K H us cs) : Prs K H (ts ++ us) (bs ++ cs) := by
  refine ⟨by rw [List.length_append, List.length_append, h.1, k.1], fun i t x e1 e2 => ?_⟩
  by_cases hi : i < ts.length
  · rw [List.getElem?_append_left hi] at e1
    rw [List.getElem?_append_left (by rw [← h.1]; exact hi)] at e2
    exact h.2 i t x e1 e2
  · rw [List.getElem?_append_right (by omega)] at e1
    rw [List.getElem?_append_right (by rw [← h.1]; omega), ← h.1] at e2
    exact k.2 _ t x e1 e2
theorem Tps.nil (K : PySem.W.Frag) (H : Hp) : Tps K H [] [] := ⟨rfl, fun i t x h => by simp at h⟩
theorem Tps.app {K : PySem.W.Frag} {H : Hp} {ts us : List Addr} {bs cs : List (List Nat)} (h : Tps K H ts bs) (k : Tps K H us cs) : Tps K H (ts ++ us) (bs ++ cs) := by
  refine ⟨by rw [List.length_append, List.length_append, h.1, k.1], fun i t x e1 e2 => ?_⟩
  by_cases hi : i < ts.length
  · rw [List.getElem?_append_left hi] at e1
    rw [List.getElem?_append_left (by rw [← h.1]; exact hi)] at e2
    exact h.2 i t x e1 e2
  · rw [List.getElem?_append_right (by omega)] at e1
    rw [List.getElem?_append_right (by rw [← h.1]; omega), ← h.1] at e2
    exact k.2 _ t x e1 e2
theorem prs_of {K : PySem.W.Frag} {H : Hp} {rs : List Addr} {bs : List (List Nat × Nat)} (hl : rs.length = bs.length) (h : ∀ (j : Nat) (r : Addr), rs[j]? = some r → PPair K (fun i => bs.getD i ([], 0)) j r H) : Prs K H rs bs := ⟨hl, fun i t x e1 e2 => by
  have this : ∃ m, H t = some (.tup [.ref m, N_ (bs.getD i ([], 0)).2]) ∧ SqT K H m ((bs.getD i ([], 0)).1.map N_) := h i t e1
  rw [List.getD_eq_getElem?_getD, e2] at this
  exact this⟩
theorem tps_of {K : PySem.W.Frag} {H : Hp} {rs : List Addr} {bs : List (List Nat)} (hl : rs.length = bs.length) (h : ∀ (j : Nat) (r : Addr), rs[j]? = some r → PRow K (fun i => bs.getD i []) j r H) : Tps K H rs bs := ⟨hl, fun i t x e1 e2 => by
  have this : SqT K H t ((bs.getD i []).map N_) := h i t e1
  rw [List.getD_eq_getElem?_getD, e2] at this
  exact this⟩
section
variable {K : PySem.W.Frag} {σ : L2.St} {H H' : Hp} {t : TT} {te ta tb tc tl : TE} {P : Nat → Addr → Hp → Prop}
/-- over pairs -/
theorem lr_lcP {a : Addr} {ts : List Addr} {bs : List (List Nat × Nat)} {i1 i2 : Nat} {vs : List Nat} (kp : Kp P) (h : Ev tl σ H (.ref a)) (hx : SqL K H a (ts.map V.ref)) (hb : Prs K H ts bs) (hz : ts.length ≤ 40000) (hw : ∀ x y, wipe (((wipe σ vs).set i1 (some x)).set i2 (some y)) vs = wipe σ vs)
    (he : ∀ (i : Nat) (b : List Nat × Nat) (m : Addr) H1, Ex H H1 → bs[i]? = some b → SqT K H1 m (b.1.map N_) → EvR te (((wipe σ vs).set i1 (some (.ref m))).set i2 (some (N_ b.2))) H1 (P i)) : EvLR (tLc (iList K tl) (gTup K 2 (gCons (gName i1) (gCons (gName i2) gNil))) tYes te vs) σ H ts.length P := fun H0 e Q q => h H0 e _ fun H1 e1 => ⟨a, rfl, ⟨ts.map V.ref, ex_l (e.trans e1) hx⟩, fun Dl hD =>
  lc_list (xs := ts.map V.ref) (Cwr H1 P Dl) ⟨hD, Ex.new hD, [], rfl, upd_same, fun j r e => by simp at e⟩ (fun i H' _ p => ex_l ((e.trans e1).trans p.2.1) hx) (fun i x H' hi p => by
    rw [List.getElem?_map] at hi
    obtain ⟨t, ht, rfl⟩ := Option.map_eq_some_iff.mp hi
    have hil : i < ts.length := (List.getElem?_eq_some_iff.mp ht).1
    have hjl : i < bs.length := by rw [← hb.1]; exact hil
    have hxi : bs[i]? = some bs[i] := List.getElem?_eq_getElem hjl
    generalize bs[i] = b at hxi
    obtain ⟨m, g1, g2⟩ := hb.2 i t b ht hxi
    have e0 := (e.trans e1).trans p.2.1
    exact ⟨t, [.ref m, N_ b.2], rfl, st_of (e0 _ _ g1), rfl, .ref m, [N_ b.2], rfl, N_ b.2, [], rfl, rfl, hw _ _, cwr_turn kp p (by omega) (he i b m H1 (e.trans e1) hxi (ex_t (e.trans e1) g2))⟩)
    (fun H' p => by
      obtain ⟨p1, p2, rs, p3, p4, p5⟩ := p
      rw [List.length_map] at p3
      exact q Dl rs H' (fresh_back e1 p1) (e1.trans p2) p4 p3 p5)⟩
/-- t + (x,) -/
theorem er_snoc {m : Addr} {ms : List Nat} {n : Nat} {P : Addr → Hp → Prop} (h1 : Ev ta σ H (.ref m)) (hm : SqT K H m (ms.map N_)) (hl : ms.length ≤ 300) (h2 : Ev tb σ H (N_ n)) (hP : ∀ r H1, SqT K H1 r ((ms ++ [n]).map N_) → P r H1) : EvR (tOp (rCatA K) ta (tTup (tCons tb tNil))) σ H P := fun H1 e Q q =>
  h1 H1 e _ fun H2 e2 => h2 H2 (e.trans e2) _ fun H3 e3 => ⟨by show 1 ≤ sizeLine; decide, fun t1 n1 => catA_go (K := K) (xs := ms.map N_) (ys := [N_ n]) (ex_t ((e.trans e2).trans (e3.trans (Ex.new n1))) hm) (st_of upd_same) (by rw [List.length_map]; show _ + 1 ≤ _; omega) fun a H4 e4 sa => q a H4 ((e2.trans e3).trans ((Ex.new n1).trans e4)) (hP a H4 (by rw [List.map_append]; exact sa))⟩
/-- (t + (x,), z) -/
theorem er_pair {m : Addr} {ms : List Nat} {n z : Nat} {P : Addr → Hp → Prop} (h1 : Ev ta σ H (.ref m)) (hm : SqT K H m (ms.map N_)) (hl : ms.length ≤ 300) (h2 : Ev tb σ H (N_ n)) (h3 : Ev tc σ H (N_ z)) (hP : ∀ r H1, (∃ m, H1 r = some (.tup [.ref m, N_ z]) ∧ SqT K H1 m ((ms ++ [n]).map N_)) → P r H1) : EvR (tTup (tCons (tOp (rCatA K) ta (tTup (tCons tb tNil))) (tCons tc tNil))) σ H P := fun H1 e Q q =>
  h1 H1 e _ fun H2 e2 => h2 H2 (e.trans e2) _ fun H3 e3 => ⟨by show 1 ≤ sizeLine; decide, fun t1 n1 => catA_go (K := K) (xs := ms.map N_) (ys := [N_ n]) (ex_t ((e.trans e2).trans (e3.trans (Ex.new n1))) hm) (st_of upd_same) (by rw [List.length_map]; show _ + 1 ≤ _; omega) fun a H4 e4 sa => h3 H4 (((e.trans e2).trans (e3.trans (Ex.new n1))).trans e4) _ fun H5 e5 => ⟨by show 2 ≤ sizeLine; decide, fun t2 n2 => q t2 _ ((((e2.trans e3).trans (Ex.new n1)).trans (e4.trans e5)).trans (Ex.new n2)) (hP t2 _ ⟨a, upd_same, ex_t (e5.trans (Ex.new n2)) (by rw [List.map_append]; exact sa)⟩)⟩⟩
/-- sorted of new rows -/
theorem er_revT {m : Addr} {ms : List Nat} {P : Addr → Hp → Prop} (h1 : Ev ta σ H (.ref m)) (hm : SqT K H m (ms.map N_)) (hP : ∀ r H1, SqT K H1 r (ms.reverse.map N_) → P r H1) : EvR (tRevT K ta) σ H P := fun H1 e Q q => (eu_is (eu_revT (K := K) h1 hm) (List.map_reverse).symm) H1 e _ fun p H2 np e2 h2 => q p H2 e2 (hP p H2 (st_of h2))
end
/-- the order of rows of numbers -/
def lexN (x y : List Nat) : Bool := lexI (x.map Int.ofNat) (y.map Int.ofNat)
def RetSorted (K : PySem.W.Frag) (xss : List (List Nat)) (H : Hp) (Q : VK) : Prop := ∀ (p : Addr) (rs : List Addr) (yss : List (List Nat)) (H' : Hp), H p = none → Ex H H' → yss.Perm xss → yss.Pairwise (fun x y => lexN y x = false) → H' p = some (.lst (rs.map V.ref)) → Tps K H' rs yss → Q (.ref p) H'
theorem perm_nat {xss : List (List Nat)} {yss : List (List Int)} (h : yss.Perm (xss.map (·.map Int.ofNat))) : ∃ zss : List (List Nat), yss = zss.map (·.map Int.ofNat) ∧ zss.Perm xss := by
  have hback : ∀ xs : List Nat, (xs.map Int.ofNat).map Int.toNat = xs := fun xs => by
    rw [List.map_map]
    exact (List.map_congr_left fun x _ => rfl).trans (List.map_id xs)
  refine ⟨yss.map (·.map Int.toNat), ?_, ?_⟩
  · rw [List.map_map]
    refine ((List.map_congr_left fun y hy => ?_).trans (List.map_id yss)).symm
    have := h.mem_iff.mp hy
    obtain ⟨x, _, rfl⟩ := List.mem_map.mp this
    show ((x.map Int.ofNat).map Int.toNat).map Int.ofNat = _
    rw [hback]
    rfl
  · have := h.map (·.map Int.toNat)
    rw [List.map_map] at this
    refine this.trans (List.Perm.of_eq ?_)
    exact (List.map_congr_left fun x _ => hback x).trans (List.map_id xss)
section
variable {K : PySem.W.Frag} {σ : L2.St} {H : Hp} {te : TE}
theorem sorted_go {n m : Nat} {xss : List (List Nat)} (h : EvLR te σ H m (PRow K (fun i => xss.getD i []))) (hm : m = xss.length) (hn : ∀ xs ∈ xss, xs.length = n + 1) {H0 : Hp} (e0 : Ex H H0) {Q : VK} (q : RetSorted K xss H0 Q) : tCB (rSortedTn K) (tCons te tNil) σ H0 Q := h H0 e0 _ fun p rs H1 np e1 h1 hl hP => by
  have ht := tps_of (K := K) (by rw [hl, hm]) hP
  refine ⟨p, rs, xss.map (·.map Int.ofNat), n, rfl, sq_of h1, ⟨by rw [List.length_map]; exact ht.1, fun i r xs a b => ?_⟩, fun xs hx => ?_, fun ss yss p2 hperm hpw htp np2 => ?_⟩
  · rw [List.getElem?_map] at b
    obtain ⟨x, hx, rfl⟩ := Option.map_eq_some_iff.mp b
    have := ht.2 i r x a hx
    rw [List.map_map]
    exact this
  · obtain ⟨x, hx2, rfl⟩ := List.mem_map.mp hx
    rw [List.length_map]
    exact hn x hx2
  · obtain ⟨zss, rfl, hz⟩ := perm_nat hperm
    refine q p2 ss zss _ (fresh_back e1 np2) (e1.trans (Ex.new np2)) hz (List.pairwise_map.mp hpw) upd_same ⟨by rw [htp.1, List.length_map], fun i r xs a b => ?_⟩
    have := htp.2 i r (xs.map Int.ofNat) a (by rw [List.getElem?_map, b]; rfl)
    rw [List.map_map] at this
    exact ex_t (Ex.new np2) this
end
end Own
/-! own rules: enumerate of a tuple -/
namespace Own
open PySem PySem.Spec PyProof.Rows L2 Evl
open AutoSeq1 (wpAny_loadPart')
theorem en_newT (l : Addr) (items : Array Value) (n : Nat) (dct : Option Addr) (sl : Array (Option Value)) :
    Meets (Builtin.«enumerate.__new__» ⟨[.type "enumerate", .ref l], []⟩) (fun _ R s => s.heap.get? l = some { cls := .type "tuple", dict := dct, data := .seq items n, slots := sl } ∧
      R (.ok (.ret (.ref (s.heap.push { cls := .type "tuple_iterator", data := .fields #[.ref l, .int 0 0] }).objs.size)))
        { s with heap := (s.heap.push { cls := .type "tuple_iterator", data := .fields #[.ref l, .int 0 0] }).push { cls := .type "enumerate", data := .fields #[.none, .bool false, .ref s.heap.objs.size, rawInt 0, .none, .none] } }) :=
  .of_wp fun prog w A R s h => by
    obtain ⟨hp, g, d, tk, os⟩ := s; obtain ⟨hl, h⟩ := h
    have hsub := sub_enumerate
    have hL : Heap.IsTuple (Shared.heap ⟨hp, g, d, tk, os⟩) l items := ⟨_, hl, rfl, n, rfl⟩
    wp_walk using wpAny_loadPart' hl
    refine wpAny_stack_any fun st => wpAny_pure ?_
    split
    · rename_i c _ _ _ _ _
      cases (c == Value.type "enumerate")
      · wp_walk using wpAny_loadPart' hl, wpAny_pyIter_tuple hL
        exact ⟨_, rfl, h⟩
      · wp_walk using wpAny_loadPart' hl, wpAny_pyIter_tuple hL
        exact ⟨_, rfl, h⟩
    · wp_walk using wpAny_loadPart' hl, wpAny_pyIter_tuple hL
      exact ⟨_, rfl, h⟩
section
variable {prog : Program} {w : World} {A : Around} {E : Value → Shared → Prop} {s : Shared}
theorem call_en_tuple {l : Addr} {items : Array Value} {Q : Value → Shared → Prop} (hL : s.heap.IsTuple l items)
    (h : ∀ h', IsEnum h' (s.heap.objs.size + 1) s.heap.objs.size 0 .none → h'.IsTupleIter s.heap.objs.size l 0 → h'.objs.size = s.heap.objs.size + 2 →
      (∀ b o, s.heap.get? b = some o → h'.get? b = some o) → Q (.ref (s.heap.objs.size + 1)) { s with heap := h' }) :
    wpAny (model prog w) A (call (.type "enumerate") [.ref l]) Q E s := by
  obtain ⟨⟨c, dct, dt, sl⟩, hl, hc, n, hd⟩ := hL
  replace hc : c = .type "tuple" := hc
  replace hd : dt = .seq items n := hd
  subst hc hd
  refine callType_new F.called_enumerate (by decide) (F.typeCall_enumerate_1 _) (F.newCall_enumerate_1 _) (fun obj => F.args_object_init_2 obj _) F.entry_enumerate_new
    (en_newT l items n dct sl) ⟨hl, ?_⟩
  have hz : (s.heap.push { cls := .type "tuple_iterator", data := .fields #[.ref l, .int 0 0] }).objs.size = s.heap.objs.size + 1 := Heap.size_push ..
  show _ ∧ _
  rw [hz]
  have he : IsEnum ((s.heap.push { cls := .type "tuple_iterator", data := .fields #[.ref l, .int 0 0] }).push
      { cls := .type "enumerate", data := .fields #[.none, .bool false, .ref s.heap.objs.size, rawInt 0, .none, .none] }) (s.heap.objs.size + 1) s.heap.objs.size 0 .none := by
    have := Heap.get?_push_size (s.heap.push { cls := .type "tuple_iterator", data := .fields #[.ref l, .int 0 0] })
      (o := { cls := .type "enumerate", data := .fields #[.none, .bool false, .ref s.heap.objs.size, rawInt 0, .none, .none] }) rfl
    rw [hz] at this; exact this
  refine ⟨⟨_, he, rfl⟩, h _ he ⟨_, Heap.get?_push_of_some _ (Heap.get?_push_size _ rfl), rfl, rfl⟩ (by rw [Heap.size_push, hz]) fun b o x => Heap.get?_push_of_some _ (Heap.get?_push_of_some _ x)⟩
theorem ent_item {e it l : Addr} {i : Nat} {items : Array Value} {x old : Value} {Q : Value → Shared → Prop}
    (he : IsEnum s.heap e it i old) (hit : kT.St s.heap it l i) (hl : kT.Sq s.heap l items) (hx : items[i]? = some x) (hne : e ≠ it)
    (hQ : ∀ h', IsEnumOut h' e it ((i : Int) + 1) x s.heap.objs.size → kT.St h' it l (i + 1) →
      h'.get? s.heap.objs.size = some { cls := .type "tuple", data := .seq #[.int i s.toks, x] } → h'.objs.size = s.heap.objs.size + 1 →
      (∀ b o, b ≠ e → b ≠ it → s.heap.get? b = some o → h'.get? b = some o) → Q (.ref s.heap.objs.size) { s with heap := h', toks := s.toks + 1 }) :
    wpAny (model prog w) A (Builtin.«enumerate.__next__» ⟨[.ref e], []⟩) (fun fin s' => ∃ v, fin = .done (.ret v) ∧ Q v s') E s := by
  obtain ⟨hp, g, d, tk, os⟩ := s
  show wpAny _ _ (field (.ref e) 2 >>= _) _ _ _
  refine wpAny_bind (wpAny_field he rfl (x := .ref it) rfl ?_)
  refine wpAny_bind (kT_ok.nxt hit hl hx fun h₁ hit₁ hs₁ => ?_)
  replace hs₁ : Heap.SameBut it hp h₁ := hs₁
  have he₁ : IsEnum h₁ e it i old := (hs₁.2 e hne).trans he
  show wpAny _ _ (field (.ref e) 3 >>= _) _ _ ⟨h₁, g, d, tk, os⟩
  refine wpAny_bind (wpAny_field he₁ rfl (x := rawInt i) rfl ?_)
  show wpAny _ _ (field (.ref e) 4 >>= _) _ _ ⟨h₁, g, d, tk, os⟩
  refine wpAny_bind (wpAny_field he₁ rfl (x := .none) rfl ?_)
  show wpAny _ _ (mkInt i >>= _) _ _ ⟨h₁, g, d, tk, os⟩
  refine wpAny_bind (wpAny_mkInt ?_)
  show wpAny _ _ (setField (.ref e) 3 (rawInt ((i : Int) + 1)) >>= _) _ _ ⟨h₁, g, d, tk + 1, os⟩
  refine wpAny_bind (wpAny_setField_rec he₁ (by simp) fun h₂ he₂ hs₂ => ?_)
  replace hs₂ : Heap.SameBut e h₁ h₂ := hs₂
  replace he₂ : IsEnum h₂ e it ((i : Int) + 1) old := he₂
  show wpAny _ _ (setField (.ref e) 4 .none >>= _) _ _ ⟨h₂, g, d, tk + 1, os⟩
  refine wpAny_bind (wpAny_setField_rec he₂ (by simp) fun h₃ he₃ hs₃ => ?_)
  replace hs₃ : Heap.SameBut e h₂ h₃ := hs₃
  replace he₃ : IsEnum h₃ e it ((i : Int) + 1) old := he₃
  show wpAny _ _ (newTuple [.int i tk, x] >>= _) _ _ ⟨h₃, g, d, tk + 1, os⟩
  refine wpAny_bind (wpAny_newTuple ?_)
  have he₄ : IsEnum (h₃.push { cls := .type "tuple", data := .seq #[.int i tk, x] }) e it ((i : Int) + 1) old := Heap.get?_push_of_some _ he₃
  generalize hh₄ : h₃.push { cls := .type "tuple", data := .seq #[.int i tk, x] } = h₄ at he₄
  have hsz : h₃.objs.size = hp.objs.size := by rw [hs₃.1, hs₂.1, hs₁.1]
  have hel : e < hp.objs.size := Heap.lt_size he
  have ht₄ : h₄.get? hp.objs.size = some { cls := .type "tuple", data := .seq #[.int i tk, x] } := by rw [← hh₄, ← hsz]; exact Heap.get?_push_size _ rfl
  have hz₄ : h₄.objs.size = hp.objs.size + 1 := by rw [← hh₄, Heap.size_push, hsz]
  have hk₄ : ∀ b o, b ≠ e → b ≠ it → hp.get? b = some o → h₄.get? b = some o := fun b o hbe hbi hb => by
    rw [← hh₄]; exact Heap.get?_push_of_some _ (hs₃.extBut b o hbe (hs₂.extBut b o hbe (hs₁.extBut b o hbi hb)))
  have hit₄ : kT.St h₄ it l (i + 1) := by
    rw [← hh₄]
    exact kT_ok.stay (kT_ok.stay (kT_ok.stay hit₁ fun o ho => (hs₂.2 it (Ne.symm hne)).trans ho) fun o ho => (hs₃.2 it (Ne.symm hne)).trans ho) fun o ho => Heap.get?_push_of_some _ ho
  show wpAny _ _ (Builtin.SmallTypes.ownedTupleIsFree (.ref e) >>= _) _ _ ⟨h₄, g, d, tk + 1, os⟩
  rw [hsz]
  clear hh₄ he₃ hs₃ he₂ hs₂ he₁ hs₁ hit₁ hsz h₃ h₂ h₁
  refine wpAny_bind ?_
  · unfold Builtin.SmallTypes.ownedTupleIsFree
    refine wpAny_bind (wpAny_field he₄ rfl (x := .none) rfl (wpAny_pure ?_))
    simp only [if_true]
    refine wpAny_bind (wpAny_rule ?_)
    refine wpAny_bind (wpAny_field he₄ rfl (x := old) rfl ?_)
    refine wpAny_bind (wpAny_setField_rec he₄ (by simp) fun h₅ he₅ hs₅ => ?_)
    replace hs₅ : Heap.SameBut e h₄ h₅ := hs₅
    replace he₅ : IsEnum h₅ e it ((i : Int) + 1) x := he₅
    show wpAny _ _ (Builtin.SmallTypes.ownedTupleHandOut (.ref e) (.ref hp.objs.size) >>= _) _ _ ⟨h₅, g, d, tk + 1, os⟩
    refine wpAny_bind ?_
    · unfold Builtin.SmallTypes.ownedTupleHandOut
      refine wpAny_bind (wpAny_setField_rec he₅ (by simp) fun h₆ he₆ hs₆ => ?_)
      replace hs₆ : Heap.SameBut e h₅ h₆ := hs₆
      replace he₆ : IsEnumOut h₆ e it ((i : Int) + 1) x hp.objs.size := he₆
      refine wpAny_setField_rec he₆ (by simp) fun h₇ he₇ hs₇ => ?_
      replace hs₇ : Heap.SameBut e h₆ h₇ := hs₇
      replace he₇ : IsEnumOut h₇ e it ((i : Int) + 1) x hp.objs.size := he₇
      refine wpAny_bind (wpAny_letGo (wpAny_pure ⟨_, rfl, hQ h₇ he₇ ?_ ?_ ?_ ?_⟩))
      · exact kT_ok.stay (kT_ok.stay (kT_ok.stay hit₄ fun o ho => (hs₅.2 it (Ne.symm hne)).trans ho) fun o ho => (hs₆.2 it (Ne.symm hne)).trans ho) fun o ho => (hs₇.2 it (Ne.symm hne)).trans ho
      · exact hs₇.extBut _ _ (Nat.ne_of_gt hel) (hs₆.extBut _ _ (Nat.ne_of_gt hel) (hs₅.extBut _ _ (Nat.ne_of_gt hel) ht₄))
      · rw [hs₇.1, hs₆.1, hs₅.1, hz₄]
      · exact fun b o hbe hbi hb => hs₇.extBut b o hbe (hs₆.extBut b o hbe (hs₅.extBut b o hbe (hk₄ b o hbe hbi hb)))
theorem ent_nextI {e it l : Addr} {i : Nat} {items : Array Value} {x old : Value} {Q : Option Value → Shared → Prop}
    (he : IsEnum s.heap e it i old) (hit : kT.St s.heap it l i) (hl : kT.Sq s.heap l items) (hx : items[i]? = some x) (hne : e ≠ it)
    (hQ : ∀ h', IsEnumOut h' e it ((i : Int) + 1) x s.heap.objs.size → kT.St h' it l (i + 1) →
      h'.get? s.heap.objs.size = some { cls := .type "tuple", data := .seq #[.int i s.toks, x] } → h'.objs.size = s.heap.objs.size + 1 →
      (∀ b o, b ≠ e → b ≠ it → s.heap.get? b = some o → h'.get? b = some o) → Q (some (.ref s.heap.objs.size)) { s with heap := h', toks := s.toks + 1 }) :
    wpAny (model prog w) A (pyNext (.ref e)) Q E s := by
  have hT : s.TypeIs (.ref e) "enumerate" := ⟨_, he, rfl⟩
  unfold pyNext
  exact wpAny_bind (wpAny_attempt (wpAny_callSpecial?_slot (name := Str.ofString "__next__") hT F.slot_enumerate_next
    (wpAny_call_entry F.slot_enumerate_next hT F.entry_enumerate_next
      (ent_item he hit hl hx hne fun h' a b c d k => wpAny_pure (hQ h' a b c d k)) (F.args_enumerate_next_1 _))))
theorem ent_nextE {e it l : Addr} {i : Nat} {items : Array Value} {old : Value} {Q : Option Value → Shared → Prop} (hh : A.handled = none)
    (he : IsEnum s.heap e it i old) (hit : kT.St s.heap it l i) (hl : kT.Sq s.heap l items) (hx : items[i]? = none)
    (hQ : ∀ h', Heap.ExtBut it s.heap h' → Q none { s with heap := h' }) : wpAny (model prog w) A (pyNext (.ref e)) Q E s := by
  have hT : s.TypeIs (.ref e) "enumerate" := ⟨_, he, rfl⟩
  unfold pyNext
  refine wpAny_bind (wpAny_attempt (wpAny_callSpecial?_slot (name := Str.ofString "__next__") hT F.slot_enumerate_next
    (wpAny_call_entry F.slot_enumerate_next hT F.entry_enumerate_next ?_ (F.args_enumerate_next_1 _))))
  show wpAny _ _ (field (.ref e) 2 >>= _) _ _ _
  refine wpAny_bind (wpAny_field he rfl (x := .ref it) rfl ?_)
  refine wpAny_bind (kT_ok.out hh hit hl hx fun h' x he' hx' => ?_)
  obtain ⟨o, ho, hc⟩ := hx'
  refine wpAny_bind (wpAny_isInstance (T := "StopIteration") (b := true) ⟨o, ho, hc⟩ isSubtype_stop ?_)
  exact wpAny_pure (hQ _ he')
end
/-- the tuple at a, each item in a new pair -/
def Itet (K : PySem.W.Frag) (a : Addr) : It :=
  ⟨fun i H => ∃ (xs : List V) (x : V), SqT K H a xs ∧ xs[i]? = some x, fun i H v H' => ∃ T x, v = .ref T ∧ H T = none ∧ H' = upd H T (.tup [.int (i : Nat), x]) ∧ ∀ xs, SqT K H a xs → xs[i]? = some x, fun i H => ∃ xs : List V, SqT K H a xs ∧ xs.length ≤ i⟩
theorem turn_ent {P : Program} {w : World} {K : PySem.W.Frag} {elts : List Expr} {kk : Nat} {tpos : Pos} (a e it : Addr) :
    Turn P w K (.Tuple elts kk tpos) (Itet K a) [e, it] e (fun i h => (∃ old, IsEnum h e it ((i : Nat) : Int) old) ∧ kT.St h it a i ∧ e ≠ it) where
  mem := by simp
  obj := fun i h st b hb => by
    obtain ⟨⟨old, he⟩, hit, _⟩ := st
    have e' : b = e ∨ b = it := by simpa using hb
    rcases e' with z | z
    · rw [z]; exact ⟨_, he, fun v q => nomatch q⟩
    · rw [z]; exact kT_ok.here hit
  keep := fun i h h' st k => let ⟨⟨old, he⟩, hi, hne⟩ := st; ⟨⟨old, k e (by simp) _ he⟩, kT_ok.stay hi fun o q => k it (by simp) o q, hne⟩
  item := by
    intro X hP hw hK hc i pins s σ H E I hf st hg
    subst hP hw hK
    obtain ⟨⟨old, he⟩, hit, hne⟩ := st
    obtain ⟨xs, x, hq, hx⟩ := hg
    obtain ⟨its, rv, p, hz⟩ := I.tuple hq
    obtain ⟨u, hu, ru⟩ := rv.get hx
    have hel : e < s.heap.objs.size := Heap.lt_size he
    have hil : it < s.heap.objs.size := by obtain ⟨_, q, _⟩ := kT_ok.here hit; exact Heap.lt_size q
    refine ent_nextI he hit p (x := u) (by simpa using hu) hne fun h' ho hit' hT hsz hk => ?_
    refine ⟨_, rfl, wpAny_letOwnedTupleGo_enum (s := { s with heap := h', toks := s.toks + 1 }) ho fun h'' he' sb => ?_⟩
    have hT2 : h''.get? s.heap.objs.size = some { cls := .type "tuple", data := .seq #[.int i s.toks, u] } := (sb.2 _ (Nat.ne_of_gt hel)).trans hT
    have new : ObjOk X.prog X.w (upd H s.heap.objs.size (.tup [.int (i : Nat), x])) h'' s.heap.objs.size (.tup [.int (i : Nat), x]) :=
      ⟨by show 2 ≤ sizeLine; decide, [.int i s.toks, u], .cons ⟨_, rfl⟩ (.cons ru .nil), ⟨_, hT2, rfl, _, rfl⟩⟩
    have I1 : Inv X pins σ (upd H s.heap.objs.size (.tup [.int (i : Nat), x])) { s with heap := h'', toks := s.toks + 1 } :=
      I.turnedNew (ch := [e, it]) (fun b ob hb q => (sb.2 b (fun z => hb (by simp [z]))).trans (hk b ob (fun z => hb (by simp [z])) (fun z => hb (by simp [z])) q)) hf (Nat.le_refl _) new
    have inj : ∀ ys, SqT X.K H a ys → ys[i]? = some x := fun ys hy => by
      obtain ⟨its2, rv2, p2, _⟩ := I.tuple hy
      have := I.tuple_inj hy hq
      rw [this]
      exact hx
    refine ⟨.ref s.heap.objs.size, _, I1, rfl, ⟨_, x, rfl, I.hok.fresh (Nat.le_refl _), rfl, inj⟩, ⟨⟨u, ?_⟩, kT_ok.stay hit' fun o q => (sb.2 it (Ne.symm hne)).trans q, hne⟩, fun b hb => ?_⟩
    · have e1 : ((i + 1 : Nat) : Int) = (i : Int) + 1 := by omega
      rw [e1]; exact he'
    · have hb' : b < s.heap.objs.size := by
        have e' : b = e ∨ b = it := by simpa using hb
        rcases e' with z | z
        · rw [z]; exact hel
        · rw [z]; exact hil
      rw [upd_ne (Nat.ne_of_lt hb')]
      exact (hf b hb).1
  done := by
    intro X hP hw hK hc i pins s σ H E I hf st hg
    subst hP hw hK
    obtain ⟨⟨old, he⟩, hit, hne⟩ := st
    obtain ⟨xs, hq, hx⟩ := hg
    obtain ⟨its, rv, p, hz⟩ := I.tuple hq
    obtain ⟨f0, f1, f2, f3, f4, f5⟩ := hf it (by simp)
    have hl := rv.length
    exact ent_nextE (I.ok.hd hc) he hit p (by simp; omega) fun h' eb => ⟨rfl, I.turned (t' := s.toks) (fun b o hb q => eb b o hb q) f0 f1 f3 f4 f5⟩
  self := fun A i s Q E st h => let ⟨⟨_, he⟩, _⟩ := st; wpAny_pyIter_enum he h
def iEnumT (K : PySem.W.Frag) (ta : TA) : TI := fun σ H R => ta σ H fun vs H1 => ∃ a xs, vs = [.ref a] ∧ SqT K H1 a xs ∧ R (Itet K a) H1
theorem pi_enumT {X : Cx} {K : PySem.W.Frag} (hK : X.K = K) {e : Expr} {ta : TA} {p pos tpos : Pos} {elts : List Expr} {kk : Nat} (hg : Gl X "enumerate") (hm : X.mg "enumerate" = none) (ha : PA X [e] ta) (hs : starEach [e] X.env = [(false, eval e X.env)] := by rfl) :
    PI X (.Tuple elts kk tpos) (.Call (.Name "enumerate" p) [e] [] pos) (iEnumT K ta) := by
  subst hK
  refine ⟨fun pins s σ H R I h => ?_⟩
  refine Call_ (ld_blt I hg hm boot_enumerate (PyProof.Rows.callWith_type1 (thn (ha.run pos pins s σ H _ I h) fun us s1 ⟨vs, H1, I1, r1, q1⟩ => ?_) hs rfl))
  obtain ⟨a, xs, ex, hq, q⟩ := q1
  subst ex
  cases r1 with
  | cons r rr =>
    cases rr
    cases r
    obtain ⟨its, rv, p', hz⟩ := I1.tuple hq
    refine call_en_tuple p' fun h' he hit hsz hk => wpAny_pyIter_enum he ?_
    have I2 : Inv X pins σ H1 { s1 with heap := h' } := I1.kept (t' := s1.toks) hk
    refine ⟨s1.heap.objs.size + 1, [s1.heap.objs.size + 1, s1.heap.objs.size], _, _, H1, rfl, I2, turn_ent a (s1.heap.objs.size + 1) s1.heap.objs.size, ⟨⟨.none, he⟩, hit, Nat.succ_ne_self _⟩, fun b hb => ?_, q⟩
    have e' : b = s1.heap.objs.size + 1 ∨ b = s1.heap.objs.size := by simpa using hb
    have hle : s1.heap.objs.size ≤ b := by
      rcases e' with z | z
      · rw [z]; exact Nat.le_add_right _ _
      · rw [z]; exact Nat.le_refl _
    exact I1.fpOk hle (I1.hok.fresh hle)
theorem walk_ent {K : PySem.W.Frag} {a : Addr} {xs : List V} : Walk (Itet K a) xs.length (fun H => SqT K H a xs) (YPair (fun i => some (.int (i : Nat))) (fun i => xs[i]?)) := by
  refine ⟨fun i _ hi q => ⟨xs, xs[i], q, by simp [hi]⟩, fun _ q => ⟨xs, q, Nat.le_refl _⟩, fun i H v H' _ q y => ?_⟩
  obtain ⟨T, x, h1, h2, h3, h4⟩ := y
  exact ⟨T, .int (i : Nat), x, h1, h2, h3, rfl, h4 xs q⟩
/-- [.. for i, x in enumerate(tuple)] -/
theorem el_lcET {K : PySem.W.Frag} {σ : L2.St} {H : Hp} {t : TT} {te : TE} {a : Addr} {xs : List V} {ta : TA} {i1 i2 : Nat} {vs : List Nat} (f : Nat → Bool) (v : Nat → V) (h : EvA ta σ H [.ref a]) (hx : SqT K H a xs) (hz : xs.length ≤ 40000) (hw : ∀ x y, wipe (((wipe σ vs).set i1 (some x)).set i2 (some y)) vs = wipe σ vs)
    (ht : ∀ (i : Nat) (x : V) H1, Ex H H1 → xs[i]? = some x → EvT t (((wipe σ vs).set i1 (some (.int (i : Nat)))).set i2 (some x)) H1 (f i)) (he : ∀ (i : Nat) (x : V) H1, Ex H H1 → xs[i]? = some x → f i = true → Ev te (((wipe σ vs).set i1 (some (.int (i : Nat)))).set i2 (some x)) H1 (v i)) :
    EvL (tLc (iEnumT K ta) (gTup K 2 (gCons (gName i1) (gCons (gName i2) gNil))) t te vs) σ H (given xs.length f v) := fun H0 e Q q => h H0 e _ fun H1 e1 => ⟨a, xs, rfl, ex_t (e.trans e1) hx, fun Dl hD =>
  lc_it walk_ent (Cw H1 f v Dl) ⟨hD, Ex.new hD, upd_same⟩ (fun i H' _ p => ex_t ((e.trans e1).trans p.2.1) hx) (fun i x H' H'' hi p y => by
    obtain ⟨T, u, u', rfl, nT, rfl, g1, g2⟩ := y
    cases g1
    obtain ⟨p1, p2, p3⟩ := p
    have p' : Cw H1 f v Dl i (upd H' T (.tup [.int (i : Nat), u'])) := ⟨p1, p2.trans (Ex.new nT), (Ex.new nT) _ _ p3⟩
    exact ⟨T, [.int (i : Nat), u'], rfl, st_of upd_same, rfl, .int (i : Nat), [u'], rfl, u', [], rfl, rfl, hw _ _, cw_turn p' (by omega) (ht i u' H1 (e.trans e1) g2) (fun hf => he i u' H1 (e.trans e1) g2 hf)⟩)
    (fun H' p => q Dl H' (fresh_back e1 p.1) (e1.trans p.2.1) p.2.2)⟩
end Own
/-! sorted(d) of a dict with integers for keys, of any number -/
namespace Own
open PySem PySem.Spec PyProof.Rows L2 Evl
section
variable {X : Cx}
def rSortedDn : List V → Hp → VK → Prop := fun xs H Q => ∃ (a : Addr) (kvs : List (Key × V)) (ks : List Int), xs = [.ref a] ∧ Rd H a (.dK kvs) ∧ kvs.map (·.1) = ks.map Sum.inl ∧ ks.length ≤ 100000 ∧
    ∀ (ys : List Int) (p : Addr), ys.Perm ks → ys.Pairwise (· ≤ ·) → H p = none → Q (.ref p) (upd H p (.lst (ys.map V.int)))
theorem call_sortedDn (hcalm : X.calm = true) : CallR X (.builtin "sorted") rSortedDn := by
  intro pins s σ H xs us Q I r q
  obtain ⟨a, kvs, ks, ex, hd, hks, h64, q⟩ := q
  subst ex
  obtain ⟨u, eu, rx⟩ := vals1 r
  subst eu
  cases rx
  obtain ⟨z, lo, vs, rel, dd⟩ := dk_rd I.hok hd
  obtain ⟨ep, hat⟩ := dd.dictAt
  have hkeys : vs.map (·.1) = ks.map Sum.inl := rel.keys.symm.trans hks
  have hl : vs.length = ks.length := by
    have e := congrArg List.length hkeys
    rw [List.length_map, List.length_map] at e
    exact e
  have h16 : vs.length ≤ sizeLine := by rw [hl]; exact sz_of h64
  refine Calls.call_function_entry PyProof.Rows.kind_sorted PyProof.Rows.plain_sorted PyProof.Rows.entry_sorted (PyProof.Rows.args_sorted1 _) ?_
  unfold Builtin.«sorted»
  refine wpAny_bind (m := checkCount "sorted" 1 1 _) (wpAny_pure ?_)
  refine wpAny_bind (PySem.W.kdu_collect (A := X.A.in1) (PySem.W.kdl_dict (knd := mixKind X.prog X.w) (kvs := vs) (ep := ep) lo) (I.ok.hd hcalm) hat h16 fun h' tk acc hk hacc => ?_)
  have hal : acc.toList.length = ks.length := by rw [Array.length_toList, hacc.1, hl]
  have hS : IntsAre acc.toList ks := ints_each hal fun j v e => by
    obtain ⟨k, x, e1, e2⟩ := hacc.2 j v (by rw [← Array.getElem?_toList]; exact e)
    have e3 : (vs.map (·.1))[j]? = some k := by rw [List.getElem?_map, e1]; rfl
    rw [hkeys, List.getElem?_map] at e3
    cases e4 : ks[j]? with
    | none => rw [e4] at e3; cases e3
    | some y =>
      rw [e4] at e3
      have e5 : Sum.inl y = k := Option.some.inj e3
      subst e5
      rcases keyIs_shape (show keyIs (Sum.inl y) v = true from e2) with ⟨i, t, ek, ev⟩ | ⟨z, t, ek, ev⟩
      · cases ek
        exact ⟨y, t, rfl, ev⟩
      · cases ek
  have I1 : Inv X pins σ H { s with heap := h', toks := tk } := I.kept hk
  refine wpAny_bind (wpAny_newList ?_ (by rw [hal]; exact sz_of h64))
  have hoL : (h'.push (seqObj "list" acc.toList.toArray 0)).get? h'.objs.size = some (seqObj "list" acc.toList.toArray 0) := Heap.get?_push_size _ rfl
  show wpAny _ _ _ _ _ { s with heap := h'.push (seqObj "list" acc.toList.toArray 0), toks := tk }
  refine wpAny_bind (wpAny_holding (wpAny_call_entry PyProof.Rows.slot_list_sort ⟨_, hoL, rfl⟩ PyProof.Rows.entry_list_sort
    (SrtO.list_sort_ord (s := { s with heap := h'.push (seqObj "list" acc.toList.toArray 0), toks := tk }) SrtO.swo_int hoL (by rw [hal]; exact sz_of h64) (fun h2 => SrtO.ints_sortable hS h2) fun out h1 h2 => ⟨_, rfl, ?_⟩) (PyProof.Rows.args_list_sort _)))
  obtain ⟨k1, k2, k3⟩ := SrtO.ints_out hS h1 h2
  obtain ⟨e', he'⟩ := PyProof.Rows.sortedHeap_at (vs := acc.toList) (out := out.toArray) hoL
  have hlen : ((out.map SrtO.iv).map V.int).length ≤ sizeLine := by
    rw [List.length_map, k2.length_eq]
    exact sz_of h64
  refine wpAny_pure ⟨_, rfl, .ref h'.objs.size, upd H h'.objs.size (.lst ((out.map SrtO.iv).map V.int)), I1.laid (t' := tk) (fun b u e => ?_) (Nat.le_refl _)
    (show ObjOk X.prog X.w _ _ _ (.lst ((out.map SrtO.iv).map V.int)) from ⟨hlen, out, e', vals_of_ints k1, he'⟩), rfl, q _ _ k2 k3 (I1.hok.fresh (Nat.le_refl _))⟩
  have hb : b < h'.objs.size := Heap.lt_size e
  rw [PyProof.Rows.sortedHeap_old (Nat.ne_of_lt hb) (by rw [size_push']; exact Nat.lt_succ_of_lt hb)]
  exact Heap.get?_push_of_some _ e
end
end Own
/-! own rules: a comprehension over zip of two tuples -/
namespace Own
open PySem PySem.Spec PyProof.Rows L2 Evl
section
variable {K : PySem.W.Frag} {σ : L2.St} {H H' : Hp} {ta tb te : TE} {t : TT}
theorem walk_zt {a b : Addr} {xs ys : List V} {n : Nat} (hn : n = min xs.length ys.length) : Walk (RZ.ItzT K a b) n (fun H => SqT K H a xs ∧ SqT K H b ys) (YPair (fun i => xs[i]?) (fun i => ys[i]?)) := by
  subst hn
  refine ⟨fun i _ hi q => ?_, fun _ q => ⟨xs, ys, q.1, q.2, by omega⟩, fun i H v H' _ q ⟨T, x, y, h1, h2, h3, h4, h5⟩ => ⟨T, x, y, h1, h2, h3, h4 xs q.1, h5 ys q.2⟩⟩
  have h1 : i < xs.length := by omega
  have h2 : i < ys.length := by omega
  exact ⟨xs, ys, xs[i], ys[i], q.1, q.2, by simp [h1], by simp [h2]⟩
/-- a comprehension over zip(tuple, tuple), its two names in the slots i1, i2 -/
theorem el_lcZT {a b : Addr} {xs ys : List V} {tl : TA} {i1 i2 : Nat} {vs : List Nat} (f : Nat → Bool) (v : Nat → V) (h : ∀ H1, Ex H H1 → ∀ Q : List V → Hp → Prop, (∀ b H2, Ex H1 H2 → SqT K H2 b ys → Q [.ref a, .ref b] H2) → tl σ H1 Q) (hx : SqT K H a xs) (hz : xs.length ≤ 40000) (hw : ∀ x y, wipe (((wipe σ vs).set i1 (some x)).set i2 (some y)) vs = wipe σ vs)
    (ht : ∀ (i : Nat) (x y : V) H1, Ex H H1 → xs[i]? = some x → ys[i]? = some y → EvT t (((wipe σ vs).set i1 (some x)).set i2 (some y)) H1 (f i)) (he : ∀ (i : Nat) (x y : V) H1, Ex H H1 → xs[i]? = some x → ys[i]? = some y → f i = true → Ev te (((wipe σ vs).set i1 (some x)).set i2 (some y)) H1 (v i)) :
    EvL (tLc (RZ.iZipA K tl) (gTup K 2 (gCons (gName i1) (gCons (gName i2) gNil))) t te vs) σ H (given (min xs.length ys.length) f v) := fun H0 e Q q => h H0 e _ fun b H1 e1 hy => ⟨a, b, xs, ys, rfl, .inr ⟨ex_t (e.trans e1) hx, hy, fun Dl hD =>
  lc_it (walk_zt (xs := xs) (ys := ys) rfl) (Cw H1 f v Dl) ⟨hD, Ex.new hD, upd_same⟩ (fun i H' _ p => ⟨ex_t ((e.trans e1).trans p.2.1) hx, ex_t p.2.1 hy⟩) (fun i x H' H'' hi p y => by
    obtain ⟨T, u, u', rfl, nT, rfl, g1, g2⟩ := y
    obtain ⟨p1, p2, p3⟩ := p
    have p' : Cw H1 f v Dl i (upd H' T (.tup [u, u'])) := ⟨p1, p2.trans (Ex.new nT), (Ex.new nT) _ _ p3⟩
    exact ⟨T, [u, u'], rfl, st_of upd_same, rfl, u, [u'], rfl, u', [], rfl, rfl, hw _ _, cw_turn p' (by omega) (ht i u u' H1 (e.trans e1) g1 g2) (fun hf => he i u u' H1 (e.trans e1) g1 g2 hf)⟩)
    (fun H' p => q Dl H' (fresh_back e1 p.1) (e1.trans p.2.1) p.2.2)⟩⟩
end
end Own
/-! t.count(k) of a tuple of integers -/
namespace Own
open PySem PySem.Spec PyProof.Rows L2 Evl
section
variable {X : Cx}
def rCntTI (K : PySem.W.Frag) : V → List V → Hp → VK → Prop := fun x xs H Q => ∃ (p : Addr) (ns : List Int) (k : Int), x = .ref p ∧ xs = [.int k] ∧ SqT K H p (ns.map V.int) ∧ Q (.int (ns.count k : Nat)) H
theorem mt_tcount : MtR X "tuple.count" (rCntTI X.K) := by
  intro pins s σ H x xs v us Q I rx rxs h
  obtain ⟨p, ns, k, rfl, rfl, hs, q⟩ := h
  cases rx
  obtain ⟨u, rfl, ru⟩ := rxs.one
  obtain ⟨t, rfl⟩ := ru
  obtain ⟨its, rv, ⟨⟨cls, dd, data, sl⟩, ho, hc, n, hd⟩, hlen⟩ := I.tuple hs
  simp only at hc hd
  subst hc hd
  have hi := ints_of_vals rv
  refine call_meets PySem.F.slot_tuple_count ⟨_, ho, rfl⟩ PySem.F.entry_tuple_count (PySem.F.args_tuple_count_2 _ _)
    (SeqAt.tuple_countAt p its.toArray n dd sl (.int k t) (eqk k)) ⟨ho, fun y hy => (eqk_gives hi y (by simpa using hy)).at _ _, ?_⟩
  have ec : its.toArray.toList.countP (eqk k) = ns.count k := eqk_count hi
  refine ⟨.int (ns.count k : Nat), H, I.tok _, ⟨s.toks, ?_⟩, q⟩
  show Value.int ((its.toArray.toList.countP (eqk k) : Nat) : Int) s.toks = Value.int ((ns.count k : Nat) : Int) s.toks
  rw [ec]
end
section
variable {K : PySem.W.Frag} {σ : L2.St} {H : Hp} {ta tb : TE}
end
end Own
/-! own rules: expressions that are tuples, new or not; comprehensions with two fors -/
namespace Own
open PySem PySem.Spec PyProof.Rows L2 Evl
theorem pi_tupK {X : Cx} {K : PySem.W.Frag} {l tg : Expr} {tl : TE} (hK : X.K = K) (hl : PE X l tl) : PI X tg l (iTup K tl) := hK ▸ pi_tup hl
def RetTt (K : PySem.W.Frag) (xs : List V) (H : Hp) (Q : VK) : Prop := ∀ (p : Addr) H', Ex H H' → SqT K H' p xs → Q (.ref p) H'
theorem RetTt.go {K : PySem.W.Frag} {xs : List V} {H H1 : Hp} {Q : VK} (h : RetTt K xs H Q) (e : Ex H H1) : RetTt K xs H1 Q := fun p H2 e2 h2 => h p H2 (e.trans e2) h2
/-- a tuple, new or not -/
def EvTt (K : PySem.W.Frag) (te : TE) (σ : L2.St) (H : Hp) (xs : List V) : Prop := ∀ H1, Ex H H1 → ∀ Q : VK, RetTt K xs H1 Q → te σ H1 Q
section
variable {K : PySem.W.Frag} {σ : L2.St} {H H' : Hp} {t : TT} {te ta tb tc tl : TE} {x y v : V} {xs ys zs : List V} {D : Ends} {tu tz : TS} {P : Nat → Addr → Hp → Prop} {g : TG} {tA : TA}
theorem tt_var {a : Addr} (h : Ev te σ H (.ref a)) (hx : SqT K H a xs) : EvTt K te σ H xs := fun H1 e Q q => h H1 e _ fun H2 e2 => q a H2 e2 (ex_t (e.trans e2) hx)
theorem tt_new (h : EvU te σ H xs) : EvTt K te σ H xs := fun H1 e Q q => h H1 e _ fun p H2 np e2 h2 => q p H2 e2 (st_of h2)
theorem tt_is (h : EvTt K te σ H xs) (e : xs = ys) : EvTt K te σ H ys := e ▸ h
theorem cutV_whole {lo hi : Option Int} (h : HT.sIx xs.length 0 lo = 0 ∧ HT.sIx xs.length xs.length hi = xs.length) : cutV xs lo hi = xs := by
  unfold cutV
  rw [h.1, h.2, List.drop_zero, Nat.sub_zero, List.take_length]
theorem tt_sl {tl th : TO} {a : Addr} {lo hi : Option Int} (h : Ev te σ H (.ref a)) (hx : SqT K H a xs) (h1 : EvO tl σ H lo) (h2 : EvO th σ H hi) : EvTt K (tSl (rSlA K) te tl th) σ H (cutV xs lo hi) := fun H1 e Q q =>
  h H1 e _ fun H2 e2 => h1 H2 (e.trans e2) _ fun H3 e3 => h2 H3 ((e.trans e2).trans e3) _ fun H4 e4 =>
    ⟨a, xs, rfl, ex_t (((e.trans e2).trans e3).trans e4) hx, fun w => q a H4 ((e2.trans e3).trans e4) (by rw [cutV_whole w]; exact ex_t (((e.trans e2).trans e3).trans e4) hx), fun _ p np => q p _ (((e2.trans e3).trans e4).trans (Ex.new np)) (st_of upd_same)⟩
theorem el_listTt (h : EvTt K te σ H xs) : EvL (tCB (rLstQ K) (tCons te tNil)) σ H xs := fun H1 e Q q =>
  h H1 e _ fun p H2 e2 h2 => ⟨p, xs, rfl, .inr h2, fun l hl => q l _ (fresh_back e2 hl) (e2.trans (Ex.new hl)) upd_same⟩
theorem tt_cat (h : EvTt K ta σ H xs) (h2 : EvTt K tb σ H ys) (hl : xs.length + ys.length ≤ 100000) : EvTt K (tOp (rCatA K) ta tb) σ H (xs ++ ys) := fun H1 e Q q =>
  h H1 e _ fun p H2 e2 s2 => h2 H2 (e.trans e2) _ fun r H3 e3 s3 => catA_go (ex_t e3 s2) s3 hl fun a H4 e4 s4 => q a H4 ((e2.trans e3).trans e4) s4
theorem tt_call {sp : Sp} {vs : List V} {E : XK} (h : EvA tA σ H vs) (hs : ∀ H1, Ex H H1 → ∀ Q : VK, RetTt K xs H1 Q → ∀ E, sp vs H1 Q E) : EvTt K (tCall sp [] E tA) σ H xs := fun H1 e Q q =>
  h H1 e _ fun H2 e2 => by
    rw [List.append_nil]
    exact hs H2 (e.trans e2) Q (q.go e2) _
/-- f(x, y, tuple) -/
theorem tt_call2T {sp : Sp} {E : XK} (h1 : Ev ta σ H x) (h2 : Ev tb σ H y) (h : EvTt K te σ H zs) (hs : ∀ p H1, Ex H H1 → SqT K H1 p zs → ∀ Q : VK, RetTt K xs H1 Q → ∀ E, sp [x, y, .ref p] H1 Q E) : EvTt K (tCall sp [] E (tCons ta (tCons tb (tCons te tNil)))) σ H xs := fun H1 e Q q =>
  h1 H1 e _ fun H2 e2 => h2 H2 (e.trans e2) _ fun H3 e3 => h H3 ((e.trans e2).trans e3) _ fun p H4 e4 hp => hs p H4 (((e.trans e2).trans e3).trans e4) hp Q (q.go ((e2.trans e3).trans e4)) _
/-- f(tuple, y) -/
theorem tt_callT {sp : Sp} {E : XK} (h : EvTt K te σ H zs) (h2 : ∀ H1, Ex H H1 → Ev tb σ H1 y) (hs : ∀ p H1, Ex H H1 → SqT K H1 p zs → ∀ Q : VK, RetTt K xs H1 Q → ∀ E, sp [.ref p, y] H1 Q E) : EvTt K (tCall sp [] E (tCons te (tCons tb tNil))) σ H xs := fun H1 e Q q =>
  h H1 e _ fun p H2 e2 hp => h2 H2 (e.trans e2) H2 (Ex.refl H2) _ fun H3 e3 => hs p H3 ((e.trans e2).trans e3) (ex_t e3 hp) Q (q.go (e2.trans e3)) _
/-- f(new list) -/
theorem tt_call1L {sp : Sp} {E : XK} (h : EvL te σ H zs) (hs : ∀ p H1, Ex H H1 → H1 p = some (.lst zs) → ∀ Q : VK, RetTt K xs H1 Q → ∀ E, sp [.ref p] H1 Q E) : EvTt K (tCall sp [] E (tCons te tNil)) σ H xs := fun H1 e Q q =>
  h H1 e _ fun p H2 np e2 hp => hs p H2 (e.trans e2) hp Q (q.go e2) _
theorem s_retT (h : EvTt K te σ H xs) (k : RetTt K xs H fun v H => D.rt v H) : tRet te D σ H := h H (Ex.refl H) _ fun p H1 e1 h1 => k p H1 e1 h1
theorem s_asgT {i : Nat} (h : EvTt K te σ H xs) (k : ∀ p H1, Ex H H1 → SqT K H1 p xs → D.nx (σ.set i (some (.ref p))) H1) : tAsg te (gName i) D σ H := h H (Ex.refl H) _ fun p H1 e1 h1 => k p H1 e1 h1
theorem q_asgT {i : Nat} (h : EvTt K te σ H xs) (k : ∀ p H1, Ex H H1 → SqT K H1 p xs → tz D (σ.set i (some (.ref p))) H1) : tSeq (tAsg te (gName i)) tz D σ H := h H (Ex.refl H) _ fun p H1 e1 h1 => k p H1 e1 h1
end
theorem take_snocT {α : Type} {xs : List α} {i : Nat} {x : α} (h : xs[i]? = some x) : xs.take (i + 1) = xs.take i ++ [x] := by
  rw [List.take_add_one, h]
  rfl
theorem ite_tt {A B : Prop} (h : A) : (if true = true then A else B) := by rw [if_pos rfl]; exact h
/-- a walk, whatever is done at each turn -/
theorem wit {J : It} {n : Nat} {G : Hp → Prop} {Y : Nat → Hp → V → Hp → Prop} (w : Walk J n G Y) {B : V → Hp → (Hp → Prop) → Prop} {H0 : Hp} {Qd : Hp → Prop} (Pv : Nat → Hp → Prop) (h0 : Pv 0 H0) (hG : ∀ i H, i ≤ n → Pv i H → G H) (hs : ∀ i x H H', i < n → Pv i H → Y i H x H' → B x H' (Pv (i + 1))) (hd : ∀ H, Pv n H → Qd H) :
    ∃ W : Nat → Nat → Hp → Prop, (∃ m, W 0 m H0) ∧ ∀ i m H, W i m H → (J.stop i H ∧ Qd H) ∨ (J.go i H ∧ ∃ Nx : Hp → Prop, (∀ H', Nx H' → ∃ m', m' < m ∧ W (i + 1) m' H') ∧ ∀ x H', J.yld i H x H' → B x H' Nx) := by
  refine ⟨fun i m H => m = n - i ∧ i ≤ n ∧ Pv i H, ⟨n, by simp, Nat.zero_le _, h0⟩, ?_⟩
  rintro i m H ⟨rfl, hi, p⟩
  have q := hG i H hi p
  by_cases hlt : i < n
  · exact .inr ⟨w.goes i H hlt q, Pv (i + 1), fun H' p' => ⟨n - (i + 1), by omega, rfl, hlt, p'⟩, fun x H' y => hs i x H H' hlt p (w.yields i H x H' hlt q y)⟩
  · have e : i = n := by omega
    subst e
    exact .inl ⟨w.stops H q, hd H p⟩
end Own
/-! own rules: new tuples whose object is known to have no dict of its own (they are locked from the start), and t.count(k) of such a one -/
namespace Own
open PySem PySem.Spec PyProof.Rows L2 Evl
def TfAt (H : Hp) (p : Addr) (xs : List V) : Prop := ∃ o : Obj, o.dict = none ∧ H p = some (.frz o (.tup xs))
theorem TfAt.ex {H H' : Hp} {p : Addr} {xs : List V} (h : TfAt H p xs) (e : Ex H H') : TfAt H' p xs := ⟨h.choose, h.choose_spec.1, e _ _ h.choose_spec.2⟩
theorem TfAt.sq {K : PySem.W.Frag} {H : Hp} {p : Addr} {xs : List V} (h : TfAt H p xs) : SqT K H p xs := .inl (.inr ⟨h.choose, h.choose_spec.2⟩)
def tTupF (t : TA) : TE := fun σ H Q => t σ H fun xs H1 => xs.length ≤ sizeLine ∧ ∀ p o, H1 p = none → o.dict = none → Q (.ref p) (upd H1 p (.frz o (.tup xs)))
def rTupF (K : PySem.W.Frag) : List V → Hp → VK → Prop := fun xs H Q => ∃ p ys, xs = [.ref p] ∧ SqL K H p ys ∧ ∀ l o, H l = none → o.dict = none → Q (.ref l) (upd H l (.frz o (.tup ys)))
def rCatF (K : PySem.W.Frag) : R2 := fun x y H Q => ∃ a b xs ys, x = .ref a ∧ y = .ref b ∧ SqT K H a xs ∧ SqT K H b ys ∧ xs ≠ [] ∧ ys ≠ [] ∧ xs.length + ys.length ≤ sizeLine ∧ ∀ p o, H p = none → o.dict = none → Q (.ref p) (upd H p (.frz o (.tup (xs ++ ys))))
def rCntF : V → List V → Hp → VK → Prop := fun x xs H Q => ∃ (p : Addr) (ns : List Int) (k : Int), x = .ref p ∧ xs = [.int k] ∧ TfAt H p (ns.map V.int) ∧ Q (.int (ns.count k : Nat)) H
def tBMF (r : V → List V → Hp → VK → Prop) (to : TE) (t : TA) : TE := fun σ H Q => to σ H fun x H1 => (∃ p xs, x = .ref p ∧ TfAt H1 p xs) ∧ t σ H1 fun xs H2 => r x xs H2 Q
section
variable {X : Cx}
theorem pe_tupF {es : List Expr} {t : TA} {x1} {pos : Pos} (h : PA X es t) : PE X (.Tuple es x1 pos) (tTupF t) := by
  refine ⟨fun pins s σ H Q I hq => ?_⟩
  refine wpAny_Tuple_spliced (thn (h.run pos pins s σ H _ I hq) fun us s1 ⟨xs, H1, I1, r, z, q⟩ => ⟨by rw [← r.length]; exact z, ?_⟩)
  have hf : H1 s1.heap.objs.size = none := I1.hok.fresh (Nat.le_refl _)
  have hg := Heap.get?_push_size s1.heap (o := { cls := .type "tuple", data := .seq us.toArray }) rfl
  refine ⟨.ref s1.heap.objs.size, upd H1 s1.heap.objs.size (.frz { cls := .type "tuple", data := .seq us.toArray } (.tup xs)), I1.laid (t' := s1.toks) (fun b u e => Heap.get?_push_of_some _ e) (Nat.le_refl _) ?_, rfl, q _ _ hf rfl⟩
  exact ⟨hg, z, us, r, ⟨_, hg, rfl, _, rfl⟩⟩
theorem call_tuple_ofF : CallR X (.type "tuple") (rTupF X.K) := by
  intro pins s σ H xs us Q I r h
  obtain ⟨p, ys, rfl, hq, q⟩ := h
  obtain ⟨u, rfl, rx⟩ := vals1 r
  cases rx
  obtain ⟨its, r', pl, hz⟩ := I.list hq
  have hlen := r'.length
  refine call_tuple_list pl.isList (fun h' kp => ?_) (by simp only [List.size_toArray] <;> omega)
  have I1 : Inv X pins σ H { s with heap := h' } := I.kept (t' := s.toks) kp
  have hg := Heap.get?_push_size h' (o := { cls := .type "tuple", data := .seq its.toArray }) rfl
  have I2 : Inv X pins σ (upd H h'.objs.size (.frz { cls := .type "tuple", data := .seq its.toArray } (.tup ys))) { s with heap := h'.push { cls := .type "tuple", data := .seq its.toArray } } :=
    I1.laid (t' := s.toks) (fun b o e => Heap.get?_push_of_some _ e) (Nat.le_refl _) ⟨hg, hz, its, r', ⟨_, hg, rfl, _, rfl⟩⟩
  exact ⟨.ref h'.objs.size, _, I2, rfl, q _ _ (I1.hok.fresh (Nat.le_refl _)) rfl⟩
theorem op_catF : OpR X (binaryOp .Add) (rCatF X.K) := by
  intro pins s σ H x y v u Q I rx ry h
  obtain ⟨a, b, xs, ys, rfl, rfl, ha, hb, hx, hy, hz, q⟩ := h
  cases rx
  cases ry
  obtain ⟨its, r1, p1, _⟩ := I.tuple ha
  obtain ⟨its2, r2, p2, _⟩ := I.tuple hb
  refine HT.cat_tup p1 p2 (fun z => hx (r1.nil_iff.mp z)) (fun z => absurd (r2.nil_iff.mp z) hy) (fun z => ?_) (by rw [← r1.length, ← r2.length]; exact hz)
  have hg := Heap.get?_push_size s.heap (o := { cls := .type "tuple", data := .seq (its ++ its2).toArray }) rfl
  refine ⟨.ref s.heap.objs.size, _, I.laid (t' := s.toks) (o := .frz { cls := .type "tuple", data := .seq (its ++ its2).toArray } (.tup (xs ++ ys))) (fun b ob q => Heap.get?_push_of_some _ q) (Nat.le_refl _) ?_, rfl, q _ _ (I.hok.fresh (Nat.le_refl _)) rfl⟩
  exact ⟨hg, by rw [List.length_append]; exact hz, _, r1.append r2, ⟨_, hg, rfl, _, rfl⟩⟩
theorem op_catFK {K : PySem.W.Frag} (hK : X.K = K) : OpR X (binaryOp .Add) (rCatF K) := hK ▸ op_catF
/-- a + b: one of the two themselves where the other is empty -/
def rCatG (K : PySem.W.Frag) : R2 := fun x y H Q => ∃ a b xs ys, x = .ref a ∧ y = .ref b ∧ SqT K H a xs ∧ SqT K H b ys ∧ xs.length + ys.length ≤ sizeLine ∧
  (xs = [] → Q (.ref b) H) ∧ (xs ≠ [] → ys = [] → Q (.ref a) H) ∧ (xs ≠ [] → ys ≠ [] → ∀ p o, H p = none → o.dict = none → Q (.ref p) (upd H p (.frz o (.tup (xs ++ ys)))))
theorem op_catG : OpR X (binaryOp .Add) (rCatG X.K) := by
  intro pins s σ H x y v u Q I rx ry h
  obtain ⟨a, b, xs, ys, rfl, rfl, ha, hb, hz, q0, q1, q2⟩ := h
  by_cases hx : xs = []
  · subst hx
    cases rx
    cases ry
    obtain ⟨its, r1, p1, _⟩ := I.tuple ha
    obtain ⟨its2, r2, p2, _⟩ := I.tuple hb
    cases r1
    exact cat_tup0 p1 p2 ⟨.ref b, H, I, rfl, q0 rfl⟩
  · by_cases hy : ys = []
    · exact op_catT pins s σ H _ _ v u Q I rx ry ⟨a, b, xs, ys, rfl, rfl, ha, hb, hx, hz, q1 hx, fun n => absurd hy n⟩
    · exact op_catF pins s σ H _ _ v u Q I rx ry ⟨a, b, xs, ys, rfl, rfl, ha, hb, hx, hy, hz, q2 hx hy⟩
theorem op_catGK {K : PySem.W.Frag} (hK : X.K = K) : OpR X (binaryOp .Add) (rCatG K) := hK ▸ op_catG
theorem call_tuple_ofFK {K : PySem.W.Frag} (hK : X.K = K) : CallR X (.type "tuple") (rTupF K) := hK ▸ call_tuple_ofF
theorem mt_tcountF : MtR X "tuple.count" rCntF := by
  intro pins s σ H x xs v us Q I rx rxs h
  obtain ⟨p, ns, k, e1, e2, hs, q⟩ := h
  exact mt_tcount pins s σ H x xs v us Q I rx rxs ⟨p, ns, k, e1, e2, hs.sq, q⟩
theorem pe_bmF {o e : Expr} {es : List Expr} {to : TE} {t : TA} {name : Str} {apos cpos : Pos} {id : String} {r : V → List V → Hp → VK → Prop} (pa : PlainAttrs "tuple") (slot : Slot "tuple" name id) (hty : typeOf (.builtin id) = pure (.type "method_descriptor")) (hm : MtR X id r) (ho : PE X o to) (ha : PA X (e :: es) t)
    (hbase : attributeBase o name X.env (eval o X.env) = eval o X.env := by rfl)
    (hfew : ((backTo cpos (starEach (e :: es) X.env)).all (fun x => !x.1) && (backToKw cpos (keywordEach [] X.env)).all (fun x => x.1.isSome)
      && decide ((e :: es).length + ([] : List Keyword).length + (if ([] : List Keyword).isEmpty then 0 else 1) < 30)) = true := by rfl)
    (hline : (apos.endLine == cpos.line) = true := by rfl) (hs : starEach (e :: es) X.env = (false, eval e X.env) :: starEach es X.env := by rfl) (hplain : (backTo cpos (starEach es X.env)).any (·.1) = false := by rfl) :
    PE X (.Call (.Attribute o name apos) (e :: es) [] cpos) (tBMF r to t) := by
  refine ⟨fun pins s σ H Q I h => ?_⟩
  refine wpAny_Call_method_late hbase hfew hline rfl (thn (ho.run pins s σ H _ I h) fun v s1 ⟨x, H1, I1, r1, ty, q1⟩ => ?_)
  obtain ⟨p, xs, rfl, ob, hd, hp⟩ := ty
  cases r1
  obtain ⟨hg, hz, its, rr, ⟨ob2, hg2, hc, _⟩⟩ := I1.hok p _ hp
  rw [hg] at hg2
  cases hg2
  refine ⟨"tuple", id, pa, slot, hty, ⟨ob, hg, hc⟩, fun a e => by cases e; exact ⟨ob, hg, hd⟩, ?_⟩
  have hA := ha.run cpos pins s1 σ H1 _ I1 q1
  rw [hs] at hA ⊢
  refine Calls.callWith_builtin (by show (false || (backTo cpos (starEach es X.env)).any (·.1)) = false; rw [hplain] <;> rfl) (Calls.evalArgs_plain ?_)
  exact thn hA fun us s2 ⟨vs, H2, I2, r2, q2⟩ => hm pins s2 σ H2 (V.ref p) vs (.ref p) us Q I2 rfl r2 q2
end
def RetTf (xs : List V) (H : Hp) (Q : VK) : Prop := ∀ (p : Addr) H', Ex H H' → TfAt H' p xs → Q (.ref p) H'
theorem RetTf.go {xs : List V} {H H1 : Hp} {Q : VK} (h : RetTf xs H Q) (e : Ex H H1) : RetTf xs H1 Q := fun p H2 e2 h2 => h p H2 (e.trans e2) h2
def EvTf (te : TE) (σ : L2.St) (H : Hp) (xs : List V) : Prop := ∀ H1, Ex H H1 → ∀ Q : VK, RetTf xs H1 Q → te σ H1 Q
section
variable {K : PySem.W.Frag} {σ : L2.St} {H H' : Hp} {t : TT} {te ta tb tc tl : TE} {x y v : V} {xs ys zs : List V} {D : Ends} {tu tz : TS} {tA : TA}
theorem tf_tt (h : EvTf te σ H xs) : EvTt K te σ H xs := fun H1 e Q q => h H1 e Q fun p H2 e2 h2 => q p H2 e2 h2.sq
theorem tf_is (h : EvTf te σ H xs) (e : xs = ys) : EvTf te σ H ys := e ▸ h
theorem tf_new {H : Hp} {p : Addr} {o : Obj} {xs : List V} (hd : o.dict = none) : TfAt (upd H p (.frz o (.tup xs))) p xs := ⟨o, hd, upd_same⟩
theorem tf_tup {vs : List V} (h : EvA tA σ H vs) (hl : vs.length ≤ 100000) : EvTf (tTupF tA) σ H vs := fun H1 e Q q => h H1 e _ fun H2 e2 => ⟨sz_of hl, fun p o np hd => q p _ (e2.trans (Ex.new np)) (tf_new hd)⟩
theorem tf_tupleL {a : Addr} (h : Ev ta σ H (.ref a)) (hx : SqL K H a xs) : EvTf (tCB (rTupF K) (tCons ta tNil)) σ H xs := fun H1 e Q q =>
  h H1 e _ fun H2 e2 => ⟨a, xs, rfl, ex_l (e.trans e2) hx, fun l o nl hd => q l _ (e2.trans (Ex.new nl)) (tf_new hd)⟩
theorem tf_cat (h : EvTt K ta σ H xs) (h2 : EvTf tb σ H ys) (hy : ys ≠ []) (hl : xs.length + ys.length ≤ 100000) : EvTf (tOp (rCatG K) ta tb) σ H (xs ++ ys) := fun H1 e Q q =>
  h H1 e _ fun p H2 e2 s2 => h2 H2 (e.trans e2) _ fun r H3 e3 s3 => ⟨p, r, xs, ys, rfl, rfl, ex_t e3 s2, s3.sq, sz_of hl, fun z => q r H3 (e2.trans e3) (by rw [z]; exact s3), fun _ z => absurd z hy, fun _ _ l o nl hd => q l _ ((e2.trans e3).trans (Ex.new nl)) (tf_new hd)⟩
theorem tf_cat2 (h : EvTt K ta σ H xs) (h2 : EvTt K tb σ H ys) (hx : xs ≠ []) (hy : ys ≠ []) (hl : xs.length + ys.length ≤ 100000) : EvTf (tOp (rCatG K) ta tb) σ H (xs ++ ys) := fun H1 e Q q =>
  h H1 e _ fun p H2 e2 s2 => h2 H2 (e.trans e2) _ fun r H3 e3 s3 => ⟨p, r, xs, ys, rfl, rfl, ex_t e3 s2, s3, sz_of hl, fun z => absurd z hx, fun _ z => absurd z hy, fun _ _ l o nl hd => q l _ ((e2.trans e3).trans (Ex.new nl)) (tf_new hd)⟩
theorem ev_tcount {a : Addr} {ns : List Int} {k : Int} (h : Ev ta σ H (.ref a)) (hx : TfAt H a (ns.map V.int)) (hb : Ev tb σ H (.int k)) : Ev (tBMF rCntF ta (tCons tb tNil)) σ H (.int (ns.count k : Nat)) := fun H1 e Q q =>
  h H1 e _ fun H2 e2 => ⟨⟨a, _, rfl, hx.ex (e.trans e2)⟩, hb H2 (e.trans e2) _ fun H3 e3 => ⟨a, ns, k, rfl, rfl, hx.ex ((e.trans e2).trans e3), q H3 (e2.trans e3)⟩⟩
theorem tf_call {sp : Sp} {vs : List V} {E : XK} (h : EvA tA σ H vs) (hs : ∀ H1, Ex H H1 → ∀ Q : VK, RetTf xs H1 Q → ∀ E, sp vs H1 Q E) : EvTf (tCall sp [] E tA) σ H xs := fun H1 e Q q =>
  h H1 e _ fun H2 e2 => by
    rw [List.append_nil]
    exact hs H2 (e.trans e2) Q (q.go e2) _
theorem s_retF (h : EvTf te σ H xs) (k : RetTf xs H fun v H => D.rt v H) : tRet te D σ H := h H (Ex.refl H) _ fun p H1 e1 h1 => k p H1 e1 h1
theorem s_asgF {i : Nat} (h : EvTf te σ H xs) (k : ∀ p H1, Ex H H1 → TfAt H1 p xs → D.nx (σ.set i (some (.ref p))) H1) : tAsg te (gName i) D σ H := h H (Ex.refl H) _ fun p H1 e1 h1 => k p H1 e1 h1
theorem q_asgF {i : Nat} (h : EvTf te σ H xs) (k : ∀ p H1, Ex H H1 → TfAt H1 p xs → tz D (σ.set i (some (.ref p))) H1) : tSeq (tAsg te (gName i)) tz D σ H := h H (Ex.refl H) _ fun p H1 e1 h1 => k p H1 e1 h1
end
end Own
/-! promises of defs told where no repr is under way: a law's own call, and what it calls -/
namespace Gd
open PySem PySem.Spec PyProof.Rows L2 LamX
/-- a def's promise where no repr is under way -/
structure FnG (P : Program) (w : World) (K : PySem.W.Frag) (mg : Str → Option Value) (base : Heap) (CX : CXT) (k : Nat) (f : Addr) (fd : FuncData) (ps : List Str) (sp : Sp) : Prop where
  size : ∀ vs H Q E, sp vs H Q E → vs.length = ps.length
  go : ∀ (A : Around), A.guards = some [] → ∀ (outer : List Env) (s : Shared) (H : Hp) (args : Args) (us : List Value) (vs : List V) (Q : VK) (E : XK), Room k A → Env0 P w K mg base A outer s H → BindsTo s fd args (ps.zip us) → Vals vs us → sp vs H Q E →
    codeAny (model P w) A (.call (.ref f) args) (CR CX outer P w H s Q E) s
section
variable {P : Program} {w : World} {K : PySem.W.Frag} {mg : Str → Option Value} {base : Heap} {CX : CXT} {k : Nat} {f : Addr} {fd : FuncData} {ps : List Str} {sp : Sp}
/-- a def that makes lambdas, by its body -/
theorem lamG {n : Str} {st : Stmt} {cd : Addr} {N : List Str} (L : Hx.LamOk K n st f cd fd) (S : FnScope N ps (defScope st)) (len : ∀ vs H Q E, sp vs H Q E → vs.length = ps.length)
    (hbody : ∀ (A : Around), A.guards = some [] → ∀ (outer : List Env) (s : Shared) (H : Hp) (vs : List V) (Q : VK) (E : XK), Room k (A.deeper (envOfC n (defScope st) s.heap.objs.size f (.ref cd))) → sp vs H Q E →
      ∃ t, PSs (cxOf CX0 P w K mg base N n (defScope st) f (.ref cd) A outer s H E).nox (defBody st) t ∧ t { nx := fun _ H' => Q .non H', rt := Q } (start N vs) H) : FnG P w K mg base CX0 (k + 1) f fd ps sp := by
  obtain ⟨oc, od, kV, doc, pm, an, ct, osl, rfl, lk, hcd⟩ := L
  refine ⟨len, fun A hA outer s H args us vs Q E hr e0 hb r h => run_ofS lk hcd S hr e0 hb r (len _ _ _ _ h) fun hr' => ?_⟩
  obtain ⟨t, h1, h2⟩ := hbody A hA outer s H vs Q E hr' h
  exact ⟨t, h1.nox, h2⟩
theorem FnG.of (F : FnOk P w K mg base CX k f fd ps sp) : FnG P w K mg base CX k f fd ps sp := ⟨F.len, fun A _ => F.run A⟩
end
section
variable {X : Cx} {CX : CXT} {k : Nat} {f : Addr} {fd : FuncData} {ps : List Str} {sp : Sp} {E : XK} {x : Str} {p pos : Pos} {e : Expr} {es : List Expr} {t : TA}
theorem pe_callG (F : FnG X.prog X.w X.K X.mg X.base CX k f fd ps sp) (hA : X.A.guards = some []) (hr : Room k X.A) (hg : Gl X x) (hm : X.mg x = some (.ref f)) (hk : PySem.W.keepIn X.K (.ref f) = true) (hb : Binds X.K fd ps []) (hx : Passes CX X E)
    (ha : PA X (e :: es) t) (hdb : (x == ("__debug__" : Str)) = false := by decide) (he : starEach (e :: es) X.env = (false, eval e X.env) :: starEach es X.env := by rfl) (hpl : (backTo pos (starEach es X.env)).any (·.1) = false := by rfl) :
    PE X (.Call (.Name x p) (e :: es) [] pos) (tCall sp [] E t) := by
  refine ⟨fun pins s σ H Q I h => ?_⟩
  refine wpAny_Call_Name_kw (ld_glob I hg hm ?_ hdb)
  refine PySem.W.callWith_K (h₀ := X.base) I.ok.mod.kin hk (thn (ha.run pos pins s σ H _ I h) fun us s2 ⟨vs, H2, I2, r, q⟩ => ⟨I2.kIn, ?_⟩) he hpl
  have q : sp (vs ++ []) H2 Q E := q
  rw [List.append_nil] at q
  have hl : us.length = ps.length := by rw [← r.length]; exact F.size _ _ _ _ q
  have hb2 := hb s2 us I2.kIn (by rw [List.append_nil]; exact hl)
  rw [List.append_nil] at hb2
  refine wpAny_call (codeAny_mono (F.go X.A hA X.stack s2 H2 ⟨us, []⟩ us vs Q E hr I2.env0 hb2 r q) fun r s' hq => ?_)
  cases r with
  | error e => exact hx pins σ H2 s2 e s' I2 hq
  | ok fl =>
    cases fl with
    | ret u => exact I2.after hq
    | next => exact False.elim hq
    | brk => exact False.elim hq
    | cont => exact False.elim hq
end
/-- what is tracked when the law is entered: the script (if K doesn't hold it) and the tables -/
structure Start (P : Program) (w : World) (K : PySem.W.Frag) (T : List Addr) (a : Addr) (ob : Obj) (xs : List V) (H : Hp) (h : Heap) : Prop where
  tab : ∀ b ∈ T, H b = some (.tbl #[])
  what : ∀ b u, H b = some u → (b ∈ T ∧ u = .tbl #[]) ∨ (b = a ∧ K.lookup a = none ∧ u = .frz ob (.lst xs))
  seq : SqL K H a xs
  ok : HOk P w H h
theorem start_of {P : Program} {w : World} {K : PySem.W.Frag} {T : List Addr} {a : Addr} {h : Heap} {vs : List Value} {ns : List Int} (KX : K.In h) (hT : ∀ b ∈ T, h.get? b = some { cls := .none, data := .fields #[] })
    (ha : h.get? a = some { cls := .type "list", data := .seq vs.toArray }) (hi : IntsAre vs ns) (hl : ns.length ≤ sizeLine) :
    ∃ H : Hp, Start P w K T a { cls := .type "list", data := .seq vs.toArray } (ns.map V.int) H h := by
  have rv := vals_ints hi
  have lv := hi.length
  have aT : a ∉ T := fun z => by
    have q := (hT a z).symm.trans ha
    cases q
  cases hk : K.lookup a with
  | some o =>
    have eo : o = { cls := .type "list", data := .seq vs.toArray } := Option.some.inj ((KX a o hk).symm.trans ha)
    refine ⟨fun b => if b ∈ T then some (.tbl #[]) else none, fun b hb => if_pos hb, fun b u e => ?_, .inr ⟨_, vs.toArray, _, hk, by rw [eo], by rw [eo], by rw [eo], by rw [List.size_toArray, lv]; exact hl, by simpa using rv⟩, fun b u e => ?_⟩
    · by_cases hb : b ∈ T
      · exact .inl ⟨hb, (Option.some.inj ((if_pos hb).symm.trans e)).symm⟩
      · exact nomatch (if_neg hb).symm.trans e
    · by_cases hb : b ∈ T
      · obtain rfl := Option.some.inj ((if_pos hb).symm.trans e)
        exact hT b hb
      · exact nomatch (if_neg hb).symm.trans e
  | none =>
    refine ⟨fun b => if b ∈ T then some (.tbl #[]) else if b = a then some (.frz { cls := .type "list", data := .seq vs.toArray } (.lst (ns.map V.int))) else none, fun b hb => if_pos hb, fun b u e => ?_, .inl (.inr ⟨_, (if_neg aT).trans (if_pos rfl)⟩), fun b u e => ?_⟩
    · by_cases hb : b ∈ T
      · exact .inl ⟨hb, (Option.some.inj ((if_pos hb).symm.trans e)).symm⟩
      · have e := (if_neg hb).symm.trans e
        by_cases h2 : b = a
        · exact .inr ⟨h2, hk, (Option.some.inj ((if_pos h2).symm.trans e)).symm⟩
        · exact nomatch (if_neg h2).symm.trans e
    · by_cases hb : b ∈ T
      · obtain rfl := Option.some.inj ((if_pos hb).symm.trans e)
        exact hT b hb
      · have e := (if_neg hb).symm.trans e
        by_cases h2 : b = a
        · obtain rfl := Option.some.inj ((if_pos h2).symm.trans e)
          subst h2
          exact ⟨ha, by rw [List.length_map]; exact hl, vs, _, rv, ha⟩
        · exact nomatch (if_neg h2).symm.trans e
theorem Start.hid {P : Program} {w : World} {K : PySem.W.Frag} {T : List Addr} {a : Addr} {h : Heap} {H : Hp} {vs : List Value} {xs : List V} (S : Start P w K T a { cls := .type "list", data := .seq vs.toArray } xs H h)
    (hT : ∀ b ∈ T, h.get? b = some { cls := .none, data := .fields #[] }) (ha : h.get? a = some { cls := .type "list", data := .seq vs.toArray }) {b : Addr} {o : Obj} (e : h.get? b = some o) (h1 : ∀ us n, o.data ≠ .seq us n) (h2 : o.data ≠ .fields #[]) :
    H b = none ∧ (hidT h H).get? b = some o := by
  have n : H b = none := by
    cases q : H b with
    | none => rfl
    | some u =>
      rcases S.what b u q with ⟨hb, _⟩ | ⟨rfl, _⟩
      · have q := e.symm.trans (hT b hb)
        cases q
        exact absurd rfl h2
      · have q := e.symm.trans ha
        cases q
        exact absurd rfl (h1 _ _)
  exact ⟨n, hidT_get e n⟩
theorem law_callG {P : Program} {w : World} {K : PySem.W.Frag} {mg mb : Str → Option Value} {CX : CXT} {k : Nat} {fa a : Addr} {cs : List (Addr × Addr)} {fd : FuncData} {x : Str} {sp : Sp} {s : Shared} {vs : List Value} {ns : List Int}
    (KX : K.In s.heap) (hns : s.heap.Ns mainGlobals mg) (hb : s.heap.Ns builtinsNs mb) (hbb : ∀ x : Str, x ≠ "__name__" → mb x = bootBuiltins x) (hlim : s.heap.NoLimit) (hg : s.gens = #[])
    (hT : ∀ p ∈ cs, s.heap.get? p.2 = some { cls := .none, data := .fields #[] }) (nT : ∀ p ∈ cs, K.lookup p.2 = none) (C : ∀ p ∈ cs, PySem.W.CodeHd s.heap p.1 p.2)
    (hbm : ∃ (bm : Addr) (ob : Obj), mg "__builtins__" = some (.ref bm) ∧ bm ≠ builtinsNs ∧ s.heap.get? bm = some ob ∧ ob.cls = .type "module" ∧ ob.dict = some builtinsNs ∧ ob.data = .plain)
    (ha : s.heap.get? a = some { cls := .type "list", data := .seq vs.toArray }) (hi : IntsAre vs ns) (hl : ns.length ≤ sizeLine) (hr : Room k callerA)
    (F : ∀ base : Heap, K.In base → base.Ns mainGlobals mg → (∀ p ∈ cs, TabB base mg p.1 p.2) → FnG P w K mg base CX k fa fd [x] sp) (hbind : ∀ (s : Shared) (u : Value), BindsTo s fd ⟨[u], []⟩ [(x, u)])
    (hsp : ∀ H : Hp, (∀ p ∈ cs, H p.2 = some (.tbl #[])) → SqL K H a (ns.map V.int) → sp [.ref a] H (fun v _ => v = .bl true) fun _ _ _ => False)
    (hCX : ∀ H e s', CX [] H s (fun _ _ _ => False) e s' → False) :
    codeAny (model P w) callerA (.call (.ref fa) ⟨[.ref a], []⟩) (fun r s' => r = .ok (.ret (.bool true)) ∧ OldK s.heap s'.heap ∧ s'.os = s.os ∧ AllBare s'.gens) s := by
  have hT2 : ∀ b ∈ cs.map (·.2), s.heap.get? b = some { cls := .none, data := .fields #[] } := fun b hb => by
    obtain ⟨p, hp, rfl⟩ := List.mem_map.mp hb
    exact hT p hp
  have inT : ∀ p ∈ cs, p.2 ∈ cs.map (·.2) := fun p hp => List.mem_map.mpr ⟨p, hp, rfl⟩
  obtain ⟨H, S⟩ := start_of (P := P) (w := w) (K := K) (T := cs.map (·.2)) KX hT2 ha hi hl
  have hid : ∀ {b : Addr} {o : Obj}, s.heap.get? b = some o → (∀ us n, o.data ≠ .seq us n) → o.data ≠ .fields #[] → H b = none ∧ (hidT s.heap H).get? b = some o := fun e h1 h2 => S.hid hT2 ha e h1 h2
  have dic : ∀ {b : Addr} {m : Str → Option Value}, s.heap.Ns b m → (hidT s.heap H).Ns b m := fun {b m} ⟨o, es, ep, e, d, r⟩ => ⟨o, es, ep, (hid e (fun us n z => by rw [d] at z; cases z) (fun z => by rw [d] at z; cases z)).2, d, r⟩
  have kin : K.In (hidT s.heap H) := fun b o e => hidT_get (KX b o e) (by
    cases q : H b with
    | none => rfl
    | some u =>
      rcases S.what b u q with ⟨hb, _⟩ | ⟨rfl, hk, _⟩
      · obtain ⟨p, hp, rfl⟩ := List.mem_map.mp hb
        rw [nT p hp] at e
        cases e
      · rw [hk] at e
        cases e)
  have mod : L2.Mod K mg (hidT s.heap H) := ⟨kin, dic hns, ⟨mb, dic hb, hbb⟩, let ⟨mc, h1, h2⟩ := hlim; ⟨mc, dic h1, h2⟩⟩
  have TB : ∀ p ∈ cs, TabB (hidT s.heap H) mg p.1 p.2 := fun p hp => by
    have eT := hT p hp
    obtain ⟨bm, ob, b1, b2, b3, b4, b5, b6⟩ := hbm
    obtain ⟨og, es, ep, eg, dg, _⟩ := hns
    obtain ⟨o, us, file, tf, fl, tg, inF, tx, tt, e1, r1, r2, r3, r4⟩ := C p hp
    refine ⟨⟨o, us, file, tf, fl, tg, inF, tx, tt, (hid e1 (fun us n z => by rw [r2] at z; cases z) (fun z => by rw [r2] at z; cases z; simp at r3)).2, r1, r2, r3, r4⟩,
      ⟨bm, ob, b1, b2, fun q => ?_, fun q => ?_, (hid b3 (fun us n z => by rw [b6] at z; cases z) (fun z => by rw [b6] at z; cases z)).2, b4, b5, b6⟩, fun z => ?_⟩
    · rw [q, eg] at b3
      cases b3
      rw [dg] at b6
      cases b6
    · rw [q, eT] at b3
      cases b3
      cases b6
    · rw [z, eT] at eg
      cases eg
      cases dg
  have e0 : Env0 P w K mg (hidT s.heap H) callerA [] s H := ⟨rfl, mod, fun b o e => of_hidT e, Nat.le_of_eq (hidT_size _ _), trivial, fun b hb => (nomatch hb), S.ok, .of_eq hg⟩
  refine codeAny_mono ((F _ kin (dic hns) TB).go callerA rfl [] s H ⟨[.ref a], []⟩ [.ref a] [.ref a] _ _ hr e0 (hbind s (.ref a)) (.cons rfl .nil) (hsp H (fun p hp => S.tab _ (inT p hp)) S.seq)) fun r s' h => ?_
  match r, h with
  | .error e, h => exact (hCX H e s' h).elim
  | .ok .next, h => exact False.elim h
  | .ok .brk, h => exact False.elim h
  | .ok .cont, h => exact False.elim h
  | .ok (.ret u), h =>
    obtain ⟨v, H', os, bare, un, ok', r', q⟩ := h
    obtain rfl : v = .bl true := q
    obtain rfl : u = Value.bool true := r'
    have tabs : ∀ p ∈ cs, ∃ more : Array Value, s'.heap.get? p.2 = some { cls := .none, data := .fields more } := fun p hp => by
      obtain ⟨more, z⟩ := un.tbls p.2 #[] (S.tab _ (inT p hp))
      exact ⟨_, ok' p.2 _ z⟩
    have rest : ∀ b o, b ∉ cs.map (·.2) → s.heap.get? b = some o → s'.heap.get? b = some o := fun b o nb e => by
      cases q : H b with
      | none => exact un.keep b o e q (fun z => nomatch z) (fun z => nomatch z)
      | some u =>
        rcases S.what b u q with ⟨hb, _⟩ | ⟨rfl, _, rfl⟩
        · exact absurd hb nb
        · obtain ⟨e2, _⟩ := ok' b _ (un.frzs b _ _ q)
          rw [ha] at e
          cases e
          exact e2
    refine ⟨rfl, ⟨fun b o e => ?_, fun b o e => ?_⟩, os, bare⟩
    all_goals by_cases hb : b ∈ cs.map (·.2)
    · obtain ⟨p, hp, rfl⟩ := List.mem_map.mp hb
      obtain ⟨more, hm⟩ := tabs p hp
      obtain rfl := Option.some.inj ((hT p hp).symm.trans e)
      exact .inr (.inl ⟨((C p hp).tab (hT p hp)).isCodeTable, rfl, #[], more, rfl, by rw [Array.empty_append]; exact hm⟩)
    · exact .inl (rest b o hb e)
    · obtain ⟨p, hp, rfl⟩ := List.mem_map.mp hb
      obtain ⟨more, hm⟩ := tabs p hp
      exact ⟨_, hm⟩
    · exact ⟨o, rest b o hb e⟩
/-- what is known of the law's promise at the head's heap -/
def LawG (l : PySem.W.OpenLaw) (w : World) (K : PySem.W.Frag) (CX : CXT) (k n : Nat) (x : Str) (mg : Str → Option Value) (fa : Addr) (h : Heap) : Prop :=
  ∃ (fd : FuncData) (cs : List (Addr × Addr)) (sp : Sp), (∀ p ∈ cs, h.get? p.2 = some { cls := .none, data := .fields #[] } ∧ K.lookup p.2 = none ∧ PySem.W.CodeHd h p.1 p.2) ∧ (∀ (s : Shared) (u : Value), BindsTo s fd ⟨[u], []⟩ [(x, u)]) ∧
    (∀ (H : Hp) (a : Addr) (ns : List Int), ns.length ≤ n → (∀ z ∈ ns, Builtin.Int.intBits z ≤ 1048576) → (∀ p ∈ cs, H p.2 = some (.tbl #[])) → SqL K H a (ns.map V.int) → sp [.ref a] H (fun v _ => v = .bl true) fun _ _ _ => False) ∧
    ∀ base : Heap, K.In base → base.Ns mainGlobals mg → (∀ p ∈ cs, TabB base mg p.1 p.2) → FnG l.prog w K mg base CX k fa fd [x] sp
theorem walk_ofG {l : PySem.W.OpenLaw} {n k : Nat} {q : Program} {loose : List Str} {XP : (Str → Option Value) → Heap → Prop} {YP : World → Heap → Prop} {d : DefRec} {CX : World → CXT} {x : Str}
    (hn : l.most = some n) (hn2 : n ≤ sizeLine) (hdf : d.params.defaults = []) (hr : Room k callerA)
    (F : ∀ (w : World) (mg : Str → Option Value) (fa : Addr) (h : Heap), YP w h → h.Ns mainGlobals mg → mg d.name = some (.ref fa) → ∃ K : PySem.W.Frag, K.In h ∧ LawG l w K (CX w) k n x mg fa h)
    (hCX : ∀ (w : World) (H : Hp) (s : Shared) (e : Value) (s' : Shared), CX w [] H s (fun _ _ _ => False) e s' → False) :
    PySem.W.WalkO q loose XP YP l.row.toRowW d [] (fun f vs => PySem.call f vs) := by
  refine Att.attach_callB hn hdf fun w s₀ s₁ mg mb fa o pm cd doc a vs ns G Y ho hd hcd hmg hobj hints hlen hbits hg => ?_
  obtain ⟨K, KX, fd, cs, sp, hT, hb, hsp, hF⟩ := F w mg fa _ Y G.T.g hmg
  exact law_callG KX G.T.g G.T.b G.T.builtins G.T.nolimit hg (fun p hp => (hT p hp).1) (fun p hp => (hT p hp).2.1) (fun p hp => (hT p hp).2.2) G.T.bmain hobj hints (Nat.le_trans hlen hn2) hr hF hb (fun H hH hS => hsp H a ns hlen hbits hH hS) fun H e s' => hCX w H s₁ e s'
end Gd
/-! texts joined, repr of data, a teller with four excepts -/
namespace Eh
open PySem PySem.Spec PyProof.Rows L2 LamX
def rCat : R2 := fun x y H Q => ∃ i j, x = .str i ∧ y = .str j ∧ i.length + j.length ≤ sizeLine ∧ Q (.str (i ++ j)) H
theorem op_cat {X : Cx} : OpR X (binaryOp .Add) rCat := by
  intro pins s σ H x y v u Q I rx ry h
  obtain ⟨i, j, rfl, rfl, hl, q⟩ := h
  obtain ⟨t, rfl⟩ := rx
  obtain ⟨t2, rfl⟩ := ry
  exact PySem.SB.add (fun t' k => ⟨.str (i ++ j), H, I.tok _, ⟨_, rfl⟩, q⟩) hl
/-- what repr needs of a value -/
structure RepOk (g : Prop) (v : V) (d : PyData) : Prop where
  show_ : d.showable = true
  nodict : d.hasDict = false
  depth : d.depth ≤ 40
  size : d.shown.length ≤ 5000
  quiet : g ∨ ∀ a, v ≠ .ref a
def rRep (K : PySem.W.Frag) (g : Prop) : List V → Hp → VK → Prop := fun xs H Q => ∃ v d, xs = [v] ∧ Dp K H v d ∧ RepOk g v d ∧ Q (.str d.shown) H
theorem call_rep {X : Cx} (hu : X.A.units + 50 < cLine) : CallR X (.builtin "repr") (rRep X.K (X.A.guards = some [])) := by
  intro pins s σ H xs us Q I r h
  obtain ⟨v, d, rfl, hd, ok, q⟩ := h
  obtain ⟨u, rfl, ru⟩ := vals1 r
  have h5 : d.shown.length ≤ sizeLine := Nat.le_trans ok.size (by rw [sizeLine_eq]; decide)
  have done : ∀ t : Tok, EP X pins σ Q (.str d.shown t) { s with toks := s.toks + 1 } := fun t => ⟨.str d.shown, H, I.tok _, ⟨_, rfl⟩, q⟩
  cases hd with
  | non =>
    obtain rfl : u = .none := ru
    exact PySem.P.repr_of_none (done _)
  | bl b =>
    obtain rfl : u = .bool b := ru
    exact PySem.P.repr_of_bool (done _)
  | int i =>
    obtain ⟨t, rfl⟩ := ru
    exact PySem.P.repr_of_int (of_decide_eq_true ok.show_) (done _)
  | str x =>
    obtain ⟨t, rfl⟩ := ru
    exact PySem.P.repr_of_str (done _) h5
  | lst h1 h2 =>
    obtain rfl := ru
    have hg := ok.quiet.resolve_right fun z => z _ rfl
    obtain ⟨as, rd⟩ := Dp.reads I _ _ _ (.lst h1 h2) rfl
    exact PySem.repr_of_reads' rd ok.show_ (PySem.PyData.noDict_hsm ok.nodict) hg (by have := ok.depth; omega) (fun b o e => e) (fun h' u tk hk => ⟨.str _, H, I.kept hk, ⟨_, rfl⟩, q⟩) h5
  | tup h1 h2 =>
    obtain rfl := ru
    have hg := ok.quiet.resolve_right fun z => z _ rfl
    obtain ⟨as, rd⟩ := Dp.reads I _ _ _ (.tup h1 h2) rfl
    exact PySem.repr_of_reads' rd ok.show_ (PySem.PyData.noDict_hsm ok.nodict) hg (by have := ok.depth; omega) (fun b o e => e) (fun h' u tk hk => ⟨.str _, H, I.kept hk, ⟨_, rfl⟩, q⟩) h5
/-- what the teller answers by the error that it hears: two that carry nothing, two that carry what they were given -/
structure Four where
  c1 : Addr
  c2 : Addr
  c3 : Addr
  c4 : Addr
  s1 : Str
  s2 : Str
  p3 : Str
  p4 : Str
  f3 : Str
  f4 : Str
  s5 : Str
def Four.heard (F : Four) (K : PySem.W.Frag) (g : Prop) (Q : VK) : XK := fun cls d H =>
  (cls = .ref F.c1 ∧ Q (.str F.s1) H) ∨ (cls = .ref F.c2 ∧ Q (.str F.s2) H) ∨
  (cls = .ref F.c3 ∧ ∃ dd v dt, d = some dd ∧ H dd = some (.xd [(F.f3, v)]) ∧ Dp K H v dt ∧ RepOk g v dt ∧ Q (.str (F.p3 ++ dt.shown)) H) ∨
  (cls = .ref F.c4 ∧ ∃ dd v dt, d = some dd ∧ H dd = some (.xd [(F.f4, v)]) ∧ Dp K H v dt ∧ RepOk g v dt ∧ Q (.str (F.p4 ++ dt.shown)) H)
def TFour (F : Four) (K : PySem.W.Frag) (g : Prop) : (XK → Hp → VK → Prop) → Hp → VK → Prop := fun tl H Q => tl (F.heard K g Q) H fun _ H' => Q (.str F.s5) H'
/-- the own errors are told apart -/
structure Four.Apart (F : Four) (K : PySem.W.Frag) : Prop where
  x11 : PySem.W.exmOne K (.ref F.c1) (.ref F.c1) = some true
  x21 : PySem.W.exmOne K (.ref F.c2) (.ref F.c1) = some false
  x22 : PySem.W.exmOne K (.ref F.c2) (.ref F.c2) = some true
  x31 : PySem.W.exmOne K (.ref F.c3) (.ref F.c1) = some false
  x32 : PySem.W.exmOne K (.ref F.c3) (.ref F.c2) = some false
  x33 : PySem.W.exmOne K (.ref F.c3) (.ref F.c3) = some true
  x41 : PySem.W.exmOne K (.ref F.c4) (.ref F.c1) = some false
  x42 : PySem.W.exmOne K (.ref F.c4) (.ref F.c2) = some false
  x43 : PySem.W.exmOne K (.ref F.c4) (.ref F.c3) = some false
  x44 : PySem.W.exmOne K (.ref F.c4) (.ref F.c4) = some true
  xf3 : XfC K F.c3
  n3 : PySem.W.findIn K (.ref F.c3) F.f3 = some none
  xf4 : XfC K F.c4
  n4 : PySem.W.findIn K (.ref F.c4) F.f4 = some none
  l3 : F.p3.length ≤ 100
  l4 : F.p4.length ≤ 100
theorem RepOk.imp {g g' : Prop} {v : V} {d : PyData} (h : RepOk g v d) (i : g → g') : RepOk g' v d := ⟨h.show_, h.nodict, h.depth, h.size, h.quiet.imp_left i⟩
theorem four_gives {X : Cx} {gd : Prop} {F : Four} {Ng : List Str} {x a e1 e2 e3 e4 n : Str} {sg : Scope} {g : Addr} {cdg : Value} {q : Str} {j1 j2 j3 j4 j5 : Nat} {p1 p2 p3 p4 p5 p6 p7 p8 p9 p10 p11 p12 p13 p14 p15 p16 p17 p18 p19 p20 p21 p22 p23 p24 p25 p26 p27 p28 p29 p30 p31 p32 : Pos} (A : F.Apart X.K) (hu : X.A.units + 60 < cLine) (hgd : gd → X.A.guards = some [])
    (h1 : sg.names.lookup e1 = some .globalImplicit ∧ X.mg e1 = some (.ref F.c1) ∧ (e1 == ("__debug__" : Str)) = false) (h2 : sg.names.lookup e2 = some .globalImplicit ∧ X.mg e2 = some (.ref F.c2) ∧ (e2 == ("__debug__" : Str)) = false)
    (h3 : sg.names.lookup e3 = some .globalImplicit ∧ X.mg e3 = some (.ref F.c3) ∧ (e3 == ("__debug__" : Str)) = false) (h4 : sg.names.lookup e4 = some .globalImplicit ∧ X.mg e4 = some (.ref F.c4) ∧ (e4 == ("__debug__" : Str)) = false)
    (hr : sg.names.lookup ("repr" : Str) = some .globalImplicit) (hmr : X.mg "repr" = none) (hNn : Ng[1]? = some n) (hln : sg.names.lookup n = some .local) (hdn : (n == ("__debug__" : Str)) = false) (hcn : (n == ("__classdict__" : Str)) = false) (hNd : Ng.Nodup) (hNl : Ng.length = 2)
    (h0 : ∀ f : Addr, L2.start Ng [V.ref f] = [some (V.ref f), none]) :
    GivesTo X Ng x sg g cdg [.Try [.Expr (.Call (.Name a p1) [] [] p2) p3] [.ExceptHandler (some (.Name e1 p4)) none [.Return (some (.Constant (.str F.s1) j1 p5)) p6] p7, .ExceptHandler (some (.Name e2 p8)) none [.Return (some (.Constant (.str F.s2) j2 p9)) p10] p11,
      .ExceptHandler (some (.Name e3 p12)) (some n) [.Return (some (.BinOp (.Constant (.str F.p3) j3 p13) .Add (.Call (.Name "repr" p14) [.Attribute (.Name n p15) F.f3 p16] [] p17) p18)) p19] p20,
      .ExceptHandler (some (.Name e4 p21)) (some n) [.Return (some (.BinOp (.Constant (.str F.p4) j4 p22) .Add (.Call (.Name "repr" p23) [.Attribute (.Name n p24) F.f4 p25] [] p26) p27)) p28] p29] [] [] p30, .Return (some (.Constant (.str F.s5) j5 p31)) p32] a q (TFour F X.K gd) := by
  intro f c' s H Q tl act hc h
  have gl : ∀ {e : Str}, sg.names.lookup e = some .globalImplicit → Gl (cxOf C8.CX0 X.prog X.w X.K X.mg X.base Ng x sg g cdg X.A X.stack s H C8.E0).nox e := fun h => h
  have hu2 : X.A.units + 3 + 50 < cLine := by omega
  refine ⟨_, pss_cons (Em.ps_try_manyA (X := (cxOf C8.CX0 X.prog X.w X.K X.mg X.base Ng x sg g cdg X.A X.stack s H C8.E0).nox) (Wout := fun _ _ _ _ => False)
      (tb := fun W D σ H => ∃ Ech : XK, (∀ cls d σ' H', Ech cls d H' → W cls d σ' H') ∧ σ[0]? = some (some (.ref f)) ∧ H c' = some (CodeO c' q) ∧ tl Ech H fun v H' => D.nx σ H')
      rfl rfl hNd LamX.takes0 (fun W pn xe tk _ => ?_)
      (.cons ⟨gl h1.1, h1.2.2, .inl h1.2.1⟩ (fun a oe cls d pn _ _ => pss_one (ps_ret pe_str)) (.cons ⟨gl h2.1, h2.2.2, .inl h2.2.1⟩ (fun a oe cls d pn _ _ => pss_one (ps_ret pe_str))
      (.consA (i := 1) ⟨gl h3.1, h3.2.2, .inl h3.2.1⟩ hNn hln (fun a oe cls d pn hz hf => pss_one (ps_ret (pe_op op_cat pe_str (pe_callB (r := rRep X.K (X.A.guards = some [])) (call_rep hu2) hr hmr rfl (pa_cons (pe_xf A.xf3 A.n3 hz hf (pe_var hNn (.inl hln) hdn hcn)) pa_nil)))))
      (.consA (i := 1) ⟨gl h4.1, h4.2.2, .inl h4.2.1⟩ hNn hln (fun a oe cls d pn hz hf => pss_one (ps_ret (pe_op op_cat pe_str (pe_callB (r := rRep X.K (X.A.guards = some [])) (call_rep hu2) hr hmr rfl (pa_cons (pe_xf A.xf4 A.n4 hz hf (pe_var hNn (.inl hln) hdn hcn)) pa_nil)))))
      .nil))))) (pss_one (ps_ret pe_str)), ?_⟩
  · refine ⟨fun pins s' σ H' D I h' => ?_⟩
    obtain ⟨Ech, hW, h1, h2, h3⟩ := h'
    have hp := act W pn xe Ech p1 p2 tk hW
    exact (pss_one (ps_expr (pos := p3) hp)).run pins s' σ H' D I ⟨h1, h2, h3⟩
  · have hst := h0 f
    refine ⟨F.heard X.K gd Q, fun cls d σ' H' hh hl => ?_, by rw [hst] <;> rfl, hc, h⟩
    have hl2 : σ'.length = 2 := hl.trans hNl
    have sl : ∀ a : Addr, (σ'.set 1 (some (.ref a)))[1]? = some (some (.ref a)) := fun a => List.getElem?_set_self (by omega)
    have fin : ∀ {C : Addr} {fl pf : Str}, pf.length ≤ 100 → (cls = .ref C ∧ ∃ dd v dt, d = some dd ∧ H' dd = some (.xd [(fl, v)]) ∧ Dp X.K H' v dt ∧ RepOk gd v dt ∧ Q (.str (pf ++ dt.shown)) H') → ∀ a : Addr,
        tOp rCat (tC (.str pf)) (tCB (rRep X.K (X.A.guards = some [])) (tCons (tXf a cls d C fl (tVar 1)) tNil)) (σ'.set 1 (some (.ref a))) H' Q := fun {C fl pf} hpf ⟨ec, dd, v, dt, ed, h1, h2, h3, h4⟩ a => by
      refine ⟨.ref a, sl a, rfl, ec, dd, [(fl, v)], v, ed, h1, by rw [List.lookup_cons, beq_self_eq_true], ⟨v, dt, rfl, h2, h3.imp hgd, pf, dt.shown, rfl, rfl, ?_, h4⟩⟩
      have := h3.size
      rw [sizeLine_eq]
      omega
    rcases hh with ⟨rfl, h1⟩ | ⟨rfl, h1⟩ | hh | hh
    · exact ⟨true, A.x11, fun _ a _ => h1, fun z => nomatch z⟩
    · exact ⟨false, A.x21, fun z => (nomatch z), fun _ => ⟨true, A.x22, fun _ a _ => h1, fun z => nomatch z⟩⟩
    · obtain rfl := hh.1
      exact ⟨false, A.x31, fun z => (nomatch z), fun _ => ⟨false, A.x32, fun z => (nomatch z), fun _ => ⟨true, A.x33, fun _ a _ => fin A.l3 hh a, fun z => nomatch z⟩⟩⟩
    · obtain rfl := hh.1
      exact ⟨false, A.x41, fun z => (nomatch z), fun _ => ⟨false, A.x42, fun z => (nomatch z), fun _ => ⟨false, A.x43, fun z => (nomatch z), fun _ => ⟨true, A.x44, fun _ a _ => fin A.l4 hh a, fun z => nomatch z⟩⟩⟩⟩
end Eh
namespace Own
open PySem PySem.Spec PyProof.Rows L2 Evl
def dSup (i : Nat) : Sx.SupD := hSup.getD i ⟨"", "", "", "", [], "", topS 0⟩

theorem sc_digit_row : FnScope ["b", "k", "row", "left"] ["b", "k"] (defScope s_digit_row) := ⟨rfl, rfl, rfl, by decide +kernel, rfl, by decide +kernel, by decide +kernel⟩
theorem sc_digit_total : FnScope ["b", "k"] ["b", "k"] (defScope s_digit_total) := ⟨rfl, rfl, rfl, by decide +kernel, rfl, by decide +kernel, by decide +kernel⟩
theorem sc_are_carry_free : FnScope ["b", "numbers", "number"] ["b", "numbers"] (defScope s_are_carry_free) := ⟨rfl, rfl, rfl, by decide +kernel, rfl, by decide +kernel, by decide +kernel⟩
theorem sc_shift_sum_list : FnScope ["q", "k", "j"] ["q", "k"] (defScope s_shift_sum_list) := ⟨rfl, rfl, rfl, by decide +kernel, rfl, by decide +kernel, by decide +kernel⟩
theorem sc_parts_bound : FnScope ["q", "k"] ["q", "k"] (defScope s_parts_bound) := ⟨rfl, rfl, rfl, by decide +kernel, rfl, by decide +kernel, by decide +kernel⟩
theorem sc_is_integer : FnScope ["value"] ["value"] (defScope s_is_integer) := ⟨rfl, rfl, rfl, by decide +kernel, rfl, by decide +kernel, by decide +kernel⟩
theorem sc_is_from : FnScope ["value", "low"] ["value", "low"] (defScope s_is_from) := ⟨rfl, rfl, rfl, by decide +kernel, rfl, by decide +kernel, by decide +kernel⟩
theorem sc_is_between : FnScope ["value", "low", "high"] ["value", "low", "high"] (defScope s_is_between) := ⟨rfl, rfl, rfl, by decide +kernel, rfl, by decide +kernel, by decide +kernel⟩
theorem sc_check_from : FnScope ["value", "low"] ["value", "low"] (defScope s_check_from) := ⟨rfl, rfl, rfl, by decide +kernel, rfl, by decide +kernel, by decide +kernel⟩
theorem sc_check_between : FnScope ["value", "low", "high"] ["value", "low", "high"] (defScope s_check_between) := ⟨rfl, rfl, rfl, by decide +kernel, rfl, by decide +kernel, by decide +kernel⟩
theorem sc_check_d : FnScope ["d"] ["d"] (defScope s_check_d) := ⟨rfl, rfl, rfl, by decide +kernel, rfl, by decide +kernel, by decide +kernel⟩
theorem sc_whole_power : FnScope ["base", "exponent", "made", "_"] ["base", "exponent"] (defScope s_whole_power) := ⟨rfl, rfl, rfl, by decide +kernel, rfl, by decide +kernel, by decide +kernel⟩
theorem sc_is_field : FnScope ["value"] ["value"] (defScope s_is_field) := ⟨rfl, rfl, rfl, by decide +kernel, rfl, by decide +kernel, by decide +kernel⟩
theorem sc_check_field : FnScope ["q"] ["q"] (defScope s_check_field) := ⟨rfl, rfl, rfl, by decide +kernel, rfl, by decide +kernel, by decide +kernel⟩
theorem sc_lots_rest : FnScope ["p", "numbers", "made", "placed", "number", "row", "at", "digit"] ["p", "numbers"] (defScope s_lots_rest) := ⟨rfl, rfl, rfl, by decide +kernel, rfl, by decide +kernel, by decide +kernel⟩
theorem sc_spare_sums : FnScope ["q", "row", "many", "classes", "shares", "t", "share", "weights", "j"] ["q", "row", "many"] (defScope s_spare_sums) := ⟨rfl, rfl, rfl, by decide +kernel, rfl, by decide +kernel, by decide +kernel⟩
theorem sc_less_digit : FnScope ["spare", "weights", "digit", "many", "weight"] ["spare", "weights", "digit"] (defScope s_less_digit) := ⟨rfl, rfl, rfl, by decide +kernel, rfl, by decide +kernel, by decide +kernel⟩
theorem sc_high_digits : FnScope ["q", "row", "classes", "found", "worth", "at", "digit"] ["q", "row"] (defScope s_high_digits) := ⟨rfl, rfl, rfl, by decide +kernel, rfl, by decide +kernel, by decide +kernel⟩
theorem sc_lowered : FnScope ["triples", "spare", "kept", "taken", "many", "at", "digit", "weights", "worth", "cut", "most", "weight"] ["triples", "spare"] (defScope s_lowered) := ⟨rfl, rfl, rfl, by decide +kernel, rfl, by decide +kernel, by decide +kernel⟩
theorem sc_least_sums : FnScope ["q", "d", "k", "row", "triples", "spare", "left", "found", "_", "taken", "many"] ["q", "d", "k"] (defScope s_least_sums) := ⟨rfl, rfl, rfl, by decide +kernel, rfl, by decide +kernel, by decide +kernel⟩
theorem sc_greatest_members : FnScope ["q", "d", "k", "sums", "members", "at"] ["q", "d", "k"] (defScope s_greatest_members) := ⟨rfl, rfl, rfl, by decide +kernel, rfl, by decide +kernel, by decide +kernel⟩
theorem sc_members_exponent : FnScope ["members", "at", "member"] ["members"] (defScope s_members_exponent) := ⟨rfl, rfl, rfl, by decide +kernel, rfl, by decide +kernel, by decide +kernel⟩
theorem sc_check_sum : FnScope ["q", "d", "k"] ["q", "d", "k"] (defScope s_check_sum) := ⟨rfl, rfl, rfl, by decide +kernel, rfl, by decide +kernel, by decide +kernel⟩
theorem sc_does_fit : FnScope ["q", "need", "room", "spare", "left", "many", "most", "weights"] ["q", "need", "room", "spare"] (defScope s_does_fit) := ⟨rfl, rfl, rfl, by decide +kernel, rfl, by decide +kernel, by decide +kernel⟩
theorem sc_does_go_on : FnScope ["q", "head", "room", "spare", "rest", "need"] ["q", "head", "room", "spare"] (defScope s_does_go_on) := ⟨rfl, rfl, rfl, by decide +kernel, rfl, by decide +kernel, by decide +kernel⟩
theorem sc_longer_heads : FnScope ["q", "heads", "at", "digit", "room", "weights", "worth", "found", "head", "spare", "many", "longer", "left"] ["q", "heads", "at", "digit", "room"] (defScope s_longer_heads) := ⟨rfl, rfl, rfl, by decide +kernel, rfl, by decide +kernel, by decide +kernel⟩
theorem sc_first_members : FnScope ["q", "k", "after", "most", "row", "many", "room", "t", "heads", "at", "head", "_"] ["q", "k", "after", "most"] (defScope s_first_members) := ⟨rfl, rfl, rfl, by decide +kernel, rfl, by decide +kernel, by decide +kernel⟩
theorem sc_with_next_members : FnScope ["q", "begun", "after", "most", "found", "members", "left", "member"] ["q", "begun", "after", "most"] (defScope s_with_next_members) := ⟨rfl, rfl, rfl, by decide +kernel, rfl, by decide +kernel, by decide +kernel⟩
theorem sc_listed_partings : FnScope ["q", "d", "k", "most", "begun", "after", "members", "left"] ["q", "d", "k", "most"] (defScope s_listed_partings) := ⟨rfl, rfl, rfl, by decide +kernel, rfl, by decide +kernel, by decide +kernel⟩
theorem sc_parting : FnScope ["q", "d", "k"] ["q", "d", "k"] (defScope s_parting) := ⟨rfl, rfl, rfl, by decide +kernel, rfl, by decide +kernel, by decide +kernel⟩
theorem sc_found_parting : FnScope ["q", "d", "k"] ["q", "d", "k"] (defScope s_found_parting) := ⟨rfl, rfl, rfl, by decide +kernel, rfl, by decide +kernel, by decide +kernel⟩
theorem sc_is_parting : FnScope ["q", "d", "k", "value", "member"] ["q", "d", "k", "value"] (defScope s_is_parting) := ⟨rfl, rfl, rfl, by decide +kernel, rfl, by decide +kernel, by decide +kernel⟩
theorem sc_check_parting : FnScope ["q", "d", "k", "value"] ["q", "d", "k", "value"] (defScope s_check_parting) := ⟨rfl, rfl, rfl, by decide +kernel, rfl, by decide +kernel, by decide +kernel⟩
theorem sc_is_bar : FnScope ["q", "d", "k", "j"] ["q", "d", "k", "j"] (defScope s_is_bar) := ⟨rfl, rfl, rfl, by decide +kernel, rfl, by decide +kernel, by decide +kernel⟩
theorem sc_digit_bar : FnScope ["q", "d", "k", "bars", "j"] ["q", "d", "k"] (defScope s_digit_bar) := ⟨rfl, rfl, rfl, by decide +kernel, rfl, by decide +kernel, by decide +kernel⟩
theorem sc_is_digit_bar : FnScope ["q", "d", "k", "value"] ["q", "d", "k", "value"] (defScope s_is_digit_bar) := ⟨rfl, rfl, rfl, by decide +kernel, rfl, by decide +kernel, by decide +kernel⟩
theorem sc_is_zero_sum : FnScope ["q", "d", "k"] ["q", "d", "k"] (defScope s_is_zero_sum) := ⟨rfl, rfl, rfl, by decide +kernel, rfl, by decide +kernel, by decide +kernel⟩
theorem sc_greatest_parting : FnScope ["q", "d", "k"] ["q", "d", "k"] (defScope s_greatest_parting) := ⟨rfl, rfl, rfl, by decide +kernel, rfl, by decide +kernel, by decide +kernel⟩
theorem sc_found_partings : FnScope ["q", "d", "k"] ["q", "d", "k"] (defScope s_found_partings) := ⟨rfl, rfl, rfl, by decide +kernel, rfl, by decide +kernel, by decide +kernel⟩
theorem sc_all_partings : FnScope ["q", "d", "k"] ["q", "d", "k"] (defScope s_all_partings) := ⟨rfl, rfl, rfl, by decide +kernel, rfl, by decide +kernel, by decide +kernel⟩
theorem sc_signed : FnScope ["q", "d", "number"] ["q", "d", "number"] (defScope s_signed) := ⟨rfl, rfl, rfl, by decide +kernel, rfl, by decide +kernel, by decide +kernel⟩
theorem sc_sum_by_partings : FnScope ["q", "d", "k", "totals", "members", "exponent", "told"] ["q", "d", "k"] (defScope s_sum_by_partings) := ⟨rfl, rfl, rfl, by decide +kernel, rfl, by decide +kernel, by decide +kernel⟩
theorem sc_parting_exponent : FnScope ["q", "d", "k", "value"] ["q", "d", "k", "value"] (defScope s_parting_exponent) := ⟨rfl, rfl, rfl, by decide +kernel, rfl, by decide +kernel, by decide +kernel⟩
theorem sc_parting_number : FnScope ["q", "d", "k", "value"] ["q", "d", "k", "value"] (defScope s_parting_number) := ⟨rfl, rfl, rfl, by decide +kernel, rfl, by decide +kernel, by decide +kernel⟩
theorem sc__law_dice : FnScope ["_law_script", "_law_at", "_law_cell", "_law_great", "_law_left", "_law_mixed"] ["_law_script", "_law_at"] (defScope s__law_dice) := ⟨rfl, rfl, rfl, by decide +kernel, rfl, by decide +kernel, by decide +kernel⟩
theorem sc__law_roll : FnScope ["_law_dice_here", "_law_total", "_law_size", "_law_drawn", "_law_one", "_law_two"] ["_law_dice_here", "_law_total"] (defScope s__law_roll) := ⟨rfl, rfl, rfl, by decide +kernel, rfl, by decide +kernel, by decide +kernel⟩
theorem sc__law_one_of : FnScope ["_law_dice_here", "_law_items"] ["_law_dice_here", "_law_items"] (defScope s__law_one_of) := ⟨rfl, rfl, rfl, by decide +kernel, rfl, by decide +kernel, by decide +kernel⟩
theorem sc__law_raised : FnScope ["_law_base", "_law_count", "_law_found", "_law_turn"] ["_law_base", "_law_count"] (defScope s__law_raised) := ⟨rfl, rfl, rfl, by decide +kernel, rfl, by decide +kernel, by decide +kernel⟩
theorem sc__law_q : FnScope ["_law_dice_here"] ["_law_dice_here"] (defScope s__law_q) := ⟨rfl, rfl, rfl, by decide +kernel, rfl, by decide +kernel, by decide +kernel⟩
theorem sc__law_met : FnScope ["_law_call"] ["_law_call"] (defScope s__law_met) := ⟨rfl, rfl, rfl, by decide +kernel, rfl, by decide +kernel, by decide +kernel⟩
theorem sc__law_words : FnScope ["_law_q_here", "_law_d", "_law_k", "_law_words_here", "_law_call"] ["_law_q_here", "_law_d", "_law_k"] (defScope s__law_words) := ⟨rfl, rfl, rfl, by decide +kernel, rfl, by decide +kernel, by decide +kernel⟩
theorem sc__law_right : FnScope ["_law_dice_here", "_law_q_here", "_law_bad", "_law_wrong", "_law_number", "_law_odd", "_law_words_here"] ["_law_dice_here"] (defScope s__law_right) := ⟨rfl, rfl, rfl, by decide +kernel, rfl, by decide +kernel, by decide +kernel⟩
theorem sc__law_many_right : FnScope ["_law_great", "_law_words_here"] [] (defScope s__law_many_right) := ⟨rfl, rfl, rfl, by decide +kernel, rfl, by decide +kernel, by decide +kernel⟩
theorem sc_law : FnScope ["_law_script", "_law_at"] ["_law_script"] (defScope s_law) := ⟨rfl, rfl, rfl, by decide +kernel, rfl, by decide +kernel, by decide +kernel⟩
structure Txt (K : PySem.W.Frag) (mg : Str → Option Value) where
  {a_digit_row : Addr}
  {d_digit_row : FuncData}
  F_digit_row : Fun K "digit_row" "digit_row" s_digit_row a_digit_row d_digit_row
  g_digit_row : mg "digit_row" = some (.ref a_digit_row)
  b_digit_row : Binds K d_digit_row ["b", "k"] []
  {a_digit_total : Addr}
  {d_digit_total : FuncData}
  F_digit_total : Fun K "digit_total" "digit_total" s_digit_total a_digit_total d_digit_total
  g_digit_total : mg "digit_total" = some (.ref a_digit_total)
  b_digit_total : Binds K d_digit_total ["b", "k"] []
  {a_are_carry_free : Addr}
  {d_are_carry_free : FuncData}
  F_are_carry_free : Fun K "are_carry_free" "are_carry_free" s_are_carry_free a_are_carry_free d_are_carry_free
  g_are_carry_free : mg "are_carry_free" = some (.ref a_are_carry_free)
  b_are_carry_free : Binds K d_are_carry_free ["b", "numbers"] []
  {a_shift_sum_list : Addr}
  {d_shift_sum_list : FuncData}
  F_shift_sum_list : Fun K "shift_sum_list" "shift_sum_list" s_shift_sum_list a_shift_sum_list d_shift_sum_list
  g_shift_sum_list : mg "shift_sum_list" = some (.ref a_shift_sum_list)
  b_shift_sum_list : Binds K d_shift_sum_list ["q", "k"] []
  {a_parts_bound : Addr}
  {d_parts_bound : FuncData}
  F_parts_bound : Fun K "parts_bound" "parts_bound" s_parts_bound a_parts_bound d_parts_bound
  g_parts_bound : mg "parts_bound" = some (.ref a_parts_bound)
  b_parts_bound : Binds K d_parts_bound ["q", "k"] []
  {a_is_integer : Addr}
  {d_is_integer : FuncData}
  F_is_integer : Fun K "is_integer" "is_integer" s_is_integer a_is_integer d_is_integer
  g_is_integer : mg "is_integer" = some (.ref a_is_integer)
  b_is_integer : Binds K d_is_integer ["value"] []
  {a_is_from : Addr}
  {d_is_from : FuncData}
  F_is_from : Fun K "is_from" "is_from" s_is_from a_is_from d_is_from
  g_is_from : mg "is_from" = some (.ref a_is_from)
  b_is_from : Binds K d_is_from ["value", "low"] []
  {a_is_between : Addr}
  {d_is_between : FuncData}
  F_is_between : Fun K "is_between" "is_between" s_is_between a_is_between d_is_between
  g_is_between : mg "is_between" = some (.ref a_is_between)
  b_is_between : Binds K d_is_between ["value", "low", "high"] []
  {a_check_from : Addr}
  {d_check_from : FuncData}
  F_check_from : Fun K "check_from" "check_from" s_check_from a_check_from d_check_from
  g_check_from : mg "check_from" = some (.ref a_check_from)
  b_check_from : Binds K d_check_from ["value", "low"] []
  {a_check_between : Addr}
  {d_check_between : FuncData}
  F_check_between : Fun K "check_between" "check_between" s_check_between a_check_between d_check_between
  g_check_between : mg "check_between" = some (.ref a_check_between)
  b_check_between : Binds K d_check_between ["value", "low", "high"] []
  {a_check_d : Addr}
  {d_check_d : FuncData}
  F_check_d : Fun K "check_d" "check_d" s_check_d a_check_d d_check_d
  g_check_d : mg "check_d" = some (.ref a_check_d)
  b_check_d : Binds K d_check_d ["d"] []
  {a_whole_power : Addr}
  {d_whole_power : FuncData}
  F_whole_power : Fun K "whole_power" "whole_power" s_whole_power a_whole_power d_whole_power
  g_whole_power : mg "whole_power" = some (.ref a_whole_power)
  b_whole_power : Binds K d_whole_power ["base", "exponent"] []
  {a_is_field : Addr}
  {d_is_field : FuncData}
  F_is_field : Fun K "is_field" "is_field" s_is_field a_is_field d_is_field
  g_is_field : mg "is_field" = some (.ref a_is_field)
  b_is_field : Binds K d_is_field ["value"] []
  {a_check_field : Addr}
  {d_check_field : FuncData}
  F_check_field : Fun K "check_field" "check_field" s_check_field a_check_field d_check_field
  g_check_field : mg "check_field" = some (.ref a_check_field)
  b_check_field : Binds K d_check_field ["q"] []
  {a_lots_rest : Addr}
  {d_lots_rest : FuncData}
  F_lots_rest : Fun K "lots_rest" "lots_rest" s_lots_rest a_lots_rest d_lots_rest
  g_lots_rest : mg "lots_rest" = some (.ref a_lots_rest)
  b_lots_rest : Binds K d_lots_rest ["p", "numbers"] []
  {a_spare_sums : Addr}
  {d_spare_sums : FuncData}
  F_spare_sums : Fun K "spare_sums" "spare_sums" s_spare_sums a_spare_sums d_spare_sums
  g_spare_sums : mg "spare_sums" = some (.ref a_spare_sums)
  b_spare_sums : Binds K d_spare_sums ["q", "row", "many"] []
  {a_less_digit : Addr}
  {d_less_digit : FuncData}
  F_less_digit : Fun K "less_digit" "less_digit" s_less_digit a_less_digit d_less_digit
  g_less_digit : mg "less_digit" = some (.ref a_less_digit)
  b_less_digit : Binds K d_less_digit ["spare", "weights", "digit"] []
  {a_high_digits : Addr}
  {d_high_digits : FuncData}
  F_high_digits : Fun K "high_digits" "high_digits" s_high_digits a_high_digits d_high_digits
  g_high_digits : mg "high_digits" = some (.ref a_high_digits)
  b_high_digits : Binds K d_high_digits ["q", "row"] []
  {a_lowered : Addr}
  {d_lowered : FuncData}
  F_lowered : Fun K "lowered" "lowered" s_lowered a_lowered d_lowered
  g_lowered : mg "lowered" = some (.ref a_lowered)
  b_lowered : Binds K d_lowered ["triples", "spare"] []
  {a_least_sums : Addr}
  {d_least_sums : FuncData}
  F_least_sums : Fun K "least_sums" "least_sums" s_least_sums a_least_sums d_least_sums
  g_least_sums : mg "least_sums" = some (.ref a_least_sums)
  b_least_sums : Binds K d_least_sums ["q", "d", "k"] []
  {a_greatest_members : Addr}
  {d_greatest_members : FuncData}
  F_greatest_members : Fun K "greatest_members" "greatest_members" s_greatest_members a_greatest_members d_greatest_members
  g_greatest_members : mg "greatest_members" = some (.ref a_greatest_members)
  b_greatest_members : Binds K d_greatest_members ["q", "d", "k"] []
  {a_members_exponent : Addr}
  {d_members_exponent : FuncData}
  F_members_exponent : Fun K "members_exponent" "members_exponent" s_members_exponent a_members_exponent d_members_exponent
  g_members_exponent : mg "members_exponent" = some (.ref a_members_exponent)
  b_members_exponent : Binds K d_members_exponent ["members"] []
  {a_check_sum : Addr}
  {d_check_sum : FuncData}
  F_check_sum : Fun K "check_sum" "check_sum" s_check_sum a_check_sum d_check_sum
  g_check_sum : mg "check_sum" = some (.ref a_check_sum)
  b_check_sum : Binds K d_check_sum ["q", "d", "k"] []
  {a_does_fit : Addr}
  {d_does_fit : FuncData}
  F_does_fit : Fun K "does_fit" "does_fit" s_does_fit a_does_fit d_does_fit
  g_does_fit : mg "does_fit" = some (.ref a_does_fit)
  b_does_fit : Binds K d_does_fit ["q", "need", "room", "spare"] []
  {a_does_go_on : Addr}
  {d_does_go_on : FuncData}
  F_does_go_on : Fun K "does_go_on" "does_go_on" s_does_go_on a_does_go_on d_does_go_on
  g_does_go_on : mg "does_go_on" = some (.ref a_does_go_on)
  b_does_go_on : Binds K d_does_go_on ["q", "head", "room", "spare"] []
  {a_longer_heads : Addr}
  {d_longer_heads : FuncData}
  F_longer_heads : Fun K "longer_heads" "longer_heads" s_longer_heads a_longer_heads d_longer_heads
  g_longer_heads : mg "longer_heads" = some (.ref a_longer_heads)
  b_longer_heads : Binds K d_longer_heads ["q", "heads", "at", "digit", "room"] []
  {a_first_members : Addr}
  {d_first_members : FuncData}
  F_first_members : Fun K "first_members" "first_members" s_first_members a_first_members d_first_members
  g_first_members : mg "first_members" = some (.ref a_first_members)
  b_first_members : Binds K d_first_members ["q", "k", "after", "most"] []
  {a_with_next_members : Addr}
  {d_with_next_members : FuncData}
  F_with_next_members : Fun K "with_next_members" "with_next_members" s_with_next_members a_with_next_members d_with_next_members
  g_with_next_members : mg "with_next_members" = some (.ref a_with_next_members)
  b_with_next_members : Binds K d_with_next_members ["q", "begun", "after", "most"] []
  {a_listed_partings : Addr}
  {d_listed_partings : FuncData}
  F_listed_partings : Fun K "listed_partings" "listed_partings" s_listed_partings a_listed_partings d_listed_partings
  g_listed_partings : mg "listed_partings" = some (.ref a_listed_partings)
  b_listed_partings : Binds K d_listed_partings ["q", "d", "k", "most"] []
  {a_parting : Addr}
  {d_parting : FuncData}
  F_parting : Fun K "parting" "parting" s_parting a_parting d_parting
  g_parting : mg "parting" = some (.ref a_parting)
  b_parting : Binds K d_parting ["q", "d", "k"] []
  {a_found_parting : Addr}
  {d_found_parting : FuncData}
  F_found_parting : Fun K "found_parting" "found_parting" s_found_parting a_found_parting d_found_parting
  g_found_parting : mg "found_parting" = some (.ref a_found_parting)
  b_found_parting : Binds K d_found_parting ["q", "d", "k"] []
  {a_is_parting : Addr}
  {d_is_parting : FuncData}
  F_is_parting : Fun K "is_parting" "is_parting" s_is_parting a_is_parting d_is_parting
  g_is_parting : mg "is_parting" = some (.ref a_is_parting)
  b_is_parting : Binds K d_is_parting ["q", "d", "k", "value"] []
  {a_check_parting : Addr}
  {d_check_parting : FuncData}
  F_check_parting : Fun K "check_parting" "check_parting" s_check_parting a_check_parting d_check_parting
  g_check_parting : mg "check_parting" = some (.ref a_check_parting)
  b_check_parting : Binds K d_check_parting ["q", "d", "k", "value"] []
  {a_is_bar : Addr}
  {d_is_bar : FuncData}
  F_is_bar : Fun K "is_bar" "is_bar" s_is_bar a_is_bar d_is_bar
  g_is_bar : mg "is_bar" = some (.ref a_is_bar)
  b_is_bar : Binds K d_is_bar ["q", "d", "k", "j"] []
  {a_digit_bar : Addr}
  {d_digit_bar : FuncData}
  F_digit_bar : Fun K "digit_bar" "digit_bar" s_digit_bar a_digit_bar d_digit_bar
  g_digit_bar : mg "digit_bar" = some (.ref a_digit_bar)
  b_digit_bar : Binds K d_digit_bar ["q", "d", "k"] []
  {a_is_digit_bar : Addr}
  {d_is_digit_bar : FuncData}
  F_is_digit_bar : Fun K "is_digit_bar" "is_digit_bar" s_is_digit_bar a_is_digit_bar d_is_digit_bar
  g_is_digit_bar : mg "is_digit_bar" = some (.ref a_is_digit_bar)
  b_is_digit_bar : Binds K d_is_digit_bar ["q", "d", "k", "value"] []
  {a_is_zero_sum : Addr}
  {d_is_zero_sum : FuncData}
  F_is_zero_sum : Fun K "is_zero_sum" "is_zero_sum" s_is_zero_sum a_is_zero_sum d_is_zero_sum
  g_is_zero_sum : mg "is_zero_sum" = some (.ref a_is_zero_sum)
  b_is_zero_sum : Binds K d_is_zero_sum ["q", "d", "k"] []
  {a_greatest_parting : Addr}
  {d_greatest_parting : FuncData}
  F_greatest_parting : Fun K "greatest_parting" "greatest_parting" s_greatest_parting a_greatest_parting d_greatest_parting
  g_greatest_parting : mg "greatest_parting" = some (.ref a_greatest_parting)
  b_greatest_parting : Binds K d_greatest_parting ["q", "d", "k"] []
  {a_found_partings : Addr}
  {d_found_partings : FuncData}
  F_found_partings : Fun K "found_partings" "found_partings" s_found_partings a_found_partings d_found_partings
  g_found_partings : mg "found_partings" = some (.ref a_found_partings)
  b_found_partings : Binds K d_found_partings ["q", "d", "k"] []
  {a_all_partings : Addr}
  {d_all_partings : FuncData}
  F_all_partings : Fun K "all_partings" "all_partings" s_all_partings a_all_partings d_all_partings
  g_all_partings : mg "all_partings" = some (.ref a_all_partings)
  b_all_partings : Binds K d_all_partings ["q", "d", "k"] []
  {a_signed : Addr}
  {d_signed : FuncData}
  F_signed : Fun K "signed" "signed" s_signed a_signed d_signed
  g_signed : mg "signed" = some (.ref a_signed)
  b_signed : Binds K d_signed ["q", "d", "number"] []
  {a_sum_by_partings : Addr}
  {d_sum_by_partings : FuncData}
  F_sum_by_partings : Fun K "sum_by_partings" "sum_by_partings" s_sum_by_partings a_sum_by_partings d_sum_by_partings
  g_sum_by_partings : mg "sum_by_partings" = some (.ref a_sum_by_partings)
  b_sum_by_partings : Binds K d_sum_by_partings ["q", "d", "k"] []
  {a_parting_exponent : Addr}
  {d_parting_exponent : FuncData}
  F_parting_exponent : Fun K "parting_exponent" "parting_exponent" s_parting_exponent a_parting_exponent d_parting_exponent
  g_parting_exponent : mg "parting_exponent" = some (.ref a_parting_exponent)
  b_parting_exponent : Binds K d_parting_exponent ["q", "d", "k", "value"] []
  {a_parting_number : Addr}
  {d_parting_number : FuncData}
  F_parting_number : Fun K "parting_number" "parting_number" s_parting_number a_parting_number d_parting_number
  g_parting_number : mg "parting_number" = some (.ref a_parting_number)
  b_parting_number : Binds K d_parting_number ["q", "d", "k", "value"] []
  {a__law_dice : Addr}
  {d__law_dice : FuncData}
  F__law_dice : Fun K "_law_dice" "_law_dice" s__law_dice a__law_dice d__law_dice
  g__law_dice : mg "_law_dice" = some (.ref a__law_dice)
  b__law_dice : Binds K d__law_dice ["_law_script", "_law_at"] []
  {a__law_roll : Addr}
  {d__law_roll : FuncData}
  F__law_roll : Fun K "_law_roll" "_law_roll" s__law_roll a__law_roll d__law_roll
  g__law_roll : mg "_law_roll" = some (.ref a__law_roll)
  b__law_roll : Binds K d__law_roll ["_law_dice_here", "_law_total"] []
  {a__law_one_of : Addr}
  {d__law_one_of : FuncData}
  F__law_one_of : Fun K "_law_one_of" "_law_one_of" s__law_one_of a__law_one_of d__law_one_of
  g__law_one_of : mg "_law_one_of" = some (.ref a__law_one_of)
  b__law_one_of : Binds K d__law_one_of ["_law_dice_here", "_law_items"] []
  {a__law_raised : Addr}
  {d__law_raised : FuncData}
  F__law_raised : Fun K "_law_raised" "_law_raised" s__law_raised a__law_raised d__law_raised
  g__law_raised : mg "_law_raised" = some (.ref a__law_raised)
  b__law_raised : Binds K d__law_raised ["_law_base", "_law_count"] []
  {a__law_q : Addr}
  {d__law_q : FuncData}
  F__law_q : Fun K "_law_q" "_law_q" s__law_q a__law_q d__law_q
  g__law_q : mg "_law_q" = some (.ref a__law_q)
  b__law_q : Binds K d__law_q ["_law_dice_here"] []
  {a__law_met : Addr}
  {d__law_met : FuncData}
  F__law_met : Fun K "_law_met" "_law_met" s__law_met a__law_met d__law_met
  g__law_met : mg "_law_met" = some (.ref a__law_met)
  b__law_met : Binds K d__law_met ["_law_call"] []
  {a__law_words : Addr}
  {d__law_words : FuncData}
  F__law_words : Fun K "_law_words" "_law_words" s__law_words a__law_words d__law_words
  g__law_words : mg "_law_words" = some (.ref a__law_words)
  b__law_words : Binds K d__law_words ["_law_q_here", "_law_d", "_law_k"] []
  {a__law_right : Addr}
  {d__law_right : FuncData}
  F__law_right : Fun K "_law_right" "_law_right" s__law_right a__law_right d__law_right
  g__law_right : mg "_law_right" = some (.ref a__law_right)
  b__law_right : Binds K d__law_right ["_law_dice_here"] []
  {a__law_many_right : Addr}
  {d__law_many_right : FuncData}
  F__law_many_right : Fun K "_law_many_right" "_law_many_right" s__law_many_right a__law_many_right d__law_many_right
  g__law_many_right : mg "_law_many_right" = some (.ref a__law_many_right)
  b__law_many_right : Binds K d__law_many_right [] []
  {a_law : Addr}
  {d_law : FuncData}
  F_law : Fun K "law" "law" s_law a_law d_law
  g_law : mg "law" = some (.ref a_law)
  b_law : Binds K d_law ["_law_script"] []
  m_comb : mg "comb" = some (.builtin "math.comb")
  z_sum : mg "sum" = none
  z_range : mg "range" = none
  z_min : mg "min" = none
  z_isinstance : mg "isinstance" = none
  z_int : mg "int" = none
  z_bool : mg "bool" = none
  z_enumerate : mg "enumerate" = none
  z_len : mg "len" = none
  z_zip : mg "zip" = none
  z_tuple : mg "tuple" = none
  z_any : mg "any" = none
  z_all : mg "all" = none
  z_sorted : mg "sorted" = none
  z_abs : mg "abs" = none
  z_repr : mg "repr" = none
  z_max : mg "max" = none
  z_super : mg "super" = none
  {a_PRIMES : Addr}
  g_PRIMES : mg "PRIMES" = some (.ref a_PRIMES)
  w_PRIMES : tab0 K a_PRIMES = some W_PRIMES
  {a_POWERS : Addr}
  g_POWERS : mg "POWERS" = some (.ref a_POWERS)
  w_POWERS : tab0 K a_POWERS = some W_POWERS
  {t_TOO_LONG : Tok}
  c_TOO_LONG : mg "TOO_LONG" = some (.int 1000000000000000000000000000000000000000000000000000000000000 t_TOO_LONG)
  {a_FIELDS : Addr}
  g_FIELDS : mg "FIELDS" = some (.ref a_FIELDS)
  w_FIELDS : asRow K (.ref a_FIELDS) = some W_FIELDS
  {a_WEIGHTS : Addr}
  g_WEIGHTS : mg "WEIGHTS" = some (.ref a_WEIGHTS)
  w_WEIGHTS : tab2 K a_WEIGHTS = some W_WEIGHTS
  {a_NEEDS : Addr}
  g_NEEDS : mg "NEEDS" = some (.ref a_NEEDS)
  w_NEEDS : tab3 K a_NEEDS = some W_NEEDS
  {t_MAX_LISTED : Tok}
  c_MAX_LISTED : mg "MAX_LISTED" = some (.int 2000 t_MAX_LISTED)
  {t_MOST_AHEAD : Tok}
  c_MOST_AHEAD : mg "MOST_AHEAD" = some (.int 12 t_MOST_AHEAD)
  {a_InvalidField : Addr}
  g_InvalidField : mg "InvalidField" = some (.ref a_InvalidField)
  r_InvalidField : Hx.ErrOk K a_InvalidField
  {a_InvalidParting : Addr}
  g_InvalidParting : mg "InvalidParting" = some (.ref a_InvalidParting)
  r_InvalidParting : Hx.ErrOk K a_InvalidParting
  {a_InvalidNumber f_InvalidNumber k_InvalidNumber l_InvalidNumber : Addr}
  g_InvalidNumber : mg "InvalidNumber" = some (.ref a_InvalidNumber)
  u_InvalidNumber : Sx.SupOk K "/claim/cut.py" (dSup 0) a_InvalidNumber f_InvalidNumber k_InvalidNumber l_InvalidNumber
  {a_TooMany f_TooMany k_TooMany l_TooMany : Addr}
  g_TooMany : mg "TooMany" = some (.ref a_TooMany)
  u_TooMany : Sx.SupOk K "/claim/cut.py" (dSup 1) a_TooMany f_TooMany k_TooMany l_TooMany
  x_InvalidField_InvalidField : PySem.W.exmOne K (.ref a_InvalidField) (.ref a_InvalidField) = some true
  x_InvalidField_InvalidParting : PySem.W.exmOne K (.ref a_InvalidField) (.ref a_InvalidParting) = some false
  x_InvalidField_InvalidNumber : PySem.W.exmOne K (.ref a_InvalidField) (.ref a_InvalidNumber) = some false
  x_InvalidField_TooMany : PySem.W.exmOne K (.ref a_InvalidField) (.ref a_TooMany) = some false
  x_InvalidParting_InvalidField : PySem.W.exmOne K (.ref a_InvalidParting) (.ref a_InvalidField) = some false
  x_InvalidParting_InvalidParting : PySem.W.exmOne K (.ref a_InvalidParting) (.ref a_InvalidParting) = some true
  x_InvalidParting_InvalidNumber : PySem.W.exmOne K (.ref a_InvalidParting) (.ref a_InvalidNumber) = some false
  x_InvalidParting_TooMany : PySem.W.exmOne K (.ref a_InvalidParting) (.ref a_TooMany) = some false
  x_InvalidNumber_InvalidField : PySem.W.exmOne K (.ref a_InvalidNumber) (.ref a_InvalidField) = some false
  x_InvalidNumber_InvalidParting : PySem.W.exmOne K (.ref a_InvalidNumber) (.ref a_InvalidParting) = some false
  x_InvalidNumber_InvalidNumber : PySem.W.exmOne K (.ref a_InvalidNumber) (.ref a_InvalidNumber) = some true
  x_InvalidNumber_TooMany : PySem.W.exmOne K (.ref a_InvalidNumber) (.ref a_TooMany) = some false
  x_TooMany_InvalidField : PySem.W.exmOne K (.ref a_TooMany) (.ref a_InvalidField) = some false
  x_TooMany_InvalidParting : PySem.W.exmOne K (.ref a_TooMany) (.ref a_InvalidParting) = some false
  x_TooMany_InvalidNumber : PySem.W.exmOne K (.ref a_TooMany) (.ref a_InvalidNumber) = some false
  x_TooMany_TooMany : PySem.W.exmOne K (.ref a_TooMany) (.ref a_TooMany) = some true
  {c__law_words : Addr}
  L__law_words : Hx.LamOk K "_law_words" s__law_words a__law_words c__law_words d__law_words
  {c__law_right : Addr}
  L__law_right : Hx.LamOk K "_law_right" s__law_right a__law_right c__law_right d__law_right
  {c__law_many_right : Addr}
  L__law_many_right : Hx.LamOk K "_law_many_right" s__law_many_right a__law_many_right c__law_many_right d__law_many_right
end Own
namespace Own
open PySem PySem.Spec PyProof.Rows L2 Evl

def sp_digit_row (K : PySem.W.Frag) : Sp := fun vs H Q _ => ∃ (b n : Nat), vs = [N_ b, N_ n] ∧ Bs b ∧ Gt n ∧ RetL ((dg b n).map N_) H Q

theorem ok_digit_row {P : Program} {w : World} {K : PySem.W.Frag} {mg : Str → Option Value} {base : Heap} (T : Txt K mg) : FnOk P w K mg base CX0 1 T.a_digit_row T.d_digit_row ["b", "k"] (sp_digit_row K) := by
  refine T.F_digit_row.ok sc_digit_row (fun vs H Q E h => ?_) (fun cdv A outer s H vs Q E hr h => ?_)
  · obtain ⟨b, n, rfl, _⟩ := h
    rfl
  · obtain ⟨b, n, rfl, hb, hn, k⟩ := h
    refine ⟨_, (pss_cons (ps_set (i := 2) sc_digit_row.nd rfl (Or.inl rfl) (pe_lst pa_nil))
      (pss_cons (ps_set (i := 3) sc_digit_row.nd rfl (Or.inl rfl) (pv 1))
      (pss_cons (ps_while PassesOwn.never (pt_cmpR op_gt (pv 3) pe_int (nomark _)) (pss_cons (ps_expr (pe_bm PySem.F.plainAttrs_list PySem.F.slot_list_append PySem.F.type_list_append mt_append (pv 2) (pa_cons (pe_op op_mod (pv 3) (pv 0)) pa_nil)))
      (pss_one (ps_set (i := 3) sc_digit_row.nd rfl (Or.inl rfl) (pe_op op_fdivW (pv 3) (pv 0))))))
      (pss_one (ps_ret (pv 2)))))), ?_⟩
    refine q_asgL (el_lst ea_nil (by decide)) fun p H1 np e1 h1 => ?_
    refine q_asg (ev_var rfl) fun H2 e2 => ?_
    refine q_while (fun l σ H' => ∃ acc : List Nat, σ = [some (N_ b), some (N_ n), some (.ref p), some (N_ l)] ∧ acc ++ dg b l = dg b n ∧ Ex H H' ∧ H' p = some (.lst (acc.map N_))) n
      ⟨[], rfl, rfl, e1.trans e2, e2 p _ h1⟩ fun l σ H3 hw => ?_
    obtain ⟨acc, rfl, ha, e3, h3⟩ := hw
    refine ⟨decide (0 < (l : Int)), et_test (ev_op (ev_var rfl) ev_c rv_I0), fun ht H4 e4 => ?_, fun hf H4 e4 => ?_⟩
    · have hl : 0 < l := by have := of_decide_eq_true ht; omega
      refine ⟨fun σ' H' => σ' = [some (N_ b), some (N_ n), some (.ref p), some (N_ (l / b))] ∧ Ex H H' ∧ H' p = some (.lst ((acc ++ [l % b]).map N_)), fun σ2 H2' hN => ?_, ?_⟩
      · obtain ⟨rfl, e5, h5⟩ := hN
        refine ⟨l / b, Nat.div_lt_self hl hb.1, acc ++ [l % b], rfl, ?_, e5, h5⟩
        rw [← ha, dg_pos hb.1 hl, List.append_assoc]
        rfl
      · have hlen : acc.length < 100000 := by
          have h6 := dg_len hb.1 400 n hn
          rw [← ha, List.length_append] at h6
          omega
        refine q_app (e4 p _ h3) (ev_var rfl) (ev_op (ev_var rfl) (ev_var rfl) (rv_I (by have := hb.1; omega))) (by rw [List.length_map]; exact hlen) fun H5 e5 => ?_
        refine s_asg (ev_op (ev_var rfl) (ev_var rfl) (rv_I (divW (by have := hb.1; omega) hb.2))) fun H6 e6 => ?_
        refine ⟨rfl, ((e3.trans (e4.trans e5)).mut np).trans e6, ?_⟩
        rw [e6 p _ upd_same, List.map_append]
        rfl
    · have hl : l = 0 := by have := of_decide_eq_false hf; omega
      subst hl
      rw [dg_zero, List.append_nil] at ha
      subst ha
      exact s_ret (ev_var rfl) fun H5 e5 => k p H5 np ((e3.trans e4).trans e5) (e5 p _ (e4 p _ h3))


def sp_row_integer (K : PySem.W.Frag) : Sp := fun vs H Q _ => ∃ (b : Nat) (a : Addr) (xs : List Nat), vs = [N_ b, .ref a] ∧ Bs b ∧ SqT K H a (xs.map N_) ∧ xs.length ≤ 410 ∧ (∀ d ∈ xs, d < b) ∧ RetV (N_ (od b xs)) H Q


def sp_digit_total (K : PySem.W.Frag) : Sp := fun vs H Q _ => ∃ (b n : Nat), vs = [N_ b, N_ n] ∧ Bs b ∧ Gt n ∧ RetV (N_ (ds b n)) H Q
theorem sv_digit_row {K : PySem.W.Frag} {H : Hp} {b n : Nat} (hb : Bs b) (hn : Gt n) : SpL (sp_digit_row K) [N_ b, N_ n] H ((dg b n).map N_) := fun H1 _ Q q E => ⟨b, n, rfl, hb, hn, q⟩
theorem sv_digit_total {K : PySem.W.Frag} {H : Hp} {b n : Nat} (hb : Bs b) (hn : Gt n) : SpV (sp_digit_total K) [N_ b, N_ n] H (N_ (ds b n)) := fun H1 _ Q q E => ⟨b, n, rfl, hb, hn, q⟩

theorem ok_digit_total {P : Program} {w : World} {K : PySem.W.Frag} {mg : Str → Option Value} {base : Heap} (T : Txt K mg) : FnOk P w K mg base CX0 2 T.a_digit_total T.d_digit_total ["b", "k"] (sp_digit_total K) := by
  refine T.F_digit_total.ok sc_digit_total (fun vs H Q E h => ?_) (fun cdv A outer s H vs Q E hr h => ?_)
  · obtain ⟨b, n, rfl, _⟩ := h
    rfl
  · obtain ⟨b, n, rfl, hb, hn, k⟩ := h
    refine ⟨_, (pss_one (ps_ret (pe_callB (cr_sum rfl) (by rfl) T.z_sum (by decide +kernel) (pa_cons (pe_call (ok_digit_row T) (hr.mono (by decide)) (by rfl) T.g_digit_row T.F_digit_row.kp T.b_digit_row .nil pass0 (pa_cons (pv 0) (pa_cons (pv 1) pa_nil))) pa_nil)))), ?_⟩
    refine s_ret (ev_is (ev_sumN (ns := (dg b n).map Int.ofNat) (el_is (el_call (ea_cons (ev_var rfl) (ea_cons (ev_var rfl) ea_nil)) (sv_digit_row hb hn)) (mapN _))) (congrArg V.int (sumN _))) fun H1 e1 => k H1 e1


def sp_are_carry_free (K : PySem.W.Frag) : Sp := fun vs H Q _ => ∃ (b : Nat) (a : Addr) (xs : List Nat), vs = [N_ b, .ref a] ∧ Bs b ∧ SqT K H a (xs.map N_) ∧ xs.length ≤ 410 ∧ Gt xs.sum ∧ RetV (.bl (decide ((xs.map (ds b)).sum = ds b xs.sum))) H Q

theorem ok_are_carry_free {P : Program} {w : World} {K : PySem.W.Frag} {mg : Str → Option Value} {base : Heap} (T : Txt K mg) : FnOk P w K mg base CX0 3 T.a_are_carry_free T.d_are_carry_free ["b", "numbers"] (sp_are_carry_free K) := by
  refine T.F_are_carry_free.ok sc_are_carry_free (fun vs H Q E h => ?_) (fun cdv A outer s H vs Q E hr h => ?_)
  · obtain ⟨b, a, xs, rfl, _⟩ := h
    rfl
  · obtain ⟨b, a, xs, rfl, hb, hx, hlen, hs, k⟩ := h
    refine ⟨_, (pss_one (ps_ret (pe_cmpR op_eq (pe_callB (cr_sum rfl) (by rfl) T.z_sum (by decide +kernel) (pa_cons (pe_lc (own := [("number", 2)]) (g := gName 2) rfl sc_are_carry_free.nd (pi_tup (pv 1)) (blkOk_by (N := ["b", "numbers", "number"]) (sc := defScope s_are_carry_free) (by decide +kernel)) (fun _ _ _ _ _ => pg_name (i := 2) sc_are_carry_free.nd rfl (Or.inl rfl)) (fun _ _ _ _ _ => pts_nil) (fun _ _ _ _ _ => (pe_call (ok_digit_total T) (hr.mono (by decide)) (by rfl) T.g_digit_total T.F_digit_total.kp T.b_digit_total .nil pass0 (pa_cons (pv 0) (pa_cons (pv 2) pa_nil))))) pa_nil)) (pe_call (ok_digit_total T) (hr.mono (by decide)) (by rfl) T.g_digit_total T.F_digit_total.kp T.b_digit_total .nil pass0 (pa_cons (pv 0) (pa_cons (pe_callB (cr_sumT rfl) (by rfl) T.z_sum (by decide +kernel) (pa_cons (pv 1) pa_nil)) pa_nil))) (nomark _)))), ?_⟩
    have hsm : ∀ d ∈ xs, Gt d := fun d hd => Nat.lt_of_le_of_lt (le_sum xs d hd) hs
    have hL : (cxOf CX0 P w K mg base ["b", "numbers", "number"] "are_carry_free" (defScope s_are_carry_free) T.a_are_carry_free cdv A outer s H E).K = K := rfl
    refine s_ret (ev_is (ev_op (ev_is (ev_sumN (ns := (xs.map (ds b)).map Int.ofNat) (el_is (el_lcT (fun _ => true) (fun i => N_ (ds b (xs[i]?.getD 0))) (ev_var rfl) hx (by rw [List.length_map]; omega) (fun _ => rfl) (fun _ _ _ _ _ => et_nil)
      (fun i x H1 e1 hi _ => ?_)) ?_)) (congrArg V.int (sumN _))) (ev_call (ea_cons (ev_var rfl) (ea_cons (ev_cb (ea_cons (ev_var rfl) ea_nil) (rc_sumT (ns := xs.map Int.ofNat) (by rw [← mapN]; exact hx))) ea_nil)) ?_) (rv_eq rfl)) (congrArg V.bl dec_int)) fun H1 e1 => k H1 e1
    · rw [List.getElem?_map] at hi
      obtain ⟨d, hd, rfl⟩ := Option.map_eq_some_iff.mp hi
      rw [hd]
      exact ev_call (ea_cons (ev_var rfl) (ea_cons (ev_var rfl) ea_nil)) (sv_digit_total hb (hsm d (List.mem_of_getElem? hd)))
    · rw [List.length_map, given_all xs (fun d => N_ (ds b d)) _ (fun i y h => by rw [h]; rfl), ← mapN, List.map_map]
      rfl
    · rw [sumN]
      exact sv_digit_total hb hs


abbrev Sm (x : Int) : Prop := x.natAbs < 10 ^ 60
def sp_is_integer (K : PySem.W.Frag) : Sp := fun vs H Q _ => ∃ (x : Int), vs = [.int x] ∧ Sm x ∧ RetV (.bl true) H Q
theorem sv_is_integer {K : PySem.W.Frag} {H : Hp} {x : Int} (h : Sm x) : SpV (sp_is_integer K) [.int x] H (.bl true) := fun H1 _ Q q E => ⟨x, rfl, h, q⟩
theorem sm_abs {x : Int} (h : Sm x) : (decide (-1000000000000000000000000000000000000000000000000000000000000 < x) && decide (x < 1000000000000000000000000000000000000000000000000000000000000)) = true := by
  have h' : x.natAbs < 10 ^ 60 := h
  rw [decide_eq_true (by omega), decide_eq_true (by omega)]
  rfl

theorem ok_is_integer {P : Program} {w : World} {K : PySem.W.Frag} {mg : Str → Option Value} {base : Heap} (T : Txt K mg) : FnOk P w K mg base CX0 1 T.a_is_integer T.d_is_integer ["value"] (sp_is_integer K) := by
  refine T.F_is_integer.ok sc_is_integer (fun vs H Q E h => ?_) (fun cdv A outer s H vs Q E hr h => ?_)
  · obtain ⟨x, rfl, _⟩ := h
    rfl
  · obtain ⟨x, rfl, hx, k⟩ := h
    refine ⟨_, (pss_one (ps_ret (pe_and (pe_callB call_isi (by rfl) T.z_isinstance (by decide +kernel) (pa_cons (pv 0) (pa_cons (pe_bltn (v := .ty "int") (u := .type "int") (by rfl) T.z_int (by decide +kernel) rfl) pa_nil))) (pe_and (pe_not (pe_callB call_isi (by rfl) T.z_isinstance (by decide +kernel) (pa_cons (pv 0) (pa_cons (pe_bltn (v := .ty "bool") (u := .type "bool") (by rfl) T.z_bool (by decide +kernel) rfl) pa_nil)))) (pe_one (pe_chain op_lt op_lt (pe_un un_neg (pe_glob (v := .int 1000000000000000000000000000000000000000000000000000000000000) (by rfl) T.c_TOO_LONG ⟨_, rfl⟩)) (pv 0) (pe_glob (v := .int 1000000000000000000000000000000000000000000000000000000000000) (by rfl) T.c_TOO_LONG ⟨_, rfl⟩))))))), ?_⟩
    refine s_ret (ev_is (ev_andV (ev_cb (ea_cons (ev_var rfl) (ea_cons ev_c ea_nil)) (rc_isi (b := true) (.base (.int x)) (kit_ty (by decide +kernel)))) fun _ =>
      (ev_andV (ev_notV (ev_cb (ea_cons (ev_var rfl) (ea_cons ev_c ea_nil)) (rc_isi (b := false) (.base (.int x)) (kit_ty (by decide +kernel))))) fun _ =>
        (ev_chain (ev_un ev_c ru_neg) (ev_var rfl) rv_I0 (fun _ => ev_c) (fun _ => rv_I0)))) ?_) fun H1 e1 => k H1 e1
    rw [sm_abs hx]
    rfl


def sp_is_from (K : PySem.W.Frag) : Sp := fun vs H Q _ => ∃ (x l : Int), vs = [.int x, .int l] ∧ Sm x ∧ RetV (.bl (decide (l ≤ x))) H Q
theorem sv_is_from {K : PySem.W.Frag} {H : Hp} {x l : Int} (h : Sm x) : SpV (sp_is_from K) [.int x, .int l] H (.bl (decide (l ≤ x))) := fun H1 _ Q q E => ⟨x, l, rfl, h, q⟩

theorem ok_is_from {P : Program} {w : World} {K : PySem.W.Frag} {mg : Str → Option Value} {base : Heap} (T : Txt K mg) : FnOk P w K mg base CX0 2 T.a_is_from T.d_is_from ["value", "low"] (sp_is_from K) := by
  refine T.F_is_from.ok sc_is_from (fun vs H Q E h => ?_) (fun cdv A outer s H vs Q E hr h => ?_)
  · obtain ⟨x, l, rfl, _⟩ := h
    rfl
  · obtain ⟨x, l, rfl, hx, k⟩ := h
    refine ⟨_, (pss_one (ps_ret (pe_and (pe_call (ok_is_integer T) (hr.mono (by decide)) (by rfl) T.g_is_integer T.F_is_integer.kp T.b_is_integer .nil pass0 (pa_cons (pv 0) pa_nil)) (pe_one (pe_cmpR op_ge (pv 0) (pv 1) (nomark _)))))), ?_⟩
    refine s_ret (ev_andV (ev_call (ea_cons (ev_var rfl) ea_nil) (sv_is_integer hx)) fun _ => (ev_op (ev_var rfl) (ev_var rfl) rv_I0)) fun H1 e1 => k H1 e1


def sp_is_between (K : PySem.W.Frag) : Sp := fun vs H Q _ => ∃ (x l u : Int), vs = [.int x, .int l, .int u] ∧ Sm x ∧ RetV (.bl (decide (l ≤ x) && decide (x ≤ u))) H Q
theorem sv_is_between {K : PySem.W.Frag} {H : Hp} {x l u : Int} (h : Sm x) : SpV (sp_is_between K) [.int x, .int l, .int u] H (.bl (decide (l ≤ x) && decide (x ≤ u))) := fun H1 _ Q q E => ⟨x, l, u, rfl, h, q⟩

theorem ok_is_between {P : Program} {w : World} {K : PySem.W.Frag} {mg : Str → Option Value} {base : Heap} (T : Txt K mg) : FnOk P w K mg base CX0 2 T.a_is_between T.d_is_between ["value", "low", "high"] (sp_is_between K) := by
  refine T.F_is_between.ok sc_is_between (fun vs H Q E h => ?_) (fun cdv A outer s H vs Q E hr h => ?_)
  · obtain ⟨x, l, u, rfl, _⟩ := h
    rfl
  · obtain ⟨x, l, u, rfl, hx, k⟩ := h
    refine ⟨_, (pss_one (ps_ret (pe_and (pe_call (ok_is_integer T) (hr.mono (by decide)) (by rfl) T.g_is_integer T.F_is_integer.kp T.b_is_integer .nil pass0 (pa_cons (pv 0) pa_nil)) (pe_one (pe_chain op_le op_le (pv 1) (pv 0) (pv 2)))))), ?_⟩
    refine s_ret (ev_andV (ev_call (ea_cons (ev_var rfl) ea_nil) (sv_is_integer hx)) fun _ => (ev_chain (ev_var rfl) (ev_var rfl) rv_I0 (fun _ => ev_var rfl) (fun _ => rv_I0))) fun H1 e1 => k H1 e1


def sp_check_from (K : PySem.W.Frag) : Sp := fun vs H Q _ => ∃ (x l : Int), vs = [.int x, .int l] ∧ Sm x ∧ l ≤ x ∧ RetV .non H Q
theorem sv_check_from {K : PySem.W.Frag} {H : Hp} {x l : Int} (h : Sm x) (h2 : l ≤ x) : SpV (sp_check_from K) [.int x, .int l] H .non := fun H1 _ Q q E => ⟨x, l, rfl, h, h2, q⟩

theorem ok_check_from {P : Program} {w : World} {K : PySem.W.Frag} {mg : Str → Option Value} {base : Heap} (T : Txt K mg) : FnOk P w K mg base CX0 3 T.a_check_from T.d_check_from ["value", "low"] (sp_check_from K) := by
  refine T.F_check_from.ok sc_check_from (fun vs H Q E h => ?_) (fun cdv A outer s H vs Q E hr h => ?_)
  · obtain ⟨x, l, rfl, _⟩ := h
    rfl
  · obtain ⟨x, l, rfl, hx, hl, k⟩ := h
    refine ⟨_, (pss_one (ps_if (pt_not (pt_val (pe_call (ok_is_from T) (hr.mono (by decide)) (by rfl) T.g_is_from T.F_is_from.kp T.b_is_from .nil pass0 (pa_cons (pv 0) (pa_cons (pv 1) pa_nil))))) (pss_one ps_never) pss_nil)), ?_⟩
    refine s_when (et_not (et_B (ev_call (ea_cons (ev_var rfl) (ea_cons (ev_var rfl) ea_nil)) (sv_is_from hx)))) (fun hb => ?_) (fun _ H1 e1 => k H1 e1)
    rw [decide_eq_true hl] at hb
    cases hb


def sp_check_between (K : PySem.W.Frag) : Sp := fun vs H Q _ => ∃ (x l u : Int), vs = [.int x, .int l, .int u] ∧ Sm x ∧ l ≤ x ∧ x ≤ u ∧ RetV .non H Q
theorem sv_check_between {K : PySem.W.Frag} {H : Hp} {x l u : Int} (h : Sm x) (h2 : l ≤ x) (h3 : x ≤ u) : SpV (sp_check_between K) [.int x, .int l, .int u] H .non := fun H1 _ Q q E => ⟨x, l, u, rfl, h, h2, h3, q⟩

theorem ok_check_between {P : Program} {w : World} {K : PySem.W.Frag} {mg : Str → Option Value} {base : Heap} (T : Txt K mg) : FnOk P w K mg base CX0 3 T.a_check_between T.d_check_between ["value", "low", "high"] (sp_check_between K) := by
  refine T.F_check_between.ok sc_check_between (fun vs H Q E h => ?_) (fun cdv A outer s H vs Q E hr h => ?_)
  · obtain ⟨x, l, u, rfl, _⟩ := h
    rfl
  · obtain ⟨x, l, u, rfl, hx, hl, hu, k⟩ := h
    refine ⟨_, (pss_one (ps_if (pt_not (pt_val (pe_call (ok_is_between T) (hr.mono (by decide)) (by rfl) T.g_is_between T.F_is_between.kp T.b_is_between .nil pass0 (pa_cons (pv 0) (pa_cons (pv 1) (pa_cons (pv 2) pa_nil)))))) (pss_one ps_never) pss_nil)), ?_⟩
    refine s_when (et_not (et_B (ev_call (ea_cons (ev_var rfl) (ea_cons (ev_var rfl) (ea_cons (ev_var rfl) ea_nil))) (sv_is_between hx)))) (fun hb => ?_) (fun _ H1 e1 => k H1 e1)
    rw [decide_eq_true hl, decide_eq_true hu] at hb
    cases hb


def sp_check_base (K : PySem.W.Frag) : Sp := fun vs H Q _ => ∃ (b : Nat), vs = [N_ b] ∧ Bs b ∧ RetV .non H Q
theorem sv_check_base {K : PySem.W.Frag} {H : Hp} {b : Nat} (h : Bs b) : SpV (sp_check_base K) [N_ b] H .non := fun H1 _ Q q E => ⟨b, rfl, h, q⟩
theorem sm_b {b : Nat} (h : Bs b) : Sm (b : Int) := by
  have := h.2
  show (Int.natAbs (b : Int)) < 10 ^ 60
  have e : (1001 : Nat) ≤ 10 ^ 60 := by decide
  omega


def sp_check_numbers (K : PySem.W.Frag) : Sp := fun vs H Q _ => ∃ (a : Addr) (xs : List Nat), vs = [.ref a] ∧ SqT K H a (xs.map N_) ∧ 1 ≤ xs.length ∧ xs.length ≤ 400 ∧ (∀ d ∈ xs, d < 10 ^ 60) ∧ RetV .non H Q
theorem sv_check_numbers {K : PySem.W.Frag} {H : Hp} {a : Addr} {xs : List Nat} (h : SqT K H a (xs.map N_)) (h1 : 1 ≤ xs.length) (h2 : xs.length ≤ 400) (h3 : ∀ d ∈ xs, d < 10 ^ 60) : SpV (sp_check_numbers K) [.ref a] H .non := fun H1 e Q q E => ⟨a, xs, rfl, ex_t e h, h1, h2, h3, q⟩
theorem sm_n {n : Nat} (h : n < 10 ^ 60) : Sm (n : Int) := h


def sp_digits (K : PySem.W.Frag) : Sp := fun vs H Q _ => ∃ (b n : Nat), vs = [N_ b, N_ n] ∧ Bs b ∧ n < 10 ^ 60 ∧ RetU ((dg b n).map N_) H Q
theorem gt_n {n : Nat} (h : n < 10 ^ 60) : Gt n := Nat.lt_trans h (by decide)
theorem sv_digits {K : PySem.W.Frag} {H : Hp} {b n : Nat} (hb : Bs b) (hn : n < 10 ^ 60) : SpU (sp_digits K) [N_ b, N_ n] H ((dg b n).map N_) := fun H1 _ Q q E => ⟨b, n, rfl, hb, hn, q⟩


def sp_of_digits (K : PySem.W.Frag) : Sp := fun vs H Q _ => ∃ (b : Nat) (a : Addr) (xs : List Nat), vs = [N_ b, .ref a] ∧ Bs b ∧ SqT K H a (xs.map N_) ∧ xs.length ≤ 400 ∧ (∀ d ∈ xs, d < b) ∧ RetV (N_ (od b xs)) H Q
theorem sv_of_digits {K : PySem.W.Frag} {H : Hp} {b : Nat} {a : Addr} {xs : List Nat} (hb : Bs b) (h : SqT K H a (xs.map N_)) (hl : xs.length ≤ 400) (hx : ∀ d ∈ xs, d < b) : SpV (sp_of_digits K) [N_ b, .ref a] H (N_ (od b xs)) := fun H1 e Q q E => ⟨b, a, xs, rfl, hb, ex_t e h, hl, hx, q⟩
theorem sv_row_integer {K : PySem.W.Frag} {H : Hp} {b : Nat} {a : Addr} {xs : List Nat} (hb : Bs b) (h : SqT K H a (xs.map N_)) (hl : xs.length ≤ 410) (hx : ∀ d ∈ xs, d < b) : SpV (sp_row_integer K) [N_ b, .ref a] H (N_ (od b xs)) := fun H1 e Q q E => ⟨b, a, xs, rfl, hb, ex_t e h, hl, hx, q⟩
theorem all_true {α : Type} (xs : List α) : (xs.map fun _ => true).all id = true := by
  rw [List.all_eq_true]
  intro z hz
  obtain ⟨_, _, rfl⟩ := List.mem_map.mp hz
  rfl


def sp_digit_sum (K : PySem.W.Frag) : Sp := fun vs H Q _ => ∃ (b n : Nat), vs = [N_ b, N_ n] ∧ Bs b ∧ n < 10 ^ 60 ∧ RetV (N_ (ds b n)) H Q
theorem sv_digit_sum {K : PySem.W.Frag} {H : Hp} {b n : Nat} (hb : Bs b) (hn : n < 10 ^ 60) : SpV (sp_digit_sum K) [N_ b, N_ n] H (N_ (ds b n)) := fun H1 _ Q q E => ⟨b, n, rfl, hb, hn, q⟩


def sp_carries (K : PySem.W.Frag) : Sp := fun vs H Q _ => ∃ (b x y : Nat), vs = [N_ b, N_ x, N_ y] ∧ Bs b ∧ x < 10 ^ 60 ∧ y < 10 ^ 60 ∧ RetV (N_ (cc b 0 x y)) H Q
theorem sv_carries {K : PySem.W.Frag} {H : Hp} {b x y : Nat} (hb : Bs b) (hx : x < 10 ^ 60) (hy : y < 10 ^ 60) : SpV (sp_carries K) [N_ b, N_ x, N_ y] H (N_ (cc b 0 x y)) := fun H1 _ Q q E => ⟨b, x, y, rfl, hb, hx, hy, q⟩
theorem car_eq {b x y : Nat} (hb : Bs b) : ((ds b x : Nat) + (ds b y : Nat) - (ds b (x + y) : Nat) : Int) / ((b : Int) - 1) = ((cc b 0 x y : Nat) : Int) := by
  have h := ds_plus (b := b) hb.1 x y
  have e : ((ds b x : Nat) + (ds b y : Nat) - (ds b (x + y) : Nat) : Int) = ((b : Int) - 1) * ((cc b 0 x y : Nat) : Int) := by
    have h2 : ((b : Int) - 1) = ((b - 1 : Nat) : Int) := by have := hb.1; omega
    rw [h2, ← Int.natCast_mul]
    omega
  rw [e]
  exact Int.mul_ediv_cancel_left _ (by have := hb.1; omega)


def sp_has_no_carries (K : PySem.W.Frag) : Sp := fun vs H Q _ => ∃ (b : Nat) (a : Addr) (xs : List Nat), vs = [N_ b, .ref a] ∧ Bs b ∧ SqT K H a (xs.map N_) ∧ 1 ≤ xs.length ∧ xs.length ≤ 400 ∧ (∀ d ∈ xs, d < 10 ^ 60) ∧ RetV (.bl (decide ((xs.map (ds b)).sum = ds b xs.sum))) H Q
theorem sv_has_no_carries {K : PySem.W.Frag} {H : Hp} {b : Nat} {a : Addr} {xs : List Nat} (hb : Bs b) (h : SqT K H a (xs.map N_)) (h1 : 1 ≤ xs.length) (h2 : xs.length ≤ 400) (h3 : ∀ d ∈ xs, d < 10 ^ 60) : SpV (sp_has_no_carries K) [N_ b, .ref a] H (.bl (decide ((xs.map (ds b)).sum = ds b xs.sum))) := fun H1 e Q q E => ⟨b, a, xs, rfl, hb, ex_t e h, h1, h2, h3, q⟩
theorem sv_are_carry_free {K : PySem.W.Frag} {H : Hp} {b : Nat} {a : Addr} {xs : List Nat} (hb : Bs b) (h : SqT K H a (xs.map N_)) (h2 : xs.length ≤ 410) (h3 : Gt xs.sum) : SpV (sp_are_carry_free K) [N_ b, .ref a] H (.bl (decide ((xs.map (ds b)).sum = ds b xs.sum))) := fun H1 e Q q E => ⟨b, a, xs, rfl, hb, ex_t e h, h2, h3, q⟩
theorem sum_bound {m : Nat} : ∀ xs : List Nat, (∀ d ∈ xs, d < m) → xs.sum ≤ xs.length * m
  | [], _ => Nat.zero_le _
  | x :: r, h => by
    rw [List.sum_cons, List.length_cons, Nat.succ_mul]
    have h1 := h x (List.mem_cons_self ..)
    have h2 := sum_bound r fun d hd => h d (List.mem_cons_of_mem _ hd)
    omega


def FQ : List Nat := [2, 3, 4, 5, 7, 8, 9]
def Fq (q : Nat) : Prop := q ∈ FQ
theorem Fq.b {q : Nat} (h : Fq q) : 2 ≤ q ∧ q ≤ 9 := by
  unfold Fq FQ at h
  simp only [List.mem_cons, List.not_mem_nil, or_false] at h
  omega
def g0 (t : List (Int × Int)) (q : Nat) : Option Int := t.lookup (q : Int)
def prE (q : Nat) : Nat := ((g0 W_PRIMES q).getD 0).toNat
def poE (q : Nat) : Nat := ((g0 W_POWERS q).getD 0).toNat
def chkAll (f : Nat → Bool) : Bool := FQ.all f
theorem chk_get {f : Nat → Bool} (h : chkAll f = true) {q : Nat} (hq : Fq q) : f q = true := List.all_eq_true.mp h q hq
def all1 (q : Nat) (f : Nat → Bool) : Bool := (List.range q).all f
theorem all1_get {q : Nat} {f : Nat → Bool} (h : all1 q f = true) {a : Nat} (ha : a < q) : f a = true := List.all_eq_true.mp h a (List.mem_range.mpr ha)
theorem chk_tabs : chkAll (fun q => decide (g0 W_PRIMES q = some ((prE q : Nat) : Int)) && decide (g0 W_POWERS q = some ((poE q : Nat) : Int)) && decide (2 ≤ prE q) && decide (prE q ≤ 7) && decide (1 ≤ poE q) && decide (poE q ≤ 3) && decide (prE q ^ poE q = q)) = true := by decide +kernel
structure T0 (q : Nat) : Prop where
  pr : g0 W_PRIMES q = some ((prE q : Nat) : Int)
  po : g0 W_POWERS q = some ((poE q : Nat) : Int)
  p2 : 2 ≤ prE q
  p7 : prE q ≤ 7
  f1 : 1 ≤ poE q
  f3 : poE q ≤ 3
  pw : prE q ^ poE q = q
theorem t0_of {q : Nat} (hq : Fq q) : T0 q := by
  have h := chk_get chk_tabs hq
  simp only [Bool.and_eq_true, decide_eq_true_eq] at h
  exact ⟨h.1.1.1.1.1.1, h.1.1.1.1.1.2, h.1.1.1.1.2, h.1.1.1.2, h.1.1.2, h.1.2, h.2⟩
theorem tup_of {K : PySem.W.Frag} {a : Addr} {ns : List Int} (h : asRow K (.ref a) = some ns) (H : Hp) : SqT K H a (ns.map V.int) := by
  obtain ⟨b, e, hs⟩ := asRow_eq h
  cases e
  exact hs H
theorem inV_ints (i : Int) : ∀ ns : List Int, inV (.int i) (ns.map V.int) = decide (i ∈ ns)
  | [] => rfl
  | n :: r => by
    have ih := inV_ints i r
    unfold inV at ih ⊢
    rw [List.map_cons, List.any_cons, ih]
    show ((n == i) || decide (i ∈ r)) = decide (i ∈ n :: r)
    by_cases h : n = i
    · subst h
      rw [show (n == n) = true from beq_self_eq_true n, Bool.true_or, decide_eq_true (List.mem_cons_self ..)]
    · rw [show (n == i) = false from beq_eq_false_iff_ne.mpr h, Bool.false_or]
      by_cases h2 : i ∈ r
      · rw [decide_eq_true h2, decide_eq_true (List.mem_cons_of_mem _ h2)]
      · rw [decide_eq_false h2, decide_eq_false (fun z => by
          rcases List.mem_cons.mp z with z | z
          · exact h z.symm
          · exact h2 z)]
theorem flat_ints (ns : List Int) : (ns.map V.int).all flatV = true := by
  rw [List.all_eq_true]
  intro x hx
  obtain ⟨n, _, rfl⟩ := List.mem_map.mp hx
  rfl
theorem Fq.bs {q : Nat} (h : Fq q) : Bs q := ⟨h.b.1, by have := h.b.2; omega⟩
def sp_is_field (K : PySem.W.Frag) : Sp := fun vs H Q _ => ∃ (q : Nat), vs = [N_ q] ∧ Fq q ∧ RetV (.bl true) H Q
theorem sv_is_field {K : PySem.W.Frag} {H : Hp} {q : Nat} (hq : Fq q) : SpV (sp_is_field K) [N_ q] H (.bl true) := fun H1 e Q k E => ⟨q, rfl, hq, k⟩
theorem in_F {q : Nat} (hq : Fq q) : decide ((q : Int) ∈ W_FIELDS) = true := by
  unfold Fq FQ at hq
  simp only [List.mem_cons, List.not_mem_nil, or_false] at hq
  rcases hq with rfl | rfl | rfl | rfl | rfl | rfl | rfl <;> decide

theorem ok_is_field {P : Program} {w : World} {K : PySem.W.Frag} {mg : Str → Option Value} {base : Heap} (T : Txt K mg) : FnOk P w K mg base CX0 2 T.a_is_field T.d_is_field ["value"] (sp_is_field K) := by
  refine T.F_is_field.ok sc_is_field (fun vs H Q E h => ?_) (fun cdv A outer s H vs Q E hr h => ?_)
  · obtain ⟨q, rfl, _⟩ := h
    rfl
  · obtain ⟨q, rfl, hq, k⟩ := h
    refine ⟨_, (pss_one (ps_ret (pe_and (pe_call (ok_is_integer T) (hr.mono (by decide)) (by rfl) T.g_is_integer T.F_is_integer.kp T.b_is_integer .nil pass0 (pa_cons (pv 0) pa_nil)) (pe_one (pe_cmpR op_in_seq (pv 0) (pe_glob (v := .ref T.a_FIELDS) (by rfl) T.g_FIELDS rfl) (by rfl)))))), ?_⟩
    exact s_ret (ev_andV (b := true) (ev_call (ea_cons (ev_var rfl) ea_nil) (sv_is_integer (sm_b hq.bs))) fun _ => (ev_is (ev_op (ev_var rfl) ev_c (rv_isT (tup_of T.w_FIELDS H) rfl (flat_ints _))) (congrArg V.bl ((inV_ints _ _).trans (in_F hq))))) fun H1 e1 => k H1 e1


def sp_check_field (K : PySem.W.Frag) : Sp := fun vs H Q _ => ∃ (q : Nat), vs = [N_ q] ∧ Fq q ∧ RetV .non H Q
theorem sv_check_field {K : PySem.W.Frag} {H : Hp} {q : Nat} (hq : Fq q) : SpV (sp_check_field K) [N_ q] H .non := fun H1 e Q k E => ⟨q, rfl, hq, k⟩

theorem ok_check_field {P : Program} {w : World} {K : PySem.W.Frag} {mg : Str → Option Value} {base : Heap} (T : Txt K mg) : FnOk P w K mg base CX0 3 T.a_check_field T.d_check_field ["q"] (sp_check_field K) := by
  refine T.F_check_field.ok sc_check_field (fun vs H Q E h => ?_) (fun cdv A outer s H vs Q E hr h => ?_)
  · obtain ⟨q, rfl, _⟩ := h
    rfl
  · obtain ⟨q, rfl, hq, k⟩ := h
    refine ⟨_, (pss_one (ps_if (pt_not (pt_val (pe_call (ok_is_field T) (hr.mono (by decide)) (by rfl) T.g_is_field T.F_is_field.kp T.b_is_field .nil pass0 (pa_cons (pv 0) pa_nil)))) (pss_one ps_never) pss_nil)), ?_⟩
    exact s_when (et_not (et_B (ev_call (ea_cons (ev_var rfl) ea_nil) (sv_is_field hq)))) (fun z => nomatch z) (fun _ H1 e1 => k H1 e1)


section
variable {K : PySem.W.Frag} {σ : L2.St} {H H' : Hp} {te : TE}
theorem el_slN {tl th : TO} {xs : List V} {lo hi : Option Int} (h : EvL te σ H xs) (h1 : EvO tl σ H lo) (h2 : EvO th σ H hi) : EvL (tSl (rSlL K) te tl th) σ H (cutV xs lo hi) := fun H1 e _ q =>
  h H1 e _ fun a H2 _ e2 hx => h1 H2 (e.trans e2) _ fun H3 e3 => h2 H3 ((e.trans e2).trans e3) _ fun H4 e4 =>
    ⟨a, xs, rfl, sq_of (e4 _ _ (e3 _ _ hx)), fun p hp => q p _ (fresh_back ((e2.trans e3).trans e4) hp) (((e2.trans e3).trans e4).trans (Ex.new hp)) upd_same⟩
end
theorem ev_minN {K : PySem.W.Frag} {σ : L2.St} {H : Hp} {ta : TE} {ns : List Int} {m : Int} (h : EvL ta σ H (ns.map V.int)) (hm : m ∈ ns) (hl : ∀ y ∈ ns, m ≤ y) : Ev (tCB (rMin K) (tCons ta tNil)) σ H (.int m) := fun H1 e Q q =>
  h H1 e _ fun p H2 _ e2 h2 => ⟨p, ns, rfl, sq_of h2, List.length_pos_of_mem hm, fun m' hm' hl' => by
    have : m' = m := Int.le_antisymm (hl' m hm) (hl m' hm')
    subst this
    exact q H2 e2⟩
def minL : List Nat → Nat
  | [] => 0
  | [x] => x
  | x :: y :: r => min x (minL (y :: r))
theorem minL_mem : ∀ xs : List Nat, xs ≠ [] → minL xs ∈ xs
  | [], h => absurd rfl h
  | [x], _ => List.mem_cons_self ..
  | x :: y :: r, _ => by
    have ih := minL_mem (y :: r) (by simp)
    show min x (minL (y :: r)) ∈ x :: y :: r
    rcases Nat.le_total x (minL (y :: r)) with h | h
    · rw [Nat.min_eq_left h]
      exact List.mem_cons_self ..
    · rw [Nat.min_eq_right h]
      exact List.mem_cons_of_mem _ ih
theorem minL_le : ∀ (xs : List Nat) (y : Nat), y ∈ xs → minL xs ≤ y
  | [], y, h => by simp at h
  | [x], y, h => by
    rw [List.mem_singleton.mp h]
    exact Nat.le_refl _
  | x :: z :: r, y, h => by
    show min x (minL (z :: r)) ≤ y
    rcases List.mem_cons.mp h with h | h
    · rw [h]
      exact Nat.min_le_left _ _
    · exact Nat.le_trans (Nat.min_le_right _ _) (minL_le (z :: r) y h)
def ssL (q k : Nat) : List Nat := (List.range (poE q)).map fun j => ds q (prE q ^ j * k)
def mpN (q k : Nat) : Nat := minL (ssL q k) / (q - 1)
theorem ssL_len (q k : Nat) : (ssL q k).length = poE q := by unfold ssL; rw [List.length_map, List.length_range]
theorem given_range (n : Nat) (v : Nat → V) : given n (fun _ => true) v = (List.range n).map v := by
  unfold given
  rw [List.filter_eq_self.mpr (fun _ _ => rfl)]
theorem p49 {q j : Nat} (hq : Fq q) (hj : j ≤ 2) : prE q ^ j ≤ 49 := Nat.le_trans (Nat.pow_le_pow_left (t0_of hq).p7 j) (Nat.le_trans (Nat.pow_le_pow_right (by decide) hj) (by decide))
theorem gt_pk {q j k : Nat} (hq : Fq q) (hj : j ≤ 2) (hk : k < 10 ^ 60) : Gt (prE q ^ j * k) := Nat.lt_of_le_of_lt (Nat.mul_le_mul (p49 hq hj) (Nat.le_of_lt hk)) (by decide +kernel)
def sp_shift_sum_list (K : PySem.W.Frag) : Sp := fun vs H Q _ => ∃ (q k : Nat), vs = [N_ q, N_ k] ∧ Fq q ∧ k < 10 ^ 60 ∧ RetL ((ssL q k).map N_) H Q
theorem sv_shift_sum_list {K : PySem.W.Frag} {H : Hp} {q k : Nat} (hq : Fq q) (hk : k < 10 ^ 60) : SpL (sp_shift_sum_list K) [N_ q, N_ k] H ((ssL q k).map N_) := fun H1 e Q kk E => ⟨q, k, rfl, hq, hk, kk⟩

theorem ok_shift_sum_list {P : Program} {w : World} {K : PySem.W.Frag} {mg : Str → Option Value} {base : Heap} (T : Txt K mg) : FnOk P w K mg base CX0 3 T.a_shift_sum_list T.d_shift_sum_list ["q", "k"] (sp_shift_sum_list K) := by
  refine T.F_shift_sum_list.ok sc_shift_sum_list (fun vs H Q E h => ?_) (fun cdv A outer s H vs Q E hr h => ?_)
  · obtain ⟨q, k, rfl, _⟩ := h
    rfl
  · obtain ⟨q, k, rfl, hq, hk, kk⟩ := h
    refine ⟨_, (pss_one (ps_ret (pe_slice sl_list (pe_lc (own := [("j", 2)]) (g := gName 2) rfl sc_shift_sum_list.nd (pi_range2 rfl T.z_range (pa_cons pe_int (pa_cons pe_int pa_nil))) (blkOk_by (N := ["q", "k", "j"]) (sc := defScope s_shift_sum_list) (by decide +kernel)) (fun _ _ _ _ _ => pg_name (i := 2) sc_shift_sum_list.nd rfl (Or.inl rfl)) (fun _ _ _ _ _ => pts_nil) (fun _ _ _ _ _ => (pe_call (ok_digit_total T) (hr.mono (by decide)) (by rfl) T.g_digit_total T.F_digit_total.kp T.b_digit_total .nil pass0 (pa_cons (pv 0) (pa_cons (pe_op op_mulW (pe_op op_powW (pe_ix (r := rIxW K) ix_tab (pe_glob (v := .ref T.a_PRIMES) (by rfl) T.g_PRIMES rfl) (pv 0) (fun _ _ => rfl)) (pv 2)) (pv 1)) pa_nil))))) po_none (po_some (pe_ix (r := rIxW K) ix_tab (pe_glob (v := .ref T.a_POWERS) (by rfl) T.g_POWERS rfl) (pv 0) (fun _ _ => rfl)))))), ?_⟩
    have ht := t0_of hq
    refine s_retL (el_is (el_slN (el_lcR2 (lo := 0) (n := 3) (fun _ => true) (fun j => N_ (ds q (prE q ^ j * k))) (ea_cons ev_c (ea_cons ev_c ea_nil)) (by decide) (fun _ => rfl) (fun _ _ _ _ => et_nil) (fun j H1 e1 hj _ => ?_)) eo_none (eo_some (ev_tab0 T.w_POWERS ht.po (ev_var rfl)))) ?_) fun p H2 np e2 h2 => kk p H2 np e2 h2
    · rw [Int.zero_add]
      have hj2 : j ≤ 2 := by omega
      have hp := p49 hq hj2
      refine ev_call (ea_cons (ev_var rfl) (ea_cons (ev_is (ev_op (ev_op (ev_tab0 T.w_PRIMES ht.pr (ev_var rfl)) (ev_var rfl) (rv_I ⟨by omega, by omega, Nat.lt_of_le_of_lt (show prE q ≤ 7 from ht.p7) (Nat.lt_of_lt_of_le (show 7 < 2 ^ 3 by decide) (Nat.pow_le_pow_right (by decide) (by decide : 3 ≤ 1000)))⟩)) (ev_var rfl) (rv_I (wide_mul (a := 10) (b := 200) ?_ (Nat.lt_trans hk (by decide)) (by decide) (by decide) (by decide)))) (congrArg V.int ?_)) ea_nil)) (sv_digit_total (n := prE q ^ j * k) hq.bs (gt_pk hq hj2 hk))
      · rw [Int.toNat_natCast, ← Int.natCast_pow]
        show prE q ^ j < 1024
        omega
      · rw [Int.toNat_natCast, Int.natCast_mul, Int.natCast_pow]
    · rw [cutTake, given_range]
      unfold ssL
      show ((List.range 3).map _).take _ = _
      rw [← List.map_take, List.take_range, Nat.min_eq_left ht.f3, List.map_map]
      rfl


def sp_parts_bound (K : PySem.W.Frag) : Sp := fun vs H Q _ => ∃ (q k : Nat), vs = [N_ q, N_ k] ∧ Fq q ∧ k < 10 ^ 60 ∧ RetV (N_ (mpN q k)) H Q
theorem sv_parts_bound {K : PySem.W.Frag} {H : Hp} {q k : Nat} (hq : Fq q) (hk : k < 10 ^ 60) : SpV (sp_parts_bound K) [N_ q, N_ k] H (N_ (mpN q k)) := fun H1 e Q kk E => ⟨q, k, rfl, hq, hk, kk⟩
theorem ssL_ne {q k : Nat} (hq : Fq q) : ssL q k ≠ [] := fun z => by
  have h := ssL_len q k
  rw [z] at h
  have := (t0_of hq).f1
  have e : ([] : List Nat).length = 0 := rfl
  omega
theorem ev_minS {K : PySem.W.Frag} {σ : L2.St} {H : Hp} {ta : TE} {xs : List Nat} (h : EvL ta σ H (xs.map N_)) (hn : xs ≠ []) : Ev (tCB (rMin K) (tCons ta tNil)) σ H (N_ (minL xs)) :=
  ev_minN (ns := xs.map Int.ofNat) (m := ((minL xs : Nat) : Int)) (el_is h (mapN xs)) (List.mem_map.mpr ⟨minL xs, minL_mem xs hn, rfl⟩) fun y hy => by
    obtain ⟨z, hz, rfl⟩ := List.mem_map.mp hy
    exact Int.ofNat_le.mpr (minL_le xs z hz)

theorem ok_parts_bound {P : Program} {w : World} {K : PySem.W.Frag} {mg : Str → Option Value} {base : Heap} (T : Txt K mg) : FnOk P w K mg base CX0 4 T.a_parts_bound T.d_parts_bound ["q", "k"] (sp_parts_bound K) := by
  refine T.F_parts_bound.ok sc_parts_bound (fun vs H Q E h => ?_) (fun cdv A outer s H vs Q E hr h => ?_)
  · obtain ⟨q, k, rfl, _⟩ := h
    rfl
  · obtain ⟨q, k, rfl, hq, hk, kk⟩ := h
    refine ⟨_, (pss_one (ps_ret (pe_op op_fdivW (pe_callB (cr_min rfl) (by rfl) T.z_min (by decide +kernel) (pa_cons (pe_call (ok_shift_sum_list T) (hr.mono (by decide)) (by rfl) T.g_shift_sum_list T.F_shift_sum_list.kp T.b_shift_sum_list .nil pass0 (pa_cons (pv 0) (pa_cons (pv 1) pa_nil))) pa_nil)) (pe_op op_sub (pv 0) pe_int)))), ?_⟩
    have hb := hq.b
    refine s_ret (ev_is (ev_op (ev_minS (el_call (ea_cons (ev_var rfl) (ea_cons (ev_var rfl) ea_nil)) (sv_shift_sum_list hq hk)) (ssL_ne hq)) (ev_op (ev_var rfl) ev_c rv_I0) (rv_I (wide_div (b := 10) (by omega) (by show Int.natAbs ((q : Int) - 1) < 1024; omega) (by decide) (by decide)))) (congrArg V.int ?_)) fun H1 e1 => kk H1 e1
    rw [show ((q : Int) - 1) = ((q - 1 : Nat) : Int) by omega]
    rfl


def sp_shift_sums (K : PySem.W.Frag) : Sp := fun vs H Q _ => ∃ (q k : Nat), vs = [N_ q, N_ k] ∧ Fq q ∧ k < 10 ^ 60 ∧ RetU ((ssL q k).map N_) H Q
theorem sv_shift_sums {K : PySem.W.Frag} {H : Hp} {q k : Nat} (hq : Fq q) (hk : k < 10 ^ 60) : SpU (sp_shift_sums K) [N_ q, N_ k] H ((ssL q k).map N_) := fun H1 e Q kk E => ⟨q, k, rfl, hq, hk, kk⟩
def sp_most_parts (K : PySem.W.Frag) : Sp := fun vs H Q _ => ∃ (q k : Nat), vs = [N_ q, N_ k] ∧ Fq q ∧ k < 10 ^ 60 ∧ RetV (N_ (mpN q k)) H Q
theorem sv_most_parts {K : PySem.W.Frag} {H : Hp} {q k : Nat} (hq : Fq q) (hk : k < 10 ^ 60) : SpV (sp_most_parts K) [N_ q, N_ k] H (N_ (mpN q k)) := fun H1 e Q kk E => ⟨q, k, rfl, hq, hk, kk⟩



theorem pfq {q : Nat} (h : Fq q) : PFq (prE q) (poE q) := by
  unfold Fq FQ at h
  simp only [List.mem_cons, List.not_mem_nil, or_false] at h
  rcases h with rfl | rfl | rfl | rfl | rfl | rfl | rfl
  · exact .one (by decide)
  · exact .one (by decide)
  · exact .four
  · exact .one (by decide)
  · exact .one (by decide)
  · exact .eight
  · exact .nine
def wtR (q : Nat) : List (List Int) := (List.range (poE q)).map fun t => (List.range (poE q)).map fun j => ((wt (prE q) (poE q) j t : Nat) : Int)
theorem chk_w : chkAll (fun q => decide (W_WEIGHTS.lookup (q : Int) = some (wtR q))) = true := by decide +kernel
/-- the rows of weights, written at the program's top -/
structure Wts (K : PySem.W.Frag) (q : Nat) (a : Addr) (rs : List Addr) : Prop where
  sq : ∀ H, SqT K H a (rs.map V.ref)
  ln : rs.length = poE q
  rw : ∀ (H : Hp) (t : Nat), t < poE q → SqT K H (rs.getD t 0) ((wl (prE q) (poE q) t).map N_)
theorem wts_get {K : PySem.W.Frag} {d : Addr} {q : Nat} (hq : Fq q) (h : tab2 K d = some W_WEIGHTS) : ∃ (a : Addr) (rs : List Addr), Wts K q a rs ∧ ∀ H, RV (rIxW K) (.ref d) (N_ q) H (.ref a) := by
  have hl := of_decide_eq_true (chk_get chk_w hq)
  obtain ⟨a, rs, hs, hr⟩ := tab2_get h hl
  have hlen : rs.length = poE q := by
    rw [(hs (fun _ => none)).2.1]
    unfold wtR
    rw [List.length_map, List.length_range]
  refine ⟨a, rs, ⟨fun H => (hs H).1, hlen, fun H t ht => ?_⟩, hr⟩
  have h1 := (hs H).2.2 t (rs.getD t 0) ((List.range (poE q)).map fun j => ((wt (prE q) (poE q) j t : Nat) : Int)) (by rw [List.getElem?_eq_getElem (by omega), List.getD_eq_getElem?_getD, List.getElem?_eq_getElem (by omega)]; rfl) (by unfold wtR; rw [List.getElem?_map, List.getElem?_range ht]; rfl)
  unfold wl
  rw [List.map_map] at h1 ⊢
  exact h1
theorem wl_get {p f j a : Nat} (h : j < f) : (wl p f a)[j]? = some (wt p f j a) := by
  unfold wl
  rw [List.getElem?_map, List.getElem?_range h]
  rfl
theorem wl_mod (p f a : Nat) : wl p f (a % f) = wl p f a := by
  unfold wl
  refine List.map_congr_left fun j _ => ?_
  rw [wt_mod p f j a]
  unfold wt
  rfl
theorem wt_le {q j a : Nat} (hq : Fq q) : 0 < wt (prE q) (poE q) j a ∧ wt (prE q) (poE q) j a ≤ 49 := by
  have ht := t0_of hq
  refine ⟨Nat.pow_pos (by have := ht.p2; omega), ?_⟩
  have h1 : (a + j) % poE q < poE q := Nat.mod_lt _ ht.f1
  exact Nat.le_trans (Nat.pow_le_pow_left ht.p7 _) (Nat.le_trans (Nat.pow_le_pow_right (by decide) (show (a + j) % poE q ≤ 2 by have := ht.f3; omega)) (by decide))
theorem len_wl (p f a : Nat) : (wl p f a).length = f := by unfold wl; rw [List.length_map, List.length_range]
section
variable {K : PySem.W.Frag} {σ : L2.St} {H H' : Hp} {te ta : TE} {D : Ends} {tu tz : TS}
theorem el_revV {a : Addr} {xs : List V} (h : Ev te σ H (.ref a)) (hx : SqL K H a xs) : EvL (tRevL K te) σ H xs.reverse := fun H1 e Q q =>
  h H1 e _ fun H2 e2 => ⟨a, xs, rfl, ex_l (e.trans e2) hx, fun l hl => q l _ (fresh_back e2 hl) (e2.trans (Ex.new hl)) upd_same⟩
theorem q_forEV {a : Addr} {xs : List V} {i1 i2 : Nat} (h : Ev ta σ H (.ref a)) (hx : SqL K H a xs) (Pv : Nat → L2.St → Hp → Prop) (h0 : ∀ H1, Ex H H1 → Pv 0 σ H1) (hl : ∀ i σ' H', i ≤ xs.length → Pv i σ' H' → SqL K H' a xs)
    (hs : ∀ i x σ' H' H2, xs[i]? = some x → Pv i σ' H' → Ex H' H2 → tu { D with nx := Pv (i + 1), ct := Pv (i + 1), bk := tz D } ((σ'.set i1 (some (.int (i : Nat)))).set i2 (some x)) H2) (hd : ∀ σ' H', Pv xs.length σ' H' → tz D σ' H') :
    tSeq (tFor (iEnum K (tCons ta tNil)) (gTup K 2 (gCons (gName i1) (gCons (gName i2) gNil))) tu) tz D σ H :=
  h H (Ex.refl H) _ fun H1 e => ⟨a, xs, rfl, ex_l e hx, for_enum (xs := xs) (D := { D with nx := tz D }) Pv (h0 H1 e) hl (fun i x T σ' H' hx hp nT => ⟨T, [.int (i : Nat), x], rfl, st_of upd_same, rfl, .int (i : Nat), [x], rfl, x, [], rfl, rfl, hs i x σ' H' _ hx hp (Ex.new nT)⟩) hd⟩
theorem ev_minVn {a : Addr} {xs : List Nat} (h : Ev ta σ H (.ref a)) (hx : SqL K H a (xs.map N_)) (hn : xs ≠ []) : Ev (tCB (rMin K) (tCons ta tNil)) σ H (N_ (minN xs)) := fun H1 e Q q =>
  h H1 e _ fun H2 e2 => ⟨a, xs.map Int.ofNat, rfl, by rw [← mapN]; exact ex_l (e.trans e2) hx, by rw [List.length_map]; exact List.length_pos_iff.mpr hn, fun m' hm' hl' => by
    obtain ⟨z, hz, rfl⟩ := List.mem_map.mp hm'
    have h1 := minN_le xs z hz
    have h2 := Int.ofNat_le.mp (hl' _ (List.mem_map.mpr ⟨minN xs, minN_mem xs hn, rfl⟩))
    have : z = minN xs := by omega
    subst this
    exact q H2 e2⟩
theorem ev_minNn {xs : List Nat} (h : EvL ta σ H (xs.map N_)) (hn : xs ≠ []) : Ev (tCB (rMin K) (tCons ta tNil)) σ H (N_ (minN xs)) :=
  ev_minN (ns := xs.map Int.ofNat) (m := ((minN xs : Nat) : Int)) (el_is h (mapN xs)) (List.mem_map.mpr ⟨minN xs, minN_mem xs hn, rfl⟩) fun y hy => by
    obtain ⟨z, hz, rfl⟩ := List.mem_map.mp hy
    exact Int.ofNat_le.mpr (minN_le xs z hz)
end
def spL (q : Nat) (xs : List Nat) (m : Nat) : List Nat := (List.range (poE q)).map fun j => sj (prE q) (poE q) j (hdR xs xs.length) - (q - 1) * m
def sp_spare_sums (K : PySem.W.Frag) : Sp := fun vs H Q _ => ∃ (q m : Nat) (a : Addr) (xs : List Nat), vs = [N_ q, .ref a, N_ m] ∧ Fq q ∧ SqL K H a (xs.map N_) ∧ xs.length ≤ 400 ∧ (∀ d ∈ xs, d < prE q) ∧ m ≤ 300 ∧ (∀ j, j < poE q → (q - 1) * m ≤ sj (prE q) (poE q) j (hdR xs xs.length)) ∧ RetL ((spL q xs m).map N_) H Q
theorem sv_spare_sums {K : PySem.W.Frag} {H : Hp} {q m : Nat} {a : Addr} {xs : List Nat} (hq : Fq q) (hx : SqL K H a (xs.map N_)) (hl : xs.length ≤ 400) (hd : ∀ d ∈ xs, d < prE q) (hm : m ≤ 300) (h : ∀ j, j < poE q → (q - 1) * m ≤ sj (prE q) (poE q) j (hdR xs xs.length)) : SpL (sp_spare_sums K) [N_ q, .ref a, N_ m] H ((spL q xs m).map N_) := fun H1 e Q kk E => ⟨q, m, a, xs, rfl, hq, ex_l e hx, hl, hd, hm, h, kk⟩
theorem strd_sub (f : Nat) : ∀ (xs : List Nat) (t d : Nat), d ∈ strd f t xs → d ∈ xs
  | [], t, d, h => by rw [strd_nil] at h; exact h
  | x :: r, 0, d, h => by
    rcases List.mem_cons.mp h with h | h
    · rw [h]; exact List.mem_cons_self ..
    · exact List.mem_cons_of_mem _ (strd_sub f r (f - 1) d h)
  | x :: r, t + 1, d, h => List.mem_cons_of_mem _ (strd_sub f r t d h)
theorem strd_len (f : Nat) : ∀ (xs : List Nat) (t : Nat), (strd f t xs).length ≤ xs.length
  | [], t => by rw [strd_nil]; exact Nat.le_refl _
  | x :: r, 0 => Nat.succ_le_succ (strd_len f r (f - 1))
  | x :: r, t + 1 => Nat.le_succ_of_le (strd_len f r t)
theorem sumI (g : Nat → Nat) (n : Nat) : ((List.range n).map fun t => ((g t : Nat) : Int)).sum = ((((List.range n).map g).sum : Nat) : Int) := by
  rw [← sumN, List.map_map]
  rfl

theorem ok_spare_sums {P : Program} {w : World} {K : PySem.W.Frag} {mg : Str → Option Value} {base : Heap} (T : Txt K mg) : FnOk P w K mg base CX0 1 T.a_spare_sums T.d_spare_sums ["q", "row", "many"] (sp_spare_sums K) := by
  refine T.F_spare_sums.ok sc_spare_sums (fun vs H Q E h => ?_) (fun cdv A outer s H vs Q E hr h => ?_)
  · obtain ⟨q, m, a, xs, rfl, _⟩ := h
    rfl
  · obtain ⟨q, m, a, xs, rfl, hq, hx, hl, hxs, hm, hm2, kk⟩ := h
    refine ⟨_, (pss_cons (ps_set (i := 3) sc_spare_sums.nd rfl (Or.inr rfl) (pe_ix (r := rIxW K) ix_tab (pe_glob (v := .ref T.a_WEIGHTS) (by rfl) T.g_WEIGHTS rfl) (pv 0) (fun _ _ => rfl)))
      (pss_cons (ps_set (i := 4) sc_spare_sums.nd rfl (Or.inr rfl) (pe_lc (own := [("t", 5)]) (g := gName 5) rfl sc_spare_sums.nd (pi_range1 rfl T.z_range (pa_cons (pe_callB (r := rLenQ K) call_len_seq (by rfl) T.z_len (by decide +kernel) (pa_cons (pv 3) pa_nil)) pa_nil)) (blkOk_by (N := ["q", "row", "many", "classes", "shares", "t", "share", "weights", "j"]) (sc := defScope s_spare_sums) (by decide +kernel)) (fun _ _ _ _ _ => pg_name (i := 5) sc_spare_sums.nd rfl (Or.inl rfl)) (fun _ _ _ _ _ => pts_nil) (fun _ _ _ _ _ => (pe_callB (r := rSum K) (cr_sum rfl) (by rfl) T.z_sum (by decide +kernel) (pa_cons (pe_sliceSK (K := K) (by rfl) (pv 1) (po_some (pv 5)) (po_some (pe_callB (r := rLenQ K) call_len_seq (by rfl) T.z_len (by decide +kernel) (pa_cons (pv 3) pa_nil)))) pa_nil)))))
      (pss_one (ps_ret (pe_lc (own := [("j", 8)]) (g := gName 8) rfl sc_spare_sums.nd (pi_range1 rfl T.z_range (pa_cons (pe_callB (r := rLenQ K) call_len_seq (by rfl) T.z_len (by decide +kernel) (pa_cons (pv 3) pa_nil)) pa_nil)) (blkOk_by (N := ["q", "row", "many", "classes", "shares", "t", "share", "weights", "j"]) (sc := defScope s_spare_sums) (by decide +kernel)) (fun _ _ _ _ _ => pg_name (i := 8) sc_spare_sums.nd rfl (Or.inr rfl)) (fun _ _ _ _ _ => pts_nil) (fun _ _ _ _ _ => (pe_op op_sub (pe_callB (r := rSum K) (cr_sum rfl) (by rfl) T.z_sum (by decide +kernel) (pa_cons (pe_lc (own := [("share", 6), ("weights", 7)]) (g := (gTup K 2 (gCons (gName 6) (gCons (gName 7) gNil)))) rfl sc_spare_sums.nd (pi_zipMK (K := K) (by rfl) (by rfl) T.z_zip (pa_cons (pv 4) (pa_cons (pv 3) pa_nil))) (blkOk_by (by kernel_rfl)) (fun _ _ _ _ _ => (pg_tup (by rfl) (pgs_cons (pg_name (i := 6) sc_spare_sums.nd rfl (Or.inl rfl)) (pgs_cons (pg_name (i := 7) sc_spare_sums.nd rfl (Or.inl rfl)) pgs_nil)))) (fun _ _ _ _ _ => pts_nil) (fun _ _ _ _ _ => (pe_op op_mulW (pv 6) (pe_ix (r := rIxT K) ix_tup (pv 7) (pv 8) (fun _ _ => rfl))))) pa_nil)) (pe_op op_mulW (pe_op op_sub (pv 0) pe_int) (pv 2))))))))), ?_⟩
    have ht := t0_of hq
    have hqb := hq.b
    obtain ⟨wa, rs, W, hrv⟩ := wts_get hq T.w_WEIGHTS
    have hf3 := ht.f3
    have hf1 := ht.f1
    have hrl : (rs.map V.ref).length = poE q := by rw [List.length_map, W.ln]
    have hsh : ∀ t, (strd (poE q) t xs).sum ≤ 2800 := fun t => by
      have h1 := sum_bound (m := 7) (strd (poE q) t xs) fun d hd => Nat.lt_of_lt_of_le (hxs d (strd_sub _ xs t d hd)) ht.p7
      have h2 := strd_len (poE q) xs t
      omega
    refine q_asg (ev_op ev_c (ev_var rfl) (hrv H)) fun H1 e1 => ?_
    refine q_asgL (xs := ((List.range (poE q)).map fun t => (strd (poE q) t xs).sum).map N_) (el_is (el_lcR1 (n := (poE q : Int)) (fun _ => true) (fun t => N_ (strd (poE q) t xs).sum) (ea_cons (ev_is (ev_cb (r := rLenQ K) (ea_cons (ev_var rfl) ea_nil) (rc_lenT (W.sq _))) (by rw [hrl])) ea_nil) ⟨by omega, by omega⟩ (fun _ => rfl) (fun _ _ _ _ => et_nil) (fun t H2 e2 ht2 _ => ?_)) ?_) fun sh H2 nsh e2 h2 => ?_
    · refine ev_is (ev_sumN (K := K) (ns := (strd (poE q) t xs).map Int.ofNat) (el_is (el_slS (K := K) (ev_var rfl) (eo_some (ev_var rfl)) (eo_some (ev_is (ev_cb (r := rLenQ K) (ea_cons (ev_var rfl) ea_nil) (rc_lenT (W.sq _))) (by rw [hrl]))) (by omega) (ex_l (e1.trans e2) hx)) ?_)) (congrArg V.int (sumN _))
      rw [pick_map, pick_strd _ (by omega), mapN]
    · rw [Int.toNat_natCast, given_range, List.map_map]
      rfl
    refine s_retL (el_is (el_lcR1 (n := (poE q : Int)) (fun _ => true) (fun j => N_ (sj (prE q) (poE q) j (hdR xs xs.length) - (q - 1) * m)) (ea_cons (ev_is (ev_cb (r := rLenQ K) (ea_cons (ev_var rfl) ea_nil) (rc_lenT (W.sq _))) (by rw [hrl])) ea_nil) ⟨by omega, by omega⟩ (fun _ => rfl) (fun _ _ _ _ => et_nil) (fun j H3 e3 hj _ => ?_)) ?_) fun p H3 np e3 h3 => kk p H3 (fresh_back (e1.trans e2) np) ((e1.trans e2).trans e3) h3
    · have hjf : j < poE q := by omega
      have hle := hm2 j hjf
      refine ev_is (ev_op (ev_is (ev_sumN (K := K) (ns := (List.range (poE q)).map fun t => (((strd (poE q) t xs).sum * wt (prE q) (poE q) j t : Nat) : Int)) (el_is (el_lcZM (K := K) (fun _ => true) (fun t => N_ ((strd (poE q) t xs).sum * wt (prE q) (poE q) j t)) (ea_cons (ev_var rfl) (ea_cons (ev_var rfl) ea_nil)) (sq_of (e3 _ _ h2)) (W.sq _) (by simp; omega) (fun _ _ => rfl) (fun _ _ _ _ _ _ _ => et_nil) (fun t x y H4 e4 hx4 hy4 _ => ?_)) ?_)) (w := N_ (sj (prE q) (poE q) j (hdR xs xs.length))) (congrArg V.int ?_)) (ev_op (ev_op (ev_var rfl) ev_c rv_I0) (ev_var rfl) (rv_I (wide_mul (a := 10) (b := 10) (by show Int.natAbs ((q : Int) - 1) < 1024; omega) (by show m < 1024; omega) (by decide) (by decide) (by decide)))) rv_I0) (congrArg V.int ?_)
      · rw [List.getElem?_map] at hx4 hy4
        obtain ⟨s, hs, rfl⟩ := Option.map_eq_some_iff.mp hx4
        obtain ⟨r, hr4, rfl⟩ := Option.map_eq_some_iff.mp hy4
        have htf : t < poE q := by rw [← W.ln]; exact (List.getElem?_eq_some_iff.mp hr4).1
        rw [List.getElem?_map, List.getElem?_range htf] at hs
        cases hs
        have hrr : r = rs.getD t 0 := by
          rw [List.getD_eq_getElem?_getD, hr4]
          rfl
        have hw := W.rw H4 t htf
        rw [← hrr] at hw
        have hwl := (wt_le (j := j) (a := t) hq).2
        have := hsh t
        exact ev_is (ev_op (ev_var rfl) (ev_op (ev_var rfl) (ev_var rfl) (rv_ixT hw (atI_nat (by rw [List.getElem?_map, wl_get hjf]; rfl)))) (rv_I (wide_mul (a := 20) (b := 10) (by show (strd (poE q) t xs).sum < 2 ^ 20; omega) (by show wt (prE q) (poE q) j t < 1024; omega) (by decide) (by decide) (by decide)))) (congrArg V.int (by rw [Int.natCast_mul]))
      · rw [List.length_map, List.length_map, List.length_range, hrl, Nat.min_self, given_range, List.map_map]
        rfl
      · rw [sumI, spare_eq hf1 xs]
      · rw [show ((q : Int) - 1) = ((q - 1 : Nat) : Int) by omega, ← Int.natCast_mul]
        omega
    · rw [Int.toNat_natCast, given_range]
      unfold spL
      rw [List.map_map]
      rfl


end Own
namespace Own
open PySem PySem.Spec PyProof.Rows L2 Evl

def sp_less_digit (K : PySem.W.Frag) : Sp := fun vs H Q _ => ∃ (n : Nat) (l t : Addr) (is : List Int) (ws : List Nat), vs = [.ref l, .ref t, N_ n] ∧ is.length = ws.length ∧ is.length ≤ 3 ∧ n < 1000 ∧ (∀ w ∈ ws, w < 1000) ∧ SqL K H l (is.map V.int) ∧ SqT K H t (ws.map N_) ∧ RetL ((lessI is ws n).map V.int) H Q
theorem sv_less_digitI {K : PySem.W.Frag} {H : Hp} {n : Nat} {l t : Addr} {is : List Int} {ws : List Nat} (h1 : is.length = ws.length) (h2 : is.length ≤ 3) (h3 : n < 1000) (h4 : ∀ w ∈ ws, w < 1000) (h5 : SqL K H l (is.map V.int)) (h6 : SqT K H t (ws.map N_)) : SpL (sp_less_digit K) [.ref l, .ref t, N_ n] H ((lessI is ws n).map V.int) := fun H1 e Q kk E => ⟨n, l, t, is, ws, rfl, h1, h2, h3, h4, ex_l e h5, ex_t e h6, kk⟩
theorem get_sp {sp : List Nat} {j : Nat} (h : j < sp.length) : (sp.map N_)[j]? = some (N_ (sp.getD j 0)) := by
  rw [List.getElem?_map, getD_get h]
  rfl
theorem less_nat {p f n a : Nat} {sp : List Nat} (h1 : sp.length = f) (h7 : ∀ j, j < f → n * wt p f j a ≤ sp.getD j 0) : (lessI (sp.map Int.ofNat) (wl p f a) n).map V.int = (lessN p f n a sp).map N_ := by
  refine List.ext_getElem? fun j => ?_
  unfold lessI lessN
  rw [List.getElem?_map, List.getElem?_zipWith, List.getElem?_map, List.map_map, List.getElem?_map]
  by_cases hj : j < f
  · have h8 := h7 j hj
    rw [wl_get hj, List.getElem?_range hj, getD_get (show j < sp.length by omega)]
    show some (V.int (((sp.getD j 0 : Nat) : Int) - (n : Int) * ((wt p f j a : Nat) : Int))) = some (V.int ((sp.getD j 0 - n * wt p f j a : Nat) : Int))
    rw [← Int.natCast_mul]
    congr 2
    omega
  · rw [List.getElem?_eq_none (l := List.range f) (by rw [List.length_range]; omega), List.getElem?_eq_none (l := sp) (by omega)]
    rfl
theorem sv_less_digit {K : PySem.W.Frag} {H : Hp} {p f n a : Nat} {l t : Addr} {sp : List Nat} (h1 : sp.length = f) (h2 : f ≤ 3) (h3 : n < 1000) (h4 : ∀ j, j < f → wt p f j a < 1000) (h5 : SqL K H l (sp.map N_)) (h6 : SqT K H t ((wl p f a).map N_)) (h7 : ∀ j, j < f → n * wt p f j a ≤ sp.getD j 0) : SpL (sp_less_digit K) [.ref l, .ref t, N_ n] H ((lessN p f n a sp).map N_) := fun H1 e Q kk E =>
  ⟨n, l, t, sp.map Int.ofNat, wl p f a, rfl, by rw [List.length_map, len_wl, h1], by rw [List.length_map]; omega, h3, fun w hw => by
    unfold wl at hw
    obtain ⟨j, hj, rfl⟩ := List.mem_map.mp hw
    exact h4 j (List.mem_range.mp hj), by rw [← mapN]; exact ex_l e h5, ex_t e h6, by rw [less_nat h1 h7]; exact kk⟩

theorem ok_less_digit {P : Program} {w : World} {K : PySem.W.Frag} {mg : Str → Option Value} {base : Heap} (T : Txt K mg) : FnOk P w K mg base CX0 1 T.a_less_digit T.d_less_digit ["spare", "weights", "digit"] (sp_less_digit K) := by
  refine T.F_less_digit.ok sc_less_digit (fun vs H Q E h => ?_) (fun cdv A outer s H vs Q E hr h => ?_)
  · obtain ⟨n, l, t, is, ws, rfl, _⟩ := h
    rfl
  · obtain ⟨n, l, t, is, ws, rfl, h1, h2, h3, h4, h5, h6, kk⟩ := h
    refine ⟨_, (pss_one (ps_ret (pe_lc (own := [("many", 3), ("weight", 4)]) (g := (gTup K 2 (gCons (gName 3) (gCons (gName 4) gNil)))) rfl sc_less_digit.nd (pi_zipMK (K := K) (by rfl) (by rfl) T.z_zip (pa_cons (pv 0) (pa_cons (pv 1) pa_nil))) (blkOk_by (N := ["spare", "weights", "digit", "many", "weight"]) (sc := defScope s_less_digit) (by decide +kernel)) (fun _ _ _ _ _ => (pg_tup (by rfl) (pgs_cons (pg_name (i := 3) sc_less_digit.nd rfl (Or.inl rfl)) (pgs_cons (pg_name (i := 4) sc_less_digit.nd rfl (Or.inl rfl)) pgs_nil)))) (fun _ _ _ _ _ => pts_nil) (fun _ _ _ _ _ => (pe_op op_sub (pv 3) (pe_op op_mulW (pv 2) (pv 4))))))), ?_⟩
    refine s_retL (el_is (el_lcZM (K := K) (fun _ => true) (fun j => V.int (is.getD j 0 - (n : Int) * ((ws.getD j 0 : Nat) : Int))) (ea_cons (ev_var rfl) (ea_cons (ev_var rfl) ea_nil)) h5 h6 (by rw [List.length_map]; omega) (fun _ _ => rfl) (fun _ _ _ _ _ _ _ => et_nil) (fun j x y H1 e1 hx hy _ => ?_)) ?_) fun q H1 np e1 g1 => kk q H1 np e1 g1
    · rw [List.getElem?_map] at hx hy
      obtain ⟨i, hi, rfl⟩ := Option.map_eq_some_iff.mp hx
      obtain ⟨w, hw, rfl⟩ := Option.map_eq_some_iff.mp hy
      have h9 := h4 w (List.mem_of_getElem? hw)
      rw [List.getD_eq_getElem?_getD, List.getD_eq_getElem?_getD, hi, hw]
      exact ev_op (ev_var rfl) (ev_op (ev_var rfl) (ev_var rfl) (rv_I (wide_mul (a := 10) (b := 10) (by show n < 1024; omega) (by show w < 1024; omega) (by decide) (by decide) (by decide)))) rv_I0
    · rw [List.length_map, List.length_map, ← h1, Nat.min_self, given_range]
      unfold lessI
      refine List.ext_getElem? fun j => ?_
      rw [List.getElem?_map, List.getElem?_map, List.getElem?_zipWith]
      by_cases hj : j < is.length
      · have hj2 : j < ws.length := by omega
        rw [List.getElem?_range hj, List.getElem?_eq_getElem hj, List.getElem?_eq_getElem hj2]
        show some (V.int (is.getD j 0 - (n : Int) * ((ws.getD j 0 : Nat) : Int))) = some (V.int (is[j] - (n : Int) * ((ws[j] : Nat) : Int)))
        rw [List.getD_eq_getElem?_getD, List.getD_eq_getElem?_getD, List.getElem?_eq_getElem hj, List.getElem?_eq_getElem hj2]
        rfl
      · rw [List.getElem?_eq_none (l := List.range is.length) (by rw [List.length_range]; omega), List.getElem?_eq_none (l := is) (by omega)]
        rfl


/-- triples that stand in the heap: digit, weights of its place, worth of its place -/
def Trs (H : Hp) (rs : List Addr) (p f : Nat) (ts : List Addr) (L : PL) : Prop := ts.length = L.length ∧ ∀ (i : Nat) (t : Addr) (x : Nat × Nat), ts[i]? = some t → L[i]? = some x → H t = some (.tup [N_ x.1, .ref (rs.getD (x.2 % f) 0), N_ (p ^ x.2)])
section
variable {H H' : Hp} {rs : List Addr} {p f : Nat} {ts us : List Addr} {L M : PL}
theorem Trs.ex (h : Trs H rs p f ts L) (e : Ex H H') : Trs H' rs p f ts L := ⟨h.1, fun i t x a b => e _ _ (h.2 i t x a b)⟩
theorem Trs.nil : Trs H rs p f [] [] := ⟨rfl, fun i t x a => by simp at a⟩
theorem Trs.snoc (h : Trs H rs p f ts L) {t : Addr} {x : Nat × Nat} (ht : H t = some (.tup [N_ x.1, .ref (rs.getD (x.2 % f) 0), N_ (p ^ x.2)])) : Trs H rs p f (ts ++ [t]) (L ++ [x]) := by
  refine ⟨by rw [List.length_append, List.length_append, h.1]; rfl, fun i u y a b => ?_⟩
  by_cases hi : i < ts.length
  · rw [List.getElem?_append_left hi] at a
    rw [List.getElem?_append_left (by rw [← h.1]; exact hi)] at b
    exact h.2 i u y a b
  · have hlt := (List.getElem?_eq_some_iff.mp a).1
    rw [List.length_append, List.length_singleton] at hlt
    have hie : i = ts.length := by omega
    subst hie
    rw [List.getElem?_append_right (Nat.le_refl _), Nat.sub_self] at a
    rw [List.getElem?_append_right (by rw [h.1]; exact Nat.le_refl _), ← h.1, Nat.sub_self] at b
    cases a
    cases b
    exact ht
theorem Trs.drop (h : Trs H rs p f ts L) (n : Nat) : Trs H rs p f (ts.drop n) (L.drop n) := ⟨by rw [List.length_drop, List.length_drop, h.1], fun i t x a b => by
  rw [List.getElem?_drop] at a b
  exact h.2 _ t x a b⟩
theorem Trs.append (h : Trs H rs p f ts L) (k : Trs H rs p f us M) : Trs H rs p f (ts ++ us) (L ++ M) := by
  refine ⟨by rw [List.length_append, List.length_append, h.1, k.1], fun i t x a b => ?_⟩
  by_cases hi : i < ts.length
  · rw [List.getElem?_append_left hi] at a
    rw [List.getElem?_append_left (by rw [← h.1]; exact hi)] at b
    exact h.2 i t x a b
  · rw [List.getElem?_append_right (by omega)] at a
    rw [List.getElem?_append_right (by rw [← h.1]; omega), ← h.1] at b
    exact k.2 _ t x a b
theorem Trs.reverse (h : Trs H rs p f ts L) : Trs H rs p f ts.reverse L.reverse := by
  refine ⟨by rw [List.length_reverse, List.length_reverse, h.1], fun i t x a b => ?_⟩
  have hi : i < ts.length := by
    have := (List.getElem?_eq_some_iff.mp a).1
    rwa [List.length_reverse] at this
  rw [List.getElem?_reverse hi] at a
  rw [List.getElem?_reverse (by rw [← h.1]; exact hi), ← h.1] at b
  exact h.2 _ t x a b
end
def sp_high_digits (K : PySem.W.Frag) : Sp := fun vs H Q _ => ∃ (q : Nat) (a : Addr) (xs : List Nat), vs = [N_ q, .ref a] ∧ Fq q ∧ SqL K H a (xs.map N_) ∧ xs.length ≤ 300 ∧ (∀ d ∈ xs, d < prE q) ∧ ∀ (rs : List Addr) (p : Addr) (ts : List Addr) (H' : Hp), (∀ (H : Hp) (t : Nat), t < poE q → SqT K H (rs.getD t 0) ((wl (prE q) (poE q) t).map N_)) → Ex H H' → H' p = some (.lst (ts.map V.ref)) → Trs H' rs (prE q) (poE q) ts (hdR xs xs.length) → Q (.ref p) H'
theorem pow_small {p i : Nat} (hp : p ≤ 7) (hi : i ≤ 320) : p ^ i < 2 ^ 1000 := Nat.lt_of_le_of_lt (Nat.pow_le_pow_left (show p ≤ 2 ^ 3 from hp |> fun h => by omega) i) (by rw [← Nat.pow_mul]; exact Nat.pow_lt_pow_right (by decide) (by omega))

theorem ok_high_digits {P : Program} {w : World} {K : PySem.W.Frag} {mg : Str → Option Value} {base : Heap} (T : Txt K mg) : FnOk P w K mg base CX0 1 T.a_high_digits T.d_high_digits ["q", "row"] (sp_high_digits K) := by
  refine T.F_high_digits.ok sc_high_digits (fun vs H Q E h => ?_) (fun cdv A outer s H vs Q E hr h => ?_)
  · obtain ⟨q, a, xs, rfl, _⟩ := h
    rfl
  · obtain ⟨q, a, xs, rfl, hq, hx, hl, hxs, kk⟩ := h
    refine ⟨_, (pss_cons (ps_set (i := 2) sc_high_digits.nd rfl (Or.inl rfl) (pe_ix (r := rIxW K) ix_tab (pe_glob (v := .ref T.a_WEIGHTS) (by rfl) T.g_WEIGHTS rfl) (pv 0) (fun _ _ => rfl)))
      (pss_cons (ps_set (i := 3) sc_high_digits.nd rfl (Or.inl rfl) (pe_lst pa_nil))
      (pss_cons (ps_set (i := 4) sc_high_digits.nd rfl (Or.inl rfl) pe_int)
      (pss_cons (ps_for PassesOwn.never rfl (pi_enum (by rfl) T.z_enumerate (pa_cons (pv 1) pa_nil)) (pg_tup (by rfl) (pgs_cons (pg_name (i := 5) sc_high_digits.nd rfl (Or.inl rfl)) (pgs_cons (pg_name (i := 6) sc_high_digits.nd rfl (Or.inl rfl)) pgs_nil))) (pss_cons (ps_if (pt_cmpR op_gt (pv 6) pe_int (nomark _)) (pss_one (ps_expr (pe_bm PySem.F.plainAttrs_list PySem.F.slot_list_append PySem.F.type_list_append mt_append (pv 3) (pa_cons (pe_tup (pa_cons (pv 6) (pa_cons (pe_ix (r := rIxT K) ix_tup (pv 2) (pe_op op_mod (pv 5) (pe_callB call_len_seq (by rfl) T.z_len (by decide +kernel) (pa_cons (pv 2) pa_nil))) (fun _ _ => rfl)) (pa_cons (pv 4) pa_nil)))) pa_nil)))) pss_nil)
      (pss_one (ps_set (i := 4) sc_high_digits.nd rfl (Or.inl rfl) (pe_op op_mulW (pv 4) (pe_ix (r := rIxW K) ix_tab (pe_glob (v := .ref T.a_PRIMES) (by rfl) T.g_PRIMES rfl) (pv 0) (fun _ _ => rfl)))))))
      (pss_one (ps_ret (pe_revL (pv 3)))))))), ?_⟩
    have ht := t0_of hq
    obtain ⟨wa, rs, W, hrv⟩ := wts_get hq T.w_WEIGHTS
    have hf3 := ht.f3
    have hf1 := ht.f1
    have hp7 := ht.p7
    have hp2 := ht.p2
    have hrl : (rs.map V.ref).length = poE q := by rw [List.length_map, W.ln]
    refine q_asg (ev_op ev_c (ev_var rfl) (hrv H)) fun H1 e1 => ?_
    refine q_asgL (el_lst ea_nil (by decide)) fun fp H2 nf e2 h2 => ?_
    refine q_asg (v := N_ 1) ev_c fun H3 e3 => ?_
    refine q_forEV (ev_var rfl) (ex_l ((e1.trans e2).trans e3) hx) (fun i σ H' => ∃ (ts : List Addr) (y5 y6 : Option V), σ = [some (N_ q), some (.ref a), some (.ref wa), some (.ref fp), some (N_ (prE q ^ i)), y5, y6] ∧ Ex H H' ∧ H' fp = some (.lst (ts.map V.ref)) ∧ Trs H' rs (prE q) (poE q) ts (hdR xs i).reverse)
      (fun H4 e4 => ⟨[], none, none, by rw [Nat.pow_zero]; rfl, ((e1.trans e2).trans e3).trans e4, (e3.trans e4) _ _ h2, Trs.nil⟩) (fun i σ H' _ hw => ?_) (fun i x σ H4 H5 hx4 hw e5 => ?_) (fun σ H4 hw => ?_)
    · obtain ⟨ts, y5, y6, rfl, e4, h4, t4⟩ := hw
      exact ex_l e4 hx
    · obtain ⟨ts, y5, y6, rfl, e4, h4, t4⟩ := hw
      rw [List.getElem?_map] at hx4
      obtain ⟨d, hd, rfl⟩ := Option.map_eq_some_iff.mp hx4
      have hil : i < xs.length := (List.getElem?_eq_some_iff.mp hd).1
      have hdg : xs.getD i 0 = d := by rw [List.getD_eq_getElem?_getD, hd]; rfl
      have h5 := e5 _ _ h4
      have t5 := t4.ex e5
      have hlt : ts.length ≤ i := by
        rw [t4.1, List.length_reverse]
        exact hdR_len xs i
      have eW : ∀ {σ : L2.St} {H1 : Hp}, σ[4]? = some (some (N_ (prE q ^ i))) → σ[0]? = some (some (N_ q)) → Ev (tOp (rI CMulW fun i j => V.int (i * j)) (tVar 4) (tOp (rIxW K) (tC (.ref T.a_PRIMES)) (tVar 0))) σ H1 (N_ (prE q ^ (i + 1))) := fun h1 h0 => ev_is (ev_op (ev_var h1) (ev_tab0 T.w_PRIMES ht.pr (ev_var h0)) (rv_I (wide_mul (a := 1000) (b := 10) (by exact pow_small hp7 (by omega)) (by show prE q < 1024; omega) (by decide) (by decide) (by decide)))) (congrArg V.int (by rw [Nat.pow_succ, Int.natCast_mul]))
      refine q_if (b := decide (0 < (d : Int))) (et_test (ev_op (ev_var rfl) ev_c rv_I0)) (fun hb H6 e6 => ?_) (fun hb H6 e6 => ?_)
      · have hd0 : 0 < d := by have := of_decide_eq_true hb; omega
        have hmod : i % poE q < poE q := Nat.mod_lt _ (by omega)
        refine s_appU (e6 _ _ h5) (ev_var rfl) (eu_tup (ea_cons (ev_var rfl) (ea_cons (ev_op (r := rIxT K) (ev_var rfl) (ev_is (w := N_ (i % poE q)) (ev_op (ev_var rfl) (ev_is (ev_cb (r := rLenQ K) (ea_cons (ev_var rfl) ea_nil) (rc_lenT (W.sq _))) (by rw [hrl])) (rv_I (by omega))) rfl) (rv_ixT (v := .ref (rs.getD (i % poE q) 0)) (W.sq _) (atI_nat (by rw [List.getElem?_map, List.getElem?_eq_getElem (by rw [W.ln]; exact hmod), List.getD_eq_getElem?_getD, List.getElem?_eq_getElem (by rw [W.ln]; exact hmod)]; rfl)))) (ea_cons (ev_var rfl) ea_nil))) (by show 3 ≤ 100000; decide)) (by rw [List.length_map]; omega) fun t H7 nt e7 h7 => ?_
        have nfp : H fp = none := fresh_back e1 nf
        have ne : t ≠ fp := fun z => by
          rw [z, e6 _ _ h5] at nt
          cases nt
        refine s_asg (eW rfl rfl) fun H8 e8 => ⟨ts ++ [t], _, _, rfl, (((e4.trans e5).trans (e6.trans e7)).mut nfp).trans e8, ?_, ?_⟩
        · rw [e8 _ _ upd_same, List.map_append]
          rfl
        · have hnot : ∀ (k : Nat) (u : Addr) (x : Nat × Nat), ts[k]? = some u → (hdR xs i).reverse[k]? = some x → u ≠ fp := fun k u x hu hx' z => by
            have := t5.2 k u x hu hx'
            rw [z, h5] at this
            cases this
          have tt : Trs (upd H7 fp (.lst (ts.map V.ref ++ [.ref t]))) rs (prE q) (poE q) ts (hdR xs i).reverse := ⟨t5.1, fun k u x hu hx' => by
            rw [upd_ne (hnot k u x hu hx')]
            exact e7 _ _ (e6 _ _ (t5.2 k u x hu hx'))⟩
          have := (tt.snoc (t := t) (x := (d, i)) (by rw [upd_ne ne]; exact h7)).ex e8
          rw [show hdR xs (i + 1) = if 0 < xs.getD i 0 then (xs.getD i 0, i) :: hdR xs i else hdR xs i from rfl, if_pos (by omega), hdg, List.reverse_cons]
          exact this
      · have hd0 : d = 0 := by have := of_decide_eq_false hb; omega
        refine s_asg (eW rfl rfl) fun H8 e8 => ⟨ts, _, _, rfl, ((e4.trans e5).trans e6).trans e8, e8 _ _ (e6 _ _ h5), ?_⟩
        rw [show hdR xs (i + 1) = if 0 < xs.getD i 0 then (xs.getD i 0, i) :: hdR xs i else hdR xs i from rfl, if_neg (by omega)]
        exact (t5.ex e6).ex e8
    · obtain ⟨ts, y5, y6, rfl, e4, h4, t4⟩ := hw
      rw [List.length_map] at t4
      refine s_retL (el_revV (ev_var rfl) (sq_of h4)) fun p H5 np e5 h5 => kk rs p ts.reverse H5 W.rw (e4.trans e5) ?_ ?_
      · rw [h5, List.map_reverse]
      · have := (t4.reverse).ex e5
        rw [List.reverse_reverse] at this
        exact this


section
variable {K : PySem.W.Frag} {σ : L2.St} {H H' : Hp} {te ta tb : TE} {t : TT} {D : Ends} {tu tz : TS}
theorem q_whenG {b : Bool} (M : L2.St → Hp → Prop) (h : EvT t σ H b) (h1 : b = true → ∀ H1, Ex H H1 → ∀ N : L2.St → Hp → Prop, (∀ σ' H', M σ' H' → N σ' H') → tu { D with nx := N } σ H1) (h2 : b = false → ∀ H1, Ex H H1 → M σ H1) (k : ∀ σ' H', M σ' H' → tz D σ' H') : tSeq (tIfS t tu tNext) tz D σ H :=
  q_when h (fun hb H1 e1 => h1 hb H1 e1 (tz D) k) (fun hb H1 e1 => k _ _ (h2 hb H1 e1))
theorem q_tup3V {i j l : Nat} {T : Addr} {x y z : V} (h : Ev te σ H (.ref T)) (hT : SqT K H T [x, y, z]) (k : ∀ H1, Ex H H1 → tz D (((σ.set i (some x)).set j (some y)).set l (some z)) H1) : tSeq (tAsg te (gTup K 3 (gCons (gName i) (gCons (gName j) (gCons (gName l) gNil))))) tz D σ H :=
  h H (Ex.refl H) _ fun H1 e1 => ⟨T, [x, y, z], rfl, ex_t e1 hT, rfl, x, [y, z], rfl, y, [z], rfl, z, [], rfl, rfl, k H1 e1⟩
theorem el_catN {xs ys : List V} (h : EvL ta σ H xs) (h2 : EvL tb σ H ys) (hz : xs.length + ys.length ≤ 100000) : EvL (tOp rCat ta tb) σ H (xs ++ ys) := fun H1 e Q q =>
  h H1 e _ fun p H2 np e2 hp => h2 H2 (e.trans e2) _ fun p2 H3 np2 e3 hp2 => ⟨p, p2, xs, ys, rfl, rfl, e3 _ _ hp, hp2, sz_of hz, fun r nr => q r _ (fresh_back (e2.trans e3) nr) ((e2.trans e3).trans (Ex.new nr)) upd_same⟩
theorem el_catV {l : Addr} {xs ys : List V} (h : Ev ta σ H (.ref l)) (hl : H l = some (.lst xs)) (h2 : EvL tb σ H ys) (hz : xs.length + ys.length ≤ 100000) : EvL (tOp rCat ta tb) σ H (xs ++ ys) := fun H1 e Q q =>
  h H1 e _ fun H2 e2 => h2 H2 (e.trans e2) _ fun p2 H3 np2 e3 hp2 => ⟨l, p2, xs, ys, rfl, rfl, e3 _ _ (e2 _ _ (e _ _ hl)), hp2, sz_of hz, fun r nr => q r _ (fresh_back (e2.trans e3) nr) ((e2.trans e3).trans (Ex.new nr)) upd_same⟩
end
theorem cutDrop (xs : List V) (f : Nat) : cutV xs (some (f : Int)) none = xs.drop f := by
  unfold cutV
  rw [HT.sIx_none, show HT.sIx xs.length 0 (some (f : Int)) = min f xs.length from HT.sIx_nat xs.length 0 f]
  by_cases h : f ≤ xs.length
  · rw [Nat.min_eq_left h, List.take_of_length_le (by rw [List.length_drop]; omega)]
  · rw [Nat.min_eq_right (by omega), List.drop_length, List.drop_eq_nil_of_le (by omega)]
    simp
theorem low_step {p f c a : Nat} {L : PL} {sp : List Nat} (h : minN sp ≠ 0) : low p f ((c, a) :: L) sp = ⟨(if cutN p f c a sp < c then [(c - cutN p f c a sp, a)] else []) ++ (low p f L (lessN p f (cutN p f c a sp) a sp)).L, (low p f L (lessN p f (cutN p f c a sp) a sp)).sp, cutN p f c a sp * p ^ a + (low p f L (lessN p f (cutN p f c a sp) a sp)).tk, (if cutN p f c a sp < c then chooseN c (cutN p f c a sp) else 1) * (low p f L (lessN p f (cutN p f c a sp) a sp)).mn⟩ := by
  rw [low, if_neg h]
  by_cases hc : cutN p f c a sp < c
  · simp only [if_pos hc]
    rfl
  · simp only [if_neg hc]
    rfl
theorem low_stop {p f : Nat} {sp : List Nat} : ∀ {L : PL}, (L = [] ∨ minN sp = 0) → low p f L sp = ⟨L, sp, 0, 1⟩
  | [], _ => rfl
  | (c, a) :: L, h => by
    have h : minN sp = 0 := h.resolve_left (by simp)
    rw [low, if_pos h]
theorem vd_mem {p : Nat} {L : PL} (h : Vd p L) : ∀ x ∈ L, x.1 < p := by
  induction h with
  | nil => intro x hx; cases hx
  | @cons c a L hc hL r ih =>
    intro x hx
    rcases List.mem_cons.mp hx with rfl | hx
    · exact hc
    · exact ih x hx
def sp_lowered (K : PySem.W.Frag) : Sp := fun vs H Q _ => ∃ (q : Nat) (l s : Addr) (ts rs : List Addr) (L : PL) (sp : List Nat), vs = [.ref l, .ref s] ∧ Fq q ∧ (∀ (H : Hp) (t : Nat), t < poE q → SqT K H (rs.getD t 0) ((wl (prE q) (poE q) t).map N_)) ∧ SqL K H l (ts.map V.ref) ∧ Trs H rs (prE q) (poE q) ts L ∧ SqL K H s (sp.map N_) ∧ Vd (prE q) L ∧ (∀ x ∈ L, 0 < x.1) ∧ (∀ x ∈ L, x.2 < 300) ∧ L.length ≤ 300 ∧ sp.length = poE q ∧
  ∀ (T l' s' : Addr) (ts' : List Addr) (H' : Hp), H l' = none → (s' = s ∨ H s' = none) → Ex H H' → H' T = some (.tup [.ref l', .ref s', N_ (low (prE q) (poE q) L sp).tk, N_ (low (prE q) (poE q) L sp).mn]) → SqL K H' l' (ts'.map V.ref) → Trs H' rs (prE q) (poE q) ts' (low (prE q) (poE q) L sp).L → SqL K H' s' ((low (prE q) (poE q) L sp).sp.map N_) → Q (.ref T) H'

theorem ok_lowered {P : Program} {w : World} {K : PySem.W.Frag} {mg : Str → Option Value} {base : Heap} (T : Txt K mg) : FnOk P w K mg base CX0 2 T.a_lowered T.d_lowered ["triples", "spare"] (sp_lowered K) := by
  refine T.F_lowered.ok sc_lowered (fun vs H Q E h => ?_) (fun cdv A outer s H vs Q E hr h => ?_)
  · obtain ⟨q, l, s, ts, rs, L, sp, rfl, _⟩ := h
    rfl
  · obtain ⟨q, l, s, ts, rs, L, sp, rfl, hq, Wr, hl, htr, hs, vd, po, pl, hLl, hsl, kk⟩ := h
    refine ⟨_, (pss_cons (ps_set (i := 2) sc_lowered.nd rfl (Or.inl rfl) (pe_lst pa_nil))
      (pss_cons (ps_set (i := 3) sc_lowered.nd rfl (Or.inl rfl) pe_int)
      (pss_cons (ps_set (i := 4) sc_lowered.nd rfl (Or.inl rfl) pe_int)
      (pss_cons (ps_set (i := 5) sc_lowered.nd rfl (Or.inl rfl) pe_int)
      (pss_cons (ps_while PassesOwn.never (PW.pt (pw_and (pt_cmpR op_lt (pv 5) (pe_callB call_len_seq (by rfl) T.z_len (by decide +kernel) (pa_cons (pv 0) pa_nil)) (nomark _)) (pw_and1 (pt_cmpR op_gt (pe_callB (cr_min rfl) (by rfl) T.z_min (by decide +kernel) (pa_cons (pv 1) pa_nil)) pe_int (nomark _))))) (pss_cons (ps_asg (pe_ix (r := rIxL K) ix_list (pv 0) (pv 5) (fun _ _ => rfl)) (pg_tup (by rfl) (pgs_cons (pg_name (i := 6) sc_lowered.nd rfl (Or.inl rfl)) (pgs_cons (pg_name (i := 7) sc_lowered.nd rfl (Or.inl rfl)) (pgs_cons (pg_name (i := 8) sc_lowered.nd rfl (Or.inl rfl)) pgs_nil)))))
      (pss_cons (ps_set (i := 9) sc_lowered.nd rfl (Or.inl rfl) (pe_callB (cr_min rfl) (by rfl) T.z_min (by decide +kernel) (pa_cons (pe_op op_cat (pe_lst (pa_cons (pv 6) pa_nil)) (pe_lc (own := [("most", 10), ("weight", 11)]) (g := (gTup K 2 (gCons (gName 10) (gCons (gName 11) gNil)))) rfl sc_lowered.nd (pi_zipMK (K := K) (by rfl) (by rfl) T.z_zip (pa_cons (pv 1) (pa_cons (pv 7) pa_nil))) (blkOk_by (N := ["triples", "spare", "kept", "taken", "many", "at", "digit", "weights", "worth", "cut", "most", "weight"]) (sc := defScope s_lowered) (by decide +kernel)) (fun _ _ _ _ _ => (pg_tup (by rfl) (pgs_cons (pg_name (i := 10) sc_lowered.nd rfl (Or.inl rfl)) (pgs_cons (pg_name (i := 11) sc_lowered.nd rfl (Or.inl rfl)) pgs_nil)))) (fun _ _ _ _ _ => pts_nil) (fun _ _ _ _ _ => (pe_op op_fdivW (pv 10) (pv 11))))) pa_nil)))
      (pss_cons (ps_if (pt_cmpR op_lt (pv 9) (pv 6) (nomark _)) (pss_cons (ps_expr (pe_bm PySem.F.plainAttrs_list PySem.F.slot_list_append PySem.F.type_list_append mt_append (pv 2) (pa_cons (pe_tup (pa_cons (pe_op op_sub (pv 6) (pv 9)) (pa_cons (pv 7) (pa_cons (pv 8) pa_nil)))) pa_nil)))
      (pss_one (ps_set (i := 4) sc_lowered.nd rfl (Or.inl rfl) (pe_op op_mulW (pv 4) (pe_callBfun cr_comb (by rfl) T.m_comb (pa_cons (pv 6) (pa_cons (pv 9) pa_nil))))))) pss_nil)
      (pss_cons (ps_set (i := 3) sc_lowered.nd rfl (Or.inl rfl) (pe_op op_add (pv 3) (pe_op op_mulW (pv 9) (pv 8))))
      (pss_cons (ps_set (i := 1) sc_lowered.nd rfl (Or.inl rfl) (pe_call (ok_less_digit T) (hr.mono (by decide)) (by rfl) T.g_less_digit T.F_less_digit.kp T.b_less_digit .nil pass0 (pa_cons (pv 1) (pa_cons (pv 7) (pa_cons (pv 9) pa_nil)))))
      (pss_one (ps_aug (i := 5) sc_lowered.nd rfl (Or.inl rfl) pe_int ip_add))))))))
      (pss_one (ps_ret (pe_tup (pa_cons (pe_op op_cat (pv 2) (pe_slice sl_list (pv 0) (po_some (pv 5)) po_none)) (pa_cons (pv 1) (pa_cons (pv 3) (pa_cons (pv 4) pa_nil)))))))))))), ?_⟩
    have ht := t0_of hq
    have hf3 := ht.f3
    have hf1 := ht.f1
    have hp7 := ht.p7
    have hp2 := ht.p2
    generalize hP : prE q = P at *
    generalize hF : poE q = F at *
    have wle : ∀ j a, 0 < wt P F j a ∧ wt P F j a ≤ 49 := fun j a => by
      have := wt_le (j := j) (a := a) hq
      rw [hP, hF] at this
      exact this
    have hok := low_ok (f := F) (p := P) (by omega) vd po hsl
    have htk : (low P F L sp).tk < 2 ^ 1000 := Nat.lt_of_le_of_lt (show _ ≤ nl P L from by have := hok.nm; omega) (Nat.lt_trans (nl_lt (by omega) vd 300 pl) (pow_small hp7 (by omega)))
    refine q_asgL (el_lst ea_nil (by decide)) fun kp H1 nk e1 h1 => ?_
    refine q_asg (v := N_ 0) ev_c fun H2 e2 => ?_
    refine q_asg (v := N_ 1) ev_c fun H3 e3 => ?_
    refine q_asg (v := N_ 0) ev_c fun H4 e4 => ?_
    have e14 := ((e1.trans e2).trans e3).trans e4
    refine q_while (fun m σ H' => ∃ (at_ : Nat) (sa : Addr) (sc : List Nat) (kts : List Addr) (kL : PL) (tk mn : Nat) (y6 y7 y8 y9 : Option V), m = L.length - at_ ∧ at_ ≤ L.length ∧ σ = [some (.ref l), some (.ref sa), some (.ref kp), some (N_ tk), some (N_ mn), some (N_ at_), y6, y7, y8, y9, none, none] ∧ Ex H H' ∧ (sa = s ∨ H sa = none) ∧ SqL K H' sa (sc.map N_) ∧ sc.length = F ∧ H' kp = some (.lst (kts.map V.ref)) ∧ Trs H' rs P F kts kL ∧ kts.length ≤ at_ ∧ mn < 2 ^ (5 * at_ + 1) ∧
        low P F L sp = ⟨kL ++ (low P F (L.drop at_) sc).L, (low P F (L.drop at_) sc).sp, tk + (low P F (L.drop at_) sc).tk, mn * (low P F (L.drop at_) sc).mn⟩) L.length
      ⟨0, s, sp, [], [], 0, 1, none, none, none, none, by omega, Nat.zero_le _, rfl, e14, .inl rfl, ex_l e14 hs, hsl, ((e2.trans e3).trans e4) _ _ h1, Trs.nil, Nat.zero_le _, by decide, by simp⟩ fun m σ H5 hw => ?_
    obtain ⟨at_, sa, sc, kts, kL, tk, mn, y6, y7, y8, y9, rfl, hat, rfl, e5, hsw, hsa, hscl, hkp, tkts, hkl, hmn, hlow⟩ := hw
    have htl : (ts.map V.ref).length = L.length := by rw [List.length_map, htr.1]
    have hscn : sc ≠ [] := fun z => by
      rw [z] at hscl
      have : ([] : List Nat).length = 0 := rfl
      omega
    refine ⟨decide ((at_ : Int) < ((ts.map V.ref).length : Nat)) && decide ((0 : Int) < ((minN sc : Nat) : Int)), et_and (et_test (ev_op (ev_var rfl) (ev_cb (ea_cons (ev_var rfl) ea_nil) (rc_lenL (ex_l e5 hl))) rv_I0)) (fun _ => et_test (ev_op (ev_minVn (ev_var rfl) hsa hscn) ev_c rv_I0)), fun hb H6 e6 => ?_, fun hb H6 e6 => ?_⟩
    · rw [htl, Bool.and_eq_true, decide_eq_true_eq, decide_eq_true_eq] at hb
      have hlt : at_ < L.length := by omega
      have hmz : minN sc ≠ 0 := by omega
      have htlt : at_ < ts.length := by rw [htr.1]; exact hlt
      obtain ⟨c, a, hxe⟩ : ∃ c a, L[at_]? = some (c, a) := ⟨L[at_].1, L[at_].2, by rw [List.getElem?_eq_getElem hlt]⟩
      have hxm : (c, a) ∈ L := List.mem_of_getElem? hxe
      have hc0 : 0 < c := po _ hxm
      have hcP : c < P := vd_mem vd _ hxm
      have ha3 : a < 300 := pl _ hxm
      have hdrop : L.drop at_ = (c, a) :: L.drop (at_ + 1) := by
        rw [List.drop_eq_getElem_cons hlt]
        congr 1
        rw [List.getElem?_eq_getElem hlt] at hxe
        exact Option.some.inj hxe
      have hto : H (ts.getD at_ 0) = some (.tup [N_ c, .ref (rs.getD (a % F) 0), N_ (P ^ a)]) := htr.2 at_ _ (c, a) (by rw [List.getElem?_eq_getElem htlt, List.getD_eq_getElem?_getD, List.getElem?_eq_getElem htlt]; rfl) hxe
      have hwt : ∀ H : Hp, SqT K H (rs.getD (a % F) 0) ((wl P F a).map N_) := fun H => by
        have := Wr H (a % F) (Nat.mod_lt _ (by omega))
        rw [wl_mod] at this
        exact this
      have hcl := cut_le P F c a sc
      have hcm : ∀ j, j < F → cutN P F c a sc * wt P F j a ≤ sc.getD j 0 := fun j hj => cut_mul (by omega) hj
      have hst : low P F (L.drop at_) sc = _ := (congrArg (fun z => low P F z sc) hdrop).trans (low_step hmz)
      generalize hn : cutN P F c a sc = n at hcl hcm hst
      refine ⟨fun σ' H' => ∃ (sa' : Addr) (kts' : List Addr) (y6 y7 y8 y9 : Option V), σ' = [some (.ref l), some (.ref sa'), some (.ref kp), some (N_ (tk + n * P ^ a)), some (N_ (mn * (if n < c then chooseN c n else 1))), some (N_ (at_ + 1)), y6, y7, y8, y9, none, none] ∧ Ex H H' ∧ H sa' = none ∧ SqL K H' sa' ((lessN P F n a sc).map N_) ∧ H' kp = some (.lst (kts'.map V.ref)) ∧ Trs H' rs P F kts' (kL ++ (if n < c then [(c - n, a)] else [])) ∧ kts'.length ≤ at_ + 1, fun σ2 H2' hN => ?_, ?_⟩
      · obtain ⟨sa', kts', y6, y7, y8, y9, rfl, e7, hnw, hsa', hkp', tkts', hkl'⟩ := hN
        refine ⟨L.length - (at_ + 1), by omega, at_ + 1, sa', lessN P F n a sc, kts', _, tk + n * P ^ a, _, y6, y7, y8, y9, rfl, hlt, rfl, e7, .inr hnw, hsa', less_len .., hkp', tkts', hkl', ?_, ?_⟩
        · have h20 : (if n < c then chooseN c n else 1) ≤ 20 := by
            split
            · exact (comb_eq (by omega) hcl).2
            · decide
          have : mn * (if n < c then chooseN c n else 1) ≤ mn * 20 := Nat.mul_le_mul_left _ h20
          rw [show 5 * (at_ + 1) + 1 = 5 * at_ + 1 + 5 by omega, Nat.pow_add]
          omega
        · rw [hlow, hst]
          simp only [List.append_assoc, Nat.add_assoc, Nat.mul_assoc]
      · -- the turn
        have e06 := e5.trans e6
        refine q_tup3V (ev_op (r := rIxL K) (ev_var rfl) (ev_var rfl) (rv_ixL (v := .ref (ts.getD at_ 0)) (ex_l e06 hl) (atI_nat (by rw [List.getElem?_map, List.getElem?_eq_getElem htlt, List.getD_eq_getElem?_getD, List.getElem?_eq_getElem htlt]; rfl)))) (st_of (e06 _ _ hto)) fun H7 e7 => ?_
        have hsa7 := ex_l (e6.trans e7) hsa
        refine q_asg (v := N_ n) (ev_is (ev_minNn (K := K) (xs := c :: (List.range F).map fun j => sc.getD j 0 / wt P F j a) (el_is (el_catN (el_lst (vs := [N_ c]) (ea_cons (ev_var rfl) ea_nil) (by show 1 ≤ 100000; decide)) (el_lcZM (K := K) (fun _ => true) (fun j => N_ (sc.getD j 0 / wt P F j a)) (ea_cons (ev_var rfl) (ea_cons (ev_var rfl) ea_nil)) hsa7 (hwt _) (by rw [List.length_map]; omega) (fun _ _ => rfl) (fun _ _ _ _ _ _ _ => et_nil) (fun j x y H8 e8 hx hy _ => ?_)) ?_) ?_) (by simp)) (congrArg N_ hn)) fun H8 e8 => ?_
        · have hjf : j < F := by
            have := (List.getElem?_eq_some_iff.mp hx).1
            rw [List.length_map] at this
            omega
          rw [get_sp (by omega)] at hx
          cases hx
          rw [List.getElem?_map, wl_get hjf] at hy
          cases hy
          have h9 := wle j a
          exact ev_op (ev_var rfl) (ev_var rfl) (rv_I (wide_div (b := 10) (by omega) (by show wt P F j a < 1024; omega) (by decide) (by decide)))
        · refine Nat.le_trans (Nat.add_le_add_left (given_len _ _ _) 1) ?_
          rw [List.length_map, List.length_map, len_wl, hscl, Nat.min_self]
          omega
        · rw [List.length_map, List.length_map, len_wl, hscl, Nat.min_self, given_range, List.map_cons, List.map_map]
          rfl
        have hkp8 := ((e6.trans e7).trans e8) _ _ hkp
        have tk8 := tkts.ex ((e6.trans e7).trans e8)
        have e08 := (e06.trans e7).trans e8
        refine q_whenG (fun σ' H' => ∃ (kts' : List Addr), σ' = [some (.ref l), some (.ref sa), some (.ref kp), some (N_ tk), some (N_ (mn * (if n < c then chooseN c n else 1))), some (N_ at_), some (N_ c), some (.ref (rs.getD (a % F) 0)), some (N_ (P ^ a)), some (N_ n), none, none] ∧ Ex H H' ∧ SqL K H' sa (sc.map N_) ∧ H' kp = some (.lst (kts'.map V.ref)) ∧ Trs H' rs P F kts' (kL ++ (if n < c then [(c - n, a)] else [])) ∧ kts'.length ≤ at_ + 1) (b := decide ((n : Int) < (c : Int))) (et_test (ev_op (ev_var rfl) (ev_var rfl) rv_I0)) (fun hb2 H9 e9 N hN => ?_) (fun hb2 H9 e9 => ?_) (fun σ' H9 hM => ?_)
        · have hnc : n < c := by have := of_decide_eq_true hb2; omega
          have hkp9 := e9 _ _ hkp8
          refine q_appU hkp9 (ev_var rfl) (eu_tup (ea_cons (ev_is (w := N_ (c - n)) (ev_op (ev_var rfl) (ev_var rfl) rv_I0) (congrArg V.int (by omega))) (ea_cons (ev_var rfl) (ea_cons (ev_var rfl) ea_nil))) (by show 3 ≤ 100000; decide)) (by rw [List.length_map]; omega) fun t H10 nt e10 h10 => ?_
          have nkH : H kp = none := nk
          have ne : t ≠ kp := fun z => by
            rw [z, hkp9] at nt
            cases nt
          have hnot : ∀ (k : Nat) (u : Addr) (x : Nat × Nat), kts[k]? = some u → kL[k]? = some x → u ≠ kp := fun k u x hu hx' z => by
            have := tk8.2 k u x hu hx'
            rw [z, hkp8] at this
            cases this
          have hsaN : SqL K (upd H10 kp (.lst (kts.map V.ref ++ [.ref t]))) sa (sc.map N_) := by
            have h1 := ex_l (e9.trans e10) (ex_l e8 hsa7)
            rcases h1 with (h | ⟨o, h⟩) | h
            · by_cases z : sa = kp
              · exfalso
                subst z
                rw [e10 _ _ hkp9] at h
                cases hz : sc with
                | nil => exact hscn hz
                | cons x r =>
                  rw [hz] at h
                  cases hk : kts with
                  | nil => rw [hk] at h; cases h
                  | cons u us => rw [hk] at h; cases h
              · exact .inl (.inl (by rw [upd_ne z]; exact h))
            · by_cases z : sa = kp
              · exfalso
                rw [z, e10 _ _ hkp9] at h
                cases h
              · exact .inl (.inr ⟨o, by rw [upd_ne z]; exact h⟩)
            · exact .inr h
          have tt : Trs (upd H10 kp (.lst (kts.map V.ref ++ [.ref t]))) rs P F kts kL := ⟨tk8.1, fun k u x hu hx' => by
            rw [upd_ne (hnot k u x hu hx')]
            exact e10 _ _ (e9 _ _ (tk8.2 k u x hu hx'))⟩
          have tt2 := tt.snoc (t := t) (x := (c - n, a)) (by rw [upd_ne ne]; exact h10)
          have hcomb := comb_eq (a := c) (b := n) (by omega) hcl
          refine s_asg (ev_op (ev_var rfl) (ev_cb (ea_cons (ev_var rfl) (ea_cons (ev_var rfl) ea_nil)) (rc_comb (by omega) hcl)) (rv_I (wide_mul (a := 1600) (b := 10) (by exact Nat.lt_of_lt_of_le hmn (Nat.pow_le_pow_right (by decide) (by omega))) (by show chooseN c n < 1024; omega) (by decide) (by decide) (by decide)))) fun H11 e11 => hN _ _ ⟨kts ++ [t], ?_, ((e08.trans (e9.trans e10)).mut nkH).trans e11, ex_l e11 hsaN, ?_, ?_, ?_⟩
          · rw [if_pos hnc, show N_ (mn * chooseN c n) = V.int (((mn : Nat) : Int) * ((chooseN c n : Nat) : Int)) from congrArg V.int (Int.natCast_mul _ _)]
            rfl
          · rw [e11 _ _ upd_same, List.map_append]
            rfl
          · rw [if_pos hnc]
            exact tt2.ex e11
          · rw [List.length_append, List.length_singleton]
            omega
        · have hnc : ¬ n < c := by have := of_decide_eq_false hb2; omega
          refine ⟨kts, ?_, e08.trans e9, ex_l (e8.trans e9) hsa7, e9 _ _ hkp8, ?_, by omega⟩
          · rw [if_neg hnc, Nat.mul_one]
            rfl
          · rw [if_neg hnc, List.append_nil]
            exact tk8.ex e9
        · obtain ⟨kts', rfl, e9, hsa9, hkp9, tk9, hkl9⟩ := hM
          have hnb : n < 1024 := by omega
          refine q_asg (v := N_ (tk + n * P ^ a)) (ev_is (ev_op (ev_var rfl) (ev_op (ev_var rfl) (ev_var rfl) (rv_I (wide_mul (a := 10) (b := 1000) (by exact hnb) (by exact pow_small hp7 (by omega)) (by decide) (by decide) (by decide)))) rv_I0) (congrArg V.int (by rw [Int.natCast_add, Int.natCast_mul]))) fun H10 e10 => ?_
          refine q_asgL (el_call (ea_cons (ev_var rfl) (ea_cons (ev_var rfl) (ea_cons (ev_var rfl) ea_nil))) (sv_less_digit (p := P) (f := F) (a := a) hscl hf3 (by omega) (fun j _ => by have := (wle j a).2; omega) (ex_l e10 hsa9) (hwt _) hcm)) fun sa' H11 nsa e11 h11 => ?_
          refine s_aug (a := (at_ : Int)) (b := 1) rfl ev_c fun H12 e12 => ⟨sa', kts', _, _, _, _, rfl, ((e9.trans e10).trans e11).trans e12, fresh_back (e9.trans e10) nsa, sq_of (e12 _ _ h11), ((e10.trans e11).trans e12) _ _ hkp9, tk9.ex ((e10.trans e11).trans e12), hkl9⟩
    · -- the end
      have hend : L.drop at_ = [] ∨ minN sc = 0 := by
        rw [htl, Bool.and_eq_false_iff, decide_eq_false_iff_not, decide_eq_false_iff_not] at hb
        rcases hb with hb | hb
        · exact .inl (List.drop_eq_nil_of_le (by omega))
        · exact .inr (by omega)
      rw [low_stop hend] at hlow
      simp only [Nat.add_zero, Nat.mul_one] at hlow
      rw [hlow] at kk
      have e06 := e5.trans e6
      refine (el_catV (ev_var rfl) (e6 _ _ hkp) (el_is (el_sl (K := K) (ev_var rfl) (eo_some (ev_var rfl)) eo_none (ex_l e06 hl)) (cutDrop _ _)) (by rw [List.length_map, List.length_drop, htl]; omega)) H6 (Ex.refl H6) _ fun p H7 np e7 h7 => ⟨.ref sa, rfl, N_ tk, rfl, N_ mn, rfl, by show 4 ≤ sizeLine; decide, fun T nT => ?_⟩
      have e8 : Ex H7 (upd H7 T (.tup [.ref p, .ref sa, N_ tk, N_ mn])) := Ex.new nT
      refine kk T p sa (kts ++ ts.drop at_) _ (fresh_back e06 np) hsw ((e06.trans e7).trans e8) upd_same (sq_of (e8 _ _ ?_)) (((tkts.ex (e6.trans e7)).append ((htr.ex (e06.trans e7)).drop at_)).ex e8) (ex_l ((e6.trans e7).trans e8) hsa)
      rw [h7, List.map_append, List.map_drop]


theorem vd_len {p : Nat} {L : PL} (h : Vd p L) : ∀ m, (∀ x ∈ L, x.2 < m) → L.length ≤ m := by
  induction h with
  | nil => intro m _; exact Nat.zero_le _
  | @cons c a L hc hL r ih =>
    intro m hm
    have h1 := ih a hL
    have h2 : a < m := hm _ (List.mem_cons_self ..)
    rw [List.length_cons]
    omega
def stN (p f s : Nat) (L : PL) (sp : List Nat) : Nat → PL × List Nat
  | 0 => (L, sp)
  | i + 1 => ((low p f (stN p f s L sp i).1 (stN p f s L sp i).2).L, moreN s (low p f (stN p f s L sp i).1 (stN p f s L sp i).2).sp)
def lsN (p f s : Nat) (L : PL) (sp : List Nat) (n : Nat) : List Nat := (List.range n).map fun t => nl p (stN p f s L sp (t + 1)).1
theorem lsN_len (p f s : Nat) (L : PL) (sp : List Nat) (n : Nat) : (lsN p f s L sp n).length = n := by unfold lsN; rw [List.length_map, List.length_range]
theorem lsN_succ (p f s : Nat) (L : PL) (sp : List Nat) (n : Nat) : lsN p f s L sp (n + 1) = lsN p f s L sp n ++ [nl p (stN p f s L sp (n + 1)).1] := by
  unfold lsN
  rw [List.range_succ, List.map_append]
  rfl
theorem chain_ok {p f d : Nat} (hpf : PFq p f) {L : PL} {sp : List Nat} {k : Nat} (h : Stt p f d L sp k) : ∀ i, i ≤ d → Stt p f (d - i) (stN p f (p ^ f - 1) L sp i).1 (stN p f (p ^ f - 1) L sp i).2 ((k :: lsN p f (p ^ f - 1) L sp i).getD i 0) ∧ FI p f d k (lsN p f (p ^ f - 1) L sp i)
  | 0, _ => ⟨h, fun i hi => absurd hi (by rw [lsN_len]; omega)⟩
  | i + 1, hi => by
    obtain ⟨h1, h2⟩ := chain_ok hpf h i (by omega)
    rw [show d - i = (d - (i + 1)) + 1 by omega] at h1
    obtain ⟨s1, s2, s3, s4⟩ := step_ok hpf h1
    have hl := lsN_len p f (p ^ f - 1) L sp i
    have e : (k :: lsN p f (p ^ f - 1) L sp (i + 1)).getD (i + 1) 0 = nl p (stN p f (p ^ f - 1) L sp (i + 1)).1 := by
      rw [lsN_succ]
      have := getD_last (k :: lsN p f (p ^ f - 1) L sp i) (nl p (stN p f (p ^ f - 1) L sp (i + 1)).1)
      rw [List.length_cons, hl] at this
      exact this
    rw [e]
    refine ⟨s1, ?_⟩
    rw [lsN_succ]
    refine fi_snoc h2 ?_ ?_
    · rw [hl]
      exact s2
    · rw [hl, show d - i = d - (i + 1) + 1 by omega]
      exact s3
theorem st_places {p f s m : Nat} (hp : 1 < p) {L : PL} {sp : List Nat} (hl : ∀ x ∈ L, x.2 < m) (hv : ∀ i, Vd p (stN p f s L sp i).1 ∧ (∀ x ∈ (stN p f s L sp i).1, 0 < x.1) ∧ (stN p f s L sp i).2.length = f) : ∀ i, ∀ x ∈ (stN p f s L sp i).1, x.2 < m
  | 0, x, h => hl x h
  | i + 1, x, h => by
    obtain ⟨v, po, ln⟩ := hv i
    obtain ⟨y, hy, e⟩ := (low_ok (f := f) hp v po ln).ps x h
    rw [← e]
    exact st_places hp hl hv i y hy
theorem st_ok {p f s : Nat} (hp : 1 < p) {L : PL} {sp : List Nat} (v : Vd p L) (po : ∀ x ∈ L, 0 < x.1) (ln : sp.length = f) : ∀ i, Vd p (stN p f s L sp i).1 ∧ (∀ x ∈ (stN p f s L sp i).1, 0 < x.1) ∧ (stN p f s L sp i).2.length = f
  | 0 => ⟨v, po, ln⟩
  | i + 1 => by
    obtain ⟨v1, p1, l1⟩ := st_ok (s := s) hp v po ln i
    have r := low_ok (f := f) hp v1 p1 l1
    exact ⟨r.vd, r.po, by show (moreN s _).length = f; unfold moreN; rw [List.length_map]; exact r.ln⟩
def topSp (q k d : Nat) : List Nat := spL q (dg (prE q) k) d
def lstN (q d k : Nat) : List Nat := lsN (prE q) (poE q) (q - 1) (topL (prE q) k) (topSp q k d) d
theorem start_ok {q d k : Nat} (hq : Fq q) (h : ∀ j, j < poE q → (q - 1) * d ≤ ds q (prE q ^ j * k)) : Stt (prE q) (poE q) d (topL (prE q) k) (topSp q k d) k := by
  have ht := t0_of hq
  have t := top_ok (p := prE q) (f := poE q) (by have := ht.p2; omega) ht.f1 k
  refine ⟨t.vd, t.po, ?_, t.nm, fun j hj => ?_⟩
  · unfold topSp spL
    rw [List.length_map, List.length_range]
  · have e : (topSp q k d).getD j 0 = sj (prE q) (poE q) j (topL (prE q) k) - (q - 1) * d := by
      unfold topSp spL
      rw [List.getD_eq_getElem?_getD, List.getElem?_map, List.getElem?_range hj]
      rfl
    have h2 := h j hj
    have h3 := t.ss j
    rw [ht.pw] at h3 ⊢
    rw [e]
    omega
theorem lst_ok {q d k : Nat} (hq : Fq q) (h : ∀ j, j < poE q → (q - 1) * d ≤ ds q (prE q ^ j * k)) : FI (prE q) (poE q) d k (lstN q d k) ∧ (lstN q d k).length = d := by
  have c := (chain_ok (pfq hq) (start_ok hq h) d (Nat.le_refl _)).2
  rw [(t0_of hq).pw] at c
  exact ⟨c, lsN_len ..⟩
theorem dg200 {p k : Nat} (hp : 1 < p) (hk : k < 10 ^ 60) : (dg p k).length ≤ 200 := dg_len hp 200 k (Nat.lt_trans hk (by decide))
def sp_least_sums (K : PySem.W.Frag) : Sp := fun vs H Q _ => ∃ (q d k : Nat), vs = [N_ q, N_ d, N_ k] ∧ Fq q ∧ d ≤ 300 ∧ k < 10 ^ 60 ∧ (∀ j, j < poE q → (q - 1) * d ≤ ds q (prE q ^ j * k)) ∧ RetL ((lstN q d k).map N_) H Q
theorem sv_least_sums {K : PySem.W.Frag} {H : Hp} {q d k : Nat} (hq : Fq q) (hd : d ≤ 300) (hk : k < 10 ^ 60) (h : ∀ j, j < poE q → (q - 1) * d ≤ ds q (prE q ^ j * k)) : SpL (sp_least_sums K) [N_ q, N_ d, N_ k] H ((lstN q d k).map N_) := fun H1 e Q kk E => ⟨q, d, k, rfl, hq, hd, hk, h, kk⟩
theorem gt60 {n : Nat} (h : n < 10 ^ 60) : Gt n := Nat.lt_trans h (by decide)

theorem ok_least_sums {P : Program} {w : World} {K : PySem.W.Frag} {mg : Str → Option Value} {base : Heap} (T : Txt K mg) : FnOk P w K mg base CX0 3 T.a_least_sums T.d_least_sums ["q", "d", "k"] (sp_least_sums K) := by
  refine T.F_least_sums.ok sc_least_sums (fun vs H Q E h => ?_) (fun cdv A outer s H vs Q E hr h => ?_)
  · obtain ⟨q, d, k, rfl, _⟩ := h
    rfl
  · obtain ⟨q, d, k, rfl, hq, hd, hk, h, kk⟩ := h
    refine ⟨_, (pss_cons (ps_set (i := 3) sc_least_sums.nd rfl (Or.inl rfl) (pe_call (ok_digit_row T) (hr.mono (by decide)) (by rfl) T.g_digit_row T.F_digit_row.kp T.b_digit_row .nil pass0 (pa_cons (pe_ix (r := rIxW K) ix_tab (pe_glob (v := .ref T.a_PRIMES) (by rfl) T.g_PRIMES rfl) (pv 0) (fun _ _ => rfl)) (pa_cons (pv 2) pa_nil))))
      (pss_cons (ps_set (i := 4) sc_least_sums.nd rfl (Or.inl rfl) (pe_call (ok_high_digits T) (hr.mono (by decide)) (by rfl) T.g_high_digits T.F_high_digits.kp T.b_high_digits .nil pass0 (pa_cons (pv 0) (pa_cons (pv 3) pa_nil))))
      (pss_cons (ps_set (i := 5) sc_least_sums.nd rfl (Or.inl rfl) (pe_call (ok_spare_sums T) (hr.mono (by decide)) (by rfl) T.g_spare_sums T.F_spare_sums.kp T.b_spare_sums .nil pass0 (pa_cons (pv 0) (pa_cons (pv 3) (pa_cons (pv 1) pa_nil)))))
      (pss_cons (ps_set (i := 6) sc_least_sums.nd rfl (Or.inl rfl) (pv 2))
      (pss_cons (ps_set (i := 7) sc_least_sums.nd rfl (Or.inl rfl) (pe_lst pa_nil))
      (pss_cons (ps_for PassesOwn.never rfl (pi_range1 rfl T.z_range (pa_cons (pv 1) pa_nil)) (pg_name (i := 8) sc_least_sums.nd rfl (Or.inl rfl)) (pss_cons (ps_asg (pe_call (ok_lowered T) (hr.mono (by decide)) (by rfl) T.g_lowered T.F_lowered.kp T.b_lowered .nil pass0 (pa_cons (pv 4) (pa_cons (pv 5) pa_nil))) (pg_tup (by rfl) (pgs_cons (pg_name (i := 4) sc_least_sums.nd rfl (Or.inl rfl)) (pgs_cons (pg_name (i := 5) sc_least_sums.nd rfl (Or.inl rfl)) (pgs_cons (pg_name (i := 9) sc_least_sums.nd rfl (Or.inl rfl)) (pgs_cons (pg_name (i := 8) sc_least_sums.nd rfl (Or.inl rfl)) pgs_nil))))))
      (pss_cons (ps_set (i := 6) sc_least_sums.nd rfl (Or.inl rfl) (pe_op op_sub (pv 6) (pv 9)))
      (pss_cons (ps_expr (pe_bm PySem.F.plainAttrs_list PySem.F.slot_list_append PySem.F.type_list_append mt_append (pv 7) (pa_cons (pv 6) pa_nil)))
      (pss_one (ps_setLc (i := 5) (own := [("many", 10)]) (g := gName 10) (by rfl) sc_least_sums.nd rfl rfl (sw_true rfl rfl rfl (by decide +kernel)) (pi_list (pv 5)) (blkOk_by (N := ["q", "d", "k", "row", "triples", "spare", "left", "found", "_", "taken", "many"]) (sc := defScope s_least_sums) (by decide +kernel)) (fun _ _ _ _ _ => pg_name (i := 10) sc_least_sums.nd rfl (Or.inl rfl)) (fun _ _ _ _ _ => pts_nil) (fun _ _ _ _ _ => (pe_op op_sub (pe_op op_add (pv 10) (pv 0)) pe_int))))))))
      (pss_one (ps_ret (pv 7))))))))), ?_⟩
    have ht := t0_of hq
    have hqb := hq.b
    have hp2 := ht.p2
    have hp7 := ht.p7
    have hf3 := ht.f3
    have hf1 := ht.f1
    have hpb : Bs (prE q) := ⟨hp2, by omega⟩
    have hlen := dg200 (p := prE q) (by omega) hk
    have hso := start_ok hq h
    have hch := chain_ok (pfq hq) hso
    rw [ht.pw] at hch
    have hst := st_ok (s := q - 1) (p := prE q) (by omega) hso.vd hso.po hso.ln
    have hpl0 : ∀ x ∈ topL (prE q) k, x.2 < 300 := fun x hx => by have := (hdR_lt _ _ x hx).1; omega
    have hpl := st_places (s := q - 1) (p := prE q) (m := 300) (by omega) hpl0 hst
    have hss : ∀ j, sj (prE q) (poE q) j (hdR (dg (prE q) k) (dg (prE q) k).length) = ds q (prE q ^ j * k) := fun j => by
      have := (top_ok (p := prE q) (f := poE q) (by omega) hf1 k).ss j
      rw [ht.pw] at this
      exact this
    refine q_asgL (el_call (ea_cons (ev_tab0 T.w_PRIMES ht.pr (ev_var rfl)) (ea_cons (ev_var rfl) ea_nil)) (sv_digit_row hpb (gt60 hk))) fun row H1 nr e1 h1 => ?_
    refine ⟨N_ q, rfl, .ref row, rfl, q, row, dg (prE q) k, rfl, hq, sq_of h1, by omega, fun x hx => dg_lt (by omega) k x hx, fun rs tp ts H2 Wr e2 h2 t2 => ?_⟩
    refine q_asgL (el_call (ea_cons (ev_var rfl) (ea_cons (ev_var rfl) (ea_cons (ev_var rfl) ea_nil))) (sv_spare_sums (m := d) hq (sq_of (e2 _ _ h1)) (by omega) (fun x hx => dg_lt (by omega) k x hx) hd (fun j hj => by rw [hss]; exact h j hj))) fun spa H3 nsp e3 h3 => ?_
    refine q_asg (v := N_ k) (ev_var rfl) fun H4 e4 => ?_
    refine q_asgL (el_lst ea_nil (by decide)) fun fp H5 nf e5 h5 => ?_
    have e35 := (e3.trans e4).trans e5
    have e15 := (e1.trans e2).trans e35
    have nfH : H fp = none := fresh_back ((e1.trans e2).trans (e3.trans e4)) nf
    have hne : ∀ (x : Addr) (o : HO), H4 x = some o → x ≠ fp := fun x o hx z => by rw [z, nf] at hx; cases hx
    refine q_forR1 (n := (d : Int)) (ea_cons (ev_var rfl) ea_nil) ⟨by omega, by omega⟩ (fun i σ H' => ∃ (tp spa : Addr) (ts : List Addr) (y8 y9 y10 : Option V), σ = [some (N_ q), some (N_ d), some (N_ k), some (.ref row), some (.ref tp), some (.ref spa), some (N_ ((k :: lsN (prE q) (poE q) (q - 1) (topL (prE q) k) (topSp q k d) i).getD i 0)), some (.ref fp), y8, y9, y10] ∧ Ex H H' ∧ H' fp = some (.lst ((lsN (prE q) (poE q) (q - 1) (topL (prE q) k) (topSp q k d) i).map N_)) ∧ tp ≠ fp ∧ spa ≠ fp ∧ SqL K H' tp (ts.map V.ref) ∧ Trs H' rs (prE q) (poE q) ts (stN (prE q) (poE q) (q - 1) (topL (prE q) k) (topSp q k d) i).1 ∧ SqL K H' spa ((stN (prE q) (poE q) (q - 1) (topL (prE q) k) (topSp q k d) i).2.map N_))
      (fun H6 e6 => ⟨tp, spa, ts, none, none, none, rfl, e15.trans e6, e6 _ _ h5, hne _ _ ((e3.trans e4) _ _ h2), hne _ _ (e4 _ _ h3), sq_of ((e35.trans e6) _ _ h2), t2.ex (e35.trans e6), sq_of (((e4.trans e5).trans e6) _ _ h3)⟩) (fun i σ H6 hi hw => ?_) (fun σ H6 hw => ?_)
    · obtain ⟨tp, spa, ts, y8, y9, y10, rfl, e6, h6, n1, n2, s1, t1, s2⟩ := hw
      have hid : i < d := by omega
      obtain ⟨v, po, ln⟩ := hst i
      have hpi := hpl i
      have hsti := (hch i (by omega)).1
      rw [show d - i = (d - (i + 1)) + 1 by omega] at hsti
      have hstp := step_ok (pfq hq) hsti
      have hnl : nl (prE q) (stN (prE q) (poE q) (q - 1) (topL (prE q) k) (topSp q k d) (i + 1)).1 ≤ (k :: lsN (prE q) (poE q) (q - 1) (topL (prE q) k) (topSp q k d) i).getD i 0 := hstp.2.1.1
      have hsum := hstp.2.2.2
      have hlast : (k :: lsN (prE q) (poE q) (q - 1) (topL (prE q) k) (topSp q k d) (i + 1)).getD (i + 1) 0 = nl (prE q) (stN (prE q) (poE q) (q - 1) (topL (prE q) k) (topSp q k d) (i + 1)).1 := by
        rw [lsN_succ]
        have := getD_last (k :: lsN (prE q) (poE q) (q - 1) (topL (prE q) k) (topSp q k d) i) (nl (prE q) (stN (prE q) (poE q) (q - 1) (topL (prE q) k) (topSp q k d) (i + 1)).1)
        rw [List.length_cons, lsN_len] at this
        exact this
      have hsp1 : (stN (prE q) (poE q) (q - 1) (topL (prE q) k) (topSp q k d) (i + 1)).2 = moreN (q - 1) (low (prE q) (poE q) (stN (prE q) (poE q) (q - 1) (topL (prE q) k) (topSp q k d) i).1 (stN (prE q) (poE q) (q - 1) (topL (prE q) k) (topSp q k d) i).2).sp := rfl
      have hL1 : (stN (prE q) (poE q) (q - 1) (topL (prE q) k) (topSp q k d) (i + 1)).1 = (low (prE q) (poE q) (stN (prE q) (poE q) (q - 1) (topL (prE q) k) (topSp q k d) i).1 (stN (prE q) (poE q) (q - 1) (topL (prE q) k) (topSp q k d) i).2).L := rfl
      have hlo := low_ok (f := poE q) (p := prE q) (by omega) v po ln
      have hls := lsN_len (prE q) (poE q) (q - 1) (topL (prE q) k) (topSp q k d) i
      have hls1 := lsN_succ (prE q) (poE q) (q - 1) (topL (prE q) k) (topSp q k d) i
      rw [hL1] at hlast hnl hls1
      generalize lsN (prE q) (poE q) (q - 1) (topL (prE q) k) (topSp q k d) (i + 1) = lsi1 at *
      generalize lsN (prE q) (poE q) (q - 1) (topL (prE q) k) (topSp q k d) i = lsi at *
      generalize (k :: lsi).getD i 0 = left at *
      rw [hsp1, hL1]
      generalize (stN (prE q) (poE q) (q - 1) (topL (prE q) k) (topSp q k d) i).1 = Li at *
      generalize (stN (prE q) (poE q) (q - 1) (topL (prE q) k) (topSp q k d) i).2 = spi at *
      refine ⟨.ref tp, rfl, .ref spa, rfl, q, tp, spa, ts, rs, Li, spi, rfl, hq, Wr, s1, t1, s2, v, po, hpi, vd_len v 300 hpi, ln, fun TT l' s' ts' H7 nl' ns' e7 hT sl' tl' ss' => ?_⟩
      generalize low (prE q) (poE q) Li spi = R at *
      refine ⟨TT, [.ref l', .ref s', N_ R.tk, N_ R.mn], rfl, st_of hT, rfl, .ref l', [.ref s', N_ R.tk, N_ R.mn], rfl, .ref s', [N_ R.tk, N_ R.mn], rfl, N_ R.tk, [N_ R.mn], rfl, N_ R.mn, [], rfl, rfl, ?_⟩
      have n1' : l' ≠ fp := fun z => by rw [z, h6] at nl'; cases nl'
      have n2' : s' ≠ fp := fun z => by
        rcases ns' with h | h
        · exact n2 (h ▸ z)
        · rw [z, h6] at h; cases h
      refine q_asg (v := N_ (nl (prE q) R.L)) (ev_is (ev_op (ev_var rfl) (ev_var rfl) rv_I0) (congrArg V.int (by omega))) fun H8 e8 => ?_
      have h8 := (e7.trans e8) _ _ h6
      refine q_app h8 (ev_var rfl) (ev_var rfl) (by rw [List.length_map, hls]; omega) fun H9 e9 => ?_
      have keepL : ∀ {x : Addr} {xs : List V}, x ≠ fp → SqL K H7 x xs → SqL K (upd H9 fp (.lst (lsi.map N_ ++ [N_ (nl (prE q) R.L)]))) x xs := fun {x xs} n hx => exd_l (p := fp) n ((Exd.of (e8.trans e9)).trans Exd.put) hx
      have ss9 := keepL n2' ss'
      have sl9 := keepL n1' sl'
      have t9 : Trs (upd H9 fp (.lst (lsi.map N_ ++ [N_ (nl (prE q) R.L)]))) rs (prE q) (poE q) ts' R.L := ⟨tl'.1, fun i t x a b => by
        have := (e8.trans e9) _ _ (tl'.2 i t x a b)
        rw [upd_ne (fun z => by rw [z, e9 _ _ h8] at this; cases this)]
        exact this⟩
      have f9 : (upd H9 fp (.lst (lsi.map N_ ++ [N_ (nl (prE q) R.L)]))) fp = some (.lst (lsi1.map N_)) := by
        rw [upd_same, hls1, List.map_append]
        rfl
      have e9' : Ex H (upd H9 fp (.lst (lsi.map N_ ++ [N_ (nl (prE q) R.L)]))) := (((e6.trans e7).trans e8).trans e9).mut nfH
      generalize (upd H9 fp (.lst (lsi.map N_ ++ [N_ (nl (prE q) R.L)]))) = G at ss9 sl9 t9 f9 e9'
      refine s_asgL (xs := (moreN (q - 1) R.sp).map N_) (el_is (el_lcL (K := K) (fun _ => true) (fun j => N_ (R.sp.getD j 0 + (q - 1))) (ev_var rfl) ss9 (by rw [List.length_map, hlo.ln]; omega) (fun _ => rfl) (fun _ _ _ _ _ => et_nil) (fun j x H10 e10 hx _ => ?_)) ?_) fun p H11 np e11 h11 => ⟨l', p, ts', some (N_ R.mn), some (N_ R.tk), y10, ?_, e9'.trans e11, e11 _ _ f9, n1', (fun z => by rw [z, f9] at np; cases np), ex_l e11 sl9, t9.ex e11, sq_of h11⟩
      · have hj := (List.getElem?_eq_some_iff.mp hx).1
        rw [List.length_map] at hj
        rw [get_sp hj] at hx
        cases hx
        exact ev_is (ev_op (ev_op (ev_var rfl) (ev_var rfl) rv_I0) ev_c rv_I0) (congrArg V.int (by omega))
      · rw [List.length_map, given_range]
        unfold moreN
        rw [List.map_map]
        refine List.ext_getElem? fun j => ?_
        rw [List.getElem?_map, List.getElem?_map]
        by_cases hj : j < R.sp.length
        · rw [List.getElem?_range hj, getD_get hj]
          rfl
        · rw [List.getElem?_eq_none (by rw [List.length_range]; omega), List.getElem?_eq_none (by omega)]
          rfl
      · rw [hlast]
        rfl
    · obtain ⟨tp, spa, ts, y8, y9, y10, rfl, e6, h6, _⟩ := hw
      rw [Int.toNat_natCast] at h6
      exact s_ret (ev_var rfl) fun H7 e7 => kk fp H7 nfH (e6.trans e7) (e7 _ _ h6)


end Own
namespace Own
open PySem PySem.Spec PyProof.Rows L2 Evl

def gmN (q d k : Nat) : List Nat := partN k (lstN q d k)
theorem ss_at {q k j : Nat} (h : j < poE q) : (ssL q k)[j]? = some (ds q (prE q ^ j * k)) := by
  unfold ssL
  rw [List.getElem?_map, List.getElem?_range h]
  rfl
theorem mp_iff {q d k : Nat} (hq : Fq q) : d ≤ mpN q k ↔ ∀ j, j < poE q → (q - 1) * d ≤ ds q (prE q ^ j * k) := by
  have hb := hq.b
  unfold mpN
  rw [Nat.le_div_iff_mul_le (by omega), Nat.mul_comm]
  constructor
  · intro h j hj
    exact Nat.le_trans h (minL_le _ _ (List.mem_of_getElem? (ss_at (k := k) hj)))
  · intro h
    have hm := minL_mem (ssL q k) (ssL_ne hq)
    unfold ssL at hm
    obtain ⟨j, hj, e⟩ := List.mem_map.mp hm
    have := h j (List.mem_range.mp hj)
    have e2 : minL (ssL q k) = ds q (prE q ^ j * k) := e.symm
    rw [e2]
    exact this
theorem gm_ok {q d k : Nat} (hq : Fq q) (h : d ≤ mpN q k) : Prt (prE q) (q - 1) d k (gmN q d k) := by
  obtain ⟨h1, h2⟩ := lst_ok hq ((mp_iff hq).mp h)
  have := prt_of (pfq hq) h1 h2
  rw [(t0_of hq).pw] at this
  exact this
def sp_greatest_members (K : PySem.W.Frag) : Sp := fun vs H Q _ => ∃ (q d k : Nat), vs = [N_ q, N_ d, N_ k] ∧ Fq q ∧ d ≤ 300 ∧ k < 10 ^ 60 ∧ d ≤ mpN q k ∧ RetU ((gmN q d k).map N_) H Q
theorem sv_greatest_members {K : PySem.W.Frag} {H : Hp} {q d k : Nat} (hq : Fq q) (hd : d ≤ 300) (hk : k < 10 ^ 60) (h : d ≤ mpN q k) : SpU (sp_greatest_members K) [N_ q, N_ d, N_ k] H ((gmN q d k).map N_) := fun H1 e Q kk E => ⟨q, d, k, rfl, hq, hd, hk, h, kk⟩
theorem gm_rev {q d k : Nat} (h : (lstN q d k).length = d) : gmN q d k = (difs (seqN k (lstN q d k)) (d + 1)).reverse := by
  unfold gmN partN
  rw [h]
section
variable {K : PySem.W.Frag} {σ : L2.St} {H : Hp} {t : TT} {te tl : TE}
theorem el_lcNU {xs : List V} {j : Nat} {vs : List Nat} (f : Nat → Bool) (v : Nat → V) (h : EvU tl σ H xs) (hz : xs.length ≤ 40000) (hw : ∀ x, wipe ((wipe σ vs).set j (some x)) vs = wipe σ vs)
    (ht : ∀ (i : Nat) (x : V) H1, Ex H H1 → xs[i]? = some x → EvT t ((wipe σ vs).set j (some x)) H1 (f i)) (he : ∀ (i : Nat) (x : V) H1, Ex H H1 → xs[i]? = some x → f i = true → Ev te ((wipe σ vs).set j (some x)) H1 (v i)) :
    EvL (tLc (iTup K tl) (gName j) t te vs) σ H (given xs.length f v) := fun H0 e Q q => h H0 e _ fun a H1 na e1 hx => ⟨a, rfl, ⟨xs, st_of hx⟩, fun Dl hD =>
  lc_tup (xs := xs) (Cw H1 f v Dl) ⟨hD, Ex.new hD, upd_same⟩ (fun i H' _ p => st_of (p.2.1 a _ hx)) (fun i x H' hi p => ⟨hw x, cw_turn p (by have := (List.getElem?_eq_some_iff.mp hi).1; omega) (ht i x H1 (e.trans e1) hi) (fun hf => he i x H1 (e.trans e1) hi hf)⟩)
    (fun H' p => q Dl H' (fresh_back e1 p.1) (e1.trans p.2.1) p.2.2)⟩
/-- t[:n] of a tuple that is longer -/
theorem eu_slTo {th : TE} {a : Addr} {xs : List V} {n : Nat} (h : Ev te σ H (.ref a)) (h2 : Ev th σ H (.int (n : Int))) (hx : SqT K H a xs) (hn : n < xs.length) : EvU (tSl (rSlT K) te tNoPart (tPart th)) σ H (xs.take n) := fun H1 e Q q =>
  h H1 e _ fun H2 e2 => eo_none H2 (Ex.refl H2) _ fun H3 e3 => eo_some h2 H3 ((e.trans e2).trans e3) _ fun H4 e4 => ⟨a, xs, rfl, ex_t (((e.trans e2).trans e3).trans e4) hx, fun z => by
    have h1 := z.2
    rw [show HT.sIx xs.length xs.length (some (n : Int)) = min n xs.length from HT.sIx_nat xs.length xs.length n] at h1
    omega, fun p hp => q p _ (fresh_back ((e2.trans e3).trans e4) hp) (((e2.trans e3).trans e4).trans (Ex.new hp)) (by rw [cutTake]; exact upd_same)⟩
end

theorem ok_greatest_members {P : Program} {w : World} {K : PySem.W.Frag} {mg : Str → Option Value} {base : Heap} (T : Txt K mg) : FnOk P w K mg base CX0 4 T.a_greatest_members T.d_greatest_members ["q", "d", "k"] (sp_greatest_members K) := by
  refine T.F_greatest_members.ok sc_greatest_members (fun vs H Q E h => ?_) (fun cdv A outer s H vs Q E hr h => ?_)
  · obtain ⟨q, d, k, rfl, _⟩ := h
    rfl
  · obtain ⟨q, d, k, rfl, hq, hd, hk, h, kk⟩ := h
    refine ⟨_, (pss_cons (ps_set (i := 3) sc_greatest_members.nd rfl (Or.inr rfl) (pe_op op_cat (pe_op op_cat (pe_lst (pa_cons (pv 2) pa_nil)) (pe_call (ok_least_sums T) (hr.mono (by decide)) (by rfl) T.g_least_sums T.F_least_sums.kp T.b_least_sums .nil pass0 (pa_cons (pv 0) (pa_cons (pv 1) (pa_cons (pv 2) pa_nil))))) (pe_lst (pa_cons pe_int pa_nil))))
      (pss_cons (ps_setLc (i := 4) (own := [("at", 5)]) (g := gName 5) (by rfl) sc_greatest_members.nd rfl rfl (sw_true rfl rfl rfl (by decide +kernel)) (pi_range1 rfl T.z_range (pa_cons (pe_op op_add (pv 1) pe_int) pa_nil)) (blkOk_by (N := ["q", "d", "k", "sums", "members", "at"]) (sc := defScope s_greatest_members) (by decide +kernel)) (fun _ _ _ _ _ => pg_name (i := 5) sc_greatest_members.nd rfl (Or.inl rfl)) (fun _ _ _ _ _ => pts_nil) (fun _ _ _ _ _ => (pe_op op_sub (pe_ix (r := rIxL K) ix_list (pv 3) (pv 5) (fun _ _ => rfl)) (pe_ix (r := rIxL K) ix_list (pv 3) (pe_op op_add (pv 5) pe_int) (fun _ _ => rfl)))))
      (pss_one (ps_ret (pe_callTy call_tuple_of (by rfl) T.z_tuple (by decide +kernel) (pa_cons (pe_revL (pv 4)) pa_nil)))))), ?_⟩
    obtain ⟨hfi, hln⟩ := lst_ok hq ((mp_iff hq).mp h)
    have hstep := seq_step hfi hln
    have hsl : ((k :: lstN q d k) ++ [0]).length = d + 2 := by simp [hln]
    refine q_asgL (xs := ((k :: lstN q d k) ++ [0]).map N_) (el_is (el_catN (el_catN (el_lst (vs := [N_ k]) (ea_cons (ev_var rfl) ea_nil) (by show 1 ≤ 100000; decide)) (el_call (ea_cons (ev_var rfl) (ea_cons (ev_var rfl) (ea_cons (ev_var rfl) ea_nil))) (sv_least_sums hq hd hk ((mp_iff hq).mp h))) (by rw [List.length_map, hln]; show 1 + _ ≤ _; omega)) (el_lst (vs := [N_ 0]) (ea_cons ev_c ea_nil) (by show 1 ≤ 100000; decide)) (by rw [List.length_append, List.length_map, hln]; show 1 + _ + 1 ≤ _; omega)) (by rw [List.map_append]; rfl)) fun sp H1 ns e1 h1 => ?_
    refine q_asgL (xs := (difs (seqN k (lstN q d k)) (d + 1)).map N_) (el_is (el_lcR1 (n := ((d + 1 : Nat) : Int)) (fun _ => true) (fun i => N_ (seqN k (lstN q d k) i - seqN k (lstN q d k) (i + 1))) (ea_cons (ev_is (ev_op (ev_var rfl) ev_c rv_I0) (congrArg V.int (by omega))) ea_nil) ⟨by omega, by omega⟩ (fun _ => rfl) (fun _ _ _ _ => et_nil) (fun i H2 e2 hi _ => ?_)) ?_) fun mp H2 nm e2 h2 => ?_
    · have hi' : i < d + 1 := by omega
      have hle := (hstep i hi').1
      have g : ∀ t, t < d + 2 → (((k :: lstN q d k) ++ [0]).map N_)[t]? = some (N_ (seqN k (lstN q d k) t)) := fun t ht => by
        rw [List.getElem?_map, getD_get (by omega)]
        rfl
      exact ev_is (ev_op (ev_op (r := rIxL K) (ev_var rfl) (ev_var rfl) (rv_ixL (sq_of (e2 _ _ h1)) (atI_nat (g i (by omega))))) (ev_op (r := rIxL K) (ev_var rfl) (ev_is (w := N_ (i + 1)) (ev_op (ev_var rfl) ev_c rv_I0) rfl) (rv_ixL (sq_of (e2 _ _ h1)) (atI_nat (g (i + 1) (by omega))))) rv_I0) (congrArg V.int (by omega))
    · rw [Int.toNat_natCast, given_range]
      unfold difs
      rw [List.map_map]
      rfl
    refine s_retU (eu_is (eu_tupleN (el_revV (ev_var rfl) (sq_of h2))) (by rw [gm_rev hln, List.map_reverse])) fun p H3 np e3 h3 => kk.go (e1.trans e2) np e3 h3


def sp_check_d (K : PySem.W.Frag) : Sp := fun vs H Q _ => ∃ (d : Nat), vs = [N_ d] ∧ d ≤ 300 ∧ RetV .non H Q
theorem sv_check_d {K : PySem.W.Frag} {H : Hp} {d : Nat} (hd : d ≤ 300) : SpV (sp_check_d K) [N_ d] H .non := fun H1 _ Q q E => ⟨d, rfl, hd, q⟩
theorem sm_d {d : Nat} (h : d ≤ 1000) : Sm (d : Int) := by
  show Int.natAbs (d : Int) < 10 ^ 60
  have e : (1001 : Nat) ≤ 10 ^ 60 := by decide
  omega

theorem ok_check_d {P : Program} {w : World} {K : PySem.W.Frag} {mg : Str → Option Value} {base : Heap} (T : Txt K mg) : FnOk P w K mg base CX0 4 T.a_check_d T.d_check_d ["d"] (sp_check_d K) := by
  refine T.F_check_d.ok sc_check_d (fun vs H Q E h => ?_) (fun cdv A outer s H vs Q E hr h => ?_)
  · obtain ⟨d, rfl, _⟩ := h
    rfl
  · obtain ⟨d, rfl, hd, k⟩ := h
    refine ⟨_, (pss_one (ps_expr (pe_call (ok_check_between T) (hr.mono (by decide)) (by rfl) T.g_check_between T.F_check_between.kp T.b_check_between .nil pass0 (pa_cons (pv 0) (pa_cons pe_int (pa_cons pe_int pa_nil)))))), ?_⟩
    refine s_drop (ev_call (ea_cons (ev_var rfl) (ea_cons ev_c (ea_cons ev_c ea_nil))) (sv_check_between (sm_d (by omega)) (by omega) (by omega))) fun H1 e1 => k H1 e1


def sp_check_sum (K : PySem.W.Frag) : Sp := fun vs H Q _ => ∃ (q d k : Nat), vs = [N_ q, N_ d, N_ k] ∧ Fq q ∧ d ≤ 300 ∧ k < 10 ^ 60 ∧ RetV .non H Q
theorem sv_check_sum {K : PySem.W.Frag} {H : Hp} {q d k : Nat} (hq : Fq q) (hd : d ≤ 300) (hk : k < 10 ^ 60) : SpV (sp_check_sum K) [N_ q, N_ d, N_ k] H .non := fun H1 _ Q q' E => ⟨q, d, k, rfl, hq, hd, hk, q'⟩

theorem ok_check_sum {P : Program} {w : World} {K : PySem.W.Frag} {mg : Str → Option Value} {base : Heap} (T : Txt K mg) : FnOk P w K mg base CX0 5 T.a_check_sum T.d_check_sum ["q", "d", "k"] (sp_check_sum K) := by
  refine T.F_check_sum.ok sc_check_sum (fun vs H Q E h => ?_) (fun cdv A outer s H vs Q E hr h => ?_)
  · obtain ⟨q, d, k, rfl, _⟩ := h
    rfl
  · obtain ⟨q, d, k, rfl, hq, hd, hk, kk⟩ := h
    refine ⟨_, (pss_cons (ps_expr (pe_call (ok_check_field T) (hr.mono (by decide)) (by rfl) T.g_check_field T.F_check_field.kp T.b_check_field .nil pass0 (pa_cons (pv 0) pa_nil)))
      (pss_cons (ps_expr (pe_call (ok_check_d T) (hr.mono (by decide)) (by rfl) T.g_check_d T.F_check_d.kp T.b_check_d .nil pass0 (pa_cons (pv 1) pa_nil)))
      (pss_one (ps_expr (pe_call (ok_check_from T) (hr.mono (by decide)) (by rfl) T.g_check_from T.F_check_from.kp T.b_check_from .nil pass0 (pa_cons (pv 2) (pa_cons pe_int pa_nil))))))), ?_⟩
    refine q_drop (ev_call (ea_cons (ev_var rfl) ea_nil) (sv_check_field hq)) fun H1 e1 => ?_
    refine q_drop (ev_call (ea_cons (ev_var rfl) ea_nil) (sv_check_d hd)) fun H2 e2 => ?_
    exact s_drop (ev_call (ea_cons (ev_var rfl) (ea_cons ev_c ea_nil)) (sv_check_from (sm_n hk) (by omega))) fun H3 e3 => kk H3 ((e1.trans e2).trans e3)


/-- a parting if there is one, else None -/
def RetP (q d k : Nat) (H : Hp) (Q : VK) : Prop := (mpN q k < d → RetV .non H Q) ∧ (d ≤ mpN q k → RetU ((gmN q d k).map N_) H Q)
theorem RetP.go {q d k : Nat} {H H' : Hp} {Q : VK} (h : RetP q d k H Q) (e : Ex H H') : RetP q d k H' Q := ⟨fun z H2 e2 => h.1 z H2 (e.trans e2), fun z p H2 np e2 g => h.2 z p H2 (fresh_back e np) (e.trans e2) g⟩
def spP (q : Nat) (d k : Nat) (H : Hp) (Q : VK) : Prop := Fq q ∧ d ≤ 300 ∧ k < 10 ^ 60 ∧ RetP q d k H Q
def sp_found_parting (K : PySem.W.Frag) : Sp := fun vs H Q _ => ∃ (q d k : Nat), vs = [N_ q, N_ d, N_ k] ∧ spP q d k H Q
def sp_parting (K : PySem.W.Frag) : Sp := fun vs H Q _ => ∃ (q d k : Nat), vs = [N_ q, N_ d, N_ k] ∧ spP q d k H Q
def sp_greatest_parting (K : PySem.W.Frag) : Sp := fun vs H Q _ => ∃ (q d k : Nat), vs = [N_ q, N_ d, N_ k] ∧ spP q d k H Q

theorem ok_found_parting {P : Program} {w : World} {K : PySem.W.Frag} {mg : Str → Option Value} {base : Heap} (T : Txt K mg) : FnOk P w K mg base CX0 5 T.a_found_parting T.d_found_parting ["q", "d", "k"] (sp_found_parting K) := by
  refine T.F_found_parting.ok sc_found_parting (fun vs H Q E h => ?_) (fun cdv A outer s H vs Q E hr h => ?_)
  · obtain ⟨q, d, k, rfl, _⟩ := h
    rfl
  · obtain ⟨q, d, k, rfl, hh⟩ := h
    refine ⟨_, (pss_cons (ps_if (pt_cmpR op_gt (pv 1) (pe_call (ok_parts_bound T) (hr.mono (by decide)) (by rfl) T.g_parts_bound T.F_parts_bound.kp T.b_parts_bound .nil pass0 (pa_cons (pv 0) (pa_cons (pv 2) pa_nil))) (nomark _)) (pss_one (ps_ret pe_non)) pss_nil)
      (pss_one (ps_ret (pe_call (ok_greatest_members T) (hr.mono (by decide)) (by rfl) T.g_greatest_members T.F_greatest_members.kp T.b_greatest_members .nil pass0 (pa_cons (pv 0) (pa_cons (pv 1) (pa_cons (pv 2) pa_nil))))))), ?_⟩
    obtain ⟨hq, hd, hk, kk⟩ := hh
    refine q_when (et_test (ev_op (ev_var rfl) (ev_call (ea_cons (ev_var rfl) (ea_cons (ev_var rfl) ea_nil)) (sv_parts_bound hq hk)) rv_I0)) (fun hb H1 e1 => ?_) (fun hb H1 e1 => ?_)
    · have hlt : mpN q k < d := by have := of_decide_eq_true hb; omega
      exact s_ret ev_c fun H2 e2 => kk.1 hlt H2 (e1.trans e2)
    · have hle : d ≤ mpN q k := by have := of_decide_eq_false hb; omega
      exact s_retU (eu_call (ea_cons (ev_var rfl) (ea_cons (ev_var rfl) (ea_cons (ev_var rfl) ea_nil))) (sv_greatest_members hq hd hk hle)) fun p H2 np e2 h2 => (kk.2 hle).go e1 np e2 h2


theorem ok_parting {P : Program} {w : World} {K : PySem.W.Frag} {mg : Str → Option Value} {base : Heap} (T : Txt K mg) : FnOk P w K mg base CX0 6 T.a_parting T.d_parting ["q", "d", "k"] (sp_parting K) := by
  refine T.F_parting.ok sc_parting (fun vs H Q E h => ?_) (fun cdv A outer s H vs Q E hr h => ?_)
  · obtain ⟨q, d, k, rfl, _⟩ := h
    rfl
  · obtain ⟨q, d, k, rfl, hh⟩ := h
    refine ⟨_, (pss_cons (ps_expr (pe_call (ok_check_sum T) (hr.mono (by decide)) (by rfl) T.g_check_sum T.F_check_sum.kp T.b_check_sum .nil pass0 (pa_cons (pv 0) (pa_cons (pv 1) (pa_cons (pv 2) pa_nil)))))
      (pss_one (ps_ret (pe_call (ok_found_parting T) (hr.mono (by decide)) (by rfl) T.g_found_parting T.F_found_parting.kp T.b_found_parting .nil pass0 (pa_cons (pv 0) (pa_cons (pv 1) (pa_cons (pv 2) pa_nil))))))), ?_⟩
    obtain ⟨hq, hd, hk, kk⟩ := hh
    refine q_drop (ev_call (ea_cons (ev_var rfl) (ea_cons (ev_var rfl) (ea_cons (ev_var rfl) ea_nil))) (sv_check_sum hq hd hk)) fun H1 e1 => ?_
    exact ⟨N_ q, rfl, N_ d, rfl, N_ k, rfl, q, d, k, rfl, hq, hd, hk, kk.go e1⟩


theorem ok_greatest_parting {P : Program} {w : World} {K : PySem.W.Frag} {mg : Str → Option Value} {base : Heap} (T : Txt K mg) : FnOk P w K mg base CX0 6 T.a_greatest_parting T.d_greatest_parting ["q", "d", "k"] (sp_greatest_parting K) := by
  refine T.F_greatest_parting.ok sc_greatest_parting (fun vs H Q E h => ?_) (fun cdv A outer s H vs Q E hr h => ?_)
  · obtain ⟨q, d, k, rfl, _⟩ := h
    rfl
  · obtain ⟨q, d, k, rfl, hh⟩ := h
    refine ⟨_, (pss_cons (ps_expr (pe_call (ok_check_sum T) (hr.mono (by decide)) (by rfl) T.g_check_sum T.F_check_sum.kp T.b_check_sum .nil pass0 (pa_cons (pv 0) (pa_cons (pv 1) (pa_cons (pv 2) pa_nil)))))
      (pss_one (ps_ret (pe_call (ok_found_parting T) (hr.mono (by decide)) (by rfl) T.g_found_parting T.F_found_parting.kp T.b_found_parting .nil pass0 (pa_cons (pv 0) (pa_cons (pv 1) (pa_cons (pv 2) pa_nil))))))), ?_⟩
    obtain ⟨hq, hd, hk, kk⟩ := hh
    refine q_drop (ev_call (ea_cons (ev_var rfl) (ea_cons (ev_var rfl) (ea_cons (ev_var rfl) ea_nil))) (sv_check_sum hq hd hk)) fun H1 e1 => ?_
    exact ⟨N_ q, rfl, N_ d, rfl, N_ k, rfl, q, d, k, rfl, hq, hd, hk, kk.go e1⟩


def sp_is_zero_sum (K : PySem.W.Frag) : Sp := fun vs H Q _ => ∃ (q d k : Nat), vs = [N_ q, N_ d, N_ k] ∧ Fq q ∧ d ≤ 300 ∧ k < 10 ^ 60 ∧ RetV (.bl (decide (mpN q k < d))) H Q
theorem sv_is_zero_sum {K : PySem.W.Frag} {H : Hp} {q d k : Nat} (hq : Fq q) (hd : d ≤ 300) (hk : k < 10 ^ 60) : SpV (sp_is_zero_sum K) [N_ q, N_ d, N_ k] H (.bl (decide (mpN q k < d))) := fun H1 _ Q q' E => ⟨q, d, k, rfl, hq, hd, hk, q'⟩
theorem dec_lt {x y : Nat} : decide ((x : Int) < (y : Int)) = decide (x < y) := by
  by_cases h : x < y
  · rw [decide_eq_true h, decide_eq_true (by omega)]
  · rw [decide_eq_false h, decide_eq_false (by omega)]

theorem ok_is_zero_sum {P : Program} {w : World} {K : PySem.W.Frag} {mg : Str → Option Value} {base : Heap} (T : Txt K mg) : FnOk P w K mg base CX0 6 T.a_is_zero_sum T.d_is_zero_sum ["q", "d", "k"] (sp_is_zero_sum K) := by
  refine T.F_is_zero_sum.ok sc_is_zero_sum (fun vs H Q E h => ?_) (fun cdv A outer s H vs Q E hr h => ?_)
  · obtain ⟨q, d, k, rfl, _⟩ := h
    rfl
  · obtain ⟨q, d, k, rfl, hq, hd, hk, kk⟩ := h
    refine ⟨_, (pss_cons (ps_expr (pe_call (ok_check_sum T) (hr.mono (by decide)) (by rfl) T.g_check_sum T.F_check_sum.kp T.b_check_sum .nil pass0 (pa_cons (pv 0) (pa_cons (pv 1) (pa_cons (pv 2) pa_nil)))))
      (pss_one (ps_ret (pe_cmpR op_gt (pv 1) (pe_call (ok_parts_bound T) (hr.mono (by decide)) (by rfl) T.g_parts_bound T.F_parts_bound.kp T.b_parts_bound .nil pass0 (pa_cons (pv 0) (pa_cons (pv 2) pa_nil))) (nomark _))))), ?_⟩
    refine q_drop (ev_call (ea_cons (ev_var rfl) (ea_cons (ev_var rfl) (ea_cons (ev_var rfl) ea_nil))) (sv_check_sum hq hd hk)) fun H1 e1 => ?_
    exact s_ret (ev_is (ev_op (ev_var rfl) (ev_call (ea_cons (ev_var rfl) (ea_cons (ev_var rfl) ea_nil)) (sv_parts_bound hq hk)) rv_I0) (congrArg V.bl dec_lt)) fun H2 e2 => kk H2 (e1.trans e2)


def barB (q d k j : Nat) : Bool := decide (ds q (prE q ^ j * k) < (q - 1) * d)
def barsN (q d k : Nat) : List Nat := (List.range (poE q)).filter (barB q d k)
def sp_is_bar (K : PySem.W.Frag) : Sp := fun vs H Q _ => ∃ (q d k j : Nat), vs = [N_ q, N_ d, N_ k, N_ j] ∧ Fq q ∧ d ≤ 300 ∧ k < 10 ^ 60 ∧ j < poE q ∧ RetV (.bl (barB q d k j)) H Q
theorem sv_is_bar {K : PySem.W.Frag} {H : Hp} {q d k j : Nat} (hq : Fq q) (hd : d ≤ 300) (hk : k < 10 ^ 60) (hj : j < poE q) : SpV (sp_is_bar K) [N_ q, N_ d, N_ k, N_ j] H (.bl (barB q d k j)) := fun H1 _ Q q' E => ⟨q, d, k, j, rfl, hq, hd, hk, hj, q'⟩

theorem ok_is_bar {P : Program} {w : World} {K : PySem.W.Frag} {mg : Str → Option Value} {base : Heap} (T : Txt K mg) : FnOk P w K mg base CX0 4 T.a_is_bar T.d_is_bar ["q", "d", "k", "j"] (sp_is_bar K) := by
  refine T.F_is_bar.ok sc_is_bar (fun vs H Q E h => ?_) (fun cdv A outer s H vs Q E hr h => ?_)
  · obtain ⟨q, d, k, j, rfl, _⟩ := h
    rfl
  · obtain ⟨q, d, k, j, rfl, hq, hd, hk, hj, kk⟩ := h
    refine ⟨_, (pss_one (ps_ret (pe_cmpR op_lt (pe_ix (r := rIxL K) ix_list (pe_call (ok_shift_sum_list T) (hr.mono (by decide)) (by rfl) T.g_shift_sum_list T.F_shift_sum_list.kp T.b_shift_sum_list .nil pass0 (pa_cons (pv 0) (pa_cons (pv 2) pa_nil))) (pv 3) (fun _ _ => rfl)) (pe_op op_mulW (pe_op op_sub (pv 0) pe_int) (pv 1)) (nomark _)))), ?_⟩
    have hqb := hq.b
    exact s_ret (ev_is (ev_op (ev_opL1 (el_call (ea_cons (ev_var rfl) (ea_cons (ev_var rfl) ea_nil)) (sv_shift_sum_list hq hk)) (fun H1 e1 => ev_var rfl) (fun p H1 h1 e1 => rv_ixL (K := K) (v := N_ (ds q (prE q ^ j * k))) (sq_of h1) (atI_nat (by rw [List.getElem?_map, ss_at hj]; rfl)))) (ev_is (w := N_ ((q - 1) * d)) (ev_op (ev_op (ev_var rfl) ev_c rv_I0) (ev_var rfl) (rv_I (wide_mul (a := 10) (b := 10) (by show Int.natAbs ((q : Int) - 1) < 1024; omega) (by show d < 1024; omega) (by decide) (by decide) (by decide)))) (congrArg V.int (by rw [show ((q : Int) - 1) = ((q - 1 : Nat) : Int) by omega, ← Int.natCast_mul]))) rv_I0) (congrArg V.bl dec_lt)) fun H2 e2 => kk H2 e2


def barV (q d k : Nat) : V := if barsN q d k = [] then .non else N_ (minN (barsN q d k))
def sp_digit_bar (K : PySem.W.Frag) : Sp := fun vs H Q _ => ∃ (q d k : Nat), vs = [N_ q, N_ d, N_ k] ∧ Fq q ∧ d ≤ 300 ∧ k < 10 ^ 60 ∧ RetV (barV q d k) H Q
theorem sv_digit_bar {K : PySem.W.Frag} {H : Hp} {q d k : Nat} (hq : Fq q) (hd : d ≤ 300) (hk : k < 10 ^ 60) : SpV (sp_digit_bar K) [N_ q, N_ d, N_ k] H (barV q d k) := fun H1 _ Q q' E => ⟨q, d, k, rfl, hq, hd, hk, q'⟩
theorem given_filter (n : Nat) (f : Nat → Bool) (v : Nat → V) : given n f v = ((List.range n).filter f).map v := rfl

theorem ok_digit_bar {P : Program} {w : World} {K : PySem.W.Frag} {mg : Str → Option Value} {base : Heap} (T : Txt K mg) : FnOk P w K mg base CX0 6 T.a_digit_bar T.d_digit_bar ["q", "d", "k"] (sp_digit_bar K) := by
  refine T.F_digit_bar.ok sc_digit_bar (fun vs H Q E h => ?_) (fun cdv A outer s H vs Q E hr h => ?_)
  · obtain ⟨q, d, k, rfl, _⟩ := h
    rfl
  · obtain ⟨q, d, k, rfl, hq, hd, hk, kk⟩ := h
    refine ⟨_, (pss_cons (ps_expr (pe_call (ok_check_sum T) (hr.mono (by decide)) (by rfl) T.g_check_sum T.F_check_sum.kp T.b_check_sum .nil pass0 (pa_cons (pv 0) (pa_cons (pv 1) (pa_cons (pv 2) pa_nil)))))
      (pss_cons (ps_setLc (i := 3) (own := [("j", 4)]) (g := gName 4) (by rfl) sc_digit_bar.nd rfl rfl (sw_true rfl rfl rfl (by decide +kernel)) (pi_range1 rfl T.z_range (pa_cons (pe_ix (r := rIxW K) ix_tab (pe_glob (v := .ref T.a_POWERS) (by rfl) T.g_POWERS rfl) (pv 0) (fun _ _ => rfl)) pa_nil)) (blkOk_by (N := ["q", "d", "k", "bars", "j"]) (sc := defScope s_digit_bar) (by decide +kernel)) (fun _ _ _ _ _ => pg_name (i := 4) sc_digit_bar.nd rfl (Or.inl rfl)) (fun _ _ _ _ _ => (pts_one (pt_val (pe_call (ok_is_bar T) (hr.mono (by decide)) (by rfl) T.g_is_bar T.F_is_bar.kp T.b_is_bar .nil pass0 (pa_cons (pv 0) (pa_cons (pv 1) (pa_cons (pv 2) (pa_cons (pv 4) pa_nil)))))))) (fun _ _ _ _ _ => (pv 4)))
      (pss_one (ps_ret (pe_callBK (cr_minD (d := .non) rfl) (by rfl) T.z_min (by decide +kernel) (pa_cons (pv 3) pa_nil) (pk_cons pe_non pk_nil)))))), ?_⟩
    have ht := t0_of hq
    have hf3 := ht.f3
    refine q_drop (ev_call (ea_cons (ev_var rfl) (ea_cons (ev_var rfl) (ea_cons (ev_var rfl) ea_nil))) (sv_check_sum hq hd hk)) fun H1 e1 => ?_
    refine q_asgL (xs := (barsN q d k).map N_) (el_is (el_lcR1 (n := (poE q : Int)) (barB q d k) (fun j => N_ j) (ea_cons (ev_tab0 T.w_POWERS ht.po (ev_var rfl)) ea_nil) ⟨by omega, by omega⟩ (fun _ => rfl) (fun j H2 e2 hj => et_test (ev_call (ea_cons (ev_var rfl) (ea_cons (ev_var rfl) (ea_cons (ev_var rfl) (ea_cons (ev_var rfl) ea_nil)))) (sv_is_bar hq hd hk (by omega)))) (fun j H2 e2 hj _ => ev_var rfl)) (by rw [Int.toNat_natCast, given_filter]; rfl)) fun bp H2 nb e2 h2 => ?_
    have hb : H2 bp = some (.lst (((barsN q d k).map Int.ofNat).map V.int)) := by rw [← mapN]; exact h2
    refine s_ret (ev_minDV (K := K) (d := .non) (r := barV q d k) (ns := (barsN q d k).map Int.ofNat) (ev_var rfl) (sq_of hb) ev_c (fun z => ?_) (fun M h3 h4 => ?_)) fun H3 e3 => kk H3 ((e1.trans e2).trans e3)
    · unfold barV
      rw [if_pos (List.map_eq_nil_iff.mp z)]
    · obtain ⟨z, hz, rfl⟩ := List.mem_map.mp h3
      have hne : barsN q d k ≠ [] := fun e => by rw [e] at hz; cases hz
      unfold barV
      rw [if_neg hne]
      have h5 := minN_le _ z hz
      have h6 := Int.ofNat_le.mp (h4 _ (List.mem_map.mpr ⟨_, minN_mem _ hne, rfl⟩))
      have : minN (barsN q d k) = z := by omega
      rw [this]
      rfl


def sp_is_digit_bar (K : PySem.W.Frag) : Sp := fun vs H Q _ => ∃ (q d k j : Nat), vs = [N_ q, N_ d, N_ k, N_ j] ∧ Fq q ∧ d ≤ 300 ∧ k < 10 ^ 60 ∧ j ≤ 1000 ∧ RetV (.bl (decide (j < poE q) && barB q d k j)) H Q
theorem sv_is_digit_bar {K : PySem.W.Frag} {H : Hp} {q d k j : Nat} (hq : Fq q) (hd : d ≤ 300) (hk : k < 10 ^ 60) (hj : j ≤ 1000) : SpV (sp_is_digit_bar K) [N_ q, N_ d, N_ k, N_ j] H (.bl (decide (j < poE q) && barB q d k j)) := fun H1 _ Q q' E => ⟨q, d, k, j, rfl, hq, hd, hk, hj, q'⟩

theorem ok_is_digit_bar {P : Program} {w : World} {K : PySem.W.Frag} {mg : Str → Option Value} {base : Heap} (T : Txt K mg) : FnOk P w K mg base CX0 6 T.a_is_digit_bar T.d_is_digit_bar ["q", "d", "k", "value"] (sp_is_digit_bar K) := by
  refine T.F_is_digit_bar.ok sc_is_digit_bar (fun vs H Q E h => ?_) (fun cdv A outer s H vs Q E hr h => ?_)
  · obtain ⟨q, d, k, j, rfl, _⟩ := h
    rfl
  · obtain ⟨q, d, k, j, rfl, hq, hd, hk, hj, kk⟩ := h
    refine ⟨_, (pss_cons (ps_expr (pe_call (ok_check_sum T) (hr.mono (by decide)) (by rfl) T.g_check_sum T.F_check_sum.kp T.b_check_sum .nil pass0 (pa_cons (pv 0) (pa_cons (pv 1) (pa_cons (pv 2) pa_nil)))))
      (pss_one (ps_ret (pe_and (pe_call (ok_is_between T) (hr.mono (by decide)) (by rfl) T.g_is_between T.F_is_between.kp T.b_is_between .nil pass0 (pa_cons (pv 3) (pa_cons pe_int (pa_cons (pe_op op_sub (pe_ix (r := rIxW K) ix_tab (pe_glob (v := .ref T.a_POWERS) (by rfl) T.g_POWERS rfl) (pv 0) (fun _ _ => rfl)) pe_int) pa_nil)))) (pe_one (pe_call (ok_is_bar T) (hr.mono (by decide)) (by rfl) T.g_is_bar T.F_is_bar.kp T.b_is_bar .nil pass0 (pa_cons (pv 0) (pa_cons (pv 1) (pa_cons (pv 2) (pa_cons (pv 3) pa_nil)))))))))), ?_⟩
    have ht := t0_of hq
    have hf1 := ht.f1
    refine q_drop (ev_call (ea_cons (ev_var rfl) (ea_cons (ev_var rfl) (ea_cons (ev_var rfl) ea_nil))) (sv_check_sum hq hd hk)) fun H1 e1 => ?_
    have e0 : (decide ((0 : Int) ≤ (j : Int)) && decide ((j : Int) ≤ (poE q : Int) - 1)) = decide (j < poE q) := by
      rw [decide_eq_true (by omega), Bool.true_and]
      by_cases h : j < poE q
      · rw [decide_eq_true h, decide_eq_true (by omega)]
      · rw [decide_eq_false h, decide_eq_false (by omega)]
    exact s_ret (ev_andV (ev_is (ev_call (ea_cons (ev_var rfl) (ea_cons ev_c (ea_cons (ev_op (ev_tab0 T.w_POWERS ht.po (ev_var rfl)) ev_c rv_I0) ea_nil))) (sv_is_between (sm_d hj))) (congrArg V.bl e0)) fun hb => ev_call (ea_cons (ev_var rfl) (ea_cons (ev_var rfl) (ea_cons (ev_var rfl) (ea_cons (ev_var rfl) ea_nil)))) (sv_is_bar hq hd hk (of_decide_eq_true hb))) fun H2 e2 => kk H2 (e1.trans e2)


def sp_is_parting (K : PySem.W.Frag) : Sp := fun vs H Q _ => ∃ (q d k : Nat) (a : Addr) (ms : List Nat), vs = [N_ q, N_ d, N_ k, .ref a] ∧ Fq q ∧ d ≤ 300 ∧ k < 10 ^ 60 ∧ SqT K H a (ms.map N_) ∧ Prt (prE q) (q - 1) d k ms ∧ RetV (.bl true) H Q
theorem sv_is_parting {K : PySem.W.Frag} {H : Hp} {q d k : Nat} {a : Addr} {ms : List Nat} (hq : Fq q) (hd : d ≤ 300) (hk : k < 10 ^ 60) (ha : SqT K H a (ms.map N_)) (hp : Prt (prE q) (q - 1) d k ms) : SpV (sp_is_parting K) [N_ q, N_ d, N_ k, .ref a] H (.bl true) := fun H1 e Q q' E => ⟨q, d, k, a, ms, rfl, hq, hd, hk, ex_t e ha, hp, q'⟩
theorem all_id {bs : List Bool} (h : ∀ b ∈ bs, b = true) : bs.all id = true := List.all_eq_true.mpr h
theorem mem_lt {p s d k : Nat} {ms : List Nat} (h : Prt p s d k ms) : ∀ m ∈ ms, m ≤ k := fun m hm => by
  have := le_sum ms m hm
  rw [h.sum] at this
  exact this

theorem ok_is_parting {P : Program} {w : World} {K : PySem.W.Frag} {mg : Str → Option Value} {base : Heap} (T : Txt K mg) : FnOk P w K mg base CX0 6 T.a_is_parting T.d_is_parting ["q", "d", "k", "value"] (sp_is_parting K) := by
  refine T.F_is_parting.ok sc_is_parting (fun vs H Q E h => ?_) (fun cdv A outer s H vs Q E hr h => ?_)
  · obtain ⟨q, d, k, a, ms, rfl, _⟩ := h
    rfl
  · obtain ⟨q, d, k, a, ms, rfl, hq, hd, hk, ha, hp, kk⟩ := h
    refine ⟨_, (pss_cons (ps_expr (pe_call (ok_check_sum T) (hr.mono (by decide)) (by rfl) T.g_check_sum T.F_check_sum.kp T.b_check_sum .nil pass0 (pa_cons (pv 0) (pa_cons (pv 1) (pa_cons (pv 2) pa_nil)))))
      (pss_cons (ps_if (PW.pt (pw_or (pt_not (pt_val (pe_callB call_isi (by rfl) T.z_isinstance (by decide +kernel) (pa_cons (pv 3) (pa_cons (pe_bltn (v := .ty "tuple") (u := .type "tuple") (by rfl) T.z_tuple (by decide +kernel) rfl) pa_nil))))) (pw_or1 (pt_cmpR op_ne (pe_callB call_len_seq (by rfl) T.z_len (by decide +kernel) (pa_cons (pv 3) pa_nil)) (pe_op op_add (pv 1) pe_int) (nomark _))))) (pss_one (ps_ret pe_bl)) pss_nil)
      (pss_cons (ps_if (pt_not (pt_val (pe_callB (cr_all rfl) (by rfl) T.z_all (by decide +kernel) (pa_cons (pe_lc (own := [("member", 4)]) (g := gName 4) rfl sc_is_parting.nd (pi_tup (pv 3)) (blkOk_by (N := ["q", "d", "k", "value", "member"]) (sc := defScope s_is_parting) (by decide +kernel)) (fun _ _ _ _ _ => pg_name (i := 4) sc_is_parting.nd rfl (Or.inl rfl)) (fun _ _ _ _ _ => pts_nil) (fun _ _ _ _ _ => (pe_call (ok_is_between T) (hr.mono (by decide)) (by rfl) T.g_is_between T.F_is_between.kp T.b_is_between .nil pass0 (pa_cons (pv 4) (pa_cons pe_int (pa_cons (pv 2) pa_nil)))))) pa_nil)))) (pss_one (ps_ret pe_bl)) pss_nil)
      (pss_cons (ps_if (pt_not (pt_val (pe_callB (cr_all rfl) (by rfl) T.z_all (by decide +kernel) (pa_cons (pe_lc (own := [("member", 4)]) (g := gName 4) rfl sc_is_parting.nd (pi_tup (pe_slice sl_tup (pv 3) po_none (po_some (pv 1)))) (blkOk_by (N := ["q", "d", "k", "value", "member"]) (sc := defScope s_is_parting) (by decide +kernel)) (fun _ _ _ _ _ => pg_name (i := 4) sc_is_parting.nd rfl (Or.inl rfl)) (fun _ _ _ _ _ => pts_nil) (fun _ _ _ _ _ => (pe_and (pe_cmpR op_gt (pv 4) pe_int (nomark _)) (pe_one (pe_cmpR op_eq (pe_op op_mod (pv 4) (pe_op op_sub (pv 0) pe_int)) pe_int (nomark _)))))) pa_nil)))) (pss_one (ps_ret pe_bl)) pss_nil)
      (pss_one (ps_ret (pe_and (pe_cmpR op_eq (pe_callB (cr_sumT rfl) (by rfl) T.z_sum (by decide +kernel) (pa_cons (pv 3) pa_nil)) (pv 2) (nomark _)) (pe_one (pe_call (ok_are_carry_free T) (hr.mono (by decide)) (by rfl) T.g_are_carry_free T.F_are_carry_free.kp T.b_are_carry_free .nil pass0 (pa_cons (pe_ix (r := rIxW K) ix_tab (pe_glob (v := .ref T.a_PRIMES) (by rfl) T.g_PRIMES rfl) (pv 0) (fun _ _ => rfl)) (pa_cons (pv 3) pa_nil))))))))))), ?_⟩
    have ht := t0_of hq
    have hqb := hq.b
    have hmk := mem_lt hp
    have hlen := hp.len
    have hpb : Bs (prE q) := ⟨ht.p2, by have := ht.p7; omega⟩
    refine q_drop (ev_call (ea_cons (ev_var rfl) (ea_cons (ev_var rfl) (ea_cons (ev_var rfl) ea_nil))) (sv_check_sum hq hd hk)) fun H1 e1 => ?_
    have ha1 := ex_t e1 ha
    refine q_when (b := false) (et_is (et_or (et_not (et_B (ev_cb (ea_cons (ev_var rfl) (ea_cons ev_c ea_nil)) (rc_isi (b := true) (tyx_tup ha1) (kit_ty (by decide +kernel)))))) fun _ => et_test (ev_op (ev_is (w := N_ (d + 1)) (ev_cb (ea_cons (ev_var rfl) ea_nil) (rc_lenT ha1)) (congrArg V.int (by rw [List.length_map, hlen]))) (ev_is (w := N_ (d + 1)) (ev_op (ev_var rfl) ev_c rv_I0) rfl) (rv_ne rfl))) (by rw [decide_eq_true rfl]; rfl)) (fun h => nomatch h) (fun _ H2 e2 => ?_)
    have ha2 := ex_t e2 ha1
    refine q_when (b := false) (et_is (et_not (et_B (ev_allN (bs := ms.map fun _ => true) (el_is (el_lcT (fun _ => true) (fun i => .bl true) (ev_var rfl) ha2 (by rw [List.length_map]; omega) (fun _ => rfl) (fun _ _ _ _ _ => et_nil) (fun i x H3 e3 hi _ => ?_)) ?_)))) (by rw [all_true]; rfl)) (fun h => nomatch h) (fun _ H3 e3 => ?_)
    · rw [List.getElem?_map] at hi
      obtain ⟨m, hm, rfl⟩ := Option.map_eq_some_iff.mp hi
      have hle := hmk m (List.mem_of_getElem? hm)
      exact ev_is (ev_call (ea_cons (ev_var rfl) (ea_cons ev_c (ea_cons (ev_var rfl) ea_nil))) (sv_is_between (sm_n (Nat.lt_of_le_of_lt hle hk)))) (congrArg V.bl (by rw [decide_eq_true (by omega), decide_eq_true (by omega)] <;> rfl))
    · rw [List.length_map, given_all ms (fun _ => .bl true) _ (fun i y h => rfl), List.map_map]
      rfl
    have ha3 := ex_t e3 ha2
    refine q_when (b := false) (et_is (et_not (et_B (ev_allN (bs := (ms.take d).map fun _ => true) (el_is (el_lcNU (K := K) (xs := (ms.take d).map N_) (fun _ => true) (fun i => .bl true) (eu_is (eu_slTo (ev_var rfl) (ev_var rfl) ha3 (by rw [List.length_map]; omega)) (List.map_take ..).symm) (by rw [List.length_map, List.length_take]; omega) (fun _ => rfl) (fun _ _ _ _ _ => et_nil) (fun i x H4 e4 hi _ => ?_)) ?_)))) (by rw [all_true]; rfl)) (fun h => nomatch h) (fun _ H4 e4 => ?_)
    · rw [List.getElem?_map] at hi
      obtain ⟨m, hm, rfl⟩ := Option.map_eq_some_iff.mp hi
      have hid : i < d := by
        have := (List.getElem?_eq_some_iff.mp hm).1
        rw [List.length_take] at this
        omega
      rw [List.getElem?_take_of_lt hid] at hm
      have hg : ms.getD i 0 = m := by rw [List.getD_eq_getElem?_getD, hm]; rfl
      obtain ⟨m1, m2⟩ := hp.mul i hid
      rw [hg] at m1 m2
      refine ev_is (ev_andV (ev_op (ev_var rfl) ev_c rv_I0) fun _ => ev_op (ev_op (ev_var rfl) (ev_op (ev_var rfl) ev_c rv_I0) (rv_I (by omega))) ev_c (rv_eq rfl)) (congrArg V.bl ?_)
      rw [decide_eq_true (by omega), show ((q : Int) - 1) = ((q - 1 : Nat) : Int) by omega, ← Int.natCast_emod, m2]
      rfl
    · rw [List.length_map, given_all (ms.take d) (fun _ => .bl true) _ (fun i y h => rfl), List.map_map]
      rfl
    have ha4 := ex_t e4 ha3
    refine s_ret (ev_is (ev_andV (ev_op (ev_is (w := N_ k) (ev_cb (ea_cons (ev_var rfl) ea_nil) (rc_sumT (ns := ms.map Int.ofNat) (by rw [← mapN]; exact ha4))) (by rw [sumN, hp.sum])) (ev_var rfl) (rv_eq rfl)) fun _ => ev_call (ea_cons (ev_tab0 T.w_PRIMES ht.pr (ev_var rfl)) (ea_cons (ev_var rfl) ea_nil)) (sv_are_carry_free hpb ha4 (by omega) (by rw [hp.sum]; exact gt60 hk))) (congrArg V.bl ?_)) fun H5 e5 => kk H5 ((((e1.trans e2).trans e3).trans e4).trans e5)
    rw [decide_eq_true rfl, hp.sum, decide_eq_true hp.dg]
    rfl


end Own
namespace Own
open PySem PySem.Spec PyProof.Rows L2 Evl

def sp__law_dice (K : PySem.W.Frag) : Sp := fun vs H Q _ => ∃ (a : Addr) (ns : List Int) (at_ : Nat), vs = [.ref a, N_ at_] ∧ SqL K H a (ns.map V.int) ∧ ns.length ≤ 63 ∧ at_ ≤ 100 ∧ ∀ p H', H p = none → Ex H H' → IsDice H' p → Q (.ref p) H'

theorem ok__law_dice {P : Program} {w : World} {K : PySem.W.Frag} {mg : Str → Option Value} {base : Heap} (T : Txt K mg) : FnOk P w K mg base CX0 1 T.a__law_dice T.d__law_dice ["_law_script", "_law_at"] (sp__law_dice K) := by
  refine T.F__law_dice.ok sc__law_dice (fun vs H Q E h => ?_) (fun cdv A outer s H vs Q E hr h => ?_)
  · obtain ⟨a, ns, at_, rfl, _⟩ := h
    rfl
  · obtain ⟨a, ns, at_, rfl, hx, hlen, hat, k⟩ := h
    refine ⟨_, (pss_cons (ps_set (i := 2) sc__law_dice.nd rfl (Or.inl rfl) (pe_op op_add (pe_op op_mul pe_int (pv 1)) pe_int))
      (pss_cons (ps_if (pt_cmpR op_lt (pv 1) (pe_callB call_len_seq (by rfl) T.z_len (by decide +kernel) (pa_cons (pv 0) pa_nil)) (nomark _)) (pss_one (ps_set (i := 2) sc__law_dice.nd rfl (Or.inl rfl) (pe_ix (r := rIxL K) ix_list (pv 0) (pv 1) (fun _ _ => rfl)))) pss_nil)
      (pss_cons (ps_set (i := 3) sc__law_dice.nd rfl (Or.inl rfl) (pe_op op_mod (pe_callTy call_int1 (by rfl) T.z_int (by decide +kernel) (pa_cons (pe_callB call_abs (by rfl) T.z_abs (by decide +kernel) (pa_cons (pv 2) pa_nil)) pa_nil)) (pe_op op_powW (pe_op op_powW pe_int pe_int) pe_int)))
      (pss_cons (ps_set (i := 4) sc__law_dice.nd rfl (Or.inl rfl) (pe_op op_fdivW (pv 3) (pe_op op_powW pe_int pe_int)))
      (pss_cons (ps_set (i := 5) sc__law_dice.nd rfl (Or.inl rfl) (pe_op op_add (pe_op op_add (pe_op op_add (pe_op op_mul (pe_op op_mod (pv 3) pe_int) pe_int) (pe_op op_mul pe_int (pv 1))) (pe_op op_mul pe_int (pe_callTy call_int1 (by rfl) T.z_int (by decide +kernel) (pa_cons (pe_cmpR op_lt (pv 2) pe_int (nomark _)) pa_nil)))) pe_int))
      (pss_one (ps_ret (pe_lst (pa_cons (pv 4) (pa_cons (pe_op op_mod (pv 5) pe_int) (pa_cons pe_int pa_nil))))))))))), ?_⟩
    refine q_asg (ev_op (ev_op ev_c (ev_var rfl) (rv_I (.inl ⟨by decide, by decide⟩))) ev_c rv_I0) fun H1 e1 => ?_
    have hz : ∃ z : Int, (decide ((at_ : Int) < ((ns.map V.int).length : Nat)) = true → (ns.map V.int)[at_]? = some (.int z)) ∧ (decide ((at_ : Int) < ((ns.map V.int).length : Nat)) = false → z = 103 * (at_ : Int) + 43) := by
      by_cases hlt : at_ < ns.length
      · refine ⟨ns[at_], fun _ => ?_, fun h => ?_⟩
        · rw [List.getElem?_map, List.getElem?_eq_getElem hlt]
          rfl
        · have := of_decide_eq_false h
          rw [List.length_map] at this
          omega
      · refine ⟨103 * (at_ : Int) + 43, fun h => ?_, fun _ => rfl⟩
        have := of_decide_eq_true h
        rw [List.length_map] at this
        omega
    obtain ⟨z, hz1, hz2⟩ := hz
    refine q_ifAsg (v := .int z) (et_test (ev_op (ev_var rfl) (ev_cb (ea_cons (ev_var rfl) ea_nil) (rc_lenL (ex_l e1 hx))) rv_I0)) (fun hb => ev_op (ev_var rfl) (ev_var rfl) (rv_ixL (ex_l e1 hx) (atI_nat (hz1 hb)))) (fun hb => ?_) (fun H2 e2' => ?_)
    · rw [hz2 hb]
      rfl
    have e2 := e1.trans e2'
    refine q_asg (ev_op (ev_cb (ea_cons (ev_cb (ea_cons (ev_var rfl) ea_nil) rc_abs) ea_nil) rc_int) (ev_op (ev_op ev_c ev_c (rv_I ⟨by decide, by decide, by decide⟩)) ev_c (rv_I ⟨by decide, by decide, by decide +kernel⟩)) (rv_I (by decide +kernel))) fun H3 e3 => ?_
    refine q_asg (ev_op (ev_var rfl) (ev_op ev_c ev_c (rv_I ⟨by decide, by decide, by decide⟩)) (rv_I (wide_div (b := 100) (by decide +kernel) (by decide +kernel) (by decide) (by decide)))) fun H4 e4 => ?_
    refine q_asg (ev_op (ev_op (ev_op (ev_op (ev_op (ev_var rfl) ev_c (rv_I (by decide))) ev_c (rv_I (.inr ⟨by decide, by decide⟩))) (ev_op ev_c (ev_var rfl) (rv_I (.inl ⟨by decide, by decide⟩))) rv_I0) (ev_op ev_c (ev_cb (ea_cons (ev_op (ev_var rfl) ev_c rv_I0) ea_nil) rc_intB) (rv_I (.inl ⟨by decide, by decide⟩))) rv_I0) ev_c rv_I0) fun H5 e5 => ?_
    exact s_retL (el_lst (ea_cons (ev_var rfl) (ea_cons (ev_op (ev_var rfl) ev_c (rv_I (by decide))) (ea_cons ev_c ea_nil))) (by show 3 ≤ 100000; decide)) fun p H6 hp e6 h6 => k p H6 (fresh_back ((((e2.trans e3).trans e4).trans e5)) hp) ((((e2.trans e3).trans e4).trans e5).trans e6) ⟨_, _, _, h6⟩


def sp__law_roll (K : PySem.W.Frag) : Sp := fun vs H Q _ => ∃ (p : Addr) (m : Nat), vs = [.ref p, N_ m] ∧ IsDice H p ∧ 0 < m ∧ m < 2 ^ 1000 ∧ ∀ (r : Nat) H', r < m → Exd p H H' → IsDice H' p → Q (N_ r) H'
theorem nat_mod (x : Int) {m : Nat} (h : 0 < m) : ∃ r : Nat, r < m ∧ x % (m : Int) = (r : Int) := by
  have h1 := Int.emod_nonneg x (by omega : (m : Int) ≠ 0)
  have h2 := Int.emod_lt_of_pos x (by omega : (0 : Int) < m)
  exact ⟨(x % (m : Int)).toNat, by omega, by omega⟩

theorem ok__law_roll {P : Program} {w : World} {K : PySem.W.Frag} {mg : Str → Option Value} {base : Heap} (T : Txt K mg) : FnOk P w K mg base CX0 1 T.a__law_roll T.d__law_roll ["_law_dice_here", "_law_total"] (sp__law_roll K) := by
  refine T.F__law_roll.ok sc__law_roll (fun vs H Q E h => ?_) (fun cdv A outer s H vs Q E hr h => ?_)
  · obtain ⟨p, m, rfl, _⟩ := h
    rfl
  · obtain ⟨p, m, rfl, hd, hm, hM, k⟩ := h
    refine ⟨_, (pss_cons (ps_set (i := 2) sc__law_roll.nd rfl (Or.inl rfl) (pe_callTy call_int1 (by rfl) T.z_int (by decide +kernel) (pa_cons (pv 1) pa_nil)))
      (pss_cons (ps_if (pt_cmpR op_gt (pe_ix (r := rIxL K) ix_list (pv 0) pe_int (fun _ _ => rfl)) pe_int (nomark _)) (pss_cons (ps_set (i := 3) sc__law_roll.nd rfl (Or.inl rfl) (pe_op op_mod (pe_ix (r := rIxL K) ix_list (pv 0) pe_int (fun _ _ => rfl)) (pv 2)))
      (pss_cons (ps_asg (pe_op op_fdivW (pe_ix (r := rIxL K) ix_list (pv 0) pe_int (fun _ _ => rfl)) (pv 2)) (pg_sub (pv 0) pe_int set_list))
      (pss_one (ps_ret (pe_callTy call_int1 (by rfl) T.z_int (by decide +kernel) (pa_cons (pv 3) pa_nil)))))) pss_nil)
      (pss_cons (ps_asg (pe_op op_add (pe_ix (r := rIxL K) ix_list (pv 0) pe_int (fun _ _ => rfl)) pe_int) (pg_sub (pv 0) pe_int set_list))
      (pss_cons (ps_set (i := 4) sc__law_roll.nd rfl (Or.inl rfl) (pe_op op_mod (pe_op op_add (pe_ix (r := rIxL K) ix_list (pv 0) pe_int (fun _ _ => rfl)) (pe_op op_mul pe_int (pe_ix (r := rIxL K) ix_list (pv 0) pe_int (fun _ _ => rfl)))) pe_int))
      (pss_cons (ps_set (i := 5) sc__law_roll.nd rfl (Or.inl rfl) (pe_op op_add (pe_op op_mulW (pe_op op_mod (pe_op op_mulW (pv 4) (pv 4)) pe_int) (pv 4)) (pe_op op_mul pe_int (pe_ix (r := rIxL K) ix_list (pv 0) pe_int (fun _ _ => rfl)))))
      (pss_cons (ps_set (i := 5) sc__law_roll.nd rfl (Or.inl rfl) (pe_op op_mod (pv 5) pe_int))
      (pss_one (ps_ret (pe_callTy call_int1 (by rfl) T.z_int (by decide +kernel) (pa_cons (pe_op op_mod (pe_op op_fdivW (pv 5) pe_int) (pv 2)) pa_nil)))))))))), ?_⟩
    obtain ⟨d0, d1, d2, hd⟩ := hd
    refine q_asg (ev_cb (ea_cons (ev_var rfl) ea_nil) rc_int) fun H1 e1 => ?_
    have h1 := e1 _ _ hd
    refine q_if (et_test (ev_op (ev_op (ev_var rfl) ev_c (rv_ixL (sq_of h1) (atI_nat (j := 0) rfl))) ev_c rv_I0)) (fun hb H2 e2 => ?_) (fun _ H2 e2 => ?_)
    · have h2 := e2 _ _ h1
      obtain ⟨r, hr1, hr2⟩ := nat_mod d0 hm
      refine q_asg (ev_op (ev_op (ev_var rfl) ev_c (rv_ixL (sq_of h2) (atI_nat (j := 0) rfl))) (ev_var rfl) (rv_I (by omega))) fun H3 e3 => ?_
      have h3 := e3 _ _ h2
      refine q_setL (j := 0) h3 (ev_op (ev_op (ev_var rfl) ev_c (rv_ixL (sq_of h3) (atI_nat (j := 0) rfl))) (ev_var rfl) (rv_I (wide_div (b := 1000) (by omega) (by exact hM) (by decide) (by decide)))) (ev_var rfl) ev_c (by show 0 < 3; decide) fun H4 e4 => ?_
      refine s_ret (ev_cb (ea_cons (ev_var rfl) ea_nil) rc_int) fun H5 e5 => ?_
      rw [hr2]
      exact k r H5 hr1 (((Exd.of (((e1.trans e2).trans e3).trans e4)).trans Exd.put).trans (Exd.of e5)) (IsDice.ex ⟨_, _, _, upd_same⟩ e5)
    · have h2 := e2 _ _ h1
      refine q_setL (j := 2) h2 (ev_op (ev_op (ev_var rfl) ev_c (rv_ixL (sq_of h2) (atI_nat (j := 2) rfl))) ev_c rv_I0) (ev_var rfl) ev_c (by show 2 < 3; decide) fun H3 e3 => ?_
      have h3 : (upd H3 p (.lst ([V.int d0, .int d1, .int d2].set 2 (.int (d2 + 1))))) p = some (.lst [.int d0, .int d1, .int (d2 + 1)]) := upd_same
      generalize hg : upd H3 p (.lst ([V.int d0, .int d1, .int d2].set 2 (.int (d2 + 1)))) = G at h3
      have eG : Exd p H G := by
        rw [← hg]
        exact (Exd.of ((e1.trans e2).trans e3)).trans Exd.put
      refine q_asg (ev_op (ev_op (ev_op (ev_var rfl) ev_c (rv_ixL (sq_of h3) (atI_nat (j := 1) rfl))) (ev_op ev_c (ev_op (ev_var rfl) ev_c (rv_ixL (sq_of h3) (atI_nat (j := 2) rfl))) (rv_I (.inl ⟨by decide, by decide⟩))) rv_I0) ev_c (rv_I (by decide))) fun H4 e4 => ?_
      have h4 := e4 _ _ h3
      have b1 : ∀ x : Int, (x % 2305843009213693951).natAbs < 2 ^ 61 := fun x => mod_abs (by decide) (by decide)
      have b2 : ∀ x : Int, (x % 2305843009213693921).natAbs < 2 ^ 61 := fun x => mod_abs (by decide) (by decide)
      refine q_asg (ev_op (ev_op (ev_op (ev_op (ev_var rfl) (ev_var rfl) (rv_I (wide_mul (b1 _) (b1 _) (by decide) (by decide) (by decide)))) ev_c (rv_I (by decide))) (ev_var rfl) (rv_I (wide_mul (b2 _) (b1 _) (by decide) (by decide) (by decide)))) (ev_op ev_c (ev_op (ev_var rfl) ev_c (rv_ixL (sq_of h4) (atI_nat (j := 2) rfl))) (rv_I (.inl ⟨by decide, by decide⟩))) rv_I0) fun H5 e5 => ?_
      refine q_asg (ev_op (ev_var rfl) ev_c (rv_I (by decide))) fun H6 e6 => ?_
      refine s_ret (ev_cb (ea_cons (ev_op (ev_op (ev_var rfl) ev_c (rv_I (wide_div (b := 20) (by decide) (by decide) (by decide) (by decide)))) (ev_var rfl) (rv_I (by omega))) ea_nil) rc_int) fun H7 e7 => ?_
      obtain ⟨r, hr1, hr2⟩ := nat_mod _ hm
      rw [hr2]
      exact k r H7 hr1 (eG.trans (Exd.of (((e4.trans e5).trans e6).trans e7))) (IsDice.ex ⟨_, _, _, h4⟩ ((e5.trans e6).trans e7))


def sp__law_one_of (K : PySem.W.Frag) : Sp := fun vs H Q _ => ∃ (p a : Addr) (xs : List V), vs = [.ref p, .ref a] ∧ IsDice H p ∧ SqL K H a xs ∧ a ≠ p ∧ 0 < xs.length ∧ xs.length ≤ 1000 ∧ ∀ (x : V) H', x ∈ xs → Exd p H H' → IsDice H' p → Q x H'

theorem ok__law_one_of {P : Program} {w : World} {K : PySem.W.Frag} {mg : Str → Option Value} {base : Heap} (T : Txt K mg) : FnOk P w K mg base CX0 2 T.a__law_one_of T.d__law_one_of ["_law_dice_here", "_law_items"] (sp__law_one_of K) := by
  refine T.F__law_one_of.ok sc__law_one_of (fun vs H Q E h => ?_) (fun cdv A outer s H vs Q E hr h => ?_)
  · obtain ⟨p, a, xs, rfl, _⟩ := h
    rfl
  · obtain ⟨p, a, xs, rfl, hd, hx, hne, hpos, hlen, k⟩ := h
    refine ⟨_, (pss_one (ps_ret (pe_ix (r := rIxL K) ix_list (pv 1) (pe_call (ok__law_roll T) (hr.mono (by decide)) (by rfl) T.g__law_roll T.F__law_roll.kp T.b__law_roll .nil pass0 (pa_cons (pv 0) (pa_cons (pe_callB call_len_seq (by rfl) T.z_len (by decide +kernel) (pa_cons (pv 1) pa_nil)) pa_nil))) (fun _ _ => rfl)))), ?_⟩
    refine ⟨.ref a, rfl, .ref p, rfl, .ref a, rfl, a, xs, rfl, .inl hx, p, xs.length, rfl, hd, hpos, Nat.lt_of_le_of_lt hlen (by decide), fun r H' hr ex hd' => ?_⟩
    exact ⟨a, xs, (r : Int), xs[r], rfl, rfl, exd_l hne ex hx, atI_nat (List.getElem?_eq_getElem hr), k _ _ (List.getElem_mem hr) ex hd'⟩


def sp__law_raised (K : PySem.W.Frag) : Sp := fun vs H Q _ => ∃ (b c : Nat), vs = [N_ b, N_ c] ∧ b ≤ 1000 ∧ c ≤ 1000 ∧ RetV (N_ (b ^ c)) H Q
theorem sv_raised {K : PySem.W.Frag} {H : Hp} {b c : Nat} (hb : b ≤ 1000) (hc : c ≤ 1000) : SpV (sp__law_raised K) [N_ b, N_ c] H (N_ (b ^ c)) := fun H1 _ Q q E => ⟨b, c, rfl, hb, hc, q⟩
theorem pow_bd {b : Nat} (hb : b ≤ 1000) : ∀ i : Nat, b ^ i ≤ 2 ^ (10 * i)
  | 0 => Nat.le_refl _
  | i + 1 => by
    have ih := pow_bd hb i
    rw [Nat.pow_succ, Nat.mul_add, Nat.pow_add]
    exact Nat.mul_le_mul ih (by show b ≤ 1024; omega)

theorem ok__law_raised {P : Program} {w : World} {K : PySem.W.Frag} {mg : Str → Option Value} {base : Heap} (T : Txt K mg) : FnOk P w K mg base CX0 1 T.a__law_raised T.d__law_raised ["_law_base", "_law_count"] (sp__law_raised K) := by
  refine T.F__law_raised.ok sc__law_raised (fun vs H Q E h => ?_) (fun cdv A outer s H vs Q E hr h => ?_)
  · obtain ⟨b, c, rfl, _⟩ := h
    rfl
  · obtain ⟨b, c, rfl, hb, hc, k⟩ := h
    refine ⟨_, (pss_cons (ps_set (i := 2) sc__law_raised.nd rfl (Or.inl rfl) pe_int)
      (pss_cons (ps_for PassesOwn.never rfl (pi_range1 rfl T.z_range (pa_cons (pv 1) pa_nil)) (pg_name (i := 3) sc__law_raised.nd rfl (Or.inl rfl)) (pss_one (ps_set (i := 2) sc__law_raised.nd rfl (Or.inl rfl) (pe_op op_mulW (pv 2) (pv 0)))))
      (pss_one (ps_ret (pv 2))))), ?_⟩
    refine q_asg ev_c fun H1 e1 => ?_
    refine q_forR1 (n := (c : Int)) (ea_cons (ev_var rfl) ea_nil) ⟨by omega, by omega⟩ (fun i σ H' => ∃ y, σ = [some (N_ b), some (N_ c), some (N_ (b ^ i)), y] ∧ Ex H H') (fun H2 e2 => ⟨none, rfl, e1.trans e2⟩) (fun i σ H' hi hw => ?_) (fun σ H' hw => ?_)
    · obtain ⟨y, rfl, e2⟩ := hw
      have hb2 : b ^ i < 2 ^ 10001 := Nat.lt_of_le_of_lt (Nat.le_trans (pow_bd hb i) (Nat.pow_le_pow_right (by decide) (by omega : 10 * i ≤ 10000))) (Nat.pow_lt_pow_right (by decide) (by decide))
      refine s_asg (ev_op (ev_var rfl) (ev_var rfl) (rv_I (wide_mul (a := 10001) (b := 10) (by exact hb2) (by show b < 1024; omega) (by decide) (by decide) (by decide)))) fun H3 e3 => ⟨some (N_ i), ?_, e2.trans e3⟩
      rw [show N_ (b ^ (i + 1)) = V.int (((b ^ i : Nat) : Int) * (b : Int)) from congrArg V.int (by rw [Nat.pow_succ, Int.natCast_mul])]
      rfl
    · obtain ⟨y, rfl, e2⟩ := hw
      rw [Int.toNat_natCast]
      exact s_ret (ev_var rfl) fun H3 e3 => k H3 (e2.trans e3)


def sp__law_digits (K : PySem.W.Frag) : Sp := fun vs H Q _ => ∃ (b n : Nat), vs = [N_ b, N_ n] ∧ Bs b ∧ Gt n ∧ RetL ((dg b n).map N_) H Q
theorem sv__law_digits {K : PySem.W.Frag} {H : Hp} {b n : Nat} (hb : Bs b) (hn : Gt n) : SpL (sp__law_digits K) [N_ b, N_ n] H ((dg b n).map N_) := fun H1 _ Q q E => ⟨b, n, rfl, hb, hn, q⟩


def sp__law_size (K : PySem.W.Frag) : Sp := fun vs H Q _ => ∃ (b m : Nat), vs = [N_ b, N_ m] ∧ Bs b ∧ 0 < m ∧ m < 2 ^ 300 ∧ ∀ (d : Nat) H', b ^ d ≤ m → m < b ^ (d + 1) → d ≤ 300 → Ex H H' → Q (N_ d) H'


/-! the law's own sums and products of elements, as plain functions -/
def esR (p a b : Nat) : Nat → Nat × Nat
  | 0 => (0, 1)
  | i + 1 => ((esR p a b i).1 + (a / (esR p a b i).2 + b / (esR p a b i).2) % p * (esR p a b i).2, (esR p a b i).2 * p)
theorem esR_pow (p a b : Nat) : ∀ i, (esR p a b i).2 = p ^ i
  | 0 => rfl
  | i + 1 => by
    show (esR p a b i).2 * p = p ^ (i + 1)
    rw [esR_pow p a b i, Nat.pow_succ]
def esL (p f a b : Nat) : Nat := (esR p a b f).1
/-- p and f of a field, small -/
structure PF_ (p f : Nat) : Prop where
  p2 : 2 ≤ p
  p7 : p ≤ 7
  f1 : 1 ≤ f
  f3 : f ≤ 3
def sp__law_element_sum (K : PySem.W.Frag) : Sp := fun vs H Q _ => ∃ (p f a b : Nat), vs = [N_ p, N_ f, N_ a, N_ b] ∧ PF_ p f ∧ RetV (N_ (esL p f a b)) H Q
theorem sv__law_element_sum {K : PySem.W.Frag} {H : Hp} {p f a b : Nat} (h : PF_ p f) : SpV (sp__law_element_sum K) [N_ p, N_ f, N_ a, N_ b] H (N_ (esL p f a b)) := fun H1 _ Q kk E => ⟨p, f, a, b, rfl, h, kk⟩


def inL (p i l : Nat) : Nat → List Nat → List Nat → List Nat
  | _, [], fd => fd
  | j, r :: rs, fd => inL p i l (j + 1) rs (fd.set (i + j) ((fd.getD (i + j) 0 + l * r) % p))
def ouL (p : Nat) (os : List Nat) : Nat → List Nat → List Nat → List Nat
  | _, [], fd => fd
  | i, l :: ls, fd => ouL p os (i + 1) ls (inL p i l 0 os fd)
def rdL (p f i : Nat) (fd : List Nat) : List Nat :=
  if 1 < f then
    let f1 := fd.set (i - f) ((fd.getD (i - f) 0 + fd.getD i 0) % p)
    let f2 := f1.set (i - f + 1) ((f1.getD (i - f + 1) 0 + f1.getD i 0) % p)
    f2.set i 0
  else fd
def dnL (p f : Nat) (fd : List Nat) : Nat → List Nat
  | 0 => fd
  | k + 1 => rdL p f (2 * f - 1 - k) (dnL p f fd k)
def epL (p f a b : Nat) : Nat := od p ((dnL p f (ouL p (dg p b) 0 (dg p a) (List.replicate (2 * f) 0)) f).take f)
theorem inL_len (p i l : Nat) : ∀ (rs : List Nat) (j : Nat) (fd : List Nat), (inL p i l j rs fd).length = fd.length
  | [], _, _ => rfl
  | r :: rs, j, fd => by
    show (inL p i l (j + 1) rs _).length = _
    rw [inL_len p i l rs, List.length_set]
theorem ouL_len (p : Nat) (os : List Nat) : ∀ (ls : List Nat) (i : Nat) (fd : List Nat), (ouL p os i ls fd).length = fd.length
  | [], _, _ => rfl
  | l :: ls, i, fd => by
    show (ouL p os (i + 1) ls _).length = _
    rw [ouL_len p os ls, inL_len]
theorem rdL_len (p f i : Nat) (fd : List Nat) : (rdL p f i fd).length = fd.length := by
  unfold rdL
  split
  · simp
  · rfl
theorem dnL_len (p f : Nat) (fd : List Nat) : ∀ k, (dnL p f fd k).length = fd.length
  | 0 => rfl
  | k + 1 => by
    show (rdL p f _ _).length = _
    rw [rdL_len, dnL_len]
def lt_all (p : Nat) (fd : List Nat) : Prop := ∀ x ∈ fd, x < p
theorem lt_all_set {p i x : Nat} {fd : List Nat} (h : lt_all p fd) (hx : x < p) : lt_all p (fd.set i x) := fun y hy => by
  rcases List.mem_or_eq_of_mem_set hy with h1 | h1
  · exact h y h1
  · rw [h1]; exact hx
theorem inL_lt {p : Nat} (h0 : 0 < p) (i l : Nat) : ∀ (rs : List Nat) (j : Nat) (fd : List Nat), lt_all p fd → lt_all p (inL p i l j rs fd)
  | [], _, _, h => h
  | r :: rs, j, fd, h => inL_lt h0 i l rs (j + 1) _ (lt_all_set h (Nat.mod_lt _ h0))
theorem ouL_lt {p : Nat} (h0 : 0 < p) (os : List Nat) : ∀ (ls : List Nat) (i : Nat) (fd : List Nat), lt_all p fd → lt_all p (ouL p os i ls fd)
  | [], _, _, h => h
  | l :: ls, i, fd, h => ouL_lt h0 os ls (i + 1) _ (inL_lt h0 i l os 0 fd h)
theorem rdL_lt {p : Nat} (h0 : 0 < p) (f i : Nat) {fd : List Nat} (h : lt_all p fd) : lt_all p (rdL p f i fd) := by
  unfold rdL
  split
  · exact lt_all_set (lt_all_set (lt_all_set h (Nat.mod_lt _ h0)) (Nat.mod_lt _ h0)) h0
  · exact h
theorem dnL_lt {p : Nat} (h0 : 0 < p) (f : Nat) {fd : List Nat} (h : lt_all p fd) : ∀ k, lt_all p (dnL p f fd k)
  | 0 => h
  | k + 1 => rdL_lt h0 f _ (dnL_lt h0 f h k)
theorem inL_snoc (p i l : Nat) : ∀ (rs : List Nat) (j : Nat) (fd : List Nat) (r : Nat), inL p i l j (rs ++ [r]) fd = (inL p i l j rs fd).set (i + (j + rs.length)) (((inL p i l j rs fd).getD (i + (j + rs.length)) 0 + l * r) % p)
  | [], j, fd, r => rfl
  | z :: rs, j, fd, r => by
    show inL p i l (j + 1) (rs ++ [r]) _ = _
    rw [inL_snoc p i l rs (j + 1) _ r]
    show (inL p i l (j + 1) rs _).set _ _ = (inL p i l (j + 1) rs _).set _ _
    rw [show j + 1 + rs.length = j + (z :: rs).length by rw [List.length_cons]; omega]
    rfl
theorem ouL_snoc (p : Nat) (os : List Nat) : ∀ (ls : List Nat) (i : Nat) (fd : List Nat) (l : Nat), ouL p os i (ls ++ [l]) fd = inL p (i + ls.length) l 0 os (ouL p os i ls fd)
  | [], i, fd, l => rfl
  | z :: ls, i, fd, l => by
    show ouL p os (i + 1) (ls ++ [l]) _ = _
    rw [ouL_snoc p os ls (i + 1) _ l, show i + 1 + ls.length = i + (z :: ls).length by rw [List.length_cons]; omega]
    rfl
theorem take_snoc {xs : List Nat} {i x : Nat} (h : xs[i]? = some x) : xs.take (i + 1) = xs.take i ++ [x] := by
  rw [List.take_add_one, h]
  rfl
theorem dg_len2 {p f a : Nat} (hp : 2 ≤ p) : ∀ (f a : Nat), a < p ^ f → (dg p a).length ≤ f
  | 0, a, h => by
    have : a = 0 := by rw [Nat.pow_zero] at h; omega
    subst this
    rw [dg_zero]
    exact Nat.le_refl _
  | f + 1, a, h => by
    by_cases ha : 0 < a
    · rw [dg_pos hp ha, List.length_cons]
      have : a / p < p ^ f := by
        rw [Nat.pow_succ] at h
        exact Nat.div_lt_of_lt_mul (by rw [Nat.mul_comm]; exact h)
      have := dg_len2 (f := f) (a := a) hp f (a / p) this
      omega
    · have : a = 0 := by omega
      subst this
      rw [dg_zero]
      exact Nat.zero_le _
theorem getD_some {xs : List Nat} {i : Nat} (h : i < xs.length) : xs[i]? = some (xs.getD i 0) := by
  rw [List.getElem?_eq_getElem h, List.getD_eq_getElem?_getD, List.getElem?_eq_getElem h]
  rfl
theorem get_N {xs : List Nat} {i : Nat} (h : i < xs.length) : (xs.map N_)[i]? = some (N_ (xs.getD i 0)) := by
  rw [List.getElem?_map, getD_some h]
  rfl
theorem getD_lt {p i : Nat} {fd : List Nat} (h : lt_all p fd) (hi : i < fd.length) : fd.getD i 0 < p := h _ (List.mem_of_getElem? (getD_some hi))
theorem exl {l : Addr} {H H' : Hp} (n : H l = none) (x : Exd l H H') : Ex H H' := fun a o h => x a o (fun z => by rw [z, n] at h; cases h) h
def sp__law_element_product (K : PySem.W.Frag) : Sp := fun vs H Q _ => ∃ (p f a b : Nat), vs = [N_ p, N_ f, N_ a, N_ b] ∧ PF_ p f ∧ a < p ^ f ∧ b < p ^ f ∧ RetV (N_ (epL p f a b)) H Q
theorem sv__law_element_product {K : PySem.W.Frag} {H : Hp} {p f a b : Nat} (h : PF_ p f) (ha : a < p ^ f) (hb : b < p ^ f) : SpV (sp__law_element_product K) [N_ p, N_ f, N_ a, N_ b] H (N_ (epL p f a b)) := fun H1 _ Q kk E => ⟨p, f, a, b, rfl, h, ha, hb, kk⟩
theorem pf_343 {p f a : Nat} (h : PF_ p f) (ha : a < p ^ f) : a < 343 := Nat.lt_of_lt_of_le ha (Nat.le_trans (Nat.pow_le_pow_left h.p7 f) (Nat.le_trans (Nat.pow_le_pow_right (by decide) h.f3) (by decide)))


end Own
namespace Own
open PySem PySem.Spec PyProof.Rows L2 Evl
def sE (q a b : Nat) : Nat := esL (prE q) (poE q) a b
def pE (q a b : Nat) : Nat := epL (prE q) (poE q) a b
def oE (q a : Nat) : Nat := ((List.range q).find? fun b => decide (sE q a b = 0)).getD 0
theorem chk_own : chkAll (fun q => all1 q fun a => decide (oE q a < q) && decide (sE q a (oE q a) = 0) && (all1 (oE q a) fun b => decide (sE q a b ≠ 0))) = true := by decide +kernel
theorem pow_q {q : Nat} (hq : Fq q) : prE q ^ poE q = q := (t0_of hq).pw
theorem pf_q {q : Nat} (hq : Fq q) : PF_ (prE q) (poE q) := ⟨(t0_of hq).p2, (t0_of hq).p7, (t0_of hq).f1, (t0_of hq).f3⟩
structure T1 (q a : Nat) : Prop where
  oL : oE q a < q
theorem t1_of {q a : Nat} (hq : Fq q) (ha : a < q) : T1 q a := by
  have h := all1_get (chk_get chk_own hq) ha
  simp only [Bool.and_eq_true, decide_eq_true_eq] at h
  exact ⟨h.1.1⟩
theorem op_q {q a : Nat} (hq : Fq q) (ha : a < q) : sE q a (oE q a) = 0 ∧ ∀ b, b < oE q a → sE q a b ≠ 0 := by
  have h := all1_get (chk_get chk_own hq) ha
  simp only [Bool.and_eq_true, decide_eq_true_eq] at h
  exact ⟨h.1.2, fun b hb => of_decide_eq_true (all1_get h.2 hb)⟩
def row2 (g : Nat → Nat → Nat → Nat) (q : Nat) : List (List Nat) := (List.range q).map fun a => (List.range q).map fun b => g q a b
/-- a list of lists of natural numbers that stands in the heap, all at addresses of the kind N -/
def LLt (N : Addr → Prop) (H : Hp) (a : Addr) (xss : List (List Nat)) : Prop := ∃ rs : List Addr, N a ∧ H a = some (.lst (rs.map V.ref)) ∧ rs.length = xss.length ∧ ∀ (i : Nat) (r : Addr) (xs : List Nat), rs[i]? = some r → xss[i]? = some xs → N r ∧ H r = some (.lst (xs.map N_))
structure FldAt (N : Addr → Prop) (H : Hp) (d : Addr) (q : Nat) : Prop where
  nd : N d
  dc : ∃ (kvs : List (Key × V)) (a1 a2 a3 : Addr), H d = some (.dK kvs) ∧ valV kvs (Sum.inr "q") = some (N_ q) ∧ valV kvs (Sum.inr "p") = some (N_ (prE q)) ∧ valV kvs (Sum.inr "f") = some (N_ (poE q)) ∧ valV kvs (Sum.inr "plus") = some (.ref a1) ∧ valV kvs (Sum.inr "mul") = some (.ref a2) ∧ valV kvs (Sum.inr "minus") = some (.ref a3) ∧
    LLt N H a1 (row2 sE q) ∧ LLt N H a2 (row2 pE q) ∧ N a3 ∧ H a3 = some (.lst (((List.range q).map (oE q)).map N_))
theorem LLt.keep {N M : Addr → Prop} {H H' : Hp} {a : Addr} {xss : List (List Nat)} (h : LLt N H a xss) (hk : ∀ b o, N b → H b = some o → M b ∧ H' b = some o) : LLt M H' a xss := by
  obtain ⟨rs, n, h1, h2, h3⟩ := h
  exact ⟨rs, (hk _ _ n h1).1, (hk _ _ n h1).2, h2, fun i r xs e1 e2 => hk _ _ (h3 i r xs e1 e2).1 (h3 i r xs e1 e2).2⟩
theorem FldAt.keep {N M : Addr → Prop} {H H' : Hp} {d : Addr} {q : Nat} (h : FldAt N H d q) (hk : ∀ b o, N b → H b = some o → M b ∧ H' b = some o) : FldAt M H' d q := by
  obtain ⟨nd, kvs, a1, a2, a3, h1, g1, g2, g3, g4, g5, g6, l1, l2, n3, h3⟩ := h
  exact ⟨(hk _ _ nd h1).1, kvs, a1, a2, a3, (hk _ _ nd h1).2, g1, g2, g3, g4, g5, g6, l1.keep hk, l2.keep hk, (hk _ _ n3 h3).1, (hk _ _ n3 h3).2⟩
theorem FldAt.ex {N : Addr → Prop} {H H' : Hp} {d : Addr} {q : Nat} (h : FldAt N H d q) (e : Ex H H') : FldAt N H' d q := h.keep fun b o n q => ⟨n, e _ _ q⟩
section
variable {K : PySem.W.Frag} {σ : L2.St} {H H' : Hp} {ta tb te : TE} {D : Ends} {tz : TS}
theorem q_asgLL {i : Nat} {xss : List (List V)} (h : EvLL te σ H xss) (k : ∀ (p : Addr) (rs : List Addr) H1, H p = none → Ex H H1 → H1 p = some (.lst (rs.map V.ref)) → rs.length = xss.length → (∀ (i : Nat) (r : Addr) (xs : List V), rs[i]? = some r → xss[i]? = some xs → H r = none ∧ H1 r = some (.lst xs)) → tz D (σ.set i (some (.ref p))) H1) : tSeq (tAsg te (gName i)) tz D σ H := h H (Ex.refl H) _ k
end
theorem ll_of {H0 H1 : Hp} {p : Addr} {rs : List Addr} {g : Nat → Nat → Nat → Nat} {q : Nat} (hp : H0 p = none) (h1 : H1 p = some (.lst (rs.map V.ref))) (hl : rs.length = ((row2 g q).map (·.map N_)).length) (hr : ∀ (i : Nat) (r : Addr) (xs : List V), rs[i]? = some r → ((row2 g q).map (·.map N_))[i]? = some xs → H0 r = none ∧ H1 r = some (.lst xs)) : LLt (fun x => H0 x = none) H1 p (row2 g q) :=
  ⟨rs, hp, h1, by rw [hl, List.length_map], fun i r xs e1 e2 => hr i r _ e1 (by rw [List.getElem?_map, e2]; rfl)⟩

theorem valV_merge : ∀ (more acc : List (Key × V)) (k : Key) (v : V), valV more.reverse k = some v → valV (mergeK acc more) k = some v
  | [], acc, k, v, h => by cases h
  | (k', v') :: r, acc, k, v, h => by
    show valV (mergeK (putK acc k' v') r) k = some v
    by_cases hr : (valV r.reverse k).isSome
    · obtain ⟨v2, h2⟩ := Option.isSome_iff_exists.mp hr
      have : valV ((k', v') :: r).reverse k = some v2 := by
        rw [List.reverse_cons]
        unfold valV at h2 ⊢
        rw [List.find?_append]
        obtain ⟨p, hp, hp2⟩ := Option.map_eq_some_iff.mp h2
        rw [hp]
        exact congrArg some hp2
      rw [this] at h
      exact valV_merge r _ k v (by rw [h2]; exact h)
    · have hn : valV r.reverse k = none := by
        cases e : valV r.reverse k with
        | none => rfl
        | some x => rw [e] at hr; exact absurd rfl hr
      have hk : k' = k ∧ v' = v := by
        rw [List.reverse_cons] at h
        unfold valV at h hn
        rw [List.find?_append] at h
        have h0 : (r.reverse.find? fun kv => decide (kv.1 = k)) = none := Option.map_eq_none_iff.mp hn
        rw [h0, Option.none_or, List.find?_cons] at h
        by_cases e : k' = k
        · rw [decide_eq_true e] at h
          exact ⟨e, Option.some.inj h⟩
        · rw [decide_eq_false e] at h
          cases h
      obtain ⟨rfl, rfl⟩ := hk
      have hany : ∀ (r : List (Key × V)) (acc : List (Key × V)), valV r.reverse k' = none → valV (mergeK acc r) k' = valV acc k' := by
        intro r
        induction r with
        | nil => intro acc _; rfl
        | cons p r ih =>
          intro acc h
          rw [List.reverse_cons] at h
          unfold valV at h
          rw [List.find?_append] at h
          have h1 := Option.map_eq_none_iff.mp h
          rw [Option.or_eq_none_iff] at h1
          have h2 : ¬ p.1 = k' := fun e => by
            have := h1.2
            rw [List.find?_cons, decide_eq_true e] at this
            cases this
          show valV (mergeK (putK acc p.1 p.2) r) k' = _
          rw [ih (putK acc p.1 p.2) (by unfold valV; rw [h1.1]; rfl), valV_put, if_neg (fun e => h2 e.symm)]
      rw [hany r _ hn, valV_put, if_pos rfl]
theorem pairs_go {te : TE} {σ : L2.St} {H : Hp} {xs : List V} {kx : V} {Q : List (V × V) → Hp → Prop} (h : EvL te σ H xs) (k : ∀ p H2, H p = none → Ex H H2 → H2 p = some (.lst xs) → Q [(kx, .ref p)] H2) : tPairs [(tC kx, te)] σ H Q := h H (Ex.refl H) _ k
def sp__law_field (K : PySem.W.Frag) : Sp := fun vs H Q _ => ∃ (q : Nat), vs = [N_ q] ∧ Fq q ∧ ∀ d H', Ex H H' → FldAt (fun x => H x = none) H' d q → Q (.ref d) H'


end Own
namespace Own
open PySem PySem.Spec PyProof.Rows L2 Evl

section
variable {K : PySem.W.Frag} {σ : L2.St} {H H' : Hp} {td : TE}
theorem ev_dg {d : Addr} {kvs : List (Key × V)} {s : Str} {v : V} (h : Ev td σ H (.ref d)) (hd : H d = some (.dK kvs)) (hv : valV kvs (Sum.inr s) = some v) : Ev (tDGet td (tC (.str s))) σ H v := fun H1 e Q q =>
  h H1 e _ fun H2 e2 => ⟨d, v, rfl, hv ▸ DGet.k (k := Sum.inr s) (e2 _ _ (e _ _ hd)), q H2 e2⟩
end
theorem q_of {x : V} (h : x ∈ ([.int 2, .int 2, .int 3, .int 3, .int 4, .int 5, .int 7, .int 8, .int 9] : List V)) : ∃ q : Nat, Fq q ∧ x = N_ q := by
  simp only [List.mem_cons, List.not_mem_nil, or_false] at h
  rcases h with h | h | h | h | h | h | h | h | h <;> subst h
  · exact ⟨2, by unfold Fq FQ; decide, rfl⟩
  · exact ⟨2, by unfold Fq FQ; decide, rfl⟩
  · exact ⟨3, by unfold Fq FQ; decide, rfl⟩
  · exact ⟨3, by unfold Fq FQ; decide, rfl⟩
  · exact ⟨4, by unfold Fq FQ; decide, rfl⟩
  · exact ⟨5, by unfold Fq FQ; decide, rfl⟩
  · exact ⟨7, by unfold Fq FQ; decide, rfl⟩
  · exact ⟨8, by unfold Fq FQ; decide, rfl⟩
  · exact ⟨9, by unfold Fq FQ; decide, rfl⟩
theorem lt1000 {n : Nat} (h : n < 2 ^ 40) : n < 2 ^ 1000 := Nat.lt_of_lt_of_le h (Nat.pow_le_pow_right (by decide) (by decide : 40 ≤ 1000))
def sp__law_q (K : PySem.W.Frag) : Sp := fun vs H Q _ => ∃ (p : Addr), vs = [.ref p] ∧ IsDice H p ∧ ∀ (q : Nat) H', Fq q → Exd p H H' → IsDice H' p → Q (N_ q) H'

theorem ok__law_q {P : Program} {w : World} {K : PySem.W.Frag} {mg : Str → Option Value} {base : Heap} (T : Txt K mg) : FnOk P w K mg base CX0 3 T.a__law_q T.d__law_q ["_law_dice_here"] (sp__law_q K) := by
  refine T.F__law_q.ok sc__law_q (fun vs H Q E h => ?_) (fun cdv A outer s H vs Q E hr h => ?_)
  · obtain ⟨p, rfl, _⟩ := h
    rfl
  · obtain ⟨p, rfl, hd, k⟩ := h
    refine ⟨_, (pss_one (ps_ret (pe_call (ok__law_one_of T) (hr.mono (by decide)) (by rfl) T.g__law_one_of T.F__law_one_of.kp T.b__law_one_of .nil pass0 (pa_cons (pv 0) (pa_cons (pe_lst (pa_cons pe_int (pa_cons pe_int (pa_cons pe_int (pa_cons pe_int (pa_cons pe_int (pa_cons pe_int (pa_cons pe_int (pa_cons pe_int (pa_cons pe_int pa_nil)))))))))) pa_nil))))), ?_⟩
    refine ⟨.ref p, rfl, by show 9 ≤ sizeLine; decide, fun l nl => ⟨p, l, _, rfl, hd.ex (Ex.new nl), sq_of upd_same, new_ne nl hd, by show 0 < 9; decide, by show 9 ≤ 1000; decide, fun x H1 hx x1' d1 => ?_⟩⟩
    obtain ⟨q, hq, rfl⟩ := q_of hx
    exact k q H1 hq ((Exd.of (Ex.new nl)).trans x1') d1


def sp__law_digit_sum (K : PySem.W.Frag) : Sp := fun vs H Q _ => ∃ (b n : Nat), vs = [N_ b, N_ n] ∧ Bs b ∧ Gt n ∧ RetV (N_ (ds b n)) H Q
theorem sv__law_digit_sum {K : PySem.W.Frag} {H : Hp} {b n : Nat} (hb : Bs b) (hn : Gt n) : SpV (sp__law_digit_sum K) [N_ b, N_ n] H (N_ (ds b n)) := fun H1 e Q q E => ⟨b, n, rfl, hb, hn, q⟩


def sp__law_own_shifts (K : PySem.W.Frag) : Sp := fun vs H Q _ => ∃ (d : Addr) (q k : Nat), vs = [.ref d, N_ k] ∧ Fq q ∧ FldAt (fun _ => True) H d q ∧ k < 10 ^ 60 ∧ RetL ((ssL q k).map N_) H Q
theorem sv__law_own_shifts {K : PySem.W.Frag} {H : Hp} {d : Addr} {q k : Nat} (hq : Fq q) (h : FldAt (fun _ => True) H d q) (hk : k < 10 ^ 60) : SpL (sp__law_own_shifts K) [.ref d, N_ k] H ((ssL q k).map N_) := fun H1 e Q kk E => ⟨d, q, k, rfl, hq, h.ex e, hk, kk⟩


section
variable {K : PySem.W.Frag} {σ : L2.St} {H : Hp} {D : Ends} {tu tz : TS}
theorem q_forRaw1 {j : Nat} {ta : TA} (M : Nat → Hp → Prop) (h : ∀ Q : List V → Hp → Prop, (∀ n H1, M n H1 → Q [N_ n] H1) → ta σ H Q) (k : ∀ n H1, M n H1 → tSeq (tFor (iRng1 (tCons (tC (N_ n)) tNil)) (gName j) tu) tz D σ H1) : tSeq (tFor (iRng1 ta) (gName j) tu) tz D σ H := h _ (fun n H1 m => k n H1 m)
end
def sp__law_small_k (K : PySem.W.Frag) : Sp := fun vs H Q _ => ∃ (p : Addr) (q m : Nat), vs = [.ref p, N_ q, N_ m] ∧ Fq q ∧ m ≤ 100 ∧ 0 < m ∧ IsDice H p ∧ ∀ (r : Nat) H', r ≤ m → Exd p H H' → IsDice H' p → Q (N_ r) H'


def sp__law_great_k (K : PySem.W.Frag) : Sp := fun vs H Q _ => ∃ (p d : Addr) (q : Nat), vs = [.ref p, .ref d] ∧ Fq q ∧ IsDice H p ∧ FldAt (fun b => b ≠ p) H d q ∧ ∀ (r : Nat) H', r < 10 ^ 60 → Exd p H H' → IsDice H' p → Q (N_ r) H'


theorem od_snocL (b r : Nat) : ∀ es : List Nat, od b (es ++ [r]) = od b es + b ^ es.length * r
  | [] => by
    show r + b * 0 = 0 + b ^ 0 * r
    rw [Nat.pow_zero]
    omega
  | e :: es => by
    rw [List.cons_append, od, od, od_snocL b r es, List.length_cons, Nat.pow_succ, Nat.mul_add, Nat.mul_comm (b ^ es.length) b, Nat.mul_assoc]
    omega
theorem Le2.len : ∀ {es xs : List Nat}, Le2 es xs → es.length = xs.length
  | _, _, .nil => rfl
  | _, _, .cons _ r => by rw [List.length_cons, List.length_cons, r.len]
theorem pow_wide {b j : Nat} (hb : b ≤ 1000) (hj : j ≤ 200) : b ^ j < 2 ^ 2001 := by
  have h1 : b ^ j ≤ (2 ^ 10) ^ j := Nat.pow_le_pow_left (by omega) j
  rw [← Nat.pow_mul] at h1
  exact Nat.lt_of_le_of_lt h1 (Nat.pow_lt_pow_right (by decide) (by omega))
section
variable {K : PySem.W.Frag} {σ : L2.St} {H : Hp} {D : Ends} {ta tb : TE}
theorem el_cat {l : Addr} {xs ys : List V} (h : Ev ta σ H (.ref l)) (hl : H l = some (.lst xs)) (h2 : EvL tb σ H ys) (hz : xs.length + ys.length ≤ 100000) : EvL (tOp rCat ta tb) σ H (xs ++ ys) := fun H1 e Q q =>
  h H1 e _ fun H2 e2 => h2 H2 (e.trans e2) _ fun p H3 hp e3 h3 => ⟨l, p, xs, ys, rfl, rfl, e3 _ _ (e2 _ _ (e _ _ hl)), h3, sz_of hz, fun r hr => q r _ (fresh_back (e2.trans e3) hr) ((e2.trans e3).trans (Ex.new hr)) upd_same⟩
theorem s_parL {i j : Nat} {xs : List V} {y : V} (h : EvL ta σ H xs) (h2 : ∀ p H1, H p = none → Ex H H1 → H1 p = some (.lst xs) → Ev tb σ H1 y) (k : ∀ p H1, H p = none → Ex H H1 → H1 p = some (.lst xs) → D.nx ((σ.set i (some (.ref p))).set j (some y)) H1) : tPar i j (tCons ta (tCons tb tNil)) D σ H :=
  h H (Ex.refl H) _ fun p H1 hp e1 hx => h2 p H1 hp e1 hx H1 (Ex.refl H1) _ fun H2 e2 => ⟨.ref p, y, rfl, k p H2 hp (e1.trans e2) (e2 _ _ hx)⟩
end
def sp__law_parts_of (K : PySem.W.Frag) : Sp := fun vs H Q _ => ∃ (p : Addr) (b n : Nat), vs = [.ref p, N_ b, N_ n] ∧ Bs b ∧ n < 10 ^ 60 ∧ IsDice H p ∧ ∀ (t : Addr) (xs : List Nat) H', Exd p H H' → IsDice H' p → SqT K H' t (xs.map N_) → CF b xs → xs.sum = n → 1 ≤ xs.length → xs.length ≤ 5 → Q (.ref t) H'


end Own
namespace Own
open PySem PySem.Spec PyProof.Rows L2 Evl

section
variable {K : PySem.W.Frag} {σ : L2.St} {H H' : Hp} {t : TT} {te ta tb : TE} {x y v : V} {D : Ends} {tu tz : TS} {g : TG}
theorem ev_anyN {bs : List Bool} (h : EvL ta σ H (bs.map V.bl)) : Ev (tCB (rAny K) (tCons ta tNil)) σ H (.bl (bs.any id)) := fun H1 e _ q =>
  h H1 e _ fun p H2 _ e2 h2 => ⟨p, bs, rfl, sq_of h2, q H2 e2⟩
theorem geI_min {ns : List Int} {m : Int} (hm : m ∈ ns) (hl : ∀ y ∈ ns, m ≤ y) : decide (0 ≤ m) = geI ns := by
  unfold geI
  by_cases h : 0 ≤ m
  · rw [decide_eq_true h]
    exact (List.all_eq_true.mpr fun z hz => decide_eq_true (Int.le_trans h (hl z hz))).symm
  · rw [decide_eq_false h]
    cases e : ns.all fun z => decide (0 ≤ z) with
    | true => exact absurd (of_decide_eq_true (List.all_eq_true.mp e m hm)) h
    | false => rfl
/-- min(xs) >= 0 -/
theorem ev_minGe {a : Addr} {ns : List Int} (h : Ev ta σ H (.ref a)) (hx : SqL K H a (ns.map V.int)) (hn : ns ≠ []) : Ev (tOp (rI0 fun i j => .bl (decide (j ≤ i))) (tCB (rMin K) (tCons ta tNil)) (tC (.int 0))) σ H (.bl (geI ns)) := fun H1 e Q q =>
  h H1 e _ fun H2 e2 => ⟨a, ns, rfl, ex_l (e.trans e2) hx, List.length_pos_iff.mpr hn, fun m hm hl => ⟨m, 0, rfl, rfl, by
    show Q (V.bl (decide (0 ≤ m))) H2
    rw [geI_min hm hl]
    exact q H2 e2⟩⟩
end
theorem fq_F {q : Nat} (hq : Fq q) : 1 ≤ poE q ∧ poE q ≤ 3 := ⟨(t0_of hq).f1, (t0_of hq).f3⟩
theorem chk_pf : chkAll (fun q => decide (pfT q = (prE q, poE q))) = true := by decide +kernel
theorem pf_T {q : Nat} (hq : Fq q) : pfT q = (prE q, poE q) := of_decide_eq_true (chk_get chk_pf hq)
theorem chk_nd : chkAll (fun q => decide (W_NEEDS.lookup (q : Int) = some ((ndT q).map (List.map (List.map Int.ofNat)))) && decide ((ndT q).length = q - 1) && (ndT q).all fun r => decide (r.length ≤ 20) && r.all fun n => decide (n.length = poE q) && n.all fun z => decide (z < 10)) = true := by decide +kernel
theorem wl_small {q a : Nat} (hq : Fq q) : ∀ w ∈ wl (prE q) (poE q) a, w < 1000 := fun w hw => by
  unfold wl at hw
  obtain ⟨j, _, rfl⟩ := List.mem_map.mp hw
  have := (wt_le (j := j) (a := a) hq).2
  omega
theorem lessI_len {is : List Int} {ws : List Nat} {n : Nat} (h : is.length = ws.length) : (lessI is ws n).length = is.length := by
  unfold lessI
  rw [List.length_zipWith, ← h, Nat.min_self]
theorem op_catAK {X : Cx} {K : PySem.W.Frag} (hK : X.K = K) : OpR X (binaryOp .Add) (rCatA K) := hK ▸ op_catA
def sp_whole_power (K : PySem.W.Frag) : Sp := fun vs H Q _ => ∃ (b e : Nat), vs = [N_ b, N_ e] ∧ b ≤ 7 ∧ e ≤ 200 ∧ RetV (N_ (b ^ e)) H Q
theorem sv_whole_power {K : PySem.W.Frag} {H : Hp} {b e : Nat} (hb : b ≤ 7) (he : e ≤ 200) : SpV (sp_whole_power K) [N_ b, N_ e] H (N_ (b ^ e)) := fun H1 _ Q q E => ⟨b, e, rfl, hb, he, q⟩
theorem pow7 {b e : Nat} (hb : b ≤ 7) (he : e ≤ 200) : b ^ e < 2 ^ 600 := Nat.lt_of_le_of_lt (Nat.pow_le_pow_left hb e) (Nat.lt_of_le_of_lt (Nat.pow_le_pow_right (by decide) he) (by decide +kernel))

theorem ok_whole_power {P : Program} {w : World} {K : PySem.W.Frag} {mg : Str → Option Value} {base : Heap} (T : Txt K mg) : FnOk P w K mg base CX0 1 T.a_whole_power T.d_whole_power ["base", "exponent"] (sp_whole_power K) := by
  refine T.F_whole_power.ok sc_whole_power (fun vs H Q E h => ?_) (fun cdv A outer s H vs Q E hr h => ?_)
  · obtain ⟨b, e, rfl, _⟩ := h
    rfl
  · obtain ⟨b, e, rfl, hb, he, kk⟩ := h
    refine ⟨_, (pss_cons (ps_set (i := 2) sc_whole_power.nd rfl (Or.inl rfl) pe_int)
      (pss_cons (ps_for PassesOwn.never rfl (pi_range1 rfl T.z_range (pa_cons (pv 1) pa_nil)) (pg_name (i := 3) sc_whole_power.nd rfl (Or.inl rfl)) (pss_one (ps_set (i := 2) sc_whole_power.nd rfl (Or.inl rfl) (pe_op op_mulW (pv 2) (pv 0)))))
      (pss_one (ps_ret (pv 2))))), ?_⟩
    refine q_asg (v := N_ (b ^ 0)) ev_c fun H1 e1 => ?_
    refine q_forR1 (n := (e : Int)) (ea_cons (ev_var rfl) ea_nil) ⟨by omega, by omega⟩ (fun i σ H' => ∃ y3, σ = [some (N_ b), some (N_ e), some (N_ (b ^ i)), y3] ∧ Ex H H') (fun H2 e2 => ⟨none, rfl, e1.trans e2⟩) (fun i σ H2 hi hw => ?_) (fun σ H2 hw => ?_)
    · obtain ⟨y3, rfl, e2⟩ := hw
      exact s_asg (v := N_ (b ^ (i + 1))) (ev_is (ev_op (ev_var rfl) (ev_var rfl) (rv_I (wide_mul (a := 600) (b := 10) (pow7 hb (by omega)) (by show b < 1024; omega) (by decide) (by decide) (by decide)))) (congrArg V.int (by rw [Nat.pow_succ, Int.natCast_mul]))) fun H3 e3 => ⟨_, rfl, e2.trans e3⟩
    · obtain ⟨y3, rfl, e2⟩ := hw
      rw [Int.toNat_natCast]
      exact s_ret (ev_var rfl) fun H3 e3 => kk H3 (e2.trans e3)


def sp_does_fit (K : PySem.W.Frag) : Sp := fun vs H Q _ => ∃ (q : Nat) (nd rm sp : Addr) (need room : List Nat) (is : List Int), vs = [N_ q, .ref nd, .ref rm, .ref sp] ∧ Fq q ∧ SqT K H nd (need.map N_) ∧ SqL K H rm (room.map N_) ∧ SqL K H sp (is.map V.int) ∧ need.length = poE q ∧ room.length = poE q ∧ is.length = poE q ∧ (∀ z ∈ need, z < 10) ∧ RetV (.bl (fitI (prE q) (poE q) 0 need room is)) H Q
theorem sv_does_fit {K : PySem.W.Frag} {H : Hp} {q : Nat} {nd rm sp : Addr} {need room : List Nat} {is : List Int} (hq : Fq q) (h1 : SqT K H nd (need.map N_)) (h2 : SqL K H rm (room.map N_)) (h3 : SqL K H sp (is.map V.int)) (h4 : need.length = poE q) (h5 : room.length = poE q) (h6 : is.length = poE q) (h7 : ∀ z ∈ need, z < 10) : SpV (sp_does_fit K) [N_ q, .ref nd, .ref rm, .ref sp] H (.bl (fitI (prE q) (poE q) 0 need room is)) := fun H1 e Q kk E => ⟨q, nd, rm, sp, need, room, is, rfl, hq, ex_t e h1, ex_l e h2, ex_l e h3, h4, h5, h6, h7, kk⟩

theorem ok_does_fit {P : Program} {w : World} {K : PySem.W.Frag} {mg : Str → Option Value} {base : Heap} (T : Txt K mg) : FnOk P w K mg base CX0 2 T.a_does_fit T.d_does_fit ["q", "need", "room", "spare"] (sp_does_fit K) := by
  refine T.F_does_fit.ok sc_does_fit (fun vs H Q E h => ?_) (fun cdv A outer s H vs Q E hr h => ?_)
  · obtain ⟨q, nd, rm, sp, need, room, is, rfl, _⟩ := h
    rfl
  · obtain ⟨q, nd, rm, sp, need, room, is, rfl, hq, h1, h2, h3, h4, h5, h6, h7, kk⟩ := h
    refine ⟨_, (pss_cons (ps_set (i := 4) sc_does_fit.nd rfl (Or.inl rfl) (pv 3))
      (pss_cons (ps_for PassesOwn.never rfl (pi_zip3 (by rfl) T.z_zip (pa_cons (pv 1) (pa_cons (pv 2) (pa_cons (pe_ix (r := rIxW K) ix_tab (pe_glob (v := .ref T.a_WEIGHTS) (by rfl) T.g_WEIGHTS rfl) (pv 0) (fun _ _ => rfl)) pa_nil)))) (pg_tup (by rfl) (pgs_cons (pg_name (i := 5) sc_does_fit.nd rfl (Or.inl rfl)) (pgs_cons (pg_name (i := 6) sc_does_fit.nd rfl (Or.inl rfl)) (pgs_cons (pg_name (i := 7) sc_does_fit.nd rfl (Or.inl rfl)) pgs_nil)))) (pss_cons (ps_if (pt_cmpR op_gt (pv 5) (pv 6) (nomark _)) (pss_one (ps_ret pe_bl)) pss_nil)
      (pss_one (ps_set (i := 4) sc_does_fit.nd rfl (Or.inl rfl) (pe_call (ok_less_digit T) (hr.mono (by decide)) (by rfl) T.g_less_digit T.F_less_digit.kp T.b_less_digit .nil pass0 (pa_cons (pv 4) (pa_cons (pv 7) (pa_cons (pv 5) pa_nil))))))))
      (pss_one (ps_ret (pe_cmpR op_ge (pe_callB (cr_min rfl) (by rfl) T.z_min (by decide +kernel) (pa_cons (pv 4) pa_nil)) pe_int (nomark _)))))), ?_⟩
    obtain ⟨hf1, hf3⟩ := fq_F hq
    obtain ⟨wa, rs, W, hrv⟩ := wts_get hq T.w_WEIGHTS
    refine q_asg (v := .ref sp) (ev_var rfl) fun H1 e1 => ?_
    refine q_forZ3 (K := K) (xs := need.map N_) (ys := room.map N_) (ws := rs.map V.ref) (ea_cons (ev_var rfl) (ea_cons (ev_var rfl) (ea_cons (ev_op ev_c (ev_var rfl) (hrv H1)) ea_nil))) (ex_t e1 h1) (ex_l e1 h2) (W.sq _)
      (fun i σ H' => ∃ (lf : Addr) (cur : List Int) (y5 y6 y7 : Option V), σ = [some (N_ q), some (.ref nd), some (.ref rm), some (.ref sp), some (.ref lf), y5, y6, y7] ∧ Ex H1 H' ∧ SqL K H' lf (cur.map V.int) ∧ cur.length = poE q ∧ fitI (prE q) (poE q) i (need.drop i) (room.drop i) cur = fitI (prE q) (poE q) 0 need room is)
      (fun H2 e2 => ⟨sp, is, none, none, none, rfl, e2, ex_l (e1.trans e2) h3, h6, rfl⟩) (fun i σ H2 hw => by obtain ⟨_, _, _, _, _, _, e, _⟩ := hw; exact e) (fun i x y u σ H2 H3 hx hy hu hw e3 => ?_) (fun σ H2 hw => ?_)
    · obtain ⟨lf, cur, y5, y6, y7, rfl, e2, hl, hcl, hv⟩ := hw
      rw [List.getElem?_map] at hx hy hu
      obtain ⟨m, hm, rfl⟩ := Option.map_eq_some_iff.mp hx
      obtain ⟨r, hr9, rfl⟩ := Option.map_eq_some_iff.mp hy
      obtain ⟨w, hw9, rfl⟩ := Option.map_eq_some_iff.mp hu
      obtain ⟨hi1, hm2⟩ := List.getElem?_eq_some_iff.mp hm
      obtain ⟨hi2, hr2⟩ := List.getElem?_eq_some_iff.mp hr9
      have hm10 := h7 m (List.mem_of_getElem? hm)
      have hwr : w = rs.getD i 0 := by
        rw [List.getD_eq_getElem?_getD, hw9]
        rfl
      have hW := W.rw H3 i (by omega)
      rw [← hwr] at hW
      rw [List.drop_eq_getElem_cons hi1, List.drop_eq_getElem_cons hi2, hm2, hr2, fitI] at hv
      refine q_when (et_test (ev_op (ev_var rfl) (ev_var rfl) rv_I0)) (fun hb H4 e4 => ?_) (fun hb H4 e4 => ?_)
      · have hlt : r < m := by have := of_decide_eq_true hb; omega
        rw [if_pos hlt] at hv
        rw [← hv] at kk
        exact s_ret ev_c fun H5 e5 => kk H5 ((((e1.trans e2).trans e3).trans e4).trans e5)
      · have hlt : ¬ r < m := by have := of_decide_eq_false hb; omega
        rw [if_neg hlt] at hv
        refine s_asgL (el_call (ea_cons (ev_var rfl) (ea_cons (ev_var rfl) (ea_cons (ev_var rfl) ea_nil))) (sv_less_digitI (is := cur) (ws := wl (prE q) (poE q) i) (by rw [hcl, len_wl]) (by omega) (by omega) (wl_small hq) (ex_l (e3.trans e4) hl) (ex_t e4 hW))) fun p H5 np e5 h5' => ⟨p, _, _, _, _, rfl, ((e2.trans e3).trans e4).trans e5, sq_of h5', by rw [lessI_len (by rw [hcl, len_wl]), hcl], hv⟩
    · obtain ⟨lf, cur, y5, y6, y7, rfl, e2, hl, hcl, hv⟩ := hw
      rw [List.length_map, List.length_map, List.length_map, W.ln, h4, h5, Nat.min_self, Nat.min_self, List.drop_eq_nil_of_le (by omega)] at hv
      have hg : geI cur = fitI (prE q) (poE q) 0 need room is := hv
      rw [← hg] at kk
      exact s_ret (ev_minGe (K := K) (ev_var rfl) hl (fun z => by rw [z] at hcl; exact absurd hcl (by show ¬ 0 = _; omega))) fun H3 e3 => kk H3 ((e1.trans e2).trans e3)


theorem neg_rest {q h : Nat} (hq : 2 ≤ q) : (-(h : Int)) % ((q : Int) - 1) = (((q - 1 - h % (q - 1)) % (q - 1) : Nat) : Int) := by
  have e : ((q : Int) - 1) = ((q - 1 : Nat) : Int) := by omega
  rw [e]
  generalize hn : q - 1 = n
  have hn0 : 0 < n := by omega
  have hm := Nat.mod_lt h hn0
  have h1 : (-(h : Int)) = ((n - h % n : Nat) : Int) + (n : Int) * (-((h / n : Nat) : Int) - 1) := by
    have h2 := Nat.mod_add_div h n
    rw [Int.mul_sub, Int.mul_neg, ← Int.natCast_mul, Int.mul_one]
    omega
  rw [h1, Int.add_mul_emod_self_left]
  rfl
def sp_does_go_on (K : PySem.W.Frag) : Sp := fun vs H Q _ => ∃ (q h : Nat) (rm sp : Addr) (room : List Nat) (is : List Int), vs = [N_ q, N_ h, .ref rm, .ref sp] ∧ Fq q ∧ SqL K H rm (room.map N_) ∧ SqL K H sp (is.map V.int) ∧ room.length = poE q ∧ is.length = poE q ∧ RetV (.bl (goI q (prE q) (poE q) h room is)) H Q
theorem sv_does_go_on {K : PySem.W.Frag} {H : Hp} {q h : Nat} {rm sp : Addr} {room : List Nat} {is : List Int} (hq : Fq q) (h2 : SqL K H rm (room.map N_)) (h3 : SqL K H sp (is.map V.int)) (h5 : room.length = poE q) (h6 : is.length = poE q) : SpV (sp_does_go_on K) [N_ q, N_ h, .ref rm, .ref sp] H (.bl (goI q (prE q) (poE q) h room is)) := fun H1 e Q kk E => ⟨q, h, rm, sp, room, is, rfl, hq, ex_l e h2, ex_l e h3, h5, h6, kk⟩
theorem any_mapI {α : Type} (xs : List α) (f : α → Bool) : (xs.map f).any id = xs.any f := by
  induction xs with
  | nil => rfl
  | cons x r ih => rw [List.map_cons, List.any_cons, List.any_cons, ih]; rfl

theorem ok_does_go_on {P : Program} {w : World} {K : PySem.W.Frag} {mg : Str → Option Value} {base : Heap} (T : Txt K mg) : FnOk P w K mg base CX0 3 T.a_does_go_on T.d_does_go_on ["q", "head", "room", "spare"] (sp_does_go_on K) := by
  refine T.F_does_go_on.ok sc_does_go_on (fun vs H Q E h => ?_) (fun cdv A outer s H vs Q E hr h => ?_)
  · obtain ⟨q, h, rm, sp, room, is, rfl, _⟩ := h
    rfl
  · obtain ⟨q, h, rm, sp, room, is, rfl, hq, h2, h3, h5, h6, kk⟩ := h
    refine ⟨_, (pss_cons (ps_set (i := 4) sc_does_go_on.nd rfl (Or.inl rfl) (pe_op op_mod (pe_un un_neg (pv 1)) (pe_op op_sub (pv 0) pe_int)))
      (pss_cons (ps_if (PW.pt (pw_and (pt_cmpR op_gt (pv 1) pe_int (nomark _)) (pw_and1 (pt_cmpR op_eq (pv 4) pe_int (nomark _))))) (pss_one (ps_ret (pe_cmpR op_ge (pe_callB (cr_min rfl) (by rfl) T.z_min (by decide +kernel) (pa_cons (pv 3) pa_nil)) pe_int (nomark _)))) pss_nil)
      (pss_one (ps_ret (pe_callB (cr_any rfl) (by rfl) T.z_any (by decide +kernel) (pa_cons (pe_lc (own := [("need", 5)]) (g := gName 5) rfl sc_does_go_on.nd (pi_tup (pe_ix (r := rIxT K) ix_tup (pe_ix (r := rIxW K) ix_tab (pe_glob (v := .ref T.a_NEEDS) (by rfl) T.g_NEEDS rfl) (pv 0) (fun _ _ => rfl)) (pv 4) (fun _ _ => rfl))) (blkOk_by (N := ["q", "head", "room", "spare", "rest", "need"]) (sc := defScope s_does_go_on) (by decide +kernel)) (fun _ _ _ _ _ => pg_name (i := 5) sc_does_go_on.nd rfl (Or.inl rfl)) (fun _ _ _ _ _ => pts_nil) (fun _ _ _ _ _ => (pe_call (ok_does_fit T) (hr.mono (by decide)) (by rfl) T.g_does_fit T.F_does_fit.kp T.b_does_fit .nil pass0 (pa_cons (pv 0) (pa_cons (pv 5) (pa_cons (pv 2) (pa_cons (pv 3) pa_nil))))))) pa_nil)))))), ?_⟩
    have hqb := hq.b
    obtain ⟨hf1, hf3⟩ := fq_F hq
    have hc := chk_get chk_nd hq
    rw [Bool.and_eq_true, Bool.and_eq_true, decide_eq_true_eq, decide_eq_true_eq, List.all_eq_true] at hc
    obtain ⟨⟨hlk, hln⟩, hall⟩ := hc
    obtain ⟨na, nrs, hns, hnv⟩ := tab3_get T.w_NEEDS hlk
    have hne : is ≠ [] := fun z => by rw [z] at h6; exact absurd h6 (by show ¬ 0 = _; omega)
    refine q_asg (v := N_ ((q - 1 - h % (q - 1)) % (q - 1))) (ev_is (ev_op (ev_un (ev_var rfl) ru_neg) (ev_op (ev_var rfl) ev_c rv_I0) (rv_I (by omega))) (congrArg V.int (neg_rest hqb.1))) fun H1 e1 => ?_
    unfold goI at kk
    have hrl : (q - 1 - h % (q - 1)) % (q - 1) < q - 1 := Nat.mod_lt _ (by omega)
    generalize (q - 1 - h % (q - 1)) % (q - 1) = rest at kk hrl
    refine q_when (b := decide (0 < h ∧ rest = 0)) (et_is (et_and (et_is (et_test (ev_op (ev_var rfl) ev_c rv_I0)) (show decide ((0 : Int) < (h : Int)) = decide (0 < h) from decide_eq_decide.mpr (by omega))) fun _ => et_is (et_test (ev_op (ev_var rfl) ev_c (rv_eq rfl))) (dec_int (x := rest) (y := 0))) (by by_cases a1 : 0 < h <;> by_cases a2 : rest = 0 <;> simp [a1, a2])) (fun hb H2 e2 => ?_) (fun hb H2 e2 => ?_)
    · rw [if_pos (of_decide_eq_true hb)] at kk
      exact s_ret (ev_minGe (K := K) (ev_var rfl) (ex_l (e1.trans e2) h3) hne) fun H3 e3 => kk H3 ((e1.trans e2).trans e3)
    · rw [if_neg (of_decide_eq_false hb)] at kk
      have hr0 : rest < nrs.length := by
        rw [(hns H2).2.1, List.length_map, hln]
        exact hrl
      have hxs : ((ndT q).map (List.map (List.map Int.ofNat)))[rest]? = some (((ndT q).getD rest []).map (List.map Int.ofNat)) := by
        rw [List.getElem?_map, List.getD_eq_getElem?_getD, List.getElem?_eq_getElem (show rest < (ndT q).length by omega)]
        rfl
      obtain ⟨ss, hss⟩ := (hns H2).2.2 rest nrs[rest] _ (List.getElem?_eq_getElem hr0) hxs
      have hmem : (ndT q).getD rest [] ∈ ndT q := by
        rw [List.getD_eq_getElem?_getD, List.getElem?_eq_getElem (show rest < (ndT q).length by omega)]
        exact List.getElem_mem _
      have hok := hall _ hmem
      rw [Bool.and_eq_true, List.all_eq_true, decide_eq_true_eq] at hok
      generalize (ndT q).getD rest [] = needs at kk hss hok
      have hsl : ss.length = needs.length := by rw [(hss H2).2.1, List.length_map]
      refine s_ret (ev_is (ev_anyN (K := K) (bs := needs.map fun need => fitI (prE q) (poE q) 0 need room is) (el_is (el_lcT (K := K) (fun _ => true) (fun j => .bl (fitI (prE q) (poE q) 0 (needs.getD j []) room is)) (ev_op (ev_op ev_c (ev_var rfl) (hnv _)) (ev_var rfl) (rv_ixT (v := .ref nrs[rest]) (hns _).1 (atI_nat (by rw [List.getElem?_map, List.getElem?_eq_getElem hr0]; rfl)))) (hss H2).1 (by rw [List.length_map]; omega) (fun _ => rfl) (fun _ _ _ _ _ => et_nil) (fun j x H3 e3 hx _ => ?_)) ?_)) (congrArg V.bl (any_mapI needs _))) fun H3 e3 => kk H3 ((e1.trans e2).trans e3)
      · rw [List.getElem?_map] at hx
        obtain ⟨s, hs, rfl⟩ := Option.map_eq_some_iff.mp hx
        have hjl : j < needs.length := by rw [← hsl]; exact (List.getElem?_eq_some_iff.mp hs).1
        have hnj : needs.getD j [] = needs[j] := by
          rw [List.getD_eq_getElem?_getD, List.getElem?_eq_getElem hjl]
          rfl
        have hst := (hss H3).2.2 j s ((needs[j]).map Int.ofNat) hs (by rw [List.getElem?_map, List.getElem?_eq_getElem hjl]; rfl)
        have hoj := hok.2 _ (List.getElem_mem hjl)
        rw [Bool.and_eq_true, decide_eq_true_eq, List.all_eq_true] at hoj
        rw [hnj]
        exact ev_call (ea_cons (ev_var rfl) (ea_cons (ev_var rfl) (ea_cons (ev_var rfl) (ea_cons (ev_var rfl) ea_nil)))) (sv_does_fit hq (by rw [mapN]; exact hst) (ex_l ((e1.trans e2).trans e3) h2) (ex_l ((e1.trans e2).trans e3) h3) hoj.1 h5 h6 fun z hz => of_decide_eq_true (hoj.2 z hz))
      · rw [List.length_map, hsl, ← List.length_map (f := fun need => fitI (prE q) (poE q) 0 need room is), given_all (needs.map fun need => fitI (prE q) (poE q) 0 need room is) V.bl _ (fun i y h => by
          rw [List.getElem?_map] at h
          obtain ⟨n, hn, rfl⟩ := Option.map_eq_some_iff.mp h
          rw [List.getD_eq_getElem?_getD, hn]
          rfl)]


/-- the heads of a listing in the heap, in new objects: each a number and a row of spare sums -/
def Hdx (H : Hp) (N : Addr → Prop) (ts : List Addr) (hs : List (Nat × List Int)) : Prop := ts.length = hs.length ∧ ∀ (i : Nat) (t : Addr) (x : Nat × List Int), ts[i]? = some t → hs[i]? = some x → ∃ s, N t ∧ N s ∧ H t = some (.tup [N_ x.1, .ref s]) ∧ H s = some (.lst (x.2.map V.int))
theorem Hdx.nil (H : Hp) (N : Addr → Prop) : Hdx H N [] [] := ⟨rfl, fun i t x h => by simp at h⟩
theorem Hdx.keep {H H' : Hp} {N M : Addr → Prop} {ts : List Addr} {hs : List (Nat × List Int)} (h : Hdx H N ts hs) (k : ∀ a o, N a → H a = some o → M a ∧ H' a = some o) : Hdx H' M ts hs := ⟨h.1, fun i t x e1 e2 => by
  obtain ⟨s, n1, n2, h1, h2⟩ := h.2 i t x e1 e2
  exact ⟨s, (k _ _ n1 h1).1, (k _ _ n2 h2).1, (k _ _ n1 h1).2, (k _ _ n2 h2).2⟩⟩
theorem Hdx.ex {H H' : Hp} {N : Addr → Prop} {ts : List Addr} {hs : List (Nat × List Int)} (h : Hdx H N ts hs) (e : Ex H H') : Hdx H' N ts hs := h.keep fun a o n q => ⟨n, e _ _ q⟩
theorem Hdx.snoc {H : Hp} {N : Addr → Prop} {ts : List Addr} {hs : List (Nat × List Int)} {t s : Addr} {x : Nat × List Int} (h : Hdx H N ts hs) (n1 : N t) (n2 : N s) (h1 : H t = some (.tup [N_ x.1, .ref s])) (h2 : H s = some (.lst (x.2.map V.int))) : Hdx H N (ts ++ [t]) (hs ++ [x]) := by
  refine ⟨by rw [List.length_append, List.length_append, h.1]; rfl, fun i t' x' e1 e2 => ?_⟩
  by_cases hi : i < ts.length
  · rw [List.getElem?_append_left hi] at e1
    rw [List.getElem?_append_left (by rw [← h.1]; exact hi)] at e2
    exact h.2 i t' x' e1 e2
  · rw [List.getElem?_append_right (by omega)] at e1
    rw [List.getElem?_append_right (by rw [← h.1]; omega)] at e2
    have hi2 : i - ts.length = 0 := by
      have := (List.getElem?_eq_some_iff.mp e1).1
      rw [List.length_singleton] at this
      omega
    rw [hi2] at e1
    rw [← h.1, hi2] at e2
    cases e1
    cases e2
    exact ⟨s, n1, n2, h1, h2⟩
/-- heads whose spare rows have all f items -/
def lnI (F : Nat) (hs : List (Nat × List Int)) : Prop := ∀ x ∈ hs, x.2.length = F
theorem one_len {q P F at_ m : Nat} {room : List Nat} {x y : Nat × List Int} (hx : x.2.length = F) (h : oneI q P F at_ room x m = some y) : y.2.length = F := by
  unfold oneI at h
  split at h
  · cases h
    rw [lessI_len (by rw [hx, len_wl]), hx]
  · cases h
theorem long_len {q P F at_ d : Nat} {room : List Nat} {hs : List (Nat × List Int)} (h : lnI F hs) : lnI F (longI q P F at_ d room hs) := fun y hy => by
  unfold longI at hy
  obtain ⟨l, hl, hy⟩ := List.mem_flatten.mp hy
  obtain ⟨x, hx, rfl⟩ := List.mem_map.mp hl
  obtain ⟨m, _, hm⟩ := List.mem_filterMap.mp hy
  exact one_len (h x hx) hm
theorem fm_snoc {α β : Type} (f : α → Option β) (xs : List α) (x : α) : (xs ++ [x]).filterMap f = xs.filterMap f ++ (f x).toList := by
  rw [List.filterMap_append]
  congr 1
theorem flat_snoc {α β : Type} (f : α → List β) (xs : List α) (x : α) : ((xs ++ [x]).map f).flatten = (xs.map f).flatten ++ f x := by
  rw [List.map_append, List.flatten_append]
  simp
theorem long_bound (q P F at_ d : Nat) (room : List Nat) : ∀ hs : List (Nat × List Int), (longI q P F at_ d room hs).length ≤ hs.length * (d + 1)
  | [] => Nat.zero_le _
  | x :: r => by
    have h1 := long_bound q P F at_ d room r
    have h2 : ((List.range (d + 1)).filterMap (oneI q P F at_ room x)).length ≤ d + 1 := Nat.le_trans (List.length_filterMap_le _ _) (by rw [List.length_range]; exact Nat.le_refl _)
    have e : longI q P F at_ d room (x :: r) = (List.range (d + 1)).filterMap (oneI q P F at_ room x) ++ longI q P F at_ d room r := rfl
    rw [e, List.length_append, List.length_cons, Nat.succ_mul]
    omega
theorem take_snocA {α : Type} {xs : List α} {i : Nat} {x : α} (h : xs[i]? = some x) : xs.take (i + 1) = xs.take i ++ [x] := by
  rw [List.take_add_one, h]
  rfl
def sp_longer_heads (K : PySem.W.Frag) : Sp := fun vs H Q _ => ∃ (q at_ d : Nat) (l rm : Addr) (ts : List Addr) (hs : List (Nat × List Int)) (room : List Nat), vs = [N_ q, .ref l, N_ at_, N_ d, .ref rm] ∧ Fq q ∧ SqL K H l (ts.map V.ref) ∧ Hdx H (fun _ => True) ts hs ∧ SqL K H rm (room.map N_) ∧ room.length = poE q ∧ lnI (poE q) hs ∧ hs.length ≤ 2000 ∧ at_ ≤ 200 ∧ d < 7 ∧
  ∀ (p : Addr) (ts' : List Addr) (H' : Hp), H p = none → Ex H H' → H' p = some (.lst (ts'.map V.ref)) → Hdx H' (fun a => H a = none) ts' (longI q (prE q) (poE q) at_ d room hs) → Q (.ref p) H'

theorem ok_longer_heads {P : Program} {w : World} {K : PySem.W.Frag} {mg : Str → Option Value} {base : Heap} (T : Txt K mg) : FnOk P w K mg base CX0 4 T.a_longer_heads T.d_longer_heads ["q", "heads", "at", "digit", "room"] (sp_longer_heads K) := by
  refine T.F_longer_heads.ok sc_longer_heads (fun vs H Q E h => ?_) (fun cdv A outer s H vs Q E hr h => ?_)
  · obtain ⟨q, at_, d, l, rm, ts, hs, room, rfl, _⟩ := h
    rfl
  · obtain ⟨q, at_, d, l, rm, ts, hs, room, rfl, hq, h1, h2, h3', h4', h5, h6, h7, h8', kk⟩ := h
    refine ⟨_, (pss_cons (ps_set (i := 5) sc_longer_heads.nd rfl (Or.inl rfl) (pe_ix (r := rIxT K) ix_tup (pe_ix (r := rIxW K) ix_tab (pe_glob (v := .ref T.a_WEIGHTS) (by rfl) T.g_WEIGHTS rfl) (pv 0) (fun _ _ => rfl)) (pe_op op_mod (pv 2) (pe_callB call_len_seq (by rfl) T.z_len (by decide +kernel) (pa_cons (pe_ix (r := rIxW K) ix_tab (pe_glob (v := .ref T.a_WEIGHTS) (by rfl) T.g_WEIGHTS rfl) (pv 0) (fun _ _ => rfl)) pa_nil))) (fun _ _ => rfl)))
      (pss_cons (ps_set (i := 6) sc_longer_heads.nd rfl (Or.inl rfl) (pe_call (ok_whole_power T) (hr.mono (by decide)) (by rfl) T.g_whole_power T.F_whole_power.kp T.b_whole_power .nil pass0 (pa_cons (pe_ix (r := rIxW K) ix_tab (pe_glob (v := .ref T.a_PRIMES) (by rfl) T.g_PRIMES rfl) (pv 0) (fun _ _ => rfl)) (pa_cons (pv 2) pa_nil))))
      (pss_cons (ps_set (i := 7) sc_longer_heads.nd rfl (Or.inl rfl) (pe_lst pa_nil))
      (pss_cons (ps_for PassesOwn.never rfl (pi_list (pv 1)) (pg_tup (by rfl) (pgs_cons (pg_name (i := 8) sc_longer_heads.nd rfl (Or.inl rfl)) (pgs_cons (pg_name (i := 9) sc_longer_heads.nd rfl (Or.inl rfl)) pgs_nil))) (pss_one (ps_for PassesOwn.never rfl (pi_range1 rfl T.z_range (pa_cons (pe_op op_add (pv 3) pe_int) pa_nil)) (pg_name (i := 10) sc_longer_heads.nd rfl (Or.inl rfl)) (pss_cons (ps_set (i := 11) sc_longer_heads.nd rfl (Or.inl rfl) (pe_op op_add (pv 8) (pe_op op_mulW (pv 10) (pv 6))))
      (pss_cons (ps_set (i := 12) sc_longer_heads.nd rfl (Or.inl rfl) (pe_call (ok_less_digit T) (hr.mono (by decide)) (by rfl) T.g_less_digit T.F_less_digit.kp T.b_less_digit .nil pass0 (pa_cons (pv 9) (pa_cons (pv 5) (pa_cons (pv 10) pa_nil)))))
      (pss_one (ps_if (pt_val (pe_call (ok_does_go_on T) (hr.mono (by decide)) (by rfl) T.g_does_go_on T.F_does_go_on.kp T.b_does_go_on .nil pass0 (pa_cons (pv 0) (pa_cons (pv 11) (pa_cons (pv 4) (pa_cons (pv 12) pa_nil)))))) (pss_one (ps_expr (pe_bm PySem.F.plainAttrs_list PySem.F.slot_list_append PySem.F.type_list_append mt_append (pv 7) (pa_cons (pe_tup (pa_cons (pv 11) (pa_cons (pv 12) pa_nil))) pa_nil)))) pss_nil)))))))
      (pss_one (ps_ret (pv 7))))))), ?_⟩
    have ht := t0_of hq
    have hp7 := ht.p7
    obtain ⟨hf1, hf3⟩ := fq_F hq
    obtain ⟨wa, rs, W, hrv⟩ := wts_get hq T.w_WEIGHTS
    have hrl : (rs.map V.ref).length = poE q := by rw [List.length_map, W.ln]
    have hmf : at_ % poE q < poE q := Nat.mod_lt _ hf1
    have hgw : (rs.map V.ref)[at_ % poE q]? = some (.ref (rs.getD (at_ % poE q) 0)) := by
      rw [List.getElem?_map, List.getElem?_eq_getElem (show at_ % poE q < rs.length by rw [W.ln]; exact hmf), List.getD_eq_getElem?_getD, List.getElem?_eq_getElem (show at_ % poE q < rs.length by rw [W.ln]; exact hmf)]
      rfl
    refine q_asg (v := .ref (rs.getD (at_ % poE q) 0)) (ev_op (r := rIxT K) (ev_op ev_c (ev_var rfl) (hrv _)) (ev_is (w := N_ (at_ % poE q)) (ev_op (ev_var rfl) (ev_cb (ea_cons (ev_op ev_c (ev_var rfl) (hrv _)) ea_nil) (rc_lenT (W.sq _))) (rv_I (by rw [hrl]; omega))) (congrArg V.int (by rw [hrl]; rfl))) (rv_ixT (W.sq _) (atI_nat hgw))) fun H1 e1 => ?_
    have hW : ∀ H, SqT K H (rs.getD (at_ % poE q) 0) ((wl (prE q) (poE q) at_).map N_) := fun H => by
      have := W.rw H _ hmf
      rw [wl_mod] at this
      exact this
    generalize rs.getD (at_ % poE q) 0 = wr at hW
    refine q_asg (v := N_ (prE q ^ at_)) (ev_call (ea_cons (ev_tab0 T.w_PRIMES ht.pr (ev_var rfl)) (ea_cons (ev_var rfl) ea_nil)) (sv_whole_power hp7 h7)) fun H2 e2 => ?_
    refine q_asgL (xs := []) (el_lst ea_nil (by decide)) fun fp H3 nf e3 h3 => ?_
    have e13 := (e1.trans e2).trans e3
    have nfH : H fp = none := fresh_back (e1.trans e2) nf
    have hpw := pow7 hp7 h7
    generalize hP : prE q = P at *
    generalize hF : poE q = F at *
    refine q_forL (K := K) (ev_var rfl) (ex_l e13 h1) (fun i σ H' => ∃ (ts' : List Addr) (y8 y9 y10 y11 y12 : Option V), σ = [some (N_ q), some (.ref l), some (N_ at_), some (N_ d), some (.ref rm), some (.ref wr), some (N_ (P ^ at_)), some (.ref fp), y8, y9, y10, y11, y12] ∧ Ex H H' ∧ H' fp = some (.lst (ts'.map V.ref)) ∧ Hdx H' (fun a => a ≠ fp ∧ H a = none) ts' (longI q P F at_ d room (hs.take i)))
      (fun H4 e4 => ⟨[], none, none, none, none, none, rfl, e13.trans e4, e4 _ _ h3, Hdx.nil _ _⟩) (fun i σ H4 hi hw => ?_) (fun i x σ H4 hx hw => ?_) (fun σ H4 hw => ?_)
    · obtain ⟨ts', y8, y9, y10, y11, y12, rfl, e4, h4, hd4⟩ := hw
      exact ex_l e4 h1
    · obtain ⟨ts', y8, y9, y10, y11, y12, rfl, e4, h4, hd4⟩ := hw
      rw [List.getElem?_map] at hx
      obtain ⟨t, ht9, rfl⟩ := Option.map_eq_some_iff.mp hx
      have hil : i < hs.length := by rw [← h2.1]; exact (List.getElem?_eq_some_iff.mp ht9).1
      have hxi : hs[i]? = some hs[i] := List.getElem?_eq_getElem hil
      generalize hs[i] = hd at hxi
      obtain ⟨s, _, _, g1, g2⟩ := h2.2 i t hd ht9 hxi
      have hsl : hd.2.length = F := h5 hd (List.mem_of_getElem? hxi)
      rw [take_snocA hxi]
      have hlong : longI q P F at_ d room (hs.take i ++ [hd]) = longI q P F at_ d room (hs.take i) ++ (List.range (d + 1)).filterMap (oneI q P F at_ room hd) := flat_snoc _ _ _
      rw [hlong]
      have hdone : (longI q P F at_ d room (hs.take i)).length ≤ 14000 := by
        refine Nat.le_trans (long_bound ..) (Nat.le_trans (Nat.mul_le_mul (show (hs.take i).length ≤ 2000 by rw [List.length_take]; omega) (show d + 1 ≤ 7 by omega)) (by decide))
      generalize longI q P F at_ d room (hs.take i) = done at hd4 hdone
      refine ⟨t, [N_ hd.1, .ref s], rfl, st_of (e4 _ _ g1), rfl, N_ hd.1, [.ref s], rfl, .ref s, [], rfl, rfl, ?_⟩
      refine s_forR1 (n := ((d + 1 : Nat) : Int)) (ea_cons (ev_is (ev_op (ev_var rfl) ev_c rv_I0) (congrArg V.int (by omega))) ea_nil) ⟨by omega, by omega⟩ (fun m σ H' => ∃ (ts' : List Addr) (y10 y11 y12 : Option V), σ = [some (N_ q), some (.ref l), some (N_ at_), some (N_ d), some (.ref rm), some (.ref wr), some (N_ (P ^ at_)), some (.ref fp), some (N_ hd.1), some (.ref s), y10, y11, y12] ∧ Ex H H' ∧ H' fp = some (.lst (ts'.map V.ref)) ∧ Hdx H' (fun a => a ≠ fp ∧ H a = none) ts' (done ++ (List.range m).filterMap (oneI q P F at_ room hd)))
        (fun H5 e5 => ⟨ts', y10, y11, y12, rfl, e4.trans e5, e5 _ _ h4, by rw [List.range_zero, List.filterMap_nil, List.append_nil]; exact hd4.ex e5⟩) (fun m σ H5 hm hw => ?_) (fun σ H5 hw => ?_)
      · obtain ⟨ts', y10, y11, y12, rfl, e5, h5', hd5⟩ := hw
        have hm : m ≤ d := by omega
        rw [List.range_succ, fm_snoc, ← List.append_assoc]
        have hbig : (done ++ (List.range m).filterMap (oneI q P F at_ room hd)).length ≤ 14010 := by
          have := List.length_filterMap_le (oneI q P F at_ room hd) (List.range m)
          rw [List.length_range] at this
          rw [List.length_append]
          omega
        generalize done ++ (List.range m).filterMap (oneI q P F at_ room hd) = so at hd5 hbig
        have hsoL : ts'.length = so.length := hd5.1
        refine q_asg (v := N_ (hd.1 + m * P ^ at_)) (ev_is (ev_op (ev_var rfl) (ev_op (ev_var rfl) (ev_var rfl) (rv_I (wide_mul (a := 10) (b := 600) (by show m < 1024; omega) hpw (by decide) (by decide) (by decide)))) rv_I0) (congrArg V.int (by rw [Int.natCast_add, Int.natCast_mul]))) fun H6 e6 => ?_
        refine q_asgL (el_call (ea_cons (ev_var rfl) (ea_cons (ev_var rfl) (ea_cons (ev_var rfl) ea_nil))) (sv_less_digitI (is := hd.2) (ws := wl P F at_) (by rw [hsl, len_wl]) (by omega) (by omega) (by
          have := wl_small (a := at_) hq
          rw [hP, hF] at this
          exact this) (sq_of ((e5.trans e6) _ _ g2)) (hW _))) fun lp H7 nl e7 h7' => ?_
        have e57 := e6.trans e7
        have e07 := e5.trans e57
        have hlp : lp ≠ fp := fun z => by
          rw [z, e6 _ _ h5'] at nl
          cases nl
        have hgo := sv_does_go_on (K := K) (H := H7) (h := hd.1 + m * P ^ at_) (rm := rm) (sp := lp) (room := room) (is := lessI hd.2 (wl P F at_) m) hq (ex_l e07 h3') (sq_of h7') (by rw [hF]; exact h4') (by rw [hF, lessI_len (by rw [hsl, len_wl]), hsl])
        rw [hP, hF] at hgo
        refine s_when (et_B (ev_call (ea_cons (ev_var rfl) (ea_cons (ev_var rfl) (ea_cons (ev_var rfl) (ea_cons (ev_var rfl) ea_nil)))) hgo)) (fun hb H8 e8 => ?_) (fun hb H8 e8 => ?_)
        · have hone : oneI q P F at_ room hd m = some (hd.1 + m * P ^ at_, lessI hd.2 (wl P F at_) m) := by
            unfold oneI
            rw [if_pos hb]
          rw [hone]
          have h8 := (e57.trans e8) _ _ h5'
          refine s_appU h8 (ev_var rfl) (eu_tup (ea_cons (ev_var rfl) (ea_cons (ev_var rfl) ea_nil)) (by show 2 ≤ 100000; decide)) (by rw [List.length_map, hsoL]; exact Nat.lt_of_le_of_lt hbig (by decide)) fun t2 H9 nt e9 h9 => ?_
          have ht2 : t2 ≠ fp := fun z => by
            rw [z, h8] at nt
            cases nt
          have hk : ∀ a o, a ≠ fp → H9 a = some o → (upd H9 fp (.lst (ts'.map V.ref ++ [.ref t2]))) a = some o := fun a o n q => by rw [upd_ne n]; exact q
          refine ⟨ts' ++ [t2], _, _, _, rfl, (e07.trans (e8.trans e9)).mut nfH, by rw [upd_same, List.map_append]; rfl, ?_⟩
          refine Hdx.snoc (s := lp) ((hd5.ex (e57.trans (e8.trans e9))).keep fun a o n q => ⟨n, hk a o n.1 q⟩) ⟨ht2, fresh_back (e07.trans e8) nt⟩ ⟨hlp, fresh_back (e5.trans e6) nl⟩ (hk _ _ ht2 h9) (hk _ _ hlp ((e8.trans e9) _ _ h7'))
        · have hone : oneI q P F at_ room hd m = none := by
            unfold oneI
            rw [if_neg (by rw [hb]; decide)]
          rw [hone]
          exact ⟨ts', _, _, _, rfl, e07.trans e8, (e57.trans e8) _ _ h5', by rw [Option.toList_none, List.append_nil]; exact hd5.ex (e57.trans e8)⟩
      · obtain ⟨ts', y10, y11, y12, rfl, e5, h5', hd5⟩ := hw
        rw [Int.toNat_natCast] at hd5
        exact ⟨ts', _, _, _, _, _, rfl, e5, h5', hd5⟩
    · obtain ⟨ts', y8, y9, y10, y11, y12, rfl, e4, h4, hd4⟩ := hw
      rw [List.length_map, h2.1, List.take_length] at hd4
      exact s_ret (ev_var rfl) fun H5 e5 => kk fp ts' H5 nfH (e4.trans e5) (e5 _ _ h4) ((hd4.ex e5).keep fun a o n q => ⟨n.2, q⟩)


section
variable {K : PySem.W.Frag} {σ : L2.St} {H H' : Hp} {t : TT} {te ta tb tl : TE} {x y v : V} {D : Ends} {tu tz : TS} {g : TG}
theorem q_asgC {sp : Sp} {E : XK} {ts : TA} {vs : List V} {i : Nat} (h : EvA ts σ H vs) (k : ∀ H1, Ex H H1 → sp vs H1 (fun x H2 => tz D (σ.set i (some x)) H2) E) : tSeq (tAsg (tCall sp [] E ts) (gName i)) tz D σ H :=
  h H (Ex.refl H) _ fun H1 e1 => by
    show sp (vs ++ []) H1 _ E
    rw [List.append_nil]
    exact k H1 e1
theorem s_asgC {sp : Sp} {E : XK} {ts : TA} {vs : List V} {i : Nat} (h : EvA ts σ H vs) (k : ∀ H1, Ex H H1 → sp vs H1 (fun x H2 => D.nx (σ.set i (some x)) H2) E) : tAsg (tCall sp [] E ts) (gName i) D σ H :=
  h H (Ex.refl H) _ fun H1 e1 => by
    show sp (vs ++ []) H1 _ E
    rw [List.append_nil]
    exact k H1 e1
theorem q_asgR9 {i : Nat} (M1 : V → Hp → Prop) (h : ∀ Q : VK, (∀ x H1, M1 x H1 → Q x H1) → ta σ H Q) (k : ∀ x H1, M1 x H1 → tz D (σ.set i (some x)) H1) : tSeq (tAsg ta (gName i)) tz D σ H :=
  h _ fun x H1 m1 => k x H1 m1
/-- [.. for head, spare in heads] -/
theorem el_lcHd {a : Addr} {ts : List Addr} {hs : List (Nat × List Int)} {N : Addr → Prop} {i1 i2 : Nat} {vs : List Nat} (v : Nat → V) (h : Ev tl σ H (.ref a)) (hx : SqL K H a (ts.map V.ref)) (hd : Hdx H N ts hs) (hz : ts.length ≤ 40000) (hw : ∀ x y, wipe (((wipe σ vs).set i1 (some x)).set i2 (some y)) vs = wipe σ vs)
    (he : ∀ (i : Nat) (x : Nat × List Int) (s : Addr) H1, Ex H H1 → hs[i]? = some x → Ev te (((wipe σ vs).set i1 (some (N_ x.1))).set i2 (some (.ref s))) H1 (v i)) : EvL (tLc (iList K tl) (gTup K 2 (gCons (gName i1) (gCons (gName i2) gNil))) tYes te vs) σ H (given (ts.map V.ref).length (fun _ => true) v) := fun H0 e Q q => h H0 e _ fun H1 e1 => ⟨a, rfl, ⟨ts.map V.ref, ex_l (e.trans e1) hx⟩, fun Dl hD => by
  exact lc_list (xs := ts.map V.ref) (Cw H1 (fun _ => true) v Dl) ⟨hD, Ex.new hD, upd_same⟩ (fun i H' _ p => ex_l ((e.trans e1).trans p.2.1) hx) (fun i x H' hi p => by
    rw [List.getElem?_map] at hi
    obtain ⟨t, ht, rfl⟩ := Option.map_eq_some_iff.mp hi
    have hil : i < ts.length := (List.getElem?_eq_some_iff.mp ht).1
    have hjl : i < hs.length := by rw [← hd.1]; exact hil
    have hxi : hs[i]? = some hs[i] := List.getElem?_eq_getElem hjl
    obtain ⟨s, _, _, g1, g2⟩ := hd.2 i t _ ht hxi
    exact ⟨t, [N_ (hs[i]).1, .ref s], rfl, st_of (((e.trans e1).trans p.2.1) _ _ g1), rfl, N_ (hs[i]).1, [.ref s], rfl, .ref s, [], rfl, rfl, hw _ _, cw_turn p (by omega) et_nil (fun _ => he i _ s H1 (e.trans e1) hxi)⟩) (fun H' p => q Dl H' (fresh_back e1 p.1) (e1.trans p.2.1) p.2.2)⟩
end
theorem spI_nat {q many : Nat} {row : List Nat} (hq : Fq q) (h : geI (spI q (prE q) (poE q) row many) = true) : (∀ j, j < poE q → (q - 1) * many ≤ sj (prE q) (poE q) j (hdR row row.length)) ∧ (spI q (prE q) (poE q) row many).map V.int = (spL q row many).map N_ := by
  have hf1 := (fq_F hq).1
  have hj : ∀ j, j < poE q → (q - 1) * many ≤ sj (prE q) (poE q) j (hdR row row.length) := fun j hj => by
    have := of_decide_eq_true (List.all_eq_true.mp h _ (List.mem_map.mpr ⟨j, List.mem_range.mpr hj, rfl⟩))
    rw [spare_eq hf1 row, ← Int.natCast_mul] at this
    omega
  refine ⟨hj, ?_⟩
  unfold spI spL
  rw [List.map_map, List.map_map]
  refine List.map_congr_left fun j hj' => ?_
  have h1 := hj j (List.mem_range.mp hj')
  show V.int (((((List.range (poE q)).map fun t => (strd (poE q) t row).sum * wt (prE q) (poE q) j t).sum : Nat) : Int) - ((q - 1 : Nat) : Int) * (many : Int)) = V.int ((sj (prE q) (poE q) j (hdR row row.length) - (q - 1) * many : Nat) : Int)
  rw [spare_eq hf1 row, ← Int.natCast_mul]
  congr 1
  omega
def rowN (q k : Nat) : List Nat := dgf2 10 (prE q) k
def sp_first_members (K : PySem.W.Frag) : Sp := fun vs H Q _ => ∃ (q k after : Nat), vs = [N_ q, N_ k, N_ after, N_ 2000] ∧ Fq q ∧ k < 1024 ∧ after ≤ 300 ∧ okFirstR q (prE q) (poE q) (rowN q k) after = true ∧ RetL ((firstR q (prE q) (poE q) (rowN q k) after).map N_) H Q
theorem sv_first_members {K : PySem.W.Frag} {H : Hp} {q k after : Nat} (hq : Fq q) (hk : k < 1024) (ha : after ≤ 300) (h : okFirstR q (prE q) (poE q) (rowN q k) after = true) : SpL (sp_first_members K) [N_ q, N_ k, N_ after, N_ 2000] H ((firstR q (prE q) (poE q) (rowN q k) after).map N_) := fun H1 _ Q q' E => ⟨q, k, after, rfl, hq, hk, ha, h, q'⟩
theorem room_len (F : Nat) (row : List Nat) : (roomI F row).length = F := by unfold roomI; rw [List.length_map, List.length_range]
theorem lessR_len (room : List Nat) (c d : Nat) : (lessR room c d).length = room.length := by unfold lessR; rw [List.length_set]
theorem sm_len {hs : List (Nat × List Int)} (h : smI hs = true) : hs.length ≤ 2000 := by
  unfold smI at h
  rw [Bool.and_eq_true, decide_eq_true_eq] at h
  exact h.1
theorem okWalk_sm {q P F : Nat} {row : List Nat} : ∀ {a : Nat} {room : List Nat} {hs : List (Nat × List Int)}, okWalk q P F row a room hs = true → smI hs = true
  | 0, _, _, h => h
  | a + 1, _, _, h => by
    rw [okWalk, Bool.and_eq_true] at h
    exact h.1

theorem ok_first_members {P : Program} {w : World} {K : PySem.W.Frag} {mg : Str → Option Value} {base : Heap} (T : Txt K mg) : FnOk P w K mg base CX0 5 T.a_first_members T.d_first_members ["q", "k", "after", "most"] (sp_first_members K) := by
  refine T.F_first_members.ok sc_first_members (fun vs H Q E h => ?_) (fun cdv A outer s H vs Q E hr h => ?_)
  · obtain ⟨q, k, after, rfl, _⟩ := h
    rfl
  · obtain ⟨q, k, after, rfl, hq, hk, ha, hok, kk⟩ := h
    refine ⟨_, (pss_cons (ps_set (i := 4) sc_first_members.nd rfl (Or.inr rfl) (pe_call (ok_digit_row T) (hr.mono (by decide)) (by rfl) T.g_digit_row T.F_digit_row.kp T.b_digit_row .nil pass0 (pa_cons (pe_ix (r := rIxW K) ix_tab (pe_glob (v := .ref T.a_PRIMES) (by rfl) T.g_PRIMES rfl) (pv 0) (fun _ _ => rfl)) (pa_cons (pv 1) pa_nil))))
      (pss_cons (ps_set (i := 5) sc_first_members.nd rfl (Or.inr rfl) (pe_callB call_len_seq (by rfl) T.z_len (by decide +kernel) (pa_cons (pe_ix (r := rIxW K) ix_tab (pe_glob (v := .ref T.a_WEIGHTS) (by rfl) T.g_WEIGHTS rfl) (pv 0) (fun _ _ => rfl)) pa_nil)))
      (pss_cons (ps_setLc (i := 6) (own := [("t", 7)]) (g := gName 7) (by rfl) sc_first_members.nd rfl rfl (sw_true rfl rfl rfl (by decide +kernel)) (pi_range1 rfl T.z_range (pa_cons (pv 5) pa_nil)) (blkOk_by (N := ["q", "k", "after", "most", "row", "many", "room", "t", "heads", "at", "head", "_"]) (sc := defScope s_first_members) (by decide +kernel)) (fun _ _ _ _ _ => pg_name (i := 7) sc_first_members.nd rfl (Or.inl rfl)) (fun _ _ _ _ _ => pts_nil) (fun _ _ _ _ _ => (pe_callB (r := rSum K) (cr_sum rfl) (by rfl) T.z_sum (by decide +kernel) (pa_cons (pe_sliceSK (K := K) (by rfl) (pv 4) (po_some (pv 7)) (po_some (pv 5))) pa_nil))))
      (pss_cons (ps_set (i := 8) sc_first_members.nd rfl (Or.inl rfl) (pe_lst (pa_cons (pe_tup (pa_cons pe_int (pa_cons (pe_call (ok_spare_sums T) (hr.mono (by decide)) (by rfl) T.g_spare_sums T.F_spare_sums.kp T.b_spare_sums .nil pass0 (pa_cons (pv 0) (pa_cons (pv 4) (pa_cons (pv 2) pa_nil)))) pa_nil))) pa_nil)))
      (pss_cons (ps_for PassesOwn.never rfl (pi_range3 rfl T.z_range (pa_cons (pe_op op_sub (pe_callB call_len_seq (by rfl) T.z_len (by decide +kernel) (pa_cons (pv 4) pa_nil)) pe_int) (pa_cons (pe_un un_neg pe_int) (pa_cons (pe_un un_neg pe_int) pa_nil)))) (pg_name (i := 9) sc_first_members.nd rfl (Or.inl rfl)) (pss_one (ps_if (pt_cmpR op_gt (pe_ix (r := rIxL K) ix_list (pv 4) (pv 9) (fun _ _ => rfl)) pe_int (nomark _)) (pss_cons (ps_asg (pe_op op_sub (pe_ix (r := rIxL K) ix_list (pv 6) (pe_op op_mod (pv 9) (pv 5)) (fun _ _ => rfl)) (pe_ix (r := rIxL K) ix_list (pv 4) (pv 9) (fun _ _ => rfl))) (pg_sub (pv 6) (pe_op op_mod (pv 9) (pv 5)) set_list))
      (pss_cons (ps_set (i := 8) sc_first_members.nd rfl (Or.inl rfl) (pe_call (ok_longer_heads T) (hr.mono (by decide)) (by rfl) T.g_longer_heads T.F_longer_heads.kp T.b_longer_heads .nil pass0 (pa_cons (pv 0) (pa_cons (pv 8) (pa_cons (pv 9) (pa_cons (pe_ix (r := rIxL K) ix_list (pv 4) (pv 9) (fun _ _ => rfl)) (pa_cons (pv 6) pa_nil)))))))
      (pss_one (ps_if (pt_cmpR op_gt (pe_callB call_len_seq (by rfl) T.z_len (by decide +kernel) (pa_cons (pv 8) pa_nil)) (pv 3) (nomark _)) (pss_one ps_never) pss_nil)))) pss_nil)))
      (pss_one (ps_ret (pe_lc (own := [("head", 10), ("_", 11)]) (g := (gTup K 2 (gCons (gName 10) (gCons (gName 11) gNil)))) rfl sc_first_members.nd (pi_list (pv 8)) (blkOk_by (N := ["q", "k", "after", "most", "row", "many", "room", "t", "heads", "at", "head", "_"]) (sc := defScope s_first_members) (by decide +kernel)) (fun _ _ _ _ _ => (pg_tup (by rfl) (pgs_cons (pg_name (i := 10) sc_first_members.nd rfl (Or.inl rfl)) (pgs_cons (pg_name (i := 11) sc_first_members.nd rfl (Or.inl rfl)) pgs_nil)))) (fun _ _ _ _ _ => pts_nil) (fun _ _ _ _ _ => (pv 10)))))))))), ?_⟩
    have ht := t0_of hq
    have hp2 := ht.p2
    have hp7 := ht.p7
    obtain ⟨hf1, hf3⟩ := fq_F hq
    obtain ⟨wa, rs, W, hrv⟩ := wts_get hq T.w_WEIGHTS
    have hrl : (rs.map V.ref).length = poE q := by rw [List.length_map, W.ln]
    have hk60 : k < 10 ^ 60 := Nat.lt_of_lt_of_le hk (by decide)
    have hrowE : rowN q k = dg (prE q) k := dgf2_eq (by omega) 10 k hk
    unfold okFirstR at hok
    rw [Bool.and_eq_true] at hok
    obtain ⟨hge, hwk⟩ := hok
    obtain ⟨hsp1, hsp2⟩ := spI_nat hq hge
    refine q_asgL (xs := (rowN q k).map N_) (by rw [hrowE]; exact el_call (ea_cons (ev_tab0 T.w_PRIMES ht.pr (ev_var rfl)) (ea_cons (ev_var rfl) ea_nil)) (sv_digit_row ⟨hp2, by omega⟩ (gt_n hk60))) fun r H1 nr e1 h1 => ?_
    have hrl10 : (rowN q k).length ≤ 10 := by rw [hrowE]; exact dg_len (by omega) 10 k hk
    have hrd : ∀ d ∈ rowN q k, d < prE q := fun d hd => by rw [hrowE] at hd; exact dg_lt (by omega) k d hd
    unfold firstR at kk
    generalize hrow : rowN q k = row at *
    refine q_asg (v := N_ (poE q)) (ev_is (ev_cb (ea_cons (ev_op ev_c (ev_var rfl) (hrv _)) ea_nil) (rc_lenT (W.sq _))) (congrArg V.int (by rw [hrl]))) fun H2 e2 => ?_
    have hsh : ∀ t, (strd (poE q) t row).sum ≤ 2800 := fun t => by
      have h1 := sum_bound (m := 7) (strd (poE q) t row) fun d hd => Nat.lt_of_lt_of_le (hrd d (strd_sub _ row t d hd)) hp7
      have h2 := strd_len (poE q) row t
      omega
    refine q_asgL (xs := (roomI (poE q) row).map N_) (el_is (el_lcR1 (n := (poE q : Int)) (fun _ => true) (fun t => N_ (strd (poE q) t row).sum) (ea_cons (ev_var rfl) ea_nil) ⟨by omega, by omega⟩ (fun _ => rfl) (fun _ _ _ _ => et_nil) (fun t H3 e3 ht2 _ => ?_)) ?_) fun rm H3 nrm e3 h3 => ?_
    · refine ev_is (ev_sumN (K := K) (ns := (strd (poE q) t row).map Int.ofNat) (el_is (el_slS (K := K) (ev_var rfl) (eo_some (ev_var rfl)) (eo_some (ev_var rfl)) (by omega) (sq_of ((e2.trans e3) _ _ h1))) ?_)) (congrArg V.int (sumN _))
      rw [pick_map, pick_strd _ (by omega), mapN]
    · rw [Int.toNat_natCast, given_range]
      unfold roomI
      rw [List.map_map]
      rfl
    have e13 := (e1.trans e2).trans e3
    have nrmH : H rm = none := fresh_back (e1.trans e2) nrm
    have hrrm : r ≠ rm := fun z => by
      rw [← z, e2 _ _ h1] at nrm
      cases nrm
    refine q_asgR9 (fun x H' => ∃ (l t s : Addr), x = .ref l ∧ Ex H3 H' ∧ l ≠ rm ∧ H' l = some (.lst ([t].map V.ref)) ∧ Hdx H' (fun a => a ≠ rm) [t] [(0, spI q (prE q) (poE q) row after)]) (fun Q' q' => ?_) (fun x H4 m4 => ?_)
    · refine (el_call (ea_cons (ev_var rfl) (ea_cons (ev_var rfl) (ea_cons (ev_var rfl) ea_nil))) (sv_spare_sums (m := after) hq (sq_of ((e2.trans e3) _ _ h1)) (by omega) hrd ha hsp1)) H3 (Ex.refl H3) _ fun s H4 ns e4 h4 => ⟨by show 2 ≤ sizeLine; decide, fun t nt => ⟨by show 1 ≤ sizeLine; decide, fun l nl => q' _ _ ⟨l, t, s, rfl, (e4.trans (Ex.new nt)).trans (Ex.new nl), fun z => ?_, upd_same, ?_⟩⟩⟩
      · rw [z, (e4.trans (Ex.new nt)) _ _ h3] at nl
        cases nl
      · have hts : s ≠ t := fun z => by rw [← z, h4] at nt; cases nt
        have htl : t ≠ l := fun z => by rw [← z, upd_same] at nl; cases nl
        have hsl : s ≠ l := fun z => by rw [← z, upd_ne hts, h4] at nl; cases nl
        refine Hdx.snoc (s := s) (Hdx.nil _ _) (fun z => ?_) (fun z => ?_) ?_ ?_
        · rw [z, e4 _ _ h3] at nt
          cases nt
        · rw [z, h3] at ns
          cases ns
        · rw [upd_ne htl, upd_same]
          rfl
        · rw [upd_ne hsl, upd_ne hts, h4, hsp2]
    obtain ⟨l0, t0, s0, rfl, e4, hl0, g0, hd0⟩ := m4
    generalize hL : row.length = len at *
    have hml : (row.map N_).length = len := by rw [List.length_map, hL]
    refine q_forRd (lo := ((len : Nat) : Int) - 1) (n := -1) (ea_cons (ev_is (ev_op (ev_cb (ea_cons (ev_var rfl) ea_nil) (rc_lenL (sq_of (((e2.trans e3).trans e4) _ _ h1)))) ev_c rv_I0) (congrArg V.int (by rw [hml]))) (ea_cons (ev_un ev_c ru_neg) (ea_cons (ev_un ev_c ru_neg) ea_nil))) ⟨by omega, by omega, by omega, by omega⟩
      (fun i σ H' => ∃ (l : Addr) (ts : List Addr) (hs : List (Nat × List Int)) (room : List Nat) (y9 : Option V), σ = [some (N_ q), some (N_ k), some (N_ after), some (N_ 2000), some (.ref r), some (N_ (poE q)), some (.ref rm), none, some (.ref l), y9, none, none] ∧ Ex H H' ∧ SqL K H' r (row.map N_) ∧ H' rm = some (.lst (room.map N_)) ∧ l ≠ rm ∧ SqL K H' l (ts.map V.ref) ∧ Hdx H' (fun a => a ≠ rm) ts hs ∧ room.length = poE q ∧ lnI (poE q) hs ∧ walkI q (prE q) (poE q) row (len - i) room hs = walkI q (prE q) (poE q) row len (roomI (poE q) row) [(0, spI q (prE q) (poE q) row after)] ∧ okWalk q (prE q) (poE q) row (len - i) room hs = true)
      (fun H5 e5 => ⟨l0, [t0], _, roomI (poE q) row, none, rfl, (e13.trans e4).trans e5, sq_of (((e2.trans e3).trans (e4.trans e5)) _ _ h1), (e4.trans e5) _ _ h3, hl0, sq_of (e5 _ _ g0), hd0.ex e5, room_len .., fun x hx => ?_, rfl, hwk⟩) (fun i σ H5 hi hw => ?_) (fun σ H5 hw => ?_)
    · rw [List.mem_singleton.mp hx]
      unfold spI
      rw [List.length_map, List.length_range]
    · obtain ⟨l, ts, hs, room, y9, rfl, e5, sr, hrm, hlr, sl, hdx, hrml, hln, hval, hokw⟩ := hw
      have hil : i < len := by omega
      obtain ⟨a, ha'⟩ : ∃ a, len - i = a + 1 := ⟨len - i - 1, by omega⟩
      have hni : len - (i + 1) = a := by omega
      have hat : (((len : Nat) : Int) - 1 - (i : Int)) = ((a : Nat) : Int) := by omega
      rw [hat, hni]
      rw [ha'] at hval hokw
      have hal : a < row.length := by omega
      have hga : (row.map N_)[a]? = some (N_ (row.getD a 0)) := get_sp hal
      rw [walkI] at hval
      rw [okWalk, Bool.and_eq_true] at hokw
      obtain ⟨hsm, hokw⟩ := hokw
      have hd7 : row.getD a 0 < 7 := Nat.lt_of_lt_of_le (hrd _ (List.mem_of_getElem? (getD_get hal))) hp7
      generalize row.getD a 0 = d at *
      have hcf : a % poE q < poE q := Nat.mod_lt _ hf1
      refine s_when (et_test (ev_op (ev_op (r := rIxL K) (ev_var rfl) (ev_var rfl) (rv_ixL sr (atI_nat hga))) ev_c rv_I0)) (fun hb H6 e6 => ?_) (fun hb H6 e6 => ?_)
      · have hd0' : ¬ d = 0 := by have := of_decide_eq_true hb; omega
        rw [if_neg hd0'] at hval hokw
        rw [Bool.and_eq_true, decide_eq_true_eq] at hokw
        obtain ⟨hle, hokw⟩ := hokw
        have sr6 := ex_l e6 sr
        have hrm6 := e6 _ _ hrm
        have hgr : (room.map N_)[a % poE q]? = some (N_ (room.getD (a % poE q) 0)) := get_sp (by rw [hrml]; exact hcf)
        refine q_setL (l := rm) (j := a % poE q) (v := N_ (room.getD (a % poE q) 0 - d)) hrm6 (ev_is (ev_op (ev_op (r := rIxL K) (ev_var rfl) (ev_is (w := N_ (a % poE q)) (ev_op (ev_var rfl) (ev_var rfl) (rv_I (by omega))) rfl) (rv_ixL (sq_of hrm6) (atI_nat hgr))) (ev_op (r := rIxL K) (ev_var rfl) (ev_var rfl) (rv_ixL sr6 (atI_nat hga))) rv_I0) (congrArg V.int (by omega))) (ev_var rfl) (ev_is (w := N_ (a % poE q)) (ev_op (ev_var rfl) (ev_var rfl) (rv_I (by omega))) rfl) (by rw [List.length_map, hrml]; exact hcf) fun H7 e7 => ?_
        have hrm8 : (upd H7 rm (.lst ((room.map N_).set (a % poE q) (N_ (room.getD (a % poE q) 0 - d))))) rm = some (.lst ((lessR room (a % poE q) d).map N_)) := by
          unfold lessR
          rw [upd_same, List.map_set]
        have keep : ∀ b o, b ≠ rm → H5 b = some o → (upd H7 rm (.lst ((room.map N_).set (a % poE q) (N_ (room.getD (a % poE q) 0 - d))))) b = some o := fun b o n g => by rw [upd_ne n]; exact e7 _ _ (e6 _ _ g)
        have e8 : Ex H (upd H7 rm (.lst ((room.map N_).set (a % poE q) (N_ (room.getD (a % poE q) 0 - d))))) := ((e5.trans e6).trans e7).mut nrmH
        have sr8 := exd_l (p := rm) hrrm (Exd.put (o := .lst ((room.map N_).set (a % poE q) (N_ (room.getD (a % poE q) 0 - d))))) (ex_l e7 sr6)
        have sl8 := exd_l (p := rm) hlr (Exd.put (o := .lst ((room.map N_).set (a % poE q) (N_ (room.getD (a % poE q) 0 - d))))) (ex_l (e6.trans e7) sl)
        have hdx8 := hdx.keep (M := fun _ => True) fun b o n g => ⟨trivial, keep b o n g⟩
        generalize upd H7 rm (.lst ((room.map N_).set (a % poE q) (N_ (room.getD (a % poE q) 0 - d)))) = H8 at hrm8 e8 sr8 sl8 hdx8
        refine q_asgC (ea_cons (ev_var rfl) (ea_cons (ev_var rfl) (ea_cons (ev_var rfl) (ea_cons (ev_op (r := rIxL K) (ev_var rfl) (ev_var rfl) (rv_ixL sr8 (atI_nat hga))) (ea_cons (ev_var rfl) ea_nil))))) fun H9 e9 => ⟨q, a, d, l, rm, ts, hs, lessR room (a % poE q) d, rfl, hq, ex_l e9 sl8, hdx8.ex e9, sq_of (e9 _ _ hrm8), by rw [lessR_len, hrml], hln, sm_len hsm, by omega, hd7, fun p ts' H10 np e10 h10 hd10 => ?_⟩
        have hsm' := okWalk_sm hokw
        have hpr : p ≠ rm := fun z => by
          rw [z, e9 _ _ hrm8] at np
          cases np
        refine s_when (b := false) (et_is (et_test (ev_op (ev_cb (ea_cons (ev_var rfl) ea_nil) (rc_lenL (sq_of h10))) (ev_var rfl) rv_I0)) (decide_eq_false (by rw [List.length_map, hd10.1]; have := sm_len hsm'; omega))) (fun h => nomatch h) (fun _ H11 e11 => ⟨p, ts', _, _, _, rfl, ((e8.trans e9).trans e10).trans e11, ex_l ((e9.trans e10).trans e11) sr8, ((e9.trans e10).trans e11) _ _ hrm8, hpr, sq_of (e11 _ _ h10), (hd10.ex e11).keep fun b o n g => ⟨fun z => ?_, g⟩, by rw [lessR_len, hrml], long_len hln, hval, hokw⟩)
        rw [z, e9 _ _ hrm8] at n
        cases n
      · have hd0' : d = 0 := by have := of_decide_eq_false hb; omega
        rw [if_pos hd0'] at hval hokw
        exact ⟨l, ts, hs, room, _, rfl, e5.trans e6, ex_l e6 sr, e6 _ _ hrm, hlr, ex_l e6 sl, hdx.ex e6, hrml, hln, hval, hokw⟩
    · obtain ⟨l, ts, hs, room, y9, rfl, e5, sr, hrm, hlr, sl, hdx, hrml, hln, hval, hokw⟩ := hw
      have h0 : len - (((len : Nat) : Int) - 1 - (-1)).toNat = 0 := by omega
      rw [h0, walkI] at hval
      rw [h0] at hokw
      rw [← hval] at kk
      have hsm := sm_len (okWalk_sm hokw)
      refine s_retL (el_is (el_lcHd (K := K) (fun i => N_ ((hs.map (·.1)).getD i 0)) (ev_var rfl) sl hdx (by rw [hdx.1]; omega) (fun _ _ => rfl) (fun i x s H6 e6 hx => ?_)) ?_) fun p H6 np e6 h6 => kk p H6 (fresh_back e5 np) (e5.trans e6) h6
      · rw [List.getD_eq_getElem?_getD, List.getElem?_map, hx]
        exact ev_var rfl
      · rw [List.length_map, hdx.1, ← List.length_map (f := fun x : Nat × List Int => x.1), given_all (hs.map (·.1)) N_ _ (fun i y h => by rw [List.getD_eq_getElem?_getD, h]; rfl)]


theorem sqt_keep {K : PySem.W.Frag} {H H' : Hp} {p m : Addr} {ys xs : List V} (hp : H p = some (.lst ys)) (e : Exd p H H') (h : SqT K H m xs) : SqT K H' m xs := by
  rcases h with (h | ⟨o, h⟩) | h
  · exact .inl (.inl (e m _ (fun z => by rw [z, hp] at h; cases h) h))
  · exact .inl (.inr ⟨o, e m _ (fun z => by rw [z, hp] at h; cases h) h⟩)
  · exact .inr h
/-- begun partings in the heap: each a pair of a tuple of members and what is left -/
def Bgn (K : PySem.W.Frag) (H : Hp) (ts : List Addr) (bs : List (List Nat × Nat)) : Prop := ts.length = bs.length ∧ ∀ (i : Nat) (t : Addr) (x : List Nat × Nat), ts[i]? = some t → bs[i]? = some x → ∃ m, H t = some (.tup [.ref m, N_ x.2]) ∧ SqT K H m (x.1.map N_)
theorem Bgn.nil (K : PySem.W.Frag) (H : Hp) : Bgn K H [] [] := ⟨rfl, fun i t x h => by simp at h⟩
theorem Bgn.exd {K : PySem.W.Frag} {H H' : Hp} {p : Addr} {ys : List V} {ts : List Addr} {bs : List (List Nat × Nat)} (h : Bgn K H ts bs) (hp : H p = some (.lst ys)) (e : Exd p H H') : Bgn K H' ts bs := ⟨h.1, fun i t x e1 e2 => by
  obtain ⟨m, h1, h2⟩ := h.2 i t x e1 e2
  exact ⟨m, e _ _ (fun z => by rw [z, hp] at h1; cases h1) h1, sqt_keep hp e h2⟩⟩
theorem Bgn.ex {K : PySem.W.Frag} {H H' : Hp} {ts : List Addr} {bs : List (List Nat × Nat)} (h : Bgn K H ts bs) (e : Ex H H') : Bgn K H' ts bs := ⟨h.1, fun i t x e1 e2 => by
  obtain ⟨m, h1, h2⟩ := h.2 i t x e1 e2
  exact ⟨m, e _ _ h1, ex_t e h2⟩⟩
theorem Bgn.snoc {K : PySem.W.Frag} {H : Hp} {ts : List Addr} {bs : List (List Nat × Nat)} {t m : Addr} {x : List Nat × Nat} (h : Bgn K H ts bs) (h1 : H t = some (.tup [.ref m, N_ x.2])) (h2 : SqT K H m (x.1.map N_)) : Bgn K H (ts ++ [t]) (bs ++ [x]) := by
  refine ⟨by rw [List.length_append, List.length_append, h.1]; rfl, fun i t' x' e1 e2 => ?_⟩
  by_cases hi : i < ts.length
  · rw [List.getElem?_append_left hi] at e1
    rw [List.getElem?_append_left (by rw [← h.1]; exact hi)] at e2
    exact h.2 i t' x' e1 e2
  · rw [List.getElem?_append_right (by omega)] at e1
    rw [List.getElem?_append_right (by rw [← h.1]; omega)] at e2
    have hi2 : i - ts.length = 0 := by
      have := (List.getElem?_eq_some_iff.mp e1).1
      rw [List.length_singleton] at this
      omega
    rw [hi2] at e1
    rw [← h.1, hi2] at e2
    cases e1
    cases e2
    exact ⟨m, h1, h2⟩
section
variable {K : PySem.W.Frag} {σ : L2.St} {H H' : Hp} {t : TT} {te ta tb tl : TE} {x y v : V} {D : Ends} {tu tz : TS} {g : TG}
theorem s_appR {l : Addr} {xs : List V} (M : Addr → Hp → Prop) (hl : H l = some (.lst xs)) (ha : Ev ta σ H (.ref l)) (h : ∀ H1, Ex H H1 → ∀ Q : VK, (∀ p H2, Ex H1 H2 → M p H2 → Q (.ref p) H2) → te σ H1 Q) (hz : xs.length < 100000) (k : ∀ p H1, Ex H H1 → M p H1 → D.nx σ (upd H1 l (.lst (xs ++ [.ref p])))) :
    tDrop (tBM K "list" rAppend ta (tCons te tNil)) D σ H := ha H (Ex.refl H) _ fun H1 e1 =>
  ⟨Or.inl ⟨rfl, xs, sq_of (e1 l _ hl)⟩, h H1 e1 _ fun p H2 e2 m => ⟨l, xs, .ref p, rfl, rfl, e2 l _ (e1 l _ hl), sz_lt hz, k p H2 (e1.trans e2) m⟩⟩
/-- t + (x,) and what is left, as a new pair -/
theorem pair_go {m : Addr} {ms : List Nat} {n z : Nat} {ta tb tc : TE} (h1 : Ev ta σ H (.ref m)) (hm : SqT K H m (ms.map N_)) (hl : ms.length ≤ 300) (h2 : Ev tb σ H (N_ n)) (h3 : Ev tc σ H (N_ z)) {H1 : Hp} (e : Ex H H1) {Q : VK} (q : ∀ p H2, Ex H1 H2 → (H1 p = none ∧ ∃ a, H2 p = some (.tup [.ref a, N_ z]) ∧ SqT K H2 a ((ms ++ [n]).map N_)) → Q (.ref p) H2) :
    tTup (tCons (tOp (rCatA K) ta (tTup (tCons tb tNil))) (tCons tc tNil)) σ H1 Q :=
  h1 H1 e _ fun H2 e2 => h2 H2 (e.trans e2) _ fun H3 e3 => ⟨by show 1 ≤ sizeLine; decide, fun t1 n1 => catA_go (K := K) (xs := ms.map N_) (ys := [N_ n]) (ex_t ((e.trans e2).trans (e3.trans (Ex.new n1))) hm) (st_of upd_same) (by rw [List.length_map]; show _ + 1 ≤ _; omega) fun a H4 e4 sa => h3 H4 (((e.trans e2).trans (e3.trans (Ex.new n1))).trans e4) _ fun H5 e5 => ⟨by show 2 ≤ sizeLine; decide, fun t2 n2 => q t2 _ ((((e2.trans e3).trans (Ex.new n1)).trans (e4.trans e5)).trans (Ex.new n2)) ⟨fresh_back (((e2.trans e3).trans (Ex.new n1)).trans (e4.trans e5)) n2, a, upd_same, ex_t (e5.trans (Ex.new n2)) (by rw [List.map_append]; exact sa)⟩⟩⟩
end
def sp_with_next_members (K : PySem.W.Frag) : Sp := fun vs H Q _ => ∃ (q after : Nat) (l : Addr) (ts : List Addr) (bs : List (List Nat × Nat)), vs = [N_ q, .ref l, N_ after, N_ 2000] ∧ Fq q ∧ SqL K H l (ts.map V.ref) ∧ Bgn K H ts bs ∧ after ≤ 300 ∧ (∀ b ∈ bs, b.1.length ≤ 300) ∧ okNext q (prE q) (poE q) after bs = true ∧
  ∀ (p : Addr) (ts' : List Addr) (H' : Hp), H p = none → Ex H H' → H' p = some (.lst (ts'.map V.ref)) → Bgn K H' ts' (nextI q (prE q) (poE q) after bs) → Q (.ref p) H'
theorem next_snoc {q P F after : Nat} (bs : List (List Nat × Nat)) (b : List Nat × Nat) : nextI q P F after (bs ++ [b]) = nextI q P F after bs ++ (firstR q P F (dgf2 10 P b.2) after).map fun m => (b.1 ++ [m], b.2 - m) := flat_snoc _ _ _
theorem next_mono {q P F after : Nat} (bs : List (List Nat × Nat)) (i : Nat) : (nextI q P F after (bs.take i)).length ≤ (nextI q P F after bs).length := by
  have : nextI q P F after bs = nextI q P F after (bs.take i) ++ nextI q P F after (bs.drop i) := by
    unfold nextI
    rw [← List.flatten_append, ← List.map_append, List.take_append_drop]
  rw [this, List.length_append]
  omega

theorem ok_with_next_members {P : Program} {w : World} {K : PySem.W.Frag} {mg : Str → Option Value} {base : Heap} (T : Txt K mg) : FnOk P w K mg base CX0 6 T.a_with_next_members T.d_with_next_members ["q", "begun", "after", "most"] (sp_with_next_members K) := by
  refine T.F_with_next_members.ok sc_with_next_members (fun vs H Q E h => ?_) (fun cdv A outer s H vs Q E hr h => ?_)
  · obtain ⟨q, after, l, ts, bs, rfl, _⟩ := h
    rfl
  · obtain ⟨q, after, l, ts, bs, rfl, hq, h1, h2, h3, h4, hok, kk⟩ := h
    refine ⟨_, (pss_cons (ps_set (i := 4) sc_with_next_members.nd rfl (Or.inl rfl) (pe_lst pa_nil))
      (pss_cons (ps_for PassesOwn.never rfl (pi_list (pv 1)) (pg_tup (by rfl) (pgs_cons (pg_name (i := 5) sc_with_next_members.nd rfl (Or.inl rfl)) (pgs_cons (pg_name (i := 6) sc_with_next_members.nd rfl (Or.inl rfl)) pgs_nil))) (pss_cons (ps_for PassesOwn.never rfl (pi_list (pe_call (ok_first_members T) (hr.mono (by decide)) (by rfl) T.g_first_members T.F_first_members.kp T.b_first_members .nil pass0 (pa_cons (pv 0) (pa_cons (pv 6) (pa_cons (pv 2) (pa_cons (pv 3) pa_nil)))))) (pg_name (i := 7) sc_with_next_members.nd rfl (Or.inl rfl)) (pss_one (ps_expr (pe_bm PySem.F.plainAttrs_list PySem.F.slot_list_append PySem.F.type_list_append mt_append (pv 4) (pa_cons (pe_tup (pa_cons (pe_op (op_catAK (K := K) (by rfl)) (pv 5) (pe_tup (pa_cons (pv 7) pa_nil))) (pa_cons (pe_op op_sub (pv 6) (pv 7)) pa_nil))) pa_nil)))))
      (pss_one (ps_if (pt_cmpR op_gt (pe_callB call_len_seq (by rfl) T.z_len (by decide +kernel) (pa_cons (pv 4) pa_nil)) (pv 3) (nomark _)) (pss_one ps_never) pss_nil))))
      (pss_one (ps_ret (pv 4))))), ?_⟩
    unfold okNext at hok
    rw [Bool.and_eq_true, List.all_eq_true, decide_eq_true_eq] at hok
    obtain ⟨hall, hmost⟩ := hok
    refine q_asgL (xs := []) (el_lst ea_nil (by decide)) fun fp H1 nf e1 h1' => ?_
    have nfH : H fp = none := nf
    generalize hP : prE q = P at *
    generalize hF : poE q = F at *
    refine q_forL (K := K) (ev_var rfl) (ex_l e1 h1) (fun i σ H' => ∃ (ts' : List Addr) (y5 y6 y7 : Option V), σ = [some (N_ q), some (.ref l), some (N_ after), some (N_ 2000), some (.ref fp), y5, y6, y7] ∧ Ex H H' ∧ H' fp = some (.lst (ts'.map V.ref)) ∧ Bgn K H' ts' (nextI q P F after (bs.take i)))
      (fun H2 e2 => ⟨[], none, none, none, rfl, e1.trans e2, e2 _ _ h1', Bgn.nil _ _⟩) (fun i σ H2 hi hw => ?_) (fun i x σ H2 hx hw => ?_) (fun σ H2 hw => ?_)
    · obtain ⟨ts', y5, y6, y7, rfl, e2, h2', hb2⟩ := hw
      exact ex_l e2 h1
    · obtain ⟨ts', y5, y6, y7, rfl, e2, h2', hb2⟩ := hw
      rw [List.getElem?_map] at hx
      obtain ⟨t, ht9, rfl⟩ := Option.map_eq_some_iff.mp hx
      have hil : i < bs.length := by rw [← h2.1]; exact (List.getElem?_eq_some_iff.mp ht9).1
      have hxi : bs[i]? = some bs[i] := List.getElem?_eq_getElem hil
      generalize bs[i] = b at hxi
      obtain ⟨ms, left⟩ := b
      obtain ⟨m, g1, g2⟩ := h2.2 i t _ ht9 hxi
      have hbm := List.mem_of_getElem? hxi
      have hokb := hall _ hbm
      rw [Bool.and_eq_true, Bool.and_eq_true, decide_eq_true_eq, List.all_eq_true] at hokb
      obtain ⟨⟨hl1024, hokf⟩, hle⟩ := hokb
      have hmsl := h4 _ hbm
      have htot : (nextI q P F after (bs.take (i + 1))).length ≤ 2000 := Nat.le_trans (next_mono bs (i + 1)) hmost
      rw [take_snocA hxi, next_snoc] at htot ⊢
      have hfm := sv_first_members (K := K) (H := H2) (q := q) (k := left) (after := after) hq hl1024 h3 (by rw [hP, hF]; unfold rowN; rw [hP]; exact hokf)
      rw [hP, hF] at hfm
      unfold rowN at hfm
      rw [hP] at hfm
      generalize nextI q P F after (bs.take i) = done at hb2 htot
      replace htot : (done ++ (firstR q P F (dgf2 10 P left) after).map fun m => (ms ++ [m], left - m)).length ≤ 2000 := htot
      refine ⟨t, [.ref m, N_ left], rfl, st_of (e2 _ _ g1), rfl, .ref m, [N_ left], rfl, N_ left, [], rfl, rfl, ?_⟩
      refine q_forNLn (K := K) (xs := (firstR q P F (dgf2 10 P left) after).map N_) (el_call (ea_cons (ev_var rfl) (ea_cons (ev_var rfl) (ea_cons (ev_var rfl) (ea_cons (ev_var rfl) ea_nil)))) hfm) (fun p j σ H' => ∃ (ts' : List Addr) (y7 : Option V), σ = [some (N_ q), some (.ref l), some (N_ after), some (N_ 2000), some (.ref fp), some (.ref m), some (N_ left), y7] ∧ Ex H H' ∧ p ≠ fp ∧ SqL K H' p ((firstR q P F (dgf2 10 P left) after).map N_) ∧ H' fp = some (.lst (ts'.map V.ref)) ∧ Bgn K H' ts' (done ++ ((firstR q P F (dgf2 10 P left) after).take j).map fun m => (ms ++ [m], left - m)))
        (fun p H3 np e3 h3' => ⟨ts', y7, rfl, e2.trans e3, fun z => (by rw [z, h2'] at np; cases np), sq_of h3', e3 _ _ h2', by rw [List.take_zero, List.map_nil, List.append_nil]; exact hb2.ex e3⟩) (fun p j σ H3 hj hw => ?_) (fun p j x σ H3 hx hw => ?_) (fun p σ H3 hw => ?_)
      · obtain ⟨ts', y7, rfl, e3, npf, sp3, h3', hb3⟩ := hw
        exact sp3
      · obtain ⟨ts', y7, rfl, e3, npf, sp3, h3', hb3⟩ := hw
        rw [List.getElem?_map] at hx
        obtain ⟨n, hn, rfl⟩ := Option.map_eq_some_iff.mp hx
        have hnle : n ≤ left := of_decide_eq_true (hle n (List.mem_of_getElem? hn))
        have hts : ts'.length ≤ 2000 := by
          rw [hb3.1, List.length_append, List.length_map, List.length_take]
          rw [List.length_append, List.length_map] at htot
          omega
        rw [take_snocA hn, List.map_append, ← List.append_assoc]
        refine s_appR (fun t2 H5 => t2 ≠ fp ∧ ∃ a, H5 t2 = some (.tup [.ref a, N_ (left - n)]) ∧ SqT K H5 a ((ms ++ [n]).map N_)) h3' (ev_var rfl) (fun H4 e4 Q' q' => pair_go (K := K) (H := H3) (ms := ms) (n := n) (z := left - n) (ev_var rfl) (ex_t e3 g2) hmsl (ev_var rfl) (ev_is (ev_op (ev_var rfl) (ev_var rfl) rv_I0) (congrArg V.int (by omega))) e4 fun t2 H5 e5 m5 => q' t2 H5 e5 ⟨fun z => ?_, m5.2⟩) (by rw [List.length_map]; omega) fun t2 H5 e5 m5 => ?_
        · have := m5.1
          rw [z, e4 _ _ h3'] at this
          cases this
        · obtain ⟨ht2, a, g5, s5⟩ := m5
          have h5 := e5 _ _ h3'
          have x5 : Exd fp H5 (upd H5 fp (.lst (ts'.map V.ref ++ [.ref t2]))) := Exd.put
          refine ⟨ts' ++ [t2], _, rfl, (e3.trans e5).mut nfH, npf, exd_l npf x5 (ex_l e5 sp3), by rw [upd_same, List.map_append]; rfl, ?_⟩
          exact Bgn.snoc (x := (ms ++ [n], left - n)) ((hb3.ex e5).exd h5 x5) (x5 _ _ ht2 g5) (sqt_keep h5 x5 s5)
      · obtain ⟨ts', y7, rfl, e3, npf, sp3, h3', hb3⟩ := hw
        rw [List.length_map, List.take_length] at hb3
        refine s_when (b := false) (et_is (et_test (ev_op (ev_cb (ea_cons (ev_var rfl) ea_nil) (rc_lenL (sq_of h3'))) (ev_var rfl) rv_I0)) (decide_eq_false (by rw [List.length_map, hb3.1]; omega))) (fun h => nomatch h) (fun _ H4 e4 => ⟨ts', _, _, _, rfl, e3.trans e4, e4 _ _ h3', hb3.ex e4⟩)
    · obtain ⟨ts', y5, y6, y7, rfl, e2, h2', hb2⟩ := hw
      rw [List.length_map, h2.1, List.take_length] at hb2
      exact s_ret (ev_var rfl) fun H3 e3 => kk fp ts' H3 nfH (e2.trans e3) (e3 _ _ h2') (hb2.ex e3)


section
variable {K : PySem.W.Frag} {σ : L2.St} {H H' : Hp} {te ta tb tl : TE}
/-- [members + (left,) for members, left in begun] -/
theorem lc_out {a : Addr} {ts : List Addr} {bs : List (List Nat × Nat)} {i1 i2 : Nat} {vs : List Nat} (h : Ev tl σ H (.ref a)) (hx : SqL K H a (ts.map V.ref)) (hb : Bgn K H ts bs) (hz : ts.length ≤ 2000) (hbl : ∀ b ∈ bs, b.1.length ≤ 300) (hw : ∀ x y, wipe (((wipe σ vs).set i1 (some x)).set i2 (some y)) vs = wipe σ vs)
    (h1 : ∀ (m : Addr) (z : V) H1, Ex H H1 → Ev ta (((wipe σ vs).set i1 (some (.ref m))).set i2 (some z)) H1 (.ref m)) (h2 : ∀ (m : Addr) (z : V) H1, Ex H H1 → Ev tb (((wipe σ vs).set i1 (some (.ref m))).set i2 (some z)) H1 z) {Q : VK}
    (q : ∀ (p : Addr) (rs : List Addr) H2, H p = none → Ex H H2 → H2 p = some (.lst (rs.map V.ref)) → Tps K H2 rs (outI bs) → Q (.ref p) H2) :
    tLc (iList K tl) (gTup K 2 (gCons (gName i1) (gCons (gName i2) gNil))) tYes (tOp (rCatA K) ta (tTup (tCons tb tNil))) vs σ H Q := h H (Ex.refl H) _ fun H1 e1 => ⟨a, rfl, ⟨ts.map V.ref, ex_l e1 hx⟩, fun Dl hD => by
  refine lc_list (xs := ts.map V.ref) (fun i H' => H1 Dl = none ∧ Ex H1 H' ∧ ∃ rs : List Addr, rs.length = i ∧ H' Dl = some (.lst (rs.map V.ref)) ∧ ∀ (j : Nat) (r : Addr) (x : List Nat × Nat), rs[j]? = some r → bs[j]? = some x → SqT K H' r ((x.1 ++ [x.2]).map N_)) ⟨hD, Ex.new hD, [], rfl, upd_same, fun j r x e => by simp at e⟩ (fun i H' _ p => ex_l (e1.trans p.2.1) hx) (fun i x H' hi p => ?_) (fun H' p => ?_)
  · obtain ⟨p1, p2, rs, p3, p4, p5⟩ := p
    rw [List.getElem?_map] at hi
    obtain ⟨t, ht, rfl⟩ := Option.map_eq_some_iff.mp hi
    have hil : i < ts.length := (List.getElem?_eq_some_iff.mp ht).1
    have hjl : i < bs.length := by rw [← hb.1]; exact hil
    have hxi : bs[i]? = some bs[i] := List.getElem?_eq_getElem hjl
    generalize bs[i] = b at hxi
    obtain ⟨m, g1, g2⟩ := hb.2 i t b ht hxi
    have e0 := e1.trans p2
    refine ⟨t, [.ref m, N_ b.2], rfl, st_of (e0 _ _ g1), rfl, .ref m, [N_ b.2], rfl, N_ b.2, [], rfl, rfl, hw _ _, ?_⟩
    show (if true = true then _ else (H1 Dl = none ∧ Ex H1 H' ∧ ∃ rs : List Addr, rs.length = i + 1 ∧ H' Dl = some (.lst (rs.map V.ref)) ∧ ∀ (j : Nat) (r : Addr) (x : List Nat × Nat), rs[j]? = some r → bs[j]? = some x → SqT K H' r ((x.1 ++ [x.2]).map N_)))
    rw [if_pos rfl]
    refine h1 m (N_ b.2) H' e0 H' (Ex.refl H') _ fun H3 e3 => h2 m (N_ b.2) H3 (e0.trans e3) H3 (Ex.refl H3) _ fun H4 e4 => ⟨by show 1 ≤ sizeLine; decide, fun t1 n1 => catA_go (K := K) (xs := b.1.map N_) (ys := [N_ b.2]) (ex_t (e0.trans (e3.trans (e4.trans (Ex.new n1)))) g2) (st_of upd_same) (by rw [List.length_map]; have := hbl b (List.mem_of_getElem? hxi); show _ + 1 ≤ _; omega) fun r H5 e5 s5 => ?_⟩
    have e35 : Ex H' H5 := ((e3.trans e4).trans (Ex.new n1)).trans e5
    have hD5 := e35 _ _ p4
    have x5 : Exd Dl H5 (upd H5 Dl (.lst (rs.map V.ref ++ [.ref r]))) := Exd.put
    refine ⟨rs.map V.ref, hD5, by rw [List.length_map, p3]; exact Nat.lt_of_lt_of_le (show i < 2001 by omega) (by decide), p1, (p2.trans e35).mut p1, rs ++ [r], by rw [List.length_append, p3]; rfl, by rw [upd_same, List.map_append]; rfl, fun j r' x' e6 e7 => ?_⟩
    by_cases hj : j < rs.length
    · rw [List.getElem?_append_left hj] at e6
      exact sqt_keep hD5 x5 (ex_t e35 (p5 j r' x' e6 e7))
    · rw [List.getElem?_append_right (by omega)] at e6
      have hj2 : j - rs.length = 0 := by
        have := (List.getElem?_eq_some_iff.mp e6).1
        rw [List.length_singleton] at this
        omega
      rw [hj2] at e6
      cases e6
      have hji : j = i := by omega
      rw [hji, hxi] at e7
      cases e7
      exact sqt_keep hD5 x5 (by rw [List.map_append]; exact s5)
  · obtain ⟨p1, p2, rs, p3, p4, p5⟩ := p
    refine q Dl rs H' (fresh_back e1 p1) (e1.trans p2) p4 ⟨?_, fun j r xs e6 e7 => ?_⟩
    · unfold outI
      rw [p3, List.length_map, List.length_map, hb.1]
    · unfold outI at e7
      rw [List.getElem?_map] at e7
      obtain ⟨x, hx9, rfl⟩ := Option.map_eq_some_iff.mp e7
      exact p5 j r x e6 hx9⟩
end
def RetPs (K : PySem.W.Frag) (xss : List (List Nat)) (H : Hp) (Q : VK) : Prop := ∀ (p : Addr) (rs : List Addr) (H' : Hp), H p = none → Ex H H' → H' p = some (.lst (rs.map V.ref)) → Tps K H' rs xss → Q (.ref p) H'
theorem RetPs.go {K : PySem.W.Frag} {xss : List (List Nat)} {H H' : Hp} {Q : VK} (k : RetPs K xss H Q) (e : Ex H H') : RetPs K xss H' Q := fun p rs H2 np e2 h t => k p rs H2 (fresh_back e np) (e.trans e2) h t
def sp_listed_partings (K : PySem.W.Frag) : Sp := fun vs H Q _ => ∃ (q d k : Nat), vs = [N_ q, N_ d, N_ k, N_ 2000] ∧ Fq q ∧ d ≤ 12 ∧ okList q (prE q) (poE q) d [([], k)] = true ∧ RetPs K (outI (listI q (prE q) (poE q) d [([], k)])) H Q
theorem okL_len {q P F : Nat} : ∀ {d : Nat} {bs : List (List Nat × Nat)}, bs.length ≤ 2000 → okList q P F d bs = true → (listI q P F d bs).length ≤ 2000
  | 0, bs, h, _ => h
  | d + 1, bs, h, ho => by
    rw [okList, Bool.and_eq_true] at ho
    have h1 := ho.1
    unfold okNext at h1
    rw [Bool.and_eq_true, decide_eq_true_eq] at h1
    exact okL_len (d := d) (bs := nextI q P F d bs) h1.2 ho.2
theorem next_lens {q P F after n : Nat} {bs : List (List Nat × Nat)} (h : ∀ b ∈ bs, b.1.length = n) : ∀ b ∈ nextI q P F after bs, b.1.length = n + 1 := fun y hy => by
  unfold nextI at hy
  obtain ⟨l, hl, hy⟩ := List.mem_flatten.mp hy
  obtain ⟨x, hx, rfl⟩ := List.mem_map.mp hl
  obtain ⟨m, _, rfl⟩ := List.mem_map.mp hy
  show (x.1 ++ [m]).length = n + 1
  rw [List.length_append, h x hx]
  rfl

theorem ok_listed_partings {P : Program} {w : World} {K : PySem.W.Frag} {mg : Str → Option Value} {base : Heap} (T : Txt K mg) : FnOk P w K mg base CX0 7 T.a_listed_partings T.d_listed_partings ["q", "d", "k", "most"] (sp_listed_partings K) := by
  refine T.F_listed_partings.ok sc_listed_partings (fun vs H Q E h => ?_) (fun cdv A outer s H vs Q E hr h => ?_)
  · obtain ⟨q, d, k, rfl, _⟩ := h
    rfl
  · obtain ⟨q, d, k, rfl, hq, hd, hok, kk⟩ := h
    refine ⟨_, (pss_cons (ps_set (i := 4) sc_listed_partings.nd rfl (Or.inl rfl) (pe_lst (pa_cons (pe_tup (pa_cons (pe_tup pa_nil) (pa_cons (pv 2) pa_nil))) pa_nil)))
      (pss_cons (ps_for PassesOwn.never rfl (pi_range3 rfl T.z_range (pa_cons (pe_op op_sub (pv 1) pe_int) (pa_cons (pe_un un_neg pe_int) (pa_cons (pe_un un_neg pe_int) pa_nil)))) (pg_name (i := 5) sc_listed_partings.nd rfl (Or.inl rfl)) (pss_one (ps_set (i := 4) sc_listed_partings.nd rfl (Or.inl rfl) (pe_call (ok_with_next_members T) (hr.mono (by decide)) (by rfl) T.g_with_next_members T.F_with_next_members.kp T.b_with_next_members .nil pass0 (pa_cons (pv 0) (pa_cons (pv 4) (pa_cons (pv 5) (pa_cons (pv 3) pa_nil))))))))
      (pss_one (ps_ret (pe_lc (own := [("members", 6), ("left", 7)]) (g := (gTup K 2 (gCons (gName 6) (gCons (gName 7) gNil)))) rfl sc_listed_partings.nd (pi_list (pv 4)) (blkOk_by (N := ["q", "d", "k", "most", "begun", "after", "members", "left"]) (sc := defScope s_listed_partings) (by decide +kernel)) (fun _ _ _ _ _ => (pg_tup (by rfl) (pgs_cons (pg_name (i := 6) sc_listed_partings.nd rfl (Or.inl rfl)) (pgs_cons (pg_name (i := 7) sc_listed_partings.nd rfl (Or.inl rfl)) pgs_nil)))) (fun _ _ _ _ _ => pts_nil) (fun _ _ _ _ _ => (pe_op (op_catAK (K := K) (by rfl)) (pv 6) (pe_tup (pa_cons (pv 7) pa_nil))))))))), ?_⟩
    refine q_asgR9 (fun x H' => ∃ (l t m : Addr), x = .ref l ∧ Ex H H' ∧ H' l = some (.lst ([t].map V.ref)) ∧ Bgn K H' [t] [([], k)]) (fun Q' q' => ?_) (fun x H1 m1 => ?_)
    · refine ⟨by show 0 ≤ sizeLine; decide, fun m nm => ⟨N_ k, rfl, by show 2 ≤ sizeLine; decide, fun t nt => ⟨by show 1 ≤ sizeLine; decide, fun l nl => q' _ _ ⟨l, t, m, rfl, ((Ex.new nm).trans (Ex.new nt)).trans (Ex.new nl), upd_same, ?_⟩⟩⟩⟩
      have htl : t ≠ l := fun z => by rw [← z, upd_same] at nl; cases nl
      have hmt : m ≠ t := fun z => by rw [← z, upd_same] at nt; cases nt
      have hml : m ≠ l := fun z => by rw [← z, upd_ne hmt, upd_same] at nl; cases nl
      refine Bgn.snoc (m := m) (x := ([], k)) (Bgn.nil _ _) ?_ (st_of ?_)
      · rw [upd_ne htl, upd_same]
      · rw [upd_ne hml, upd_ne hmt, upd_same]
        rfl
    obtain ⟨l0, t0, m0, rfl, e1, g1, b1⟩ := m1
    refine q_forRd (lo := ((d : Nat) : Int) - 1) (n := -1) (ea_cons (ev_op (ev_var rfl) ev_c rv_I0) (ea_cons (ev_un ev_c ru_neg) (ea_cons (ev_un ev_c ru_neg) ea_nil))) ⟨by omega, by omega, by omega, by omega⟩
      (fun i σ H' => ∃ (l : Addr) (ts : List Addr) (bs : List (List Nat × Nat)) (y5 : Option V), σ = [some (N_ q), some (N_ d), some (N_ k), some (N_ 2000), some (.ref l), y5, none, none] ∧ Ex H H' ∧ SqL K H' l (ts.map V.ref) ∧ Bgn K H' ts bs ∧ bs.length ≤ 2000 ∧ (∀ b ∈ bs, b.1.length = i) ∧ listI q (prE q) (poE q) (d - i) bs = listI q (prE q) (poE q) d [([], k)] ∧ okList q (prE q) (poE q) (d - i) bs = true)
      (fun H2 e2 => ⟨l0, [t0], _, none, rfl, e1.trans e2, sq_of (e2 _ _ g1), b1.ex e2, by show 1 ≤ 2000; decide, fun b hb => by rw [List.mem_singleton.mp hb]; rfl, rfl, hok⟩) (fun i σ H2 hi hw => ?_) (fun σ H2 hw => ?_)
    · obtain ⟨l, ts, bs, y5, rfl, e2, sl, hb, hbl, hlen, hval, hokl⟩ := hw
      have hid : i < d := by omega
      obtain ⟨a, ha⟩ : ∃ a, d - i = a + 1 := ⟨d - i - 1, by omega⟩
      rw [show (((d : Nat) : Int) - 1 - (i : Int)) = ((a : Nat) : Int) by omega, show d - (i + 1) = a by omega]
      rw [ha] at hval hokl
      rw [listI] at hval
      rw [okList, Bool.and_eq_true] at hokl
      obtain ⟨ho1, ho2⟩ := hokl
      have hnl : (nextI q (prE q) (poE q) a bs).length ≤ 2000 := by
        have h1 := ho1
        unfold okNext at h1
        rw [Bool.and_eq_true, decide_eq_true_eq] at h1
        exact h1.2
      exact s_asgC (ea_cons (ev_var rfl) (ea_cons (ev_var rfl) (ea_cons (ev_var rfl) (ea_cons (ev_var rfl) ea_nil)))) fun H3 e3 => ⟨q, a, l, ts, bs, rfl, hq, ex_l e3 sl, hb.ex e3, by omega, fun b hb' => by have := hlen b hb'; omega, ho1, fun p ts' H4 np e4 h4 hb4 => ⟨p, ts', _, _, rfl, (e2.trans e3).trans e4, sq_of h4, hb4, hnl, next_lens hlen, hval, ho2⟩⟩
    · obtain ⟨l, ts, bs, y5, rfl, e2, sl, hb, hbl, hlen, hval, hokl⟩ := hw
      rw [show d - (((d : Nat) : Int) - 1 - (-1)).toNat = 0 by omega, listI] at hval
      rw [← hval] at kk
      exact lc_out (K := K) (ev_var rfl) sl hb (by rw [hb.1]; exact hbl) (fun b hb' => by have := hlen b hb'; omega) (fun _ _ => rfl) (fun m z H3 e3 => ev_var rfl) (fun m z H3 e3 => ev_var rfl) fun p rs H3 np e3 h3 t3 => kk p rs H3 (fresh_back e2 np) (e2.trans e3) h3 t3


theorem bnd_iff {q d k : Nat} (hq : Fq q) (hk : k < 1024) : bndI q (prE q) (poE q) d k = decide (d ≤ mpN q k) := by
  have ht := t0_of hq
  have hp2 := ht.p2
  have hf1 := ht.f1
  have t := top_ok (p := prE q) (f := poE q) (by omega) hf1 k
  have hrow : dgf2 10 (prE q) k = dg (prE q) k := dgf2_eq (by omega) 10 k hk
  have hss : ∀ j, ((List.range (poE q)).map fun t => (strd (poE q) t (dg (prE q) k)).sum * wt (prE q) (poE q) j t).sum = ds q (prE q ^ j * k) := fun j => by
    rw [spare_eq hf1]
    have := t.ss j
    rw [ht.pw] at this
    exact this
  unfold bndI spI
  rw [hrow]
  by_cases h : d ≤ mpN q k
  · rw [decide_eq_true h, List.all_eq_true]
    intro z hz
    obtain ⟨j, hj, rfl⟩ := List.mem_map.mp hz
    have := (mp_iff hq).mp h j (List.mem_range.mp hj)
    rw [hss, ← Int.natCast_mul]
    exact decide_eq_true (by omega)
  · rw [decide_eq_false h]
    cases e : ((List.range (poE q)).map fun j => ((((List.range (poE q)).map fun t => (strd (poE q) t (dg (prE q) k)).sum * wt (prE q) (poE q) j t).sum : Nat) : Int) - ((q - 1 : Nat) : Int) * (d : Int)).all fun z => decide (0 ≤ z) with
    | false => rfl
    | true =>
      refine absurd ((mp_iff hq).mpr fun j hj => ?_) h
      have := of_decide_eq_true (List.all_eq_true.mp e _ (List.mem_map.mpr ⟨j, List.mem_range.mpr hj, rfl⟩))
      rw [hss, ← Int.natCast_mul] at this
      omega
def sp_found_partings (K : PySem.W.Frag) : Sp := fun vs H Q _ => ∃ (q d k : Nat), vs = [N_ q, N_ d, N_ k] ∧ Fq q ∧ d ≤ 12 ∧ k < 1024 ∧ (bndI q (prE q) (poE q) d k = true → okList q (prE q) (poE q) d [([], k)] = true) ∧ RetPs K (allI q (prE q) (poE q) d k) H Q

theorem ok_found_partings {P : Program} {w : World} {K : PySem.W.Frag} {mg : Str → Option Value} {base : Heap} (T : Txt K mg) : FnOk P w K mg base CX0 8 T.a_found_partings T.d_found_partings ["q", "d", "k"] (sp_found_partings K) := by
  refine T.F_found_partings.ok sc_found_partings (fun vs H Q E h => ?_) (fun cdv A outer s H vs Q E hr h => ?_)
  · obtain ⟨q, d, k, rfl, _⟩ := h
    rfl
  · obtain ⟨q, d, k, rfl, hq, hd, hk, hok, kk⟩ := h
    refine ⟨_, (pss_cons (ps_if (pt_cmpR op_gt (pv 1) (pe_call (ok_parts_bound T) (hr.mono (by decide)) (by rfl) T.g_parts_bound T.F_parts_bound.kp T.b_parts_bound .nil pass0 (pa_cons (pv 0) (pa_cons (pv 2) pa_nil))) (nomark _)) (pss_one (ps_ret (pe_lst pa_nil))) pss_nil)
      (pss_cons (ps_if (pt_cmpR op_gt (pv 1) (pe_glob (v := .int 12) (by rfl) T.c_MOST_AHEAD ⟨_, rfl⟩) (nomark _)) (pss_one ps_never) pss_nil)
      (pss_one (ps_ret (pe_call (ok_listed_partings T) (hr.mono (by decide)) (by rfl) T.g_listed_partings T.F_listed_partings.kp T.b_listed_partings .nil pass0 (pa_cons (pv 0) (pa_cons (pv 1) (pa_cons (pv 2) (pa_cons (pe_glob (v := .int 2000) (by rfl) T.c_MAX_LISTED ⟨_, rfl⟩) pa_nil))))))))), ?_⟩
    have hk60 : k < 10 ^ 60 := Nat.lt_of_lt_of_le hk (by decide)
    have hbi := bnd_iff (d := d) hq hk
    unfold allI at kk
    refine q_when (et_test (ev_op (ev_var rfl) (ev_call (ea_cons (ev_var rfl) (ea_cons (ev_var rfl) ea_nil)) (sv_parts_bound hq hk60)) rv_I0)) (fun hb H1 e1 => ?_) (fun hb H1 e1 => ?_)
    · have hlt : ¬ d ≤ mpN q k := by have := of_decide_eq_true hb; omega
      rw [hbi, decide_eq_false hlt] at kk
      exact s_retL (el_lst ea_nil (by decide)) fun p H2 np e2 h2 => kk p [] H2 (fresh_back e1 np) (e1.trans e2) h2 ⟨rfl, fun i r xs e => by simp at e⟩
    · have hle : d ≤ mpN q k := by have := of_decide_eq_false hb; omega
      rw [hbi, decide_eq_true hle] at kk
      refine q_when (b := false) (et_is (et_test (ev_op (ev_var rfl) ev_c rv_I0)) (decide_eq_false (by omega))) (fun h => nomatch h) (fun _ H2 e2 => ?_)
      exact ⟨N_ q, rfl, N_ d, rfl, N_ k, rfl, q, d, k, rfl, hq, hd, hok (by rw [hbi]; exact decide_eq_true hle), kk.go (e1.trans e2)⟩


def RetPt (K : PySem.W.Frag) (xss : List (List Nat)) (H : Hp) (Q : VK) : Prop := ∀ (p : Addr) (rs : List Addr) (H' : Hp), H p = none → Ex H H' → H' p = some (.tup (rs.map V.ref)) → Tps K H' rs xss → Q (.ref p) H'
def sp_all_partings (K : PySem.W.Frag) : Sp := fun vs H Q _ => ∃ (q d k : Nat), vs = [N_ q, N_ d, N_ k] ∧ Fq q ∧ d ≤ 12 ∧ k < 1024 ∧ (bndI q (prE q) (poE q) d k = true → okList q (prE q) (poE q) d [([], k)] = true) ∧ RetPt K (allI q (prE q) (poE q) d k) H Q

theorem ok_all_partings {P : Program} {w : World} {K : PySem.W.Frag} {mg : Str → Option Value} {base : Heap} (T : Txt K mg) : FnOk P w K mg base CX0 9 T.a_all_partings T.d_all_partings ["q", "d", "k"] (sp_all_partings K) := by
  refine T.F_all_partings.ok sc_all_partings (fun vs H Q E h => ?_) (fun cdv A outer s H vs Q E hr h => ?_)
  · obtain ⟨q, d, k, rfl, _⟩ := h
    rfl
  · obtain ⟨q, d, k, rfl, hq, hd, hk, hok, kk⟩ := h
    refine ⟨_, (pss_cons (ps_expr (pe_call (ok_check_sum T) (hr.mono (by decide)) (by rfl) T.g_check_sum T.F_check_sum.kp T.b_check_sum .nil pass0 (pa_cons (pv 0) (pa_cons (pv 1) (pa_cons (pv 2) pa_nil)))))
      (pss_one (ps_ret (pe_callTy call_tuple_of (by rfl) T.z_tuple (by decide +kernel) (pa_cons (pe_call (ok_found_partings T) (hr.mono (by decide)) (by rfl) T.g_found_partings T.F_found_partings.kp T.b_found_partings .nil pass0 (pa_cons (pv 0) (pa_cons (pv 1) (pa_cons (pv 2) pa_nil)))) pa_nil))))), ?_⟩
    have hk60 : k < 10 ^ 60 := Nat.lt_of_lt_of_le hk (by decide)
    refine q_drop (ev_call (ea_cons (ev_var rfl) (ea_cons (ev_var rfl) (ea_cons (ev_var rfl) ea_nil))) (sv_check_sum hq (by omega) hk60)) fun H1 e1 => ?_
    refine ⟨N_ q, rfl, N_ d, rfl, N_ k, rfl, q, d, k, rfl, hq, hd, hk, hok, fun p rs H2 np e2 h2 t2 => ⟨p, rs.map V.ref, rfl, .inl ⟨sq_of h2, fun l nl => kk l rs _ (fresh_back (e1.trans e2) nl) ((e1.trans e2).trans (Ex.new nl)) upd_same (t2.ex (Ex.new nl))⟩⟩⟩


end Own
/-! the numbers of choices by digits: what parts, what is never a multiple of p, Pascal's rows -/
namespace Own
open PySem PySem.Spec PyProof.Rows L2 Evl
theorem cf_snoc {p : Nat} (hp : 1 < p) (pre : List Nat) (x : Nat) : CF p (pre ++ [x]) ↔ CF p pre ∧ wiB p x (pre.sum + x) = true := by
  have h1 := ds_sum_le hp pre
  have h2 := ds_add_le hp pre.sum x
  have h3 := wi_iff hp x (pre.sum + x)
  unfold inW at h3
  rw [Nat.add_sub_cancel] at h3
  rw [h3]
  unfold CF
  rw [List.map_append, List.sum_append, List.sum_append, List.map_cons, List.map_nil, List.sum_cons, List.sum_nil, List.sum_cons, List.sum_nil, Nat.add_zero, Nat.add_zero]
  constructor
  · intro h
    omega
  · intro h
    omega
theorem chk_nz : P4.all (fun p => (List.range p).all fun a => (List.range (a + 1)).all fun b => decide (chooseN a b % p ≠ 0) && decide (chooseN a (a - b) = chooseN a b)) = true := by decide +kernel
theorem chk_mz : P4.all (fun p => (List.range p).all fun x => (List.range p).all fun y => x == 0 || y == 0 || decide (x * y % p ≠ 0)) = true := by decide +kernel
theorem chk_self : (List.range 7).all (fun a => decide (chooseN a a = 1)) = true := by decide +kernel
theorem ch_nz {p a b : Nat} (hp : p ∈ P4) (ha : a < p) (hb : b ≤ a) : chooseN a b % p ≠ 0 ∧ chooseN a (a - b) = chooseN a b := by
  have h := List.all_eq_true.mp (List.all_eq_true.mp (List.all_eq_true.mp chk_nz p hp) a (List.mem_range.mpr ha)) b (List.mem_range.mpr (by omega))
  rw [Bool.and_eq_true, decide_eq_true_eq, decide_eq_true_eq] at h
  exact h
theorem mul_nz {p x y : Nat} (hp : p ∈ P4) (hx : x % p ≠ 0) (hy : y % p ≠ 0) : x * y % p ≠ 0 := by
  have h1 := (p4_2 hp).1
  have h := List.all_eq_true.mp (List.all_eq_true.mp (List.all_eq_true.mp chk_mz p hp) (x % p) (List.mem_range.mpr (Nat.mod_lt _ (by omega)))) (y % p) (List.mem_range.mpr (Nat.mod_lt _ (by omega)))
  rw [Bool.or_eq_true, Bool.or_eq_true, beq_iff_eq, beq_iff_eq, decide_eq_true_eq] at h
  rw [Nat.mul_mod]
  rcases h with (h | h) | h
  · exact absurd h hx
  · exact absurd h hy
  · exact h
theorem one_nz {p : Nat} (hp : p ∈ P4) : 1 % p ≠ 0 := by
  have := (p4_2 hp).1
  rw [Nat.mod_eq_of_lt this]
  decide
theorem lu_nz {p : Nat} (hp : p ∈ P4) : ∀ (m k n : Nat), k ≤ m → wiB p k n = true → luN p n k % p ≠ 0
  | 0, k, n, hm, _ => by
    rw [show k = 0 by omega, lu_zero]
    exact one_nz hp
  | m + 1, k, n, hm, h => by
    have h1 := (p4_2 hp).1
    by_cases h0 : k = 0
    · rw [h0, lu_zero]
      exact one_nz hp
    · rw [wi_eq h1, Bool.and_eq_true, decide_eq_true_eq] at h
      rw [lu_eq h1]
      exact mul_nz hp (ch_nz hp (Nat.mod_lt _ (by omega)) h.1).1 (lu_nz hp m (k / p) (n / p) (by have := Nat.div_lt_self (show 0 < k by omega) h1; omega) h.2)
theorem fn_nz {p : Nat} (hp : p ∈ P4) : ∀ (n : Nat) (xs : List Nat), xs.length = n → CF p xs → FN p 0 xs % p ≠ 0
  | 0, xs, hl, _ => by
    rw [List.length_eq_zero_iff.mp hl]
    exact one_nz hp
  | n + 1, xs, hl, h => by
    have h1 := (p4_2 hp).1
    rcases List.eq_nil_or_concat xs with rfl | ⟨ys, x, rfl⟩
    · cases hl
    · have hl2 : ys.length = n := by
        rw [List.concat_eq_append, List.length_append] at hl
        exact Nat.succ.inj hl
      rw [List.concat_eq_append] at h ⊢
      obtain ⟨c1, c2⟩ := (cf_snoc h1 ys x).mp h
      rw [fn_snoc, Nat.zero_add]
      exact mul_nz hp (fn_nz hp n ys hl2 c1) (lu_nz hp x x _ (Nat.le_refl _) c2)
theorem chV_zero {p : Nat} (hp : p ∈ P4) (xs : List Nat) : chV p xs = 0 ↔ ¬ CF p xs := by
  by_cases h : CF p xs
  · rw [chV_yes h]
    exact ⟨fun z => absurd z (fn_nz hp _ xs rfl h), fun z => absurd h z⟩
  · exact ⟨fun _ => h, fun _ => chV_no h⟩
theorem chR_yes {p n k : Nat} (h : wiB p k n = true) : chR p n k = luN p n k % p := by
  unfold chR
  rw [if_pos h]
theorem chR_no {p n k : Nat} (h : wiB p k n = false) : chR p n k = 0 := by
  unfold chR
  rw [if_neg (by rw [h]; decide)]
theorem chR_zero {p : Nat} (hp : p ∈ P4) (n k : Nat) : decide (chR p n k = 0) = !wiB p k n := by
  cases h : wiB p k n with
  | true =>
    rw [chR_yes h]
    exact decide_eq_false (lu_nz hp k k n (Nat.le_refl _) h)
  | false =>
    rw [chR_no h]
    rfl
theorem chV_snoc {p : Nat} (hp : 1 < p) (pre : List Nat) (x : Nat) : chV p (pre ++ [x]) = chV p pre * chR p (pre.sum + x) x % p := by
  by_cases h : CF p (pre ++ [x])
  · obtain ⟨c1, c2⟩ := (cf_snoc hp pre x).mp h
    rw [chV_yes h, chV_yes c1, chR_yes c2, fn_snoc, Nat.zero_add, ← Nat.mul_mod]
  · rw [chV_no h]
    by_cases c1 : CF p pre
    · cases c2 : wiB p x (pre.sum + x) with
      | true => exact absurd ((cf_snoc hp pre x).mpr ⟨c1, c2⟩) h
      | false => rw [chR_no c2, Nat.mul_zero, Nat.zero_mod]
    · rw [chV_no c1, Nat.zero_mul, Nat.zero_mod]
theorem choose_self {p a : Nat} (hp : p ∈ P4) (ha : a < p) : chooseN a a = 1 := of_decide_eq_true (List.all_eq_true.mp chk_self a (List.mem_range.mpr (Nat.lt_of_lt_of_le ha (p4_2 hp).2)))
theorem lu_self {p : Nat} (hp : p ∈ P4) : ∀ (m i : Nat), i ≤ m → luN p i i = 1
  | 0, i, hm => by rw [show i = 0 by omega, lu_zero]
  | m + 1, i, hm => by
    have h1 := (p4_2 hp).1
    by_cases h0 : i = 0
    · rw [h0, lu_zero]
    · rw [lu_eq h1, choose_self hp (Nat.mod_lt _ (by omega)), lu_self hp m (i / p) (by have := Nat.div_lt_self (show 0 < i by omega) h1; omega)]
theorem dig_sub {p n i : Nat} (hp : 1 < p) (h : i % p ≤ n % p) (h2 : i / p ≤ n / p) : (n - i) % p = n % p - i % p ∧ (n - i) / p = n / p - i / p := by
  have e1 := Nat.mod_add_div n p
  have e2 := Nat.mod_add_div i p
  have e3 := Nat.mul_le_mul_left p h2
  have e : n - i = (n % p - i % p) + p * (n / p - i / p) := by
    rw [Nat.mul_sub]
    omega
  have hl : n % p - i % p < p := Nat.lt_of_le_of_lt (Nat.sub_le _ _) (Nat.mod_lt _ (by omega))
  rw [e, Nat.add_mul_mod_self_left, Nat.mod_eq_of_lt hl, Nat.add_mul_div_left _ _ (by omega), Nat.div_eq_of_lt hl, Nat.zero_add]
  exact ⟨rfl, rfl⟩
theorem lu_symm {p : Nat} (hp : p ∈ P4) : ∀ (m n i : Nat), n ≤ m → wiB p i n = true → luN p n (n - i) = luN p n i
  | 0, n, i, hm, h => by
    have := ((wi_iff (p4_2 hp).1 i n).mp h).1
    rw [show n = 0 by omega, show i = 0 by omega]
  | m + 1, n, i, hm, h => by
    have h1 := (p4_2 hp).1
    have hle := ((wi_iff h1 i n).mp h).1
    by_cases h0 : n = 0
    · rw [show i = 0 by omega, h0]
    · rw [wi_eq h1, Bool.and_eq_true, decide_eq_true_eq] at h
      obtain ⟨s1, s2⟩ := dig_sub h1 h.1 (Nat.div_le_div_right hle)
      rw [lu_eq h1 n (n - i), lu_eq h1 n i, s1, s2, (ch_nz hp (Nat.mod_lt n (by omega)) h.1).2, lu_symm hp m (n / p) (i / p) (by have := Nat.div_lt_self (show 0 < n by omega) h1; omega) h.2]
theorem cf_two9 {p n i : Nat} (hp : 1 < p) (h : wiB p i n = true) : CF p [i, n - i] := by
  obtain ⟨h1, h2⟩ := (wi_iff hp i n).mp h
  unfold CF
  simp only [List.map_cons, List.map_nil, List.sum_cons, List.sum_nil, Nat.add_zero]
  rw [Nat.add_sub_cancel' h1]
  exact h2
theorem chR_two {p n i : Nat} (hp : p ∈ P4) (h : wiB p i n = true) : chV p [i, n - i] = chR p n i := by
  have h1 := ((wi_iff (p4_2 hp).1 i n).mp h).1
  rw [chV_yes (cf_two9 (p4_2 hp).1 h), chR_yes h]
  show (luN p (0 + i) i * (luN p (0 + i + (n - i)) (n - i) * 1)) % p = _
  rw [Nat.zero_add, lu_self hp i i (Nat.le_refl _), Nat.one_mul, Nat.mul_one, Nat.add_sub_cancel' h1, lu_symm hp n n i (Nat.le_refl _) h]
theorem cf_three9 {p n i j : Nat} (hp : 1 < p) (h : wiB p i n = true) (g : wiB p j i = true) : CF p [j, i - j, n - i] := by
  obtain ⟨h1, h2⟩ := (wi_iff hp i n).mp h
  obtain ⟨g1, g2⟩ := (wi_iff hp j i).mp g
  unfold CF
  simp only [List.map_cons, List.map_nil, List.sum_cons, List.sum_nil, Nat.add_zero]
  rw [show j + (i - j + (n - i)) = n by omega]
  omega
theorem chR_three {p n i j : Nat} (hp : p ∈ P4) (h : wiB p i n = true) (g : wiB p j i = true) : chV p [j, i - j, n - i] = chR p n i * chR p i j % p := by
  have h1 := ((wi_iff (p4_2 hp).1 i n).mp h).1
  have g1 := ((wi_iff (p4_2 hp).1 j i).mp g).1
  rw [chV_yes (cf_three9 (p4_2 hp).1 h g), chR_yes h, chR_yes g]
  show (luN p (0 + j) j * (luN p (0 + j + (i - j)) (i - j) * (luN p (0 + j + (i - j) + (n - i)) (n - i) * 1))) % p = _
  rw [Nat.zero_add, lu_self hp j j (Nat.le_refl _), Nat.one_mul, Nat.mul_one, show j + (i - j) = i by omega, show i + (n - i) = n by omega, lu_symm hp n n i (Nat.le_refl _) h, lu_symm hp i i j (Nat.le_refl _) g, ← Nat.mul_mod, Nat.mul_comm]
def crS (p : Nat) (r : List Nat) : List Nat := 1 :: (List.zipWith (fun a b => (a + b) % p) r r.tail ++ [1])
def crN (p : Nat) : Nat → List Nat
  | 0 => [1]
  | n + 1 => crS p (crN p n)
def luf : Nat → Nat → Nat → Nat → Nat
  | 0, _, _, _ => 1
  | f + 1, p, n, k => if k = 0 then 1 else chooseN (n % p) (k % p) * luf f p (n / p) (k / p)
theorem luf_eq {p : Nat} (hp : 1 < p) : ∀ (f n k : Nat), k ≤ f → luf f p n k = luN p n k
  | 0, n, k, h => by
    rw [show k = 0 by omega, lu_zero]
    rfl
  | f + 1, n, k, h => by
    rw [luf]
    by_cases h0 : k = 0
    · rw [if_pos h0, h0, lu_zero]
    · rw [if_neg h0, lu_eq hp, luf_eq hp f _ _ (by have := Nat.div_lt_self (show 0 < k by omega) hp; omega)]
theorem half_sum {p : Nat} (hp : 1 < p) : ∀ xs : List Nat, (xs.map (· / p)).sum * 2 ≤ xs.sum
  | [] => Nat.le_refl 0
  | x :: r => by
    rw [List.map_cons, List.sum_cons, List.sum_cons]
    have h1 := half_sum hp r
    have h2 : x / p ≤ x / 2 := Nat.div_le_div_left hp (by decide)
    omega
end Own
namespace Own
open PySem PySem.Spec PyProof.Rows L2 Evl
theorem p4_bs {p : Nat} (hp : p ∈ P4) : Bs p := ⟨(p4_2 hp).1, by have := (p4_2 hp).2; omega⟩
theorem chk_p4 : chkAll (fun q => P4.contains (prE q)) = true := by decide +kernel
theorem pr_p4 {q : Nat} (hq : Fq q) : prE q ∈ P4 := by
  have := chk_get chk_p4 hq
  exact List.contains_iff_mem.mp this


section
variable {K : PySem.W.Frag} {σ : L2.St} {H H' : Hp} {ta tb tc te tl tn : TE} {t : TT} {D : Ends} {tu tz : TS} {P : Nat → Addr → Hp → Prop} {g : TG}
/-- a new list of new rows -/
def EvPs (K : PySem.W.Frag) (te : TE) (σ : L2.St) (H : Hp) (xss : List (List Nat)) : Prop := ∀ H1, Ex H H1 → ∀ Q : VK, RetPs K xss H1 Q → te σ H1 Q
theorem s_forPs {xss : List (List Nat)} {j : Nat} (h : EvPs K tl σ H xss) (Pv : Addr → List Addr → Nat → L2.St → Hp → Prop) (h0 : ∀ p rs H1, H p = none → Ex H H1 → H1 p = some (.lst (rs.map V.ref)) → Tps K H1 rs xss → Pv p rs 0 σ H1) (hl : ∀ p rs i σ' H', i ≤ xss.length → Pv p rs i σ' H' → SqL K H' p (rs.map V.ref) ∧ Tps K H' rs xss)
    (hs : ∀ p rs i r xs σ' H', xss[i]? = some xs → SqT K H' r (xs.map N_) → Pv p rs i σ' H' → tu { D with nx := Pv p rs (i + 1), ct := Pv p rs (i + 1), bk := D.nx } (σ'.set j (some (.ref r))) H') (hd : ∀ p rs σ' H', Pv p rs xss.length σ' H' → D.nx σ' H') : tFor (iList K tl) (gName j) tu D σ H :=
  h H (Ex.refl H) _ fun p rs H1 hp e h1 t1 => ⟨p, rfl, ⟨rs.map V.ref, sq_of h1⟩, for_list (xs := rs.map V.ref) (Pv p rs) (h0 p rs H1 hp e h1 t1) (fun i σ' H' hi w => (hl p rs i σ' H' (by rw [List.length_map, t1.1] at hi; exact hi) w).1) (fun i x σ' H' hx w => by
    rw [List.getElem?_map] at hx
    obtain ⟨r, hr, rfl⟩ := Option.map_eq_some_iff.mp hx
    have hil : i < xss.length := by rw [← t1.1]; exact (List.getElem?_eq_some_iff.mp hr).1
    have hxi : xss[i]? = some xss[i] := List.getElem?_eq_getElem hil
    exact hs p rs i r _ σ' H' hxi ((hl p rs i σ' H' (Nat.le_of_lt hil) w).2.2 i r _ hr hxi) w) (fun σ' H' w => by
    rw [List.length_map, t1.1] at w
    exact hd p rs σ' H' w)⟩
theorem q_forPs {xss : List (List Nat)} {j : Nat} (h : EvPs K tl σ H xss) (Pv : Addr → List Addr → Nat → L2.St → Hp → Prop) (h0 : ∀ p rs H1, H p = none → Ex H H1 → H1 p = some (.lst (rs.map V.ref)) → Tps K H1 rs xss → Pv p rs 0 σ H1) (hl : ∀ p rs i σ' H', i ≤ xss.length → Pv p rs i σ' H' → SqL K H' p (rs.map V.ref) ∧ Tps K H' rs xss)
    (hs : ∀ p rs i r xs σ' H', xss[i]? = some xs → SqT K H' r (xs.map N_) → Pv p rs i σ' H' → tu { D with nx := Pv p rs (i + 1), ct := Pv p rs (i + 1), bk := tz D } (σ'.set j (some (.ref r))) H') (hd : ∀ p rs σ' H', Pv p rs xss.length σ' H' → tz D σ' H') : tSeq (tFor (iList K tl) (gName j) tu) tz D σ H :=
  s_forPs (D := { D with nx := tz D }) h Pv h0 hl hs hd
theorem ep_call {sp : Sp} {vs : List V} {xss : List (List Nat)} {E : XK} {ta : TA} (h : EvA ta σ H vs) (hs : ∀ H1, Ex H H1 → ∀ Q : VK, RetPs K xss H1 Q → ∀ E, sp vs H1 Q E) : EvPs K (tCall sp [] E ta) σ H xss := fun H1 e Q q =>
  h H1 e _ fun H2 e2 => by
    rw [List.append_nil]
    exact hs H2 (e.trans e2) Q (q.go e2) _
end
end Own
/-! the package's numbers of choices, exponents of partings -/
namespace Own
open PySem PySem.Spec PyProof.Rows L2 Evl

section
variable {K : PySem.W.Frag} {σ : L2.St} {H H' : Hp} {ta tb te : TE} {x v : V} {D : Ends} {tu tz : TS} {g : TG}
/-- for i, x in enumerate(list variable) -/
theorem s_forEV {a : Addr} {xs : List V} {ta : TE} {i1 i2 : Nat} (h : Ev ta σ H (.ref a)) (hx : SqL K H a xs) (Pv : Nat → L2.St → Hp → Prop) (h0 : ∀ H1, Ex H H1 → Pv 0 σ H1) (hl : ∀ i σ' H', i ≤ xs.length → Pv i σ' H' → SqL K H' a xs)
    (hs : ∀ i x σ' H' H2, xs[i]? = some x → Pv i σ' H' → Ex H' H2 → tu { D with nx := Pv (i + 1), ct := Pv (i + 1), bk := D.nx } ((σ'.set i1 (some (.int (i : Nat)))).set i2 (some x)) H2) (hd : ∀ σ' H', Pv xs.length σ' H' → D.nx σ' H') :
    tFor (iEnum K (tCons ta tNil)) (gTup K 2 (gCons (gName i1) (gCons (gName i2) gNil))) tu D σ H :=
  h H (Ex.refl H) _ fun H1 e => ⟨a, xs, rfl, ex_l e hx, for_enum (xs := xs) Pv (h0 H1 e) hl (fun i x T σ' H' hx hp nT => ⟨T, [.int (i : Nat), x], rfl, st_of upd_same, rfl, .int (i : Nat), [x], rfl, x, [], rfl, rfl, hs i x σ' H' _ hx hp (Ex.new nT)⟩) hd⟩
/-- [..] * k, whatever k -/
theorem el_repZ {xs : List V} {k : Int} (h : EvL ta σ H xs) (h2 : ∀ H1, Ex H H1 → Ev tb σ H1 (.int k)) (hk0 : -100000 ≤ k) (hk : xs.length * k.toNat ≤ 100000) (hk2 : k ≤ 100000) : EvL (tOp rRep ta tb) σ H (List.replicate k.toNat xs).flatten := fun H1 e Q q =>
  h H1 e _ fun p H2 hp e2 hx => h2 H2 (e.trans e2) H2 (Ex.refl H2) _ fun H3 e3 => ⟨p, k, xs, rfl, rfl, e3 _ _ hx, by omega, by omega, sz_of hk, fun l hl => q l _ (fresh_back (e2.trans e3) hl) ((e2.trans e3).trans (Ex.new hl)) upd_same⟩
theorem el_catV9 {l : Addr} {xs ys : List V} (h : Ev ta σ H (.ref l)) (hl : H l = some (.lst xs)) (h2 : ∀ H1, Ex H H1 → EvL tb σ H1 ys) (hz : xs.length + ys.length ≤ 100000) : EvL (tOp rCat ta tb) σ H (xs ++ ys) := fun H1 e Q q =>
  h H1 e _ fun H2 e2 => h2 H2 (e.trans e2) H2 (Ex.refl H2) _ fun p H3 hp e3 hy => ⟨l, p, xs, ys, rfl, rfl, e3 _ _ ((e.trans e2) _ _ hl), hy, sz_of hz, fun z hz => q z _ (fresh_back (e2.trans e3) hz) ((e2.trans e3).trans (Ex.new hz)) upd_same⟩
theorem getD_some9 {xs : List Nat} {i : Nat} (h : i < xs.length) : xs[i]? = some (xs.getD i 0) := by
  rw [List.getD_eq_getElem?_getD, List.getElem?_eq_getElem h]
  rfl
theorem get_N9 {xs : List Nat} {i : Nat} (h : i < xs.length) : (xs.map N_)[i]? = some (N_ (xs.getD i 0)) := by
  rw [List.getElem?_map, getD_some9 h]
  rfl
theorem take_snoc9 {xs : List Nat} {i x : Nat} (h : xs[i]? = some x) : xs.take (i + 1) = xs.take i ++ [x] := by
  rw [List.take_add_one, h]
  rfl
theorem getD_set9 {xs : List Nat} {k v : Nat} (hk : k < xs.length) (t : Nat) : (xs.set k v).getD t 0 = if t = k then v else xs.getD t 0 := by
  rw [List.getD_eq_getElem?_getD, List.getD_eq_getElem?_getD, List.getElem?_set]
  by_cases h : t = k
  · subst h
    rw [if_pos rfl, if_pos hk, if_pos rfl]
    rfl
  · rw [if_neg (Ne.symm h), if_neg h]
theorem getD_pad (xs : List Nat) (m t : Nat) : (xs ++ List.replicate m 0).getD t 0 = xs.getD t 0 := by
  rw [List.getD_eq_getElem?_getD, List.getD_eq_getElem?_getD]
  by_cases h : t < xs.length
  · rw [List.getElem?_append_left h]
  · rw [List.getElem?_append_right (by omega), List.getElem?_eq_none (l := xs) (by omega), List.getElem?_replicate]
    split <;> rfl
theorem dg_200 {p k : Nat} (hp : 1 < p) (hk : k < 10 ^ 60) : (dg p k).length ≤ 200 := dg_len hp 200 k (Nat.lt_trans hk (by decide))
theorem dg_past {p k t : Nat} (hp : 1 < p) (h : (dg p k).length ≤ t) : dt p k t = 0 := by
  rw [← dg_get hp t k, List.getD_eq_getElem?_getD, List.getElem?_eq_none h]
  rfl
end
def sp_lots_rest (K : PySem.W.Frag) : Sp := fun vs H Q _ => ∃ (p : Nat) (a : Addr) (xs : List Nat), vs = [N_ p, .ref a] ∧ p ∈ P4 ∧ SqT K H a (xs.map N_) ∧ (∀ d ∈ xs, d < 10 ^ 60) ∧ RetV (N_ (chV p xs)) H Q
theorem sv_lots_rest {K : PySem.W.Frag} {H : Hp} {p : Nat} {a : Addr} {xs : List Nat} (hp : p ∈ P4) (h : SqT K H a (xs.map N_)) (h3 : ∀ d ∈ xs, d < 10 ^ 60) : SpV (sp_lots_rest K) [N_ p, .ref a] H (N_ (chV p xs)) := fun H1 e Q q E => ⟨p, a, xs, rfl, hp, ex_t e h, h3, q⟩

theorem ok_lots_rest {P : Program} {w : World} {K : PySem.W.Frag} {mg : Str → Option Value} {base : Heap} (T : Txt K mg) : FnOk P w K mg base CX0 2 T.a_lots_rest T.d_lots_rest ["p", "numbers"] (sp_lots_rest K) := by
  refine T.F_lots_rest.ok sc_lots_rest (fun vs H Q E h => ?_) (fun cdv A outer s H vs Q E hr h => ?_)
  · obtain ⟨p, a, xs, rfl, _⟩ := h
    rfl
  · obtain ⟨p, a, xs, rfl, hp, hx, h3', kk⟩ := h
    refine ⟨_, (pss_cons (ps_set (i := 2) sc_lots_rest.nd rfl (Or.inl rfl) pe_int)
      (pss_cons (ps_set (i := 3) sc_lots_rest.nd rfl (Or.inl rfl) (pe_lst pa_nil))
      (pss_cons (ps_for PassesOwn.never rfl (pi_tup (pv 1)) (pg_name (i := 4) sc_lots_rest.nd rfl (Or.inl rfl)) (pss_cons (ps_set (i := 5) sc_lots_rest.nd rfl (Or.inl rfl) (pe_call (ok_digit_row T) (hr.mono (by decide)) (by rfl) T.g_digit_row T.F_digit_row.kp T.b_digit_row .nil pass0 (pa_cons (pv 0) (pa_cons (pv 4) pa_nil))))
      (pss_cons (ps_set (i := 3) sc_lots_rest.nd rfl (Or.inl rfl) (pe_op op_cat (pv 3) (pe_op op_rep (pe_lst (pa_cons pe_int pa_nil)) (pe_op op_sub (pe_callB call_len_seq (by rfl) T.z_len (by decide +kernel) (pa_cons (pv 5) pa_nil)) (pe_callB call_len_seq (by rfl) T.z_len (by decide +kernel) (pa_cons (pv 3) pa_nil))))))
      (pss_one (ps_for PassesOwn.never rfl (pi_enum (by rfl) T.z_enumerate (pa_cons (pv 5) pa_nil)) (pg_tup (by rfl) (pgs_cons (pg_name (i := 6) sc_lots_rest.nd rfl (Or.inl rfl)) (pgs_cons (pg_name (i := 7) sc_lots_rest.nd rfl (Or.inl rfl)) pgs_nil))) (pss_one (ps_if (pt_cmpR op_gt (pv 7) pe_int (nomark _)) (pss_cons (ps_asg (pe_op op_add (pe_ix (r := rIxL K) ix_list (pv 3) (pv 6) (fun _ _ => rfl)) (pv 7)) (pg_sub (pv 3) (pv 6) set_list))
      (pss_cons (ps_if (pt_cmpR op_ge (pe_ix (r := rIxL K) ix_list (pv 3) (pv 6) (fun _ _ => rfl)) (pv 0) (nomark _)) (pss_one (ps_ret pe_int)) pss_nil)
      (pss_one (ps_set (i := 2) sc_lots_rest.nd rfl (Or.inl rfl) (pe_op op_mod (pe_op op_mulW (pv 2) (pe_callBfun cr_comb (by rfl) T.m_comb (pa_cons (pe_ix (r := rIxL K) ix_list (pv 3) (pv 6) (fun _ _ => rfl)) (pa_cons (pv 7) pa_nil)))) (pv 0)))))) pss_nil)))))))
      (pss_one (ps_ret (pv 2)))))), ?_⟩
    obtain ⟨hp1, hp7⟩ := p4_2 hp
    have hb := p4_bs hp
    have hp0 : 0 < p := by omega
    refine q_asg (v := N_ 1) ev_c fun H1 e1 => ?_
    refine q_asgL (xs := []) (el_lst ea_nil (by show 0 ≤ 100000; decide)) fun l0 H2 nl e2 h2 => ?_
    refine q_forT (K := K) (ev_var rfl) (ex_t (e1.trans e2) hx) (fun i σ H' => ∃ (l : Addr) (L : List Nat) (y4 y5 y6 y7 : Option V), σ = [some (N_ p), some (.ref a), some (N_ (FN p 0 (xs.take i) % p)), some (.ref l), y4, y5, y6, y7] ∧ Ex H H' ∧ H' l = some (.lst (L.map N_)) ∧ L.length ≤ 200 ∧ CF p (xs.take i) ∧ ∀ t, L.getD t 0 = dt p (xs.take i).sum t)
      (fun H3 e3 => ⟨l0, [], none, none, none, none, ?_, (e1.trans e2).trans e3, e3 _ _ h2, Nat.zero_le _, by rw [List.take_zero]; exact cf_nil p, fun t => ?_⟩) (fun i σ H3 hi hw => ?_) (fun i x σ H3 hx3 hw => ?_) (fun σ H3 hw => ?_)
    · rw [List.take_zero, show FN p 0 [] % p = 1 from Nat.mod_eq_of_lt hp1]
      rfl
    · rw [List.take_zero]
      show 0 = 0 / p ^ t % p
      rw [Nat.zero_div, Nat.zero_mod]
    · obtain ⟨l, L, y4, y5, y6, y7, rfl, e3, h3, hL, hc, hg⟩ := hw
      exact ex_t e3 hx
    · obtain ⟨l, L, y4, y5, y6, y7, rfl, e3, h3, hL, hc, hg⟩ := hw
      rw [List.getElem?_map] at hx3
      obtain ⟨n, hn, rfl⟩ := Option.map_eq_some_iff.mp hx3
      have hn60 := h3' n (List.mem_of_getElem? hn)
      generalize hpre : xs.take i = pre at hc hg
      have htk : xs.take (i + 1) = pre ++ [n] := by rw [take_snoc9 hn, hpre]
      have hsplit : xs = pre ++ n :: xs.drop (i + 1) := by
        obtain ⟨hil, hn2⟩ := List.getElem?_eq_some_iff.mp hn
        rw [← hpre, ← hn2]
        exact (by rw [← List.drop_eq_getElem_cons hil, List.take_append_drop])
      generalize hw' : pre.sum = w at hg
      generalize hf : FN p 0 pre % p = f
      have hfp : f < p := by rw [← hf]; exact Nat.mod_lt _ hp0
      refine q_asgL (xs := (dg p n).map N_) (el_call (ea_cons (ev_var rfl) (ea_cons (ev_var rfl) ea_nil)) (sv_digit_row hb (gt_n hn60))) fun q H4 nq e4 h4 => ?_
      have hr200 := dg_200 hp1 hn60
      generalize hrow : dg p n = row at h4 hr200
      have h3' := e4 _ _ h3
      refine q_asgL (xs := (L ++ List.replicate (row.length - L.length) 0).map N_) (el_is (el_catV9 (ev_var rfl) h3' (fun H5 e5 => el_repZ (k := (row.length : Int) - (L.length : Int)) (el_lst (vs := [.int 0]) (ea_cons ev_c ea_nil) (by show 1 ≤ 100000; decide)) (fun H6 e6 => ev_is (ev_op (ev_cb (ea_cons (ev_var rfl) ea_nil) (rc_lenL (sq_of ((e5.trans e6) _ _ h4)))) (ev_cb (ea_cons (ev_var rfl) ea_nil) (rc_lenL (sq_of ((e5.trans e6) _ _ h3')))) rv_I0) (congrArg V.int (by rw [List.length_map, List.length_map]))) (by omega) (by show 1 * _ ≤ _; omega) (by omega)) ?_) ?_) fun l2 H5 nl2 e5 h5 => ?_
      · rw [rep_zero, List.length_map, List.length_map, List.length_replicate]
        omega
      · rw [rep_zero, List.map_append, show ((row.length : Int) - (L.length : Int)).toNat = row.length - L.length by omega]
      have hn2 : q ≠ l2 := fun z => by
        rw [← z] at nl2
        rw [h4] at nl2
        cases nl2
      have nlH : H l2 = none := fresh_back (e3.trans e4) nl2
      generalize hL2 : L ++ List.replicate (row.length - L.length) 0 = LL at h5
      have hL2l : LL.length ≤ 200 ∧ row.length ≤ LL.length := by
        rw [← hL2, List.length_append, List.length_replicate]
        omega
      have hg2 : ∀ t, LL.getD t 0 = dt p w t := fun t => by rw [← hL2, getD_pad, hg]
      have hrg : ∀ t, row.getD t 0 = dt p n t := fun t => by rw [← hrow, dg_get hp1]
      refine s_forEV (K := K) (xs := row.map N_) (ev_var rfl) (sq_of (e5 _ _ h4)) (fun k σ H' => ∃ (M : List Nat) (y6 y7 : Option V), σ = [some (N_ p), some (.ref a), some (N_ (f * pcN p w n k % p)), some (.ref l2), some (N_ n), some (.ref q), y6, y7] ∧ Ex H H' ∧ SqL K H' q (row.map N_) ∧ H' l2 = some (.lst (M.map N_)) ∧ M.length = LL.length ∧ (∀ t, M.getD t 0 = dt p w t + if t < k then dt p n t else 0) ∧ ∀ t, t < k → dt p w t + dt p n t < p)
        (fun H6 e6 => ⟨LL, y6, y7, ?_, ((e3.trans e4).trans e5).trans e6, sq_of ((e5.trans e6) _ _ h4), e6 _ _ h5, rfl, fun t => ?_, fun t ht => absurd ht (Nat.not_lt_zero t)⟩) (fun k σ H6 hk hw => ?_) (fun k x σ H6 H7 hx6 hw e7 => ?_) (fun σ H6 hw => ?_)
      · rw [pcN, Nat.mul_one, Nat.mod_eq_of_lt hfp]
        rfl
      · rw [hg2, if_neg (Nat.not_lt_zero t), Nat.add_zero]
      · obtain ⟨M, y6, y7, rfl, e6, s6, h6, hM, hMg, hcar⟩ := hw
        exact s6
      · obtain ⟨M, y6, y7, rfl, e6, s6, h6, hM, hMg, hcar⟩ := hw
        rw [List.getElem?_map] at hx6
        obtain ⟨d, hd, rfl⟩ := Option.map_eq_some_iff.mp hx6
        have hkr : k < row.length := (List.getElem?_eq_some_iff.mp hd).1
        have hkM : k < M.length := by omega
        have hdd : d = dt p n k := by
          rw [← hrg k, List.getD_eq_getElem?_getD, hd]
          rfl
        have hMk : M.getD k 0 = dt p w k := by rw [hMg, if_neg (Nat.lt_irrefl k), Nat.add_zero]
        have h7 := e7 _ _ h6
        have s7 := ex_l e7 s6
        refine s_when (et_test (ev_op (ev_var rfl) ev_c rv_I0)) (fun hb H8 e8 => ?_) (fun hb H8 e8 => ?_)
        · have hd0 : 0 < d := by
            have := of_decide_eq_true hb
            omega
          have h8 := e8 _ _ h7
          refine q_setL (l := l2) (j := k) (v := N_ (dt p w k + d)) h8 (ev_is (ev_op (ev_op (ev_var rfl) (ev_var rfl) (rv_ixL (sq_of h8) (atI_nat (get_N9 hkM)))) (ev_var rfl) rv_I0) (congrArg V.int (by rw [hMk]; omega))) (ev_var rfl) (ev_var rfl) (by rw [List.length_map]; exact hkM) fun H9 e9 => ?_
          have e39 : Ex H H9 := ((e6.trans e7).trans e8).trans e9
          have e310 : Ex H (upd H9 l2 (.lst ((M.map N_).set k (N_ (dt p w k + d))))) := e39.mut nlH
          have s10 : SqL K (upd H9 l2 (.lst ((M.map N_).set k (N_ (dt p w k + d))))) q (row.map N_) := exd_l hn2 Exd.put (ex_l (e8.trans e9) s7)
          have h10 : (upd H9 l2 (.lst ((M.map N_).set k (N_ (dt p w k + d))))) l2 = some (.lst ((M.set k (dt p w k + d)).map N_)) := by rw [upd_same, List.map_set]
          generalize (upd H9 l2 (.lst ((M.map N_).set k (N_ (dt p w k + d))))) = H10 at e310 s10 h10
          have hkS : k < (M.set k (dt p w k + d)).length := by rw [List.length_set]; exact hkM
          have hSk : (M.set k (dt p w k + d)).getD k 0 = dt p w k + d := by rw [getD_set9 hkM, if_pos rfl]
          have ixk : ∀ {H11 : Hp} {σ : L2.St}, Ex H10 H11 → σ[3]? = some (some (.ref l2)) → σ[6]? = some (some (.int (k : Nat))) → Ev (tOp (rIxL K) (tVar 3) (tVar 6)) σ H11 (N_ (dt p w k + d)) := fun {H11} {σ} e11 z1 z2 => by
            have := get_N9 hkS
            rw [hSk] at this
            exact ev_op (ev_var z1) (ev_var z2) (rv_ixL (sq_of (e11 _ _ h10)) (atI_nat this))
          refine q_when (et_test (ev_op (ixk (Ex.refl _) rfl rfl) (ev_var rfl) rv_I0)) (fun hb2 H11 e11 => ?_) (fun hb2 H11 e11 => ?_)
          · have hge : p ≤ dt p w k + d := by
              have := of_decide_eq_true hb2
              omega
            have hno : ¬ CF p xs := by
              rw [hsplit]
              refine carry_no hp1 (t := k) ?_
              rw [hw', ← hdd]
              exact hge
            rw [chV_no hno] at kk
            exact s_ret ev_c fun H12 e12 => kk H12 ((e310.trans e11).trans e12)
          · have hlt : dt p w k + d < p := by
              have := of_decide_eq_false hb2
              omega
            refine s_asg (v := N_ (f * pcN p w n (k + 1) % p)) (ev_is (ev_op (ev_op (ev_var rfl) (ev_cb (ea_cons (ixk e11 rfl rfl) (ea_cons (ev_var rfl) ea_nil)) (rc_comb (by omega) (by omega))) (rv_I (wide_mul (a := 10) (b := 10) (by show _ < 1024; have := Nat.mod_lt (f * pcN p w n k) hp0; omega) (by show chooseN _ _ < 1024; have := (comb_eq (a := dt p w k + d) (b := d) (by omega) (by omega)).2; omega) (by decide) (by decide) (by decide)))) (ev_var rfl) (rv_I (by omega))) (congrArg V.int ?_)) fun H12 e12 => ⟨M.set k (dt p w k + d), _, _, rfl, (e310.trans e11).trans e12, ex_l (e11.trans e12) s10, (e11.trans e12) _ _ h10, by rw [List.length_set]; exact hM, fun t => ?_, fun t ht => ?_⟩
            · have e9 : f * (pcN p w n k * chooseN (dt p w k + d) d) % p = (f * pcN p w n k % p) * chooseN (dt p w k + d) d % p := by rw [← Nat.mul_assoc, Nat.mod_mul_mod]
              rw [pcN, ← hdd, e9, ← Int.natCast_mul]
              rfl
            · rw [getD_set9 hkM]
              by_cases htk : t = k
              · rw [if_pos htk, htk, if_pos (Nat.lt_succ_self k), hdd]
              · rw [if_neg htk, hMg]
                by_cases htk2 : t < k
                · rw [if_pos htk2, if_pos (by omega)]
                · rw [if_neg htk2, if_neg (by omega)]
            · by_cases htk : t = k
              · rw [htk, ← hdd]
                exact hlt
              · exact hcar t (by omega)
        · have hd0 : d = 0 := by
            have := of_decide_eq_false hb
            omega
          refine ⟨M, some (N_ k), some (N_ d), ?_, (e6.trans e7).trans e8, ex_l e8 s7, e8 _ _ h7, hM, fun t => ?_, fun t ht => ?_⟩
          · rw [pcN, ← hdd, hd0, choose_zero, Nat.mul_one]
            rfl
          · rw [hMg]
            by_cases htk : t = k
            · rw [htk, if_neg (Nat.lt_irrefl k), if_pos (Nat.lt_succ_self k), ← hdd, hd0]
            · by_cases htk2 : t < k
              · rw [if_pos htk2, if_pos (by omega)]
              · rw [if_neg htk2, if_neg (by omega)]
          · by_cases htk : t = k
            · rw [htk, ← hdd, hd0]
              exact Nat.mod_lt _ hp0
            · exact hcar t (by omega)
      · obtain ⟨M, y6, y7, rfl, e6, s6, h6, hM, hMg, hcar⟩ := hw
        rw [List.length_map] at hMg hcar ⊢
        have hall : ∀ t, dt p w t + dt p n t < p := fun t => by
          by_cases ht : t < row.length
          · exact hcar t ht
          · rw [dg_past (k := n) hp1 (by rw [hrow]; omega)]
            exact Nat.mod_lt _ hp0
        have hadd := add_digits hp1 (w + n) w n (Nat.le_refl _) hall
        refine ⟨l2, M, some (N_ n), some (.ref q), y6, y7, ?_, e6, h6, by omega, ?_, fun t => ?_⟩
        · rw [htk, fn_snoc, hw', Nat.zero_add, pc_lu hp1 row.length w n (by rw [hrow]; exact Nat.le_refl _) hall, ← hf, Nat.mod_mul_mod]
        · rw [htk]
          exact cf_more hc (by rw [hw']; exact hadd.2)
        · rw [htk, List.sum_append, List.sum_cons, List.sum_nil, hw', Nat.add_zero, hadd.1, hMg]
          by_cases ht : t < row.length
          · rw [if_pos ht]
          · rw [if_neg ht, dg_past (k := n) hp1 (by rw [hrow]; omega)]
    · obtain ⟨l, L, y4, y5, y6, y7, rfl, e3, h3, hL, hc, hg⟩ := hw
      rw [List.length_map, List.take_length] at *
      rw [chV_yes hc] at kk
      exact s_ret (ev_var rfl) fun H4 e4 => kk H4 (e3.trans e4)


def expN : Nat → List Nat → Nat
  | _, [] => 0
  | i, x :: r => i * x + expN (i + 1) r

section
variable {K : PySem.W.Frag} {σ : L2.St} {H : Hp} {D : Ends} {ta : TA} {tu tz : TS} {te : TE}
/-- sum([at * one for at, one in enumerate(row)]) -/
theorem ev_exp {a : Addr} {xs : List Nat} {tl : TA} {i1 i2 : Nat} {vs : List Nat} {M : Nat} (h : EvA tl σ H [.ref a]) (hx : SqT K H a (xs.map N_)) (hz : xs.length ≤ 500) (hM : ∀ x ∈ xs, x < 2 ^ 300) (hw : ∀ x y, wipe (((wipe σ vs).set i1 (some x)).set i2 (some y)) vs = wipe σ vs)
    (he : ∀ (x y : Nat) H1, x ≤ 500 → y < 2 ^ 300 → Ev te (((wipe σ vs).set i1 (some (N_ x))).set i2 (some (N_ y))) H1 (N_ (x * y))) : Ev (tCB (rSum K) (tCons (tLc (iEnumT K tl) (gTup K 2 (gCons (gName i1) (gCons (gName i2) gNil))) tYes te vs) tNil)) σ H (N_ (expN 0 xs)) := by
  have hg : ∀ (ys : List Nat) (s : Nat), ((List.range ys.length).map fun i => (s + i) * ys.getD i 0).sum = expN s ys := by
    intro ys
    induction ys with
    | nil => intro s; rfl
    | cons y r ih =>
      intro s
      rw [List.length_cons, List.range_succ_eq_map, List.map_cons, List.sum_cons, List.map_map]
      show (s + 0) * y + _ = s * y + expN (s + 1) r
      rw [Nat.add_zero, ← ih (s + 1)]
      congr 1
      refine congrArg List.sum (List.map_congr_left fun i _ => ?_)
      show (s + (i + 1)) * r.getD i 0 = (s + 1 + i) * r.getD i 0
      congr 1
      omega
  have hsum := hg xs 0
  refine ev_is (ev_sumN (K := K) (ns := ((List.range xs.length).map fun i => i * xs.getD i 0).map Int.ofNat) (el_is (el_lcET (K := K) (fun _ => true) (fun i => N_ (i * xs.getD i 0)) h hx (by rw [List.length_map]; omega) hw (fun _ _ _ _ _ => et_nil) (fun i x H1 e1 hx1 _ => ?_)) ?_)) (congrArg V.int ?_)
  · rw [List.getElem?_map] at hx1
    obtain ⟨y, hy, rfl⟩ := Option.map_eq_some_iff.mp hx1
    have hi := (List.getElem?_eq_some_iff.mp hy).1
    rw [List.getD_eq_getElem?_getD, hy]
    exact he i y H1 (by omega) (hM y (List.mem_of_getElem? hy))
  · rw [List.length_map, given_range, List.map_map, List.map_map]
    rfl
  · rw [sumN, ← hsum]
    congr 2
    exact List.map_congr_left fun i _ => by rw [Nat.zero_add]
end

theorem expN_sum : ∀ (xs : List Nat) (i : Nat), expN i xs ≤ (i + xs.length) * xs.sum
  | [], i => Nat.zero_le _
  | x :: r, i => by
    have h := expN_sum r (i + 1)
    show i * x + expN (i + 1) r ≤ (i + (r.length + 1)) * (x :: r).sum
    rw [List.sum_cons, Nat.mul_add]
    have h1 : i * x ≤ (i + (r.length + 1)) * x := Nat.mul_le_mul_right _ (by omega)
    rw [show i + 1 + r.length = i + (r.length + 1) by omega] at h
    omega
/-- the exponent of a row: its last place is the greatest -/
theorem expN_le : ∀ (xs : List Nat) (i d : Nat), i + xs.length ≤ d + 1 → expN i xs ≤ d * xs.sum
  | [], i, d, _ => Nat.zero_le _
  | x :: r, i, d, h => by
    rw [List.length_cons] at h
    have ih := expN_le r (i + 1) d (by omega)
    show i * x + expN (i + 1) r ≤ d * (x :: r).sum
    rw [List.sum_cons, Nat.mul_add]
    have := Nat.mul_le_mul_right x (show i ≤ d by omega)
    omega

def sgN (q d n : Nat) : Nat := if d % 2 = 0 then n % prE q else n * (prE q - 1) % prE q
theorem sg_int {q d n : Nat} (hq : Fq q) : ((if d % 2 = 0 then (n : Int) else -(n : Int)) % (prE q : Int)) = (sgN q d n : Int) := by
  have hp2 := (t0_of hq).p2
  unfold sgN
  by_cases h : d % 2 = 0
  · rw [if_pos h, if_pos h]
    rfl
  · rw [if_neg h, if_neg h]
    show -(n : Int) % (prE q : Int) = ((n * (prE q - 1) : Nat) : Int) % (prE q : Int)
    rw [Int.natCast_mul, show ((prE q - 1 : Nat) : Int) = (prE q : Int) - 1 by omega, Int.mul_sub, Int.mul_one, show (n : Int) * (prE q : Int) - (n : Int) = -(n : Int) + (n : Int) * (prE q : Int) by omega, Int.add_mul_emod_self_right]
def sp_signed (K : PySem.W.Frag) : Sp := fun vs H Q _ => ∃ (q d n : Nat), vs = [N_ q, N_ d, N_ n] ∧ Fq q ∧ RetV (N_ (sgN q d n)) H Q
theorem sv_signed {K : PySem.W.Frag} {H : Hp} {q d n : Nat} (hq : Fq q) : SpV (sp_signed K) [N_ q, N_ d, N_ n] H (N_ (sgN q d n)) := fun H1 e Q q' E => ⟨q, d, n, rfl, hq, q'⟩

theorem ok_signed {P : Program} {w : World} {K : PySem.W.Frag} {mg : Str → Option Value} {base : Heap} (T : Txt K mg) : FnOk P w K mg base CX0 1 T.a_signed T.d_signed ["q", "d", "number"] (sp_signed K) := by
  refine T.F_signed.ok sc_signed (fun vs H Q E h => ?_) (fun cdv A outer s H vs Q E hr h => ?_)
  · obtain ⟨q, d, n, rfl, _⟩ := h
    rfl
  · obtain ⟨q, d, n, rfl, hq, kk⟩ := h
    refine ⟨_, (pss_one (ps_ret (pe_op op_mod (pe_ifExp (pt_cmpR op_eq (pe_op op_mod (pv 1) pe_int) pe_int (nomark _)) (pv 2) (pe_un un_neg (pv 2))) (pe_ix (r := rIxW K) ix_tab (pe_glob (v := .ref T.a_PRIMES) (by rfl) T.g_PRIMES rfl) (pv 0) (fun _ _ => rfl))))), ?_⟩
    have ht := t0_of hq
    exact s_ret (ev_is (ev_op (ev_if (v := .int (if d % 2 = 0 then (n : Int) else -(n : Int))) (b := decide (d % 2 = 0)) (et_is (et_test (ev_op (ev_is (w := N_ (d % 2)) (ev_op (ev_var rfl) ev_c (rv_I (by omega))) rfl) ev_c (rv_eq rfl))) (dec_int (y := 0))) (fun hb => by rw [if_pos (of_decide_eq_true hb)]; exact ev_var rfl) (fun hb => by rw [if_neg (of_decide_eq_false hb)]; exact ev_un (ev_var rfl) ru_neg)) (ev_tab0 T.w_PRIMES ht.pr (ev_var rfl)) (rv_I (by have := ht.p2; omega))) (congrArg V.int (sg_int hq))) fun H1 e1 => kk H1 e1


def sp_members_exponent (K : PySem.W.Frag) : Sp := fun vs H Q _ => ∃ (a : Addr) (ms : List Nat), vs = [.ref a] ∧ SqT K H a (ms.map N_) ∧ ms.length ≤ 500 ∧ (∀ x ∈ ms, x < 2 ^ 300) ∧ RetV (N_ (expN 0 ms)) H Q
theorem sv_members_exponent {K : PySem.W.Frag} {H : Hp} {a : Addr} {ms : List Nat} (hx : SqT K H a (ms.map N_)) (hl : ms.length ≤ 500) (hm : ∀ x ∈ ms, x < 2 ^ 300) : SpV (sp_members_exponent K) [.ref a] H (N_ (expN 0 ms)) := fun H1 e Q q' E => ⟨a, ms, rfl, ex_t e hx, hl, hm, q'⟩

theorem ok_members_exponent {P : Program} {w : World} {K : PySem.W.Frag} {mg : Str → Option Value} {base : Heap} (T : Txt K mg) : FnOk P w K mg base CX0 1 T.a_members_exponent T.d_members_exponent ["members"] (sp_members_exponent K) := by
  refine T.F_members_exponent.ok sc_members_exponent (fun vs H Q E h => ?_) (fun cdv A outer s H vs Q E hr h => ?_)
  · obtain ⟨a, ms, rfl, _⟩ := h
    rfl
  · obtain ⟨a, ms, rfl, hx, hl, hm, kk⟩ := h
    refine ⟨_, (pss_one (ps_ret (pe_callB (cr_sum rfl) (by rfl) T.z_sum (by decide +kernel) (pa_cons (pe_lc (own := [("at", 1), ("member", 2)]) (g := (gTup K 2 (gCons (gName 1) (gCons (gName 2) gNil)))) rfl sc_members_exponent.nd (pi_enumT (K := K) (by rfl) (by rfl) T.z_enumerate (pa_cons (pv 0) pa_nil)) (blkOk_by (N := ["members", "at", "member"]) (sc := defScope s_members_exponent) (by decide +kernel)) (fun _ _ _ _ _ => (pg_tup (by rfl) (pgs_cons (pg_name (i := 1) sc_members_exponent.nd rfl (Or.inl rfl)) (pgs_cons (pg_name (i := 2) sc_members_exponent.nd rfl (Or.inl rfl)) pgs_nil)))) (fun _ _ _ _ _ => pts_nil) (fun _ _ _ _ _ => (pe_op op_mulW (pv 1) (pv 2)))) pa_nil)))), ?_⟩
    exact s_ret (ev_exp (K := K) (M := 0) (ea_cons (ev_var rfl) ea_nil) hx hl hm (fun _ _ => rfl) (fun x y H8 hx hy => ev_is (ev_op (ev_var rfl) (ev_var rfl) (rv_I (wide_mul (a := 10) (b := 300) (by show x < 1024; omega) (by exact hy) (by decide) (by decide) (by decide)))) (congrArg V.int (Int.natCast_mul _ _).symm))) fun H1 e1 => kk H1 e1


def sp_check_parting (K : PySem.W.Frag) : Sp := fun vs H Q _ => ∃ (q d k : Nat) (a : Addr) (ms : List Nat), vs = [N_ q, N_ d, N_ k, .ref a] ∧ Fq q ∧ d ≤ 300 ∧ k < 10 ^ 60 ∧ SqT K H a (ms.map N_) ∧ Prt (prE q) (q - 1) d k ms ∧ RetV .non H Q
theorem sv_check_parting {K : PySem.W.Frag} {H : Hp} {q d k : Nat} {a : Addr} {ms : List Nat} (hq : Fq q) (hd : d ≤ 300) (hk : k < 10 ^ 60) (ha : SqT K H a (ms.map N_)) (hp : Prt (prE q) (q - 1) d k ms) : SpV (sp_check_parting K) [N_ q, N_ d, N_ k, .ref a] H .non := fun H1 e Q q' E => ⟨q, d, k, a, ms, rfl, hq, hd, hk, ex_t e ha, hp, q'⟩

theorem ok_check_parting {P : Program} {w : World} {K : PySem.W.Frag} {mg : Str → Option Value} {base : Heap} (T : Txt K mg) : FnOk P w K mg base CX0 7 T.a_check_parting T.d_check_parting ["q", "d", "k", "value"] (sp_check_parting K) := by
  refine T.F_check_parting.ok sc_check_parting (fun vs H Q E h => ?_) (fun cdv A outer s H vs Q E hr h => ?_)
  · obtain ⟨q, d, k, a, ms, rfl, _⟩ := h
    rfl
  · obtain ⟨q, d, k, a, ms, rfl, hq, hd, hk, ha, hp, kk⟩ := h
    refine ⟨_, (pss_one (ps_if (pt_not (pt_val (pe_call (ok_is_parting T) (hr.mono (by decide)) (by rfl) T.g_is_parting T.F_is_parting.kp T.b_is_parting .nil pass0 (pa_cons (pv 0) (pa_cons (pv 1) (pa_cons (pv 2) (pa_cons (pv 3) pa_nil))))))) (pss_one ps_never) pss_nil)), ?_⟩
    exact s_when (b := false) (et_not (et_B (ev_call (ea_cons (ev_var rfl) (ea_cons (ev_var rfl) (ea_cons (ev_var rfl) (ea_cons (ev_var rfl) ea_nil)))) (sv_is_parting hq hd hk ha hp)))) (fun h => nomatch h) (fun _ H1 e1 => kk H1 e1)


theorem k300f {x : Nat} (h : x < 10 ^ 60) : x < 2 ^ 300 := Nat.lt_trans h (by decide)
def sp_parting_exponent (K : PySem.W.Frag) : Sp := fun vs H Q _ => ∃ (q d k : Nat) (a : Addr) (ms : List Nat), vs = [N_ q, N_ d, N_ k, .ref a] ∧ Fq q ∧ d ≤ 300 ∧ k < 10 ^ 60 ∧ SqT K H a (ms.map N_) ∧ Prt (prE q) (q - 1) d k ms ∧ RetV (N_ (expN 0 ms)) H Q
theorem sv_parting_exponent {K : PySem.W.Frag} {H : Hp} {q d k : Nat} {a : Addr} {ms : List Nat} (hq : Fq q) (hd : d ≤ 300) (hk : k < 10 ^ 60) (ha : SqT K H a (ms.map N_)) (hp : Prt (prE q) (q - 1) d k ms) : SpV (sp_parting_exponent K) [N_ q, N_ d, N_ k, .ref a] H (N_ (expN 0 ms)) := fun H1 e Q q' E => ⟨q, d, k, a, ms, rfl, hq, hd, hk, ex_t e ha, hp, q'⟩
def sp_parting_number (K : PySem.W.Frag) : Sp := fun vs H Q _ => ∃ (q d k : Nat) (a : Addr) (ms : List Nat), vs = [N_ q, N_ d, N_ k, .ref a] ∧ Fq q ∧ d ≤ 300 ∧ k < 10 ^ 60 ∧ SqT K H a (ms.map N_) ∧ Prt (prE q) (q - 1) d k ms ∧ RetV (N_ (chV (prE q) ms)) H Q
theorem sv_parting_number {K : PySem.W.Frag} {H : Hp} {q d k : Nat} {a : Addr} {ms : List Nat} (hq : Fq q) (hd : d ≤ 300) (hk : k < 10 ^ 60) (ha : SqT K H a (ms.map N_)) (hp : Prt (prE q) (q - 1) d k ms) : SpV (sp_parting_number K) [N_ q, N_ d, N_ k, .ref a] H (N_ (chV (prE q) ms)) := fun H1 e Q q' E => ⟨q, d, k, a, ms, rfl, hq, hd, hk, ex_t e ha, hp, q'⟩

theorem ok_parting_exponent {P : Program} {w : World} {K : PySem.W.Frag} {mg : Str → Option Value} {base : Heap} (T : Txt K mg) : FnOk P w K mg base CX0 8 T.a_parting_exponent T.d_parting_exponent ["q", "d", "k", "value"] (sp_parting_exponent K) := by
  refine T.F_parting_exponent.ok sc_parting_exponent (fun vs H Q E h => ?_) (fun cdv A outer s H vs Q E hr h => ?_)
  · obtain ⟨q, d, k, a, ms, rfl, _⟩ := h
    rfl
  · obtain ⟨q, d, k, a, ms, rfl, hq, hd, hk, ha, hp, kk⟩ := h
    refine ⟨_, (pss_cons (ps_expr (pe_call (ok_check_parting T) (hr.mono (by decide)) (by rfl) T.g_check_parting T.F_check_parting.kp T.b_check_parting .nil pass0 (pa_cons (pv 0) (pa_cons (pv 1) (pa_cons (pv 2) (pa_cons (pv 3) pa_nil))))))
      (pss_one (ps_ret (pe_call (ok_members_exponent T) (hr.mono (by decide)) (by rfl) T.g_members_exponent T.F_members_exponent.kp T.b_members_exponent .nil pass0 (pa_cons (pv 3) pa_nil))))), ?_⟩
    have hm := mem_lt hp
    have hl := hp.len
    refine q_drop (ev_call (ea_cons (ev_var rfl) (ea_cons (ev_var rfl) (ea_cons (ev_var rfl) (ea_cons (ev_var rfl) ea_nil)))) (sv_check_parting hq hd hk ha hp)) fun H1 e1 => ?_
    exact s_ret (ev_call (ea_cons (ev_var rfl) ea_nil) (sv_members_exponent (K := K) (ex_t e1 ha) (by omega) (fun x hx => k300f (Nat.lt_of_le_of_lt (hm x hx) hk)))) fun H2 e2 => kk H2 (e1.trans e2)


theorem ok_parting_number {P : Program} {w : World} {K : PySem.W.Frag} {mg : Str → Option Value} {base : Heap} (T : Txt K mg) : FnOk P w K mg base CX0 8 T.a_parting_number T.d_parting_number ["q", "d", "k", "value"] (sp_parting_number K) := by
  refine T.F_parting_number.ok sc_parting_number (fun vs H Q E h => ?_) (fun cdv A outer s H vs Q E hr h => ?_)
  · obtain ⟨q, d, k, a, ms, rfl, _⟩ := h
    rfl
  · obtain ⟨q, d, k, a, ms, rfl, hq, hd, hk, ha, hp, kk⟩ := h
    refine ⟨_, (pss_cons (ps_expr (pe_call (ok_check_parting T) (hr.mono (by decide)) (by rfl) T.g_check_parting T.F_check_parting.kp T.b_check_parting .nil pass0 (pa_cons (pv 0) (pa_cons (pv 1) (pa_cons (pv 2) (pa_cons (pv 3) pa_nil))))))
      (pss_one (ps_ret (pe_call (ok_lots_rest T) (hr.mono (by decide)) (by rfl) T.g_lots_rest T.F_lots_rest.kp T.b_lots_rest .nil pass0 (pa_cons (pe_ix (r := rIxW K) ix_tab (pe_glob (v := .ref T.a_PRIMES) (by rfl) T.g_PRIMES rfl) (pv 0) (fun _ _ => rfl)) (pa_cons (pv 3) pa_nil)))))), ?_⟩
    have ht := t0_of hq
    have hm := mem_lt hp
    refine q_drop (ev_call (ea_cons (ev_var rfl) (ea_cons (ev_var rfl) (ea_cons (ev_var rfl) (ea_cons (ev_var rfl) ea_nil)))) (sv_check_parting hq hd hk ha hp)) fun H1 e1 => ?_
    exact s_ret (ev_call (ea_cons (ev_tab0 T.w_PRIMES ht.pr (ev_var rfl)) (ea_cons (ev_var rfl) ea_nil)) (sv_lots_rest (K := K) (pr_p4 hq) (ex_t e1 ha) (fun x hx => Nat.lt_of_le_of_lt (hm x hx) hk))) fun H2 e2 => kk H2 (e1.trans e2)


end Own
/-! the package's sum by partings -/
namespace Own
open PySem PySem.Spec PyProof.Rows L2 Evl

/-- the exponents in the order in which they come, and what is told of each -/
def ksI (L : List (List Nat)) : List Nat := L.foldl (fun ks m => if expN 0 m ∈ ks then ks else ks ++ [expN 0 m]) []
noncomputable def totL (p : Nat) (L : List (List Nat)) (e : Nat) : Nat := L.foldl (fun s m => s + if expN 0 m = e then chV p m else 0) 0
def kvT (f : Nat → Nat) (ks : List Nat) : List (Key × V) := ks.map fun (e : Nat) => ((Sum.inl (e : Int) : Key), N_ (f e))
theorem ks_snoc (L : List (List Nat)) (m : List Nat) : ksI (L ++ [m]) = if expN 0 m ∈ ksI L then ksI L else ksI L ++ [expN 0 m] := by
  unfold ksI
  rw [List.foldl_append]
  rfl
theorem tot_snoc (p : Nat) (L : List (List Nat)) (m : List Nat) (e : Nat) : totL p (L ++ [m]) e = totL p L e + if expN 0 m = e then chV p m else 0 := by
  unfold totL
  rw [List.foldl_append]
  rfl
theorem key_nat {a b : Nat} : ((Sum.inl (a : Int) : Key) = Sum.inl (b : Int)) ↔ a = b := ⟨fun h => Int.ofNat.inj (Sum.inl.inj h), fun h => by rw [h]⟩
theorem val_kvT (f : Nat → Nat) (e : Nat) : ∀ ks : List Nat, valV (kvT f ks) (Sum.inl (e : Int)) = if e ∈ ks then some (N_ (f e)) else none
  | [] => rfl
  | a :: ks => by
    show (List.find? (fun kv => decide (kv.1 = (Sum.inl (e : Int) : Key))) ((Sum.inl (a : Int), N_ (f a)) :: kvT f ks)).map (·.2) = _
    rw [List.find?_cons]
    by_cases h : a = e
    · subst h
      rw [decide_eq_true rfl, if_pos (List.mem_cons_self)]
      rfl
    · rw [decide_eq_false (fun z => h (key_nat.mp z))]
      have ih := val_kvT f e ks
      unfold valV at ih
      rw [ih]
      by_cases h2 : e ∈ ks
      · rw [if_pos h2, if_pos (List.mem_cons_of_mem _ h2)]
      · rw [if_neg h2, if_neg (fun z => by
          rcases List.mem_cons.mp z with z | z
          · exact h z.symm
          · exact h2 z)]
theorem put_kvT (f g : Nat → Nat) (e c : Nat) (ks : List Nat) (hg : ∀ a, g a = if a = e then c else f a) : putK (kvT f ks) (Sum.inl (e : Int)) (N_ c) = kvT g (if e ∈ ks then ks else ks ++ [e]) := by
  have hany : ((kvT f ks).any fun kv => decide (kv.1 = (Sum.inl (e : Int) : Key))) = decide (e ∈ ks) := by
    unfold kvT
    rw [List.any_map]
    rw [Bool.eq_iff_iff, List.any_eq_true, decide_eq_true_eq]
    constructor
    · intro ⟨a, ha, h⟩
      have : a = e := key_nat.mp (of_decide_eq_true h)
      rw [← this]
      exact ha
    · intro h
      exact ⟨e, h, decide_eq_true rfl⟩
  unfold putK
  rw [hany]
  by_cases h : e ∈ ks
  · rw [decide_eq_true h, if_pos rfl, if_pos h]
    unfold kvT
    rw [List.map_map]
    refine List.map_congr_left fun a ha => ?_
    show (if (Sum.inl (a : Int) : Key) = Sum.inl (e : Int) then ((Sum.inl (a : Int) : Key), N_ c) else (Sum.inl (a : Int), N_ (f a))) = (Sum.inl (a : Int), N_ (g a))
    rw [hg a]
    by_cases h2 : a = e
    · rw [if_pos (key_nat.mpr h2), if_pos h2]
    · rw [if_neg (fun z => h2 (key_nat.mp z)), if_neg h2]
  · rw [decide_eq_false h, if_neg (by decide), if_neg h]
    unfold kvT
    rw [List.map_append]
    congr 1
    · refine List.map_congr_left fun a ha => ?_
      rw [hg a, if_neg (fun z => h (by rw [← z]; exact ha))]
    · show [((Sum.inl (e : Int) : Key), N_ c)] = [(Sum.inl (e : Int), N_ (g e))]
      rw [hg e, if_pos rfl]
theorem take_ind {P : List (List Nat) → Prop} (L : List (List Nat)) (h0 : P []) (hs : ∀ i m, L[i]? = some m → P (L.take i) → P (L.take i ++ [m])) : ∀ i, i ≤ L.length → P (L.take i)
  | 0, _ => by rw [List.take_zero]; exact h0
  | i + 1, h => by
    have hi : L[i]? = some L[i] := List.getElem?_eq_getElem h
    rw [take_snocA hi]
    exact hs i _ hi (take_ind L h0 hs i (by omega))
/-- nothing is told of an exponent that has not come; each one stands once -/
theorem ks_ok (p : Nat) (L : List (List Nat)) : ∀ i, i ≤ L.length → (ksI (L.take i)).Nodup ∧ (∀ e, e ∉ ksI (L.take i) → totL p (L.take i) e = 0) ∧ (ksI (L.take i)).length ≤ i := by
  intro i
  induction i with
  | zero => exact fun _ => ⟨by rw [List.take_zero]; exact List.Pairwise.nil, fun e _ => by rw [List.take_zero]; rfl, by rw [List.take_zero]; exact Nat.zero_le _⟩
  | succ i ih =>
    intro h
    obtain ⟨h1, h2, h3⟩ := ih (by omega)
    have hi : L[i]? = some L[i] := List.getElem?_eq_getElem h
    rw [take_snocA hi, ks_snoc]
    by_cases hm : expN 0 L[i] ∈ ksI (L.take i)
    · rw [if_pos hm]
      refine ⟨h1, fun e he => ?_, by omega⟩
      rw [tot_snoc, h2 e he, if_neg (fun z => he (by rw [← z]; exact hm))]
    · rw [if_neg hm]
      refine ⟨List.nodup_append.mpr ⟨h1, by simp, fun a ha b hb z => hm (by rw [← List.mem_singleton.mp hb, ← z]; exact ha)⟩, fun e he => ?_, by rw [List.length_append]; show _ + 1 ≤ _; omega⟩
      rw [tot_snoc, h2 e (fun z => he (List.mem_append_left _ z)), if_neg (fun z => he (List.mem_append_right _ (List.mem_singleton.mpr z.symm)))]

def RetSb (q d : Nat) (L : List (List Nat)) (H : Hp) (Q : VK) : Prop := ∀ (r : Addr) (zs : List Nat) H', H r = none → Ex H H' → zs.Perm (ksI L) → zs.Pairwise (· ≤ ·) → H' r = some (.dK (kvT (fun e => sgN q d (totL (prE q) L e)) (zs.filter fun e => decide (sgN q d (totL (prE q) L e) ≠ 0)))) → Q (.ref r) H'
def sp_sum_by_partings (K : PySem.W.Frag) : Sp := fun vs H Q _ => ∃ (q d k : Nat), vs = [N_ q, N_ d, N_ k] ∧ Fq q ∧ d ≤ 12 ∧ k < 1024 ∧ (bndI q (prE q) (poE q) d k = true → okList q (prE q) (poE q) d [([], k)] = true) ∧ (allI q (prE q) (poE q) d k).length ≤ 2000 ∧ (∀ m ∈ allI q (prE q) (poE q) d k, m.length ≤ 13 ∧ ∀ x ∈ m, x ≤ k) ∧ RetSb q d (allI q (prE q) (poE q) d k) H Q

section
variable {K : PySem.W.Frag} {σ : L2.St} {H H' : Hp} {ta tb tc te tl tn to ti tv td tk : TE} {t : TT} {D : Ends} {tu tz : TS} {v : V}
theorem q_asgD0 {i : Nat} (k : ∀ t, H t = none → tz D (σ.set i (some (.ref t))) (upd H t (.dK []))) : tSeq (tAsg tDNewK (gName i)) tz D σ H := k
theorem s_dputV {a : Addr} {kvs : List (Key × V)} {k : Key} (hv : Ev tv σ H v) (ho : Ev to σ H (.ref a)) (hi : Ev ti σ H (kV k)) (hd : H a = some (.dK kvs)) (hz : kvs.length < 100000) (kk : ∀ H1, Ex H H1 → D.nx σ (upd H1 a (.dK (putK kvs k v)))) : sDPut to ti tv D σ H :=
  hv H (Ex.refl H) _ fun H1 e1 => ho H1 e1 _ fun H2 e2 => hi H2 (e1.trans e2) _ fun H3 e3 => ⟨a, _, rfl, DPut.k (k := k) (((e1.trans e2).trans e3) _ _ hd) (sz_lt hz), kk H3 ((e1.trans e2).trans e3)⟩
theorem ev_dget2 {a : Addr} {kvs : List (Key × V)} {k : Key} {z : V} (h : Ev ta σ H (.ref a)) (hk : Ev tk σ H (kV k)) (hd : H a = some (.dK kvs)) : Ev (tDGet2 ta tk (tC z)) σ H ((valV kvs k).getD z) := fun H1 e Q q =>
  h H1 e _ fun H2 e2 => ⟨a, rfl, .inl ⟨kvs, .inl (e2 _ _ (e _ _ hd))⟩, hk H2 (e.trans e2) _ fun H3 e3 => ⟨valV kvs k, DGet.k (e3 _ _ (e2 _ _ (e _ _ hd))), q H3 (e2.trans e3)⟩⟩
theorem ev_dgI {a : Addr} {kvs : List (Key × V)} {k : Key} (h : Ev td σ H (.ref a)) (hk : Ev tk σ H (kV k)) (hd : ∀ H1, Ex H H1 → Rd H1 a (.dK kvs)) (hv : valV kvs k = some v) : Ev (tDGet td tk) σ H v := fun H1 e Q q =>
  h H1 e _ fun H2 e2 => hk H2 (e.trans e2) _ fun H3 e3 => ⟨a, v, rfl, .inl ⟨kvs, k, hd H3 ((e.trans e2).trans e3), rfl, hv.symm⟩, q H3 (e2.trans e3)⟩
end
theorem sqt_putD {K : PySem.W.Frag} {H H' : Hp} {p m : Addr} {kvs : List (Key × V)} {xs : List V} (hp : H p = some (.dK kvs)) (e : Exd p H H') (h : SqT K H m xs) : SqT K H' m xs := by
  rcases h with (h | ⟨o, h⟩) | h
  · exact .inl (.inl (e m _ (fun z => by rw [z, hp] at h; cases h) h))
  · exact .inl (.inr ⟨o, e m _ (fun z => by rw [z, hp] at h; cases h) h⟩)
  · exact .inr h
theorem Tps.putD {K : PySem.W.Frag} {H H' : Hp} {rs : List Addr} {xss : List (List Nat)} {p : Addr} {kvs : List (Key × V)} (h : Tps K H rs xss) (hp : H p = some (.dK kvs)) (e : Exd p H H') : Tps K H' rs xss := ⟨h.1, fun i r xs e1 e2 => sqt_putD hp e (h.2 i r xs e1 e2)⟩
/-- {..: .. for x in list}, {..: .. for x in dict that stays} -/
theorem dc_list {K : PySem.W.Frag} {a : Addr} {xs : List V} {g : TG} {tt : TT} {tk tv : TE} {vs : List Nat} {σ : L2.St} {H1 : Hp} {D : Addr} {Qd : Hp → Prop} (Pv : Nat → Hp → Prop) (h0 : Pv 0 (upd H1 D (.dK []))) (hl : ∀ i H, i ≤ xs.length → Pv i H → SqL K H a xs)
    (hs : ∀ i x H, xs[i]? = some x → Pv i H → g x (wipe σ vs) H fun σ2 H2 => wipe σ2 vs = wipe σ vs ∧ tt σ2 H2 fun b H3 =>
      if b = true then tk σ2 H3 fun y H4 => tv σ2 H4 fun z H5 => ∃ kvs k, y = kV k ∧ H5 D = some (.dK kvs) ∧ kvs.length < sizeLine ∧ Pv (i + 1) (upd H5 D (.dK (putK kvs k z))) else Pv (i + 1) H3) (hd : ∀ H, Pv xs.length H → Qd H) :
    ∃ W : Nat → Nat → Hp → Prop, (∃ m, W 0 m (upd H1 D (.dK []))) ∧ ∀ i m H, W i m H →
      ((Itl K a).stop i H ∧ Qd H) ∨ ((Itl K a).go i H ∧ ∃ Nx : Hp → Prop, (∀ H', Nx H' → ∃ m', m' < m ∧ W (i + 1) m' H') ∧ ∀ x H', (Itl K a).yld i H x H' → g x (wipe σ vs) H' fun σ2 H2 => wipe σ2 vs = wipe σ vs ∧ tt σ2 H2 fun b H3 =>
        if b = true then tk σ2 H3 fun y H4 => tv σ2 H4 fun z H5 => ∃ kvs k, y = kV k ∧ H5 D = some (.dK kvs) ∧ kvs.length < sizeLine ∧ Nx (upd H5 D (.dK (putK kvs k z))) else Nx H3) := by
  refine ⟨fun i m H => m = xs.length - i ∧ i ≤ xs.length ∧ Pv i H, ⟨xs.length, by simp, Nat.zero_le _, h0⟩, ?_⟩
  rintro i m H ⟨rfl, hi, p⟩
  have q := hl i H hi p
  by_cases hlt : i < xs.length
  · refine .inr ⟨⟨xs, xs[i], q, by simp [hlt]⟩, Pv (i + 1), fun H' p' => ⟨xs.length - (i + 1), by omega, rfl, hlt, p'⟩, fun x H' y => ?_⟩
    obtain ⟨e, y⟩ := y
    subst e
    exact hs i x _ (y xs q) p
  · have e : i = xs.length := by omega
    subst e
    exact .inl ⟨⟨xs, q, Nat.le_refl _⟩, hd H p⟩
theorem dc_keys {d : Addr} {o : Obj} {ws : List (Key × V)} {g : TG} {tt : TT} {tk tv : TE} {vs : List Nat} {σ : L2.St} {H1 : Hp} {D : Addr} {Qd : Hp → Prop} (Pv : Nat → Hp → Prop) (h0 : Pv 0 (upd H1 D (.dK []))) (hl : ∀ i H, i ≤ ws.length → Pv i H → H d = some (.frz o (.dK ws)))
    (hs : ∀ i k v H, ws[i]? = some (k, v) → Pv i H → g (kV k) (wipe σ vs) H fun σ2 H2 => wipe σ2 vs = wipe σ vs ∧ tt σ2 H2 fun b H3 =>
      if b = true then tk σ2 H3 fun y H4 => tv σ2 H4 fun z H5 => ∃ kvs k, y = kV k ∧ H5 D = some (.dK kvs) ∧ kvs.length < sizeLine ∧ Pv (i + 1) (upd H5 D (.dK (putK kvs k z))) else Pv (i + 1) H3) (hd : ∀ H, Pv ws.length H → Qd H) :
    ∃ W : Nat → Nat → Hp → Prop, (∃ m, W 0 m (upd H1 D (.dK []))) ∧ ∀ i m H, W i m H →
      ((Itk d o ws).stop i H ∧ Qd H) ∨ ((Itk d o ws).go i H ∧ ∃ Nx : Hp → Prop, (∀ H', Nx H' → ∃ m', m' < m ∧ W (i + 1) m' H') ∧ ∀ x H', (Itk d o ws).yld i H x H' → g x (wipe σ vs) H' fun σ2 H2 => wipe σ2 vs = wipe σ vs ∧ tt σ2 H2 fun b H3 =>
        if b = true then tk σ2 H3 fun y H4 => tv σ2 H4 fun z H5 => ∃ kvs k, y = kV k ∧ H5 D = some (.dK kvs) ∧ kvs.length < sizeLine ∧ Nx (upd H5 D (.dK (putK kvs k z))) else Nx H3) := by
  refine ⟨fun i m H => m = ws.length - i ∧ i ≤ ws.length ∧ Pv i H, ⟨ws.length, by simp, Nat.zero_le _, h0⟩, ?_⟩
  rintro i m H ⟨rfl, hi, p⟩
  have q := hl i H hi p
  by_cases hlt : i < ws.length
  · refine .inr ⟨⟨q, hlt⟩, Pv (i + 1), fun H' p' => ⟨ws.length - (i + 1), by omega, rfl, hlt, p'⟩, fun x H' y => ?_⟩
    obtain ⟨e, k, v, y, z⟩ := y
    subst e
    subst z
    exact hs i k v _ y p
  · have e : i = ws.length := by omega
    subst e
    exact .inl ⟨⟨q, Nat.le_refl _⟩, hd H p⟩
theorem zs_of {ys : List Int} {ks : List Nat} (h : ys.Perm (ks.map Int.ofNat)) : ∃ zs : List Nat, ys = zs.map Int.ofNat ∧ zs.Perm ks := by
  refine ⟨ys.map Int.toNat, ?_, ?_⟩
  · rw [List.map_map]
    refine (List.map_id _).symm.trans (List.map_congr_left fun y hy => ?_)
    obtain ⟨k, _, rfl⟩ := List.mem_map.mp (h.mem_iff.mp hy)
    rfl
  · have := h.map Int.toNat
    rw [List.map_map] at this
    exact this.trans (List.Perm.of_eq ((List.map_congr_left fun y _ => rfl).trans (List.map_id _)))

theorem ite_t {A B : Prop} (h : A) : if true = true then A else B := by rw [if_pos rfl]; exact h
theorem yes_t {σ : L2.St} {H : Hp} {A B : Hp → Prop} (h : A H) : tYes σ H (fun b H3 => if b = true then A H3 else B H3) := by
  show (if true = true then A H else B H)
  rw [if_pos rfl]
  exact h
theorem ite_f {A B : Prop} (h : B) : if false = true then A else B := by rw [if_neg (by decide)]; exact h
theorem unlock_ex {H H1 : Hp} {d : Addr} {u v : HO} (h : H d = some u) (e : Ex (upd H d v) H1) : Ex H (upd H1 d u) := fun a o ha => by
  by_cases hd : a = d
  · subst hd
    rw [upd_same]
    rw [h] at ha
    exact ha
  · rw [upd_ne hd]
    exact e a o (by rw [upd_ne hd]; exact ha)
theorem nodup_take {zs : List Nat} (h : zs.Nodup) {i z : Nat} (hz : zs[i]? = some z) : z ∉ zs.take i := fun hm => by
  have h1 : (zs.take (i + 1)).Nodup := h.sublist (List.take_sublist _ _)
  rw [take_snocA hz] at h1
  exact (List.nodup_append.mp h1).2.2 z hm z (List.mem_singleton.mpr rfl) rfl

theorem ok_sum_by_partings {P : Program} {w : World} {K : PySem.W.Frag} {mg : Str → Option Value} {base : Heap} (T : Txt K mg) : FnOk P w K mg base CX0 9 T.a_sum_by_partings T.d_sum_by_partings ["q", "d", "k"] (sp_sum_by_partings K) := by
  refine T.F_sum_by_partings.ok sc_sum_by_partings (fun vs H Q E h => ?_) (fun cdv A outer s H vs Q E hr h => ?_)
  · obtain ⟨q, d, k, rfl, _⟩ := h
    rfl
  · obtain ⟨q, d, k, rfl, hq, hd, hk, hok, hll, hmm, kk⟩ := h
    refine ⟨_, (pss_cons (ps_expr (pe_call (ok_check_sum T) (hr.mono (by decide)) (by rfl) T.g_check_sum T.F_check_sum.kp T.b_check_sum .nil pass0 (pa_cons (pv 0) (pa_cons (pv 1) (pa_cons (pv 2) pa_nil)))))
      (pss_cons (ps_set (i := 3) sc_sum_by_partings.nd rfl (Or.inr rfl) pe_dnewK)
      (pss_cons (ps_for PassesOwn.never rfl (pi_list (pe_call (ok_found_partings T) (hr.mono (by decide)) (by rfl) T.g_found_partings T.F_found_partings.kp T.b_found_partings .nil pass0 (pa_cons (pv 0) (pa_cons (pv 1) (pa_cons (pv 2) pa_nil))))) (pg_name (i := 4) sc_sum_by_partings.nd rfl (Or.inl rfl)) (pss_cons (ps_set (i := 5) sc_sum_by_partings.nd rfl (Or.inl rfl) (pe_call (ok_members_exponent T) (hr.mono (by decide)) (by rfl) T.g_members_exponent T.F_members_exponent.kp T.b_members_exponent .nil pass0 (pa_cons (pv 4) pa_nil)))
      (pss_one (ps_dput (hu_of hr) (pv 3) (pv 5) (pe_op op_add (pe_dget2 (hu_of hr) (pv 3) (pv 5) pe_int ⟨by rfl, by rfl, by rfl, by rfl⟩) (pe_call (ok_lots_rest T) (hr.mono (by decide)) (by rfl) T.g_lots_rest T.F_lots_rest.kp T.b_lots_rest .nil pass0 (pa_cons (pe_ix (r := rIxW K) ix_tab (pe_glob (v := .ref T.a_PRIMES) (by rfl) T.g_PRIMES rfl) (pv 0) (fun _ _ => rfl)) (pa_cons (pv 4) pa_nil)))) rfl))))
      (pss_cons (ps_set (i := 6) sc_sum_by_partings.nd rfl (Or.inr rfl) (pe_dc (own := [("exponent", 5)]) (g := gName 5) rfl sc_sum_by_partings.nd (pi_list (pe_callB (call_sortedDn rfl) (by rfl) T.z_sorted (by decide +kernel) (pa_cons (pv 3) pa_nil))) (blkOk_by (N := ["q", "d", "k", "totals", "members", "exponent", "told"]) (sc := defScope s_sum_by_partings) (by decide +kernel)) (fun _ _ _ _ _ => pg_name (i := 5) sc_sum_by_partings.nd rfl (Or.inl rfl)) (fun _ _ _ _ _ => pts_nil) (fun _ _ _ _ _ => (pv 5)) (fun _ _ _ _ _ => (pe_call (ok_signed T) (hr.mono (by decide)) (by rfl) T.g_signed T.F_signed.kp T.b_signed .nil pass0 (pa_cons (pv 0) (pa_cons (pv 1) (pa_cons (pe_dget (hu_of hr) (pv 3) (pv 5) (fun _ _ => rfl)) pa_nil)))))))
      (pss_one (ps_ret (pe_lock (pe_dc (own := [("exponent", 5)]) (g := gName 5) rfl sc_sum_by_partings.nd (pi_keys (pv 6)) (blkOk_by (N := ["q", "d", "k", "totals", "members", "exponent", "told"]) (sc := defScope s_sum_by_partings) (by decide +kernel)) (fun _ _ _ _ _ => pg_name (i := 5) sc_sum_by_partings.nd rfl (Or.inl rfl)) (fun _ _ _ _ _ => (pts_one (pt_cmpR op_ne (pe_dget (hu_of hr) (pv 6) (pv 5) (fun _ _ => rfl)) pe_int (nomark _)))) (fun _ _ _ _ _ => (pv 5)) (fun _ _ _ _ _ => (pe_dget (hu_of hr) (pv 6) (pv 5) (fun _ _ => rfl))))))))))), ?_⟩
    have ht := t0_of hq
    generalize hL : allI q (prE q) (poE q) d k = L at *
    refine q_drop (ev_call (ea_cons (ev_var rfl) (ea_cons (ev_var rfl) (ea_cons (ev_var rfl) ea_nil))) (sv_check_sum hq (by omega) (Nat.lt_trans hk (by decide)))) fun H1 e1 => ?_
    refine q_asgD0 fun t nt => ?_
    have e1t : Ex H1 (upd H1 t (.dK [])) := Ex.new nt
    refine q_forPs (K := K) (xss := L) (ep_call (ea_cons (ev_var rfl) (ea_cons (ev_var rfl) (ea_cons (ev_var rfl) ea_nil))) (fun H2 e2 Q q2 E => ⟨q, d, k, rfl, hq, hd, hk, hok, by rw [hL]; exact q2⟩)) (fun p rs i σ H' => ∃ y4 y5 : Option V, σ = [some (N_ q), some (N_ d), some (N_ k), some (.ref t), y4, y5, none] ∧ Ex H1 H' ∧ H' t = some (.dK (kvT (totL (prE q) (L.take i)) (ksI (L.take i)))) ∧ H' p = some (.lst (rs.map V.ref)) ∧ Tps K H' rs L) (fun p rs H2 np e2 h2 t2 => ⟨none, none, rfl, e1t.trans e2, by rw [List.take_zero]; exact e2 _ _ upd_same, h2, t2⟩) (fun p rs i σ H2 _ hw => ?_) (fun p rs i r xs σ H2 hxi s2 hw => ?_) (fun p rs σ H2 hw => ?_)
    · obtain ⟨y4, y5, rfl, e2, h2, sl, t2⟩ := hw
      exact ⟨sq_of sl, t2⟩
    · obtain ⟨y4, y5, rfl, e2, h2, sl, t2⟩ := hw
      obtain ⟨hxl, hxk⟩ := hmm xs (List.mem_of_getElem? hxi)
      have hil := (List.getElem?_eq_some_iff.mp hxi).1
      obtain ⟨hnd, hz0, hkl⟩ := ks_ok (prE q) L i (Nat.le_of_lt hil)
      have hbig : ∀ x ∈ xs, x < 10 ^ 60 := fun x hx => Nat.lt_of_le_of_lt (Nat.le_trans (hxk x hx) (Nat.le_of_lt hk)) (by decide)
      refine q_asg (v := N_ (expN 0 xs)) (ev_call (ea_cons (ev_var rfl) ea_nil) (sv_members_exponent (K := K) s2 (by omega) (fun x hx => k300f (hbig x hx)))) fun H3 e3 => ?_
      have hv : (valV (kvT (totL (prE q) (L.take i)) (ksI (L.take i))) (Sum.inl ((expN 0 xs : Nat) : Int))).getD (.int 0) = N_ (totL (prE q) (L.take i) (expN 0 xs)) := by
        rw [val_kvT]
        by_cases h : expN 0 xs ∈ ksI (L.take i)
        · rw [if_pos h]; rfl
        · rw [if_neg h, hz0 _ h]; rfl
      refine s_dputV (k := Sum.inl ((expN 0 xs : Nat) : Int)) (v := N_ (totL (prE q) (L.take i) (expN 0 xs) + chV (prE q) xs)) (ev_is (ev_op (ev_is (ev_dget2 (k := Sum.inl ((expN 0 xs : Nat) : Int)) (ev_var rfl) (ev_var rfl) (e3 _ _ h2)) hv) (ev_call (ea_cons (ev_tab0 T.w_PRIMES ht.pr (ev_var rfl)) (ea_cons (ev_var rfl) ea_nil)) (sv_lots_rest (K := K) (pr_p4 hq) (ex_t e3 s2) hbig)) rv_I0) (congrArg V.int (Int.natCast_add _ _).symm)) (ev_var rfl) (ev_var rfl) (e3 _ _ h2) (by unfold kvT; rw [List.length_map]; omega) fun H4 e4 => ?_
      have hpt : p ≠ t := fun z => by rw [z, h2] at sl; cases sl
      refine ⟨_, _, rfl, Ex.mut (e2.trans (e3.trans e4)) nt, ?_, by rw [upd_ne hpt]; exact (e3.trans e4) _ _ sl, (t2.ex (e3.trans e4)).putD ((e3.trans e4) _ _ h2) Exd.put⟩
      rw [upd_same, take_snocA hxi, ks_snoc, put_kvT _ (totL (prE q) (L.take i ++ [xs])) _ _ _ (fun a => ?_)]
      rw [tot_snoc]
      by_cases ha : a = expN 0 xs
      · rw [if_pos ha, if_pos ha.symm, ha]
      · rw [if_neg ha, if_neg (fun z => ha z.symm), Nat.add_zero]
    · obtain ⟨y4, y5, rfl, e2, h2, sl, t2⟩ := hw
      rw [List.take_length] at h2
      obtain ⟨hnd, hz0, hkl⟩ := ks_ok (prE q) L L.length (Nat.le_refl _)
      rw [List.take_length] at hnd hz0 hkl
      refine ⟨.ref t, rfl, t, _, (ksI L).map Int.ofNat, rfl, .inl h2, by unfold kvT; rw [List.map_map, List.map_map]; rfl, by rw [List.length_map]; omega, fun ys p2 hperm hsort np2 => ⟨p2, rfl, ⟨_, sq_of upd_same⟩, fun D nD => ?_⟩⟩
      obtain ⟨zs, rfl, hzp⟩ := zs_of hperm
      have hzn : zs.Nodup := hzp.nodup_iff.mpr hnd
      have hzl : zs.length ≤ 2000 := by rw [hzp.length_eq]; omega
      have hx0 : Ex H2 (upd H2 p2 (.lst ((zs.map Int.ofNat).map V.int))) := Ex.new np2
      refine dc_list (K := K) (xs := (zs.map Int.ofNat).map V.int) (fun i H' => Ex (upd H2 p2 (.lst ((zs.map Int.ofNat).map V.int))) H' ∧ H' D = some (.dK (kvT (fun e => sgN q d (totL (prE q) L e)) (zs.take i)))) ⟨Ex.new nD, by rw [List.take_zero]; exact upd_same⟩ (fun i H' _ w => sq_of (w.1 _ _ upd_same)) (fun i x H3 hx w => ?_) (fun H3 w => ?_)
      · rw [List.map_map, List.getElem?_map] at hx
        obtain ⟨z, hz, rfl⟩ := Option.map_eq_some_iff.mp hx
        have hzk : z ∈ ksI L := hzp.mem_iff.mp (List.mem_of_getElem? hz)
        refine ⟨rfl, yes_t ?_⟩
        refine ⟨_, rfl, ?_⟩
        refine (ev_call (ea_cons (ev_var rfl) (ea_cons (ev_var rfl) (ea_cons (ev_dgI (k := Sum.inl (z : Int)) (v := N_ (totL (prE q) L z)) (ev_var rfl) (ev_var rfl) (fun H4 e4 => .inl (((hx0.trans w.1).trans e4) _ _ h2)) (by rw [val_kvT, if_pos hzk])) ea_nil))) (sv_signed (K := K) hq)) H3 (Ex.refl H3) _ fun H4 e4 => ⟨_, Sum.inl (z : Int), rfl, e4 _ _ w.2, sz_lt (by unfold kvT; rw [List.length_map, List.length_take]; omega), Ex.mut (w.1.trans e4) nD, ?_⟩
        rw [upd_same, take_snocA hz, put_kvT _ (fun e => sgN q d (totL (prE q) L e)) z _ _ (fun a => by by_cases ha : a = z <;> simp [ha]), if_neg (nodup_take hzn hz)]
      · rw [List.length_map, List.length_map, List.take_length] at w
        have e23 : Ex H1 H3 := (e2.trans hx0).trans w.1
        refine ⟨D, _, w.2, True.intro, fun od => ⟨.ref D, rfl, D, od, rfl, .inl ⟨_, upd_same, fun D2 nD2 => ?_⟩⟩⟩
        have hDD : D2 ≠ D := fun z => by rw [z, upd_same] at nD2; cases nD2
        refine dc_keys (ws := kvT (fun e => sgN q d (totL (prE q) L e)) zs) (fun i H' => Ex (upd H3 D (.frz od (.dK (kvT (fun e => sgN q d (totL (prE q) L e)) zs)))) H' ∧ H' D2 = some (.dK (kvT (fun e => sgN q d (totL (prE q) L e)) ((zs.take i).filter fun e => decide (sgN q d (totL (prE q) L e) ≠ 0))))) ⟨Ex.new nD2, by rw [List.take_zero]; exact upd_same⟩ (fun i H' _ w4 => w4.1 _ _ upd_same) (fun i ky v H4 hx w4 => ?_) (fun H4 w4 => ?_)
        · unfold kvT at hx
          rw [List.getElem?_map] at hx
          obtain ⟨z, hz, hkv⟩ := Option.map_eq_some_iff.mp hx
          obtain ⟨rfl, rfl⟩ := Prod.mk.inj hkv
          have hzz : z ∈ zs := List.mem_of_getElem? hz
          have hget : ∀ {H5 : Hp}, Ex H4 H5 → Ev (tDGet (tVar 6) (tVar 5)) [some (N_ q), some (N_ d), some (N_ k), some (.ref t), y4, some (N_ z), some (.ref D)] H5 (N_ (sgN q d (totL (prE q) L z))) := fun {H5} e5 => ev_dgI (k := Sum.inl (z : Int)) (ev_var rfl) (ev_var rfl) (fun H6 e6 => .inr ⟨od, ((w4.1.trans e5).trans e6) _ _ upd_same⟩) (by rw [val_kvT, if_pos hzz])
          refine ⟨rfl, (et_is (b := decide (sgN q d (totL (prE q) L z) ≠ 0)) (et_test (ev_op (hget (Ex.refl H4)) ev_c (rv_ne rfl))) ?_) H4 (Ex.refl H4) _ fun H5 e5 => ?_⟩
          · refine (congrArg (fun b => !b) (dec_int (x := sgN q d (totL (prE q) L z)) (y := 0))).trans ?_
            by_cases h0 : sgN q d (totL (prE q) L z) = 0
            · rw [decide_eq_true h0, decide_eq_false (fun n => n h0)]; rfl
            · rw [decide_eq_false h0, decide_eq_true h0]; rfl
          · by_cases h0 : sgN q d (totL (prE q) L z) ≠ 0
            · rw [decide_eq_true h0]
              refine ite_t ?_
              refine ⟨_, rfl, (hget e5) H5 (Ex.refl H5) _ fun H6 e6 => ⟨_, Sum.inl (z : Int), rfl, (e5.trans e6) _ _ w4.2, sz_lt (by unfold kvT; rw [List.length_map]; exact Nat.lt_of_le_of_lt (List.length_filter_le _ _) (by rw [List.length_take]; omega)), Ex.mut ((w4.1.trans e5).trans e6) nD2, ?_⟩⟩
              rw [upd_same, take_snocA hz, put_kvT _ (fun e => sgN q d (totL (prE q) L e)) z _ _ (fun a => by by_cases ha : a = z <;> simp [ha]), if_neg (fun hm => nodup_take hzn hz (List.mem_filter.mp hm).1), List.filter_append, List.filter_cons_of_pos (by exact decide_eq_true h0), List.filter_nil]
            · rw [decide_eq_false h0]
              refine ite_f ⟨w4.1.trans e5, ?_⟩
              rw [take_snocA hz, List.filter_append, List.filter_cons_of_neg (by rw [decide_eq_false h0]; decide), List.filter_nil, List.append_nil]
              exact e5 _ _ w4.2
        · unfold kvT at w4
          rw [List.length_map, List.take_length] at w4
          have hn2 : H3 D2 = none := by rw [upd_ne hDD] at nD2; exact nD2
          refine ⟨w4.1 _ _ upd_same, kk D2 zs _ (fresh_back (e1.trans e23) hn2) ((e1.trans e23).trans (unlock_ex w.2 w4.1)) hzp (List.Pairwise.imp (fun h => Int.ofNat_le.mp h) (List.pairwise_map.mp hsort)) (by rw [upd_ne hDD]; exact w4.2)⟩


end Own
/-! values of any kind: what is an integer, what is a parting -/
namespace Own
open PySem PySem.Spec PyProof.Rows L2 Evl

/-- a value's kind -/
inductive Vk where
  | int (z : Int)
  | bl (b : Bool)
  | oth
/-- what is no truth value and no integer; whether it is a tuple -/
inductive Ot_ (K : PySem.W.Frag) (N : Addr → Prop) (H : Hp) : V → Bool → Prop where
  | non : Ot_ K N H .non false
  | str (x : Str) : Ot_ K N H (.str x) false
  | lst {a : Addr} {xs : List V} (n : N a) (h : H a = some (.lst xs)) : Ot_ K N H (.ref a) false
  | dk {a : Addr} {kvs : List (Key × V)} (n : N a) (h : H a = some (.dK kvs)) : Ot_ K N H (.ref a) false
  | tup {a : Addr} {xs : List V} (h : SqT K H a xs) : Ot_ K N H (.ref a) true
def It_ (K : PySem.W.Frag) (N : Addr → Prop) (H : Hp) (v : V) : Vk → Prop
  | .int z => v = .int z
  | .bl b => v = .bl b
  | .oth => ∃ t, Ot_ K N H v t
section
variable {K : PySem.W.Frag} {N : Addr → Prop} {H H' : Hp} {v : V} {t : Bool} {kd : Vk}
theorem Ot_.mv (h : Ot_ K N H v t) (k1 : ∀ a xs, N a → H a = some (.lst xs) → H' a = some (.lst xs)) (k2 : ∀ a kvs, N a → H a = some (.dK kvs) → H' a = some (.dK kvs)) (k3 : ∀ a xs, SqT K H a xs → SqT K H' a xs) : Ot_ K N H' v t := by
  cases h with
  | non => exact .non
  | str x => exact .str x
  | lst n h => exact .lst n (k1 _ _ n h)
  | dk n h => exact .dk n (k2 _ _ n h)
  | tup h => exact .tup (k3 _ _ h)
theorem Ot_.ex (h : Ot_ K N H v t) (e : Ex H H') : Ot_ K N H' v t := h.mv (fun _ _ _ h => e _ _ h) (fun _ _ _ h => e _ _ h) (fun _ _ h => ex_t e h)
theorem It_.ex (h : It_ K N H v kd) (e : Ex H H') : It_ K N H' v kd := by
  cases kd with
  | oth =>
    obtain ⟨t, h⟩ := h
    exact ⟨t, h.ex e⟩
  | _ => exact h
theorem oth_ty (h : Ot_ K N H v t) : ∃ T : String, TyX K H v (.type T) ∧ PySem.W.kitOne K (.type T) (.type "int") = some false ∧ PySem.W.kitOne K (.type T) (.type "bool") = some false ∧ PySem.W.kitOne K (.type T) (.type "tuple") = some t := by
  cases h with
  | non => exact ⟨"NoneType", .base .non, kit_ty (by decide +kernel), kit_ty (by decide +kernel), kit_ty (by decide +kernel)⟩
  | str x => exact ⟨"str", .base (.str x), kit_ty (by decide +kernel), kit_ty (by decide +kernel), kit_ty (by decide +kernel)⟩
  | lst n h => exact ⟨"list", .base (.lst h), kit_ty (by decide +kernel), kit_ty (by decide +kernel), kit_ty (by decide +kernel)⟩
  | dk n h => exact ⟨"dict", .base (.dK h), kit_ty (by decide +kernel), kit_ty (by decide +kernel), kit_ty (by decide +kernel)⟩
  | tup h => exact ⟨"tuple", tyx_tup h, kit_ty (by decide +kernel), kit_ty (by decide +kernel), kit_ty (by decide +kernel)⟩
def isI : Vk → Bool
  | .oth => false
  | _ => true
def isB : Vk → Bool
  | .bl _ => true
  | _ => false
theorem it_int (h : It_ K N H v kd) : RC (rIsi K) [v, .ty "int"] H (.bl (isI kd)) := by
  cases kd with
  | int z => cases (show v = .int z from h); exact rc_isi (b := true) (.base (.int z)) (kit_ty (by decide +kernel))
  | bl b => cases (show v = .bl b from h); exact rc_isi (b := true) (.base (.bl b)) (kit_ty (by decide +kernel))
  | oth =>
    obtain ⟨t, h⟩ := h
    obtain ⟨T, h1, h2, _, _⟩ := oth_ty h
    exact rc_isi h1 h2
theorem it_bool (h : It_ K N H v kd) : RC (rIsi K) [v, .ty "bool"] H (.bl (isB kd)) := by
  cases kd with
  | int z => cases (show v = .int z from h); exact rc_isi (b := false) (.base (.int z)) (kit_ty (by decide +kernel))
  | bl b => cases (show v = .bl b from h); exact rc_isi (b := true) (.base (.bl b)) (kit_ty (by decide +kernel))
  | oth =>
    obtain ⟨t, h⟩ := h
    obtain ⟨T, h1, _, h2, _⟩ := oth_ty h
    exact rc_isi h1 h2
end
def smB (z : Int) : Bool := decide (-1000000000000000000000000000000000000000000000000000000000000 < z) && decide (z < 1000000000000000000000000000000000000000000000000000000000000)
def inB : Vk → Bool
  | .int z => smB z
  | _ => false
def btw (lo hi : Int) : Vk → Bool
  | .int z => smB z && (decide (lo ≤ z) && decide (z ≤ hi))
  | _ => false
def spV_is_integer (K : PySem.W.Frag) : Sp := fun vs H Q _ => ∃ (v : V) (N : Addr → Prop) (kd : Vk), vs = [v] ∧ It_ K N H v kd ∧ RetV (.bl (inB kd)) H Q
theorem svV_is_integer {K : PySem.W.Frag} {N : Addr → Prop} {H : Hp} {v : V} {kd : Vk} (h : It_ K N H v kd) : SpV (spV_is_integer K) [v] H (.bl (inB kd)) := fun H1 e Q q E => ⟨v, N, kd, rfl, h.ex e, q⟩
def spV_is_between (K : PySem.W.Frag) : Sp := fun vs H Q _ => ∃ (v : V) (N : Addr → Prop) (kd : Vk) (lo hi : Int), vs = [v, .int lo, .int hi] ∧ It_ K N H v kd ∧ RetV (.bl (btw lo hi kd)) H Q
theorem svV_is_between {K : PySem.W.Frag} {N : Addr → Prop} {H : Hp} {v : V} {kd : Vk} {lo hi : Int} (h : It_ K N H v kd) : SpV (spV_is_between K) [v, .int lo, .int hi] H (.bl (btw lo hi kd)) := fun H1 e Q q E => ⟨v, N, kd, lo, hi, rfl, h.ex e, q⟩

theorem okV_is_integer {P : Program} {w : World} {K : PySem.W.Frag} {mg : Str → Option Value} {base : Heap} (T : Txt K mg) : FnOk P w K mg base CX0 1 T.a_is_integer T.d_is_integer ["value"] (spV_is_integer K) := by
  refine T.F_is_integer.ok sc_is_integer (fun vs H Q E h => ?_) (fun cdv A outer s H vs Q E hr h => ?_)
  · obtain ⟨v, N, kd, rfl, _⟩ := h
    rfl
  · obtain ⟨v, N, kd, rfl, hv, k⟩ := h
    refine ⟨_, (pss_one (ps_ret (pe_and (pe_callB call_isi (by rfl) T.z_isinstance (by decide +kernel) (pa_cons (pv 0) (pa_cons (pe_bltn (v := .ty "int") (u := .type "int") (by rfl) T.z_int (by decide +kernel) rfl) pa_nil))) (pe_and (pe_not (pe_callB call_isi (by rfl) T.z_isinstance (by decide +kernel) (pa_cons (pv 0) (pa_cons (pe_bltn (v := .ty "bool") (u := .type "bool") (by rfl) T.z_bool (by decide +kernel) rfl) pa_nil)))) (pe_one (pe_chain op_lt op_lt (pe_un un_neg (pe_glob (v := .int 1000000000000000000000000000000000000000000000000000000000000) (by rfl) T.c_TOO_LONG ⟨_, rfl⟩)) (pv 0) (pe_glob (v := .int 1000000000000000000000000000000000000000000000000000000000000) (by rfl) T.c_TOO_LONG ⟨_, rfl⟩))))))), ?_⟩
    cases kd with
    | int z =>
      cases (show v = .int z from hv)
      exact s_ret (ev_is (ev_andV (a := true) (ev_cb (ea_cons (ev_var rfl) (ea_cons ev_c ea_nil)) (it_int (N := N) hv)) fun _ =>
        (ev_andV (a := true) (ev_notV (ev_cb (ea_cons (ev_var rfl) (ea_cons ev_c ea_nil)) (it_bool (N := N) hv))) fun _ =>
          (ev_chain (ev_un ev_c ru_neg) (ev_var rfl) rv_I0 (fun _ => ev_c) (fun _ => rv_I0)))) rfl) fun H1 e1 => k H1 e1
    | bl b =>
      cases (show v = .bl b from hv)
      exact s_ret (ev_is (ev_andV (a := true) (b := false) (ev_cb (ea_cons (ev_var rfl) (ea_cons ev_c ea_nil)) (it_int (N := N) hv)) fun _ =>
        ev_is (ev_andV (a := false) (b := false) (ev_notV (ev_cb (ea_cons (ev_var rfl) (ea_cons ev_c ea_nil)) (it_bool (N := N) hv))) fun h => nomatch h) rfl) rfl) fun H1 e1 => k H1 e1
    | oth => exact s_ret (ev_is (ev_andV (a := false) (b := false) (ev_cb (ea_cons (ev_var rfl) (ea_cons ev_c ea_nil)) (it_int (N := N) hv)) fun h => nomatch h) rfl) fun H1 e1 => k H1 e1


theorem okV_is_between {P : Program} {w : World} {K : PySem.W.Frag} {mg : Str → Option Value} {base : Heap} (T : Txt K mg) : FnOk P w K mg base CX0 2 T.a_is_between T.d_is_between ["value", "low", "high"] (spV_is_between K) := by
  refine T.F_is_between.ok sc_is_between (fun vs H Q E h => ?_) (fun cdv A outer s H vs Q E hr h => ?_)
  · obtain ⟨v, N, kd, lo, hi, rfl, _⟩ := h
    rfl
  · obtain ⟨v, N, kd, lo, hi, rfl, hv, k⟩ := h
    refine ⟨_, (pss_one (ps_ret (pe_and (pe_call (okV_is_integer T) (hr.mono (by decide)) (by rfl) T.g_is_integer T.F_is_integer.kp T.b_is_integer .nil pass0 (pa_cons (pv 0) pa_nil)) (pe_one (pe_chain op_le op_le (pv 1) (pv 0) (pv 2)))))), ?_⟩
    cases kd with
    | int z =>
      cases (show v = .int z from hv)
      exact s_ret (ev_andV (a := smB z) (ev_call (ea_cons (ev_var rfl) ea_nil) (svV_is_integer hv)) fun _ => (ev_chain (ev_var rfl) (ev_var rfl) rv_I0 (fun _ => ev_var rfl) (fun _ => rv_I0))) fun H1 e1 => k H1 e1
    | bl b => exact s_ret (ev_is (ev_andV (a := false) (b := false) (ev_call (ea_cons (ev_var rfl) ea_nil) (svV_is_integer hv)) fun h => nomatch h) rfl) fun H1 e1 => k H1 e1
    | oth => exact s_ret (ev_is (ev_andV (a := false) (b := false) (ev_call (ea_cons (ev_var rfl) ea_nil) (svV_is_integer hv)) fun h => nomatch h) rfl) fun H1 e1 => k H1 e1


def frm (lo : Int) : Vk → Bool
  | .int z => smB z && decide (z ≥ lo)
  | _ => false
def fldB : Vk → Bool
  | .int z => smB z && decide (z ∈ W_FIELDS)
  | _ => false
def spV_is_from (K : PySem.W.Frag) : Sp := fun vs H Q _ => ∃ (v : V) (N : Addr → Prop) (kd : Vk) (lo : Int), vs = [v, .int lo] ∧ It_ K N H v kd ∧ RetV (.bl (frm lo kd)) H Q
theorem svV_is_from {K : PySem.W.Frag} {N : Addr → Prop} {H : Hp} {v : V} {kd : Vk} {lo : Int} (h : It_ K N H v kd) : SpV (spV_is_from K) [v, .int lo] H (.bl (frm lo kd)) := fun H1 e Q q E => ⟨v, N, kd, lo, rfl, h.ex e, q⟩
def spV_is_field (K : PySem.W.Frag) : Sp := fun vs H Q _ => ∃ (v : V) (N : Addr → Prop) (kd : Vk), vs = [v] ∧ It_ K N H v kd ∧ RetV (.bl (fldB kd)) H Q
theorem svV_is_field {K : PySem.W.Frag} {N : Addr → Prop} {H : Hp} {v : V} {kd : Vk} (h : It_ K N H v kd) : SpV (spV_is_field K) [v] H (.bl (fldB kd)) := fun H1 e Q q E => ⟨v, N, kd, rfl, h.ex e, q⟩

theorem okV_is_from {P : Program} {w : World} {K : PySem.W.Frag} {mg : Str → Option Value} {base : Heap} (T : Txt K mg) : FnOk P w K mg base CX0 2 T.a_is_from T.d_is_from ["value", "low"] (spV_is_from K) := by
  refine T.F_is_from.ok sc_is_from (fun vs H Q E h => ?_) (fun cdv A outer s H vs Q E hr h => ?_)
  · obtain ⟨v, N, kd, lo, rfl, _⟩ := h
    rfl
  · obtain ⟨v, N, kd, lo, rfl, hv, k⟩ := h
    refine ⟨_, (pss_one (ps_ret (pe_and (pe_call (okV_is_integer T) (hr.mono (by decide)) (by rfl) T.g_is_integer T.F_is_integer.kp T.b_is_integer .nil pass0 (pa_cons (pv 0) pa_nil)) (pe_one (pe_cmpR op_ge (pv 0) (pv 1) (nomark _)))))), ?_⟩
    cases kd with
    | int z =>
      cases (show v = .int z from hv)
      exact s_ret (ev_andV (a := smB z) (ev_call (ea_cons (ev_var rfl) ea_nil) (svV_is_integer hv)) fun _ => ev_op (ev_var rfl) (ev_var rfl) rv_I0) fun H1 e1 => k H1 e1
    | bl b => exact s_ret (ev_is (ev_andV (a := false) (b := false) (ev_call (ea_cons (ev_var rfl) ea_nil) (svV_is_integer hv)) fun h => nomatch h) rfl) fun H1 e1 => k H1 e1
    | oth => exact s_ret (ev_is (ev_andV (a := false) (b := false) (ev_call (ea_cons (ev_var rfl) ea_nil) (svV_is_integer hv)) fun h => nomatch h) rfl) fun H1 e1 => k H1 e1


theorem okV_is_field {P : Program} {w : World} {K : PySem.W.Frag} {mg : Str → Option Value} {base : Heap} (T : Txt K mg) : FnOk P w K mg base CX0 2 T.a_is_field T.d_is_field ["value"] (spV_is_field K) := by
  refine T.F_is_field.ok sc_is_field (fun vs H Q E h => ?_) (fun cdv A outer s H vs Q E hr h => ?_)
  · obtain ⟨v, N, kd, rfl, _⟩ := h
    rfl
  · obtain ⟨v, N, kd, rfl, hv, k⟩ := h
    refine ⟨_, (pss_one (ps_ret (pe_and (pe_call (okV_is_integer T) (hr.mono (by decide)) (by rfl) T.g_is_integer T.F_is_integer.kp T.b_is_integer .nil pass0 (pa_cons (pv 0) pa_nil)) (pe_one (pe_cmpR op_in_seq (pv 0) (pe_glob (v := .ref T.a_FIELDS) (by rfl) T.g_FIELDS rfl) (by rfl)))))), ?_⟩
    cases kd with
    | int z =>
      cases (show v = .int z from hv)
      exact s_ret (ev_andV (a := smB z) (ev_call (ea_cons (ev_var rfl) ea_nil) (svV_is_integer hv)) fun _ => (ev_is (ev_op (ev_var rfl) ev_c (rv_isT (tup_of T.w_FIELDS H) rfl (flat_ints _))) (congrArg V.bl (inV_ints _ _)))) fun H1 e1 => k H1 e1
    | bl b => exact s_ret (ev_is (ev_andV (a := false) (b := false) (ev_call (ea_cons (ev_var rfl) ea_nil) (svV_is_integer hv)) fun h => nomatch h) rfl) fun H1 e1 => k H1 e1
    | oth => exact s_ret (ev_is (ev_andV (a := false) (b := false) (ev_call (ea_cons (ev_var rfl) ea_nil) (svV_is_integer hv)) fun h => nomatch h) rfl) fun H1 e1 => k H1 e1


def nk (m : Nat) : Vk := .int (m : Int)
/-- what a value may be judged as -/
inductive Dt where
  | no
  | tup (ks : List Vk)
def Vl (K : PySem.W.Frag) (N : Addr → Prop) (H : Hp) (v : V) : Dt → Prop
  | .no => (∃ b, v = .bl b) ∨ (∃ z, v = .int z) ∨ Ot_ K N H v false
  | .tup ks => ∃ (a : Addr) (vs : List V), v = .ref a ∧ SqT K H a vs ∧ vs.length = ks.length ∧ ∀ (i : Nat) (x : V) (kd : Vk), vs[i]? = some x → ks[i]? = some kd → It_ K N H x kd
section
variable {K : PySem.W.Frag} {N : Addr → Prop} {H H' : Hp} {v : V} {D : Dt}
theorem Vl.ex (h : Vl K N H v D) (e : Ex H H') : Vl K N H' v D := by
  cases D with
  | no =>
    rcases h with h | h | h
    · exact .inl h
    · exact .inr (.inl h)
    · exact .inr (.inr (h.ex e))
  | tup ks =>
    obtain ⟨a, vs, e1, e2, e3, e4⟩ := h
    exact ⟨a, vs, e1, ex_t e e2, e3, fun i x kd h1 h2 => (e4 i x kd h1 h2).ex e⟩
theorem vl_tup (h : Vl K N H v .no) : RC (rIsi K) [v, .ty "tuple"] H (.bl false) := by
  rcases h with ⟨b, rfl⟩ | ⟨z, rfl⟩ | h
  · exact rc_isi (.base (.bl b)) (kit_ty (by decide +kernel))
  · exact rc_isi (.base (.int z)) (kit_ty (by decide +kernel))
  · obtain ⟨T, h1, _, _, h2⟩ := oth_ty h
    exact rc_isi h1 h2
end
def PartD (q d k : Nat) : Dt → Prop
  | .no => False
  | .tup ks => ∃ ms : List Nat, ks = ms.map nk ∧ Prt (prE q) (q - 1) d k ms
open Classical in
noncomputable def pB (q d k : Nat) (D : Dt) : Bool := decide (PartD q d k D)
open Classical in
theorem pB_no {q d k : Nat} {D : Dt} (h : ¬ PartD q d k D) : pB q d k D = false := decide_eq_false h
open Classical in
theorem pB_yes {q d k : Nat} {D : Dt} (h : PartD q d k D) : pB q d k D = true := decide_eq_true h
theorem pB_not {q d k : Nat} {ks : List Vk} (h : ∀ ms : List Nat, ks = ms.map nk → Prt (prE q) (q - 1) d k ms → False) : pB q d k (.tup ks) = false := pB_no fun ⟨ms, z1, z2⟩ => h ms z1 z2
theorem btw_nat {m k : Nat} (h : m ≤ k) (hk : k < 10 ^ 60) : btw 0 k (nk m) = true := by
  have h1 : (m : Int).natAbs < 10 ^ 60 := Nat.lt_of_le_of_lt (Nat.le_of_eq (Int.natAbs_natCast m)) (Nat.lt_of_le_of_lt h hk)
  show (smB m && (decide ((0 : Int) ≤ m) && decide ((m : Int) ≤ k))) = true
  rw [show smB m = true from sm_abs h1, decide_eq_true (Int.natCast_nonneg m), decide_eq_true (Int.ofNat_le.mpr h)]
  rfl
theorem ints_of {k : Int} : ∀ (ks : List Vk), (∀ x ∈ ks, btw 0 k x = true) → ∃ ms : List Nat, ks = ms.map nk ∧ ∀ m ∈ ms, (m : Int) ≤ k
  | [], _ => ⟨[], rfl, fun m h => by cases h⟩
  | x :: ks, h => by
    obtain ⟨ms, e, hm⟩ := ints_of ks fun y hy => h y (.tail _ hy)
    have hx := h x (.head _)
    cases x with
    | int z =>
      have h2 : (smB z && (decide (0 ≤ z) && decide (z ≤ k))) = true := hx
      rw [Bool.and_eq_true, Bool.and_eq_true, decide_eq_true_eq, decide_eq_true_eq] at h2
      refine ⟨z.toNat :: ms, ?_, fun m hm2 => ?_⟩
      · rw [List.map_cons, e]
        unfold nk
        rw [Int.toNat_of_nonneg h2.2.1]
      · rcases List.mem_cons.mp hm2 with rfl | hm2
        · rw [Int.toNat_of_nonneg h2.2.1]; exact h2.2.2
        · exact hm m hm2
    | bl b => cases hx
    | oth => cases hx
theorem vals_of {K : PySem.W.Frag} {N : Addr → Prop} {H : Hp} {vs : List V} {ms : List Nat} (hl : vs.length = (ms.map nk).length) (h : ∀ (i : Nat) (x : V) (kd : Vk), vs[i]? = some x → (ms.map nk)[i]? = some kd → It_ K N H x kd) : vs = ms.map N_ := by
  refine List.ext_getElem? fun i => ?_
  by_cases hi : i < vs.length
  · have h1 : vs[i]? = some vs[i] := List.getElem?_eq_getElem hi
    have hi2 : i < ms.length := by rw [List.length_map] at hl; omega
    have h2 := h i _ (nk ms[i]) h1 (by rw [List.getElem?_map, List.getElem?_eq_getElem hi2]; rfl)
    rw [h1, List.getElem?_map, List.getElem?_eq_getElem hi2]
    exact congrArg some h2
  · rw [List.getElem?_eq_none (by omega), List.getElem?_eq_none (by rw [List.length_map] at hl ⊢; omega)]
theorem map_int_inj {ms ns : List Nat} (h : ms.map nk = ns.map nk) : ms = ns := (List.map_inj_right (fun a b z => Int.ofNat.inj (Vk.int.inj z))).mp h
def spV_is_parting (K : PySem.W.Frag) : Sp := fun vs H Q _ => ∃ (q d k : Nat) (v : V) (N : Addr → Prop) (D : Dt), vs = [N_ q, N_ d, N_ k, v] ∧ Fq q ∧ d ≤ 300 ∧ k < 10 ^ 60 ∧ Vl K N H v D ∧ (∀ ks, D = .tup ks → ks.length ≤ 1000) ∧ RetV (.bl (pB q d k D)) H Q
theorem svV_is_parting {K : PySem.W.Frag} {N : Addr → Prop} {H : Hp} {q d k : Nat} {v : V} {D : Dt} (hq : Fq q) (hd : d ≤ 300) (hk : k < 10 ^ 60) (hv : Vl K N H v D) (hz : ∀ ks, D = .tup ks → ks.length ≤ 1000) : SpV (spV_is_parting K) [N_ q, N_ d, N_ k, v] H (.bl (pB q d k D)) := fun H1 e Q q' E => ⟨q, d, k, v, N, D, rfl, hq, hd, hk, hv.ex e, hz, q'⟩
theorem prt_dec {p s d k : Nat} {ms : List Nat} (h1 : ms.length = d + 1) (h3 : ((ms.take d).map fun m => decide (0 < m) && decide (m % s = 0)).all id = true) : ∀ i, i < d → 0 < ms.getD i 0 ∧ ms.getD i 0 % s = 0 := fun i hi => by
  have hi2 : i < ms.length := by omega
  have h := List.all_eq_true.mp h3 (decide (0 < ms[i]) && decide (ms[i] % s = 0)) (List.mem_map.mpr ⟨ms[i], List.mem_of_getElem? (i := i) (by rw [List.getElem?_take_of_lt hi, List.getElem?_eq_getElem hi2]), rfl⟩)
  have h : (decide (0 < ms[i]) && decide (ms[i] % s = 0)) = true := h
  rw [Bool.and_eq_true, decide_eq_true_eq, decide_eq_true_eq] at h
  rw [List.getD_eq_getElem?_getD, List.getElem?_eq_getElem hi2]
  exact h
theorem prt_dec2 {p s d k : Nat} {ms : List Nat} (h : Prt p s d k ms) : ((ms.take d).map fun m => decide (0 < m) && decide (m % s = 0)).all id = true := by
  rw [List.all_eq_true]
  intro z hz
  obtain ⟨m, hm, rfl⟩ := List.mem_map.mp hz
  obtain ⟨i, hi⟩ := List.mem_iff_getElem?.mp hm
  have hid : i < d := by
    have := (List.getElem?_eq_some_iff.mp hi).1
    rw [List.length_take] at this
    omega
  rw [List.getElem?_take_of_lt hid] at hi
  have hg : ms.getD i 0 = m := by rw [List.getD_eq_getElem?_getD, hi]; rfl
  obtain ⟨m1, m2⟩ := h.mul i hid
  rw [hg] at m1 m2
  show (decide (0 < m) && decide (m % s = 0)) = true
  rw [decide_eq_true m1, decide_eq_true m2]
  rfl

theorem okV_is_parting {P : Program} {w : World} {K : PySem.W.Frag} {mg : Str → Option Value} {base : Heap} (T : Txt K mg) : FnOk P w K mg base CX0 6 T.a_is_parting T.d_is_parting ["q", "d", "k", "value"] (spV_is_parting K) := by
  refine T.F_is_parting.ok sc_is_parting (fun vs H Q E h => ?_) (fun cdv A outer s H vs Q E hr h => ?_)
  · obtain ⟨q, d, k, v, N, D, rfl, _⟩ := h
    rfl
  · obtain ⟨q, d, k, v, N, D, rfl, hq, hd, hk, hv, hz, kk⟩ := h
    refine ⟨_, (pss_cons (ps_expr (pe_call (ok_check_sum T) (hr.mono (by decide)) (by rfl) T.g_check_sum T.F_check_sum.kp T.b_check_sum .nil pass0 (pa_cons (pv 0) (pa_cons (pv 1) (pa_cons (pv 2) pa_nil)))))
      (pss_cons (ps_if (PW.pt (pw_or (pt_not (pt_val (pe_callB call_isi (by rfl) T.z_isinstance (by decide +kernel) (pa_cons (pv 3) (pa_cons (pe_bltn (v := .ty "tuple") (u := .type "tuple") (by rfl) T.z_tuple (by decide +kernel) rfl) pa_nil))))) (pw_or1 (pt_cmpR op_ne (pe_callB call_len_seq (by rfl) T.z_len (by decide +kernel) (pa_cons (pv 3) pa_nil)) (pe_op op_add (pv 1) pe_int) (nomark _))))) (pss_one (ps_ret pe_bl)) pss_nil)
      (pss_cons (ps_if (pt_not (pt_val (pe_callB (cr_all rfl) (by rfl) T.z_all (by decide +kernel) (pa_cons (pe_lc (own := [("member", 4)]) (g := gName 4) rfl sc_is_parting.nd (pi_tup (pv 3)) (blkOk_by (N := ["q", "d", "k", "value", "member"]) (sc := defScope s_is_parting) (by decide +kernel)) (fun _ _ _ _ _ => pg_name (i := 4) sc_is_parting.nd rfl (Or.inl rfl)) (fun _ _ _ _ _ => pts_nil) (fun _ _ _ _ _ => (pe_call (okV_is_between T) (hr.mono (by decide)) (by rfl) T.g_is_between T.F_is_between.kp T.b_is_between .nil pass0 (pa_cons (pv 4) (pa_cons pe_int (pa_cons (pv 2) pa_nil)))))) pa_nil)))) (pss_one (ps_ret pe_bl)) pss_nil)
      (pss_cons (ps_if (pt_not (pt_val (pe_callB (cr_all rfl) (by rfl) T.z_all (by decide +kernel) (pa_cons (pe_lc (own := [("member", 4)]) (g := gName 4) rfl sc_is_parting.nd (pi_tup (pe_slice sl_tup (pv 3) po_none (po_some (pv 1)))) (blkOk_by (N := ["q", "d", "k", "value", "member"]) (sc := defScope s_is_parting) (by decide +kernel)) (fun _ _ _ _ _ => pg_name (i := 4) sc_is_parting.nd rfl (Or.inl rfl)) (fun _ _ _ _ _ => pts_nil) (fun _ _ _ _ _ => (pe_and (pe_cmpR op_gt (pv 4) pe_int (nomark _)) (pe_one (pe_cmpR op_eq (pe_op op_mod (pv 4) (pe_op op_sub (pv 0) pe_int)) pe_int (nomark _)))))) pa_nil)))) (pss_one (ps_ret pe_bl)) pss_nil)
      (pss_one (ps_ret (pe_and (pe_cmpR op_eq (pe_callB (cr_sumT rfl) (by rfl) T.z_sum (by decide +kernel) (pa_cons (pv 3) pa_nil)) (pv 2) (nomark _)) (pe_one (pe_call (ok_are_carry_free T) (hr.mono (by decide)) (by rfl) T.g_are_carry_free T.F_are_carry_free.kp T.b_are_carry_free .nil pass0 (pa_cons (pe_ix (r := rIxW K) ix_tab (pe_glob (v := .ref T.a_PRIMES) (by rfl) T.g_PRIMES rfl) (pv 0) (fun _ _ => rfl)) (pa_cons (pv 3) pa_nil))))))))))), ?_⟩
    have ht := t0_of hq
    have hqb := hq.b
    have hpb : Bs (prE q) := ⟨ht.p2, by have := ht.p7; omega⟩
    refine q_drop (ev_call (ea_cons (ev_var rfl) (ea_cons (ev_var rfl) (ea_cons (ev_var rfl) ea_nil))) (sv_check_sum hq hd hk)) fun H1 e1 => ?_
    have hv1 := hv.ex e1
    cases D with
    | no =>
      refine q_when (b := true) (et_is (et_or (a := true) (b := true) (et_is (et_not (et_B (ev_cb (ea_cons (ev_var rfl) (ea_cons ev_c ea_nil)) (vl_tup hv1)))) rfl) fun h => nomatch h) rfl) (fun _ H2 e2 => ?_) (fun h => nomatch h)
      rw [pB_no (D := .no) (fun z => z)] at kk
      exact s_ret ev_c fun H3 e3 => kk H3 ((e1.trans e2).trans e3)
    | tup ks =>
      obtain ⟨a, vs, rfl, ha1, hlen, hit⟩ := hv1
      have hz1 := hz ks rfl
      refine q_when (b := !decide (ks.length = d + 1)) (et_is (et_or (a := false) (b := !decide (ks.length = d + 1)) (et_is (et_not (et_B (ev_cb (ea_cons (ev_var rfl) (ea_cons ev_c ea_nil)) (rc_isi (b := true) (tyx_tup ha1) (kit_ty (by decide +kernel)))))) rfl) fun _ => et_is (et_test (ev_op (ev_is (w := N_ ks.length) (ev_cb (ea_cons (ev_var rfl) ea_nil) (rc_lenT ha1)) (congrArg V.int (by rw [hlen]))) (ev_is (w := N_ (d + 1)) (ev_op (ev_var rfl) ev_c rv_I0) rfl) (rv_ne rfl))) (by congr 1; exact (dec_int (y := d + 1)))) rfl) (fun hb H2 e2 => ?_) (fun hb H2 e2 => ?_)
      · rw [Bool.not_eq_true', decide_eq_false_iff_not] at hb
        rw [pB_not (fun ms z1 z2 => hb (by rw [z1, List.length_map]; exact z2.len))] at kk
        exact s_ret ev_c fun H3 e3 => kk H3 ((e1.trans e2).trans e3)
      rw [Bool.not_eq_false', decide_eq_true_eq] at hb
      have ha2 := ex_t e2 ha1
      refine q_when (b := !((ks.map (btw 0 k)).all id)) (et_not (et_B (ev_allN (bs := ks.map (btw 0 k)) (el_is (el_lcT (fun _ => true) (fun i => .bl (btw 0 k (ks.getD i .oth))) (ev_var rfl) ha2 (by omega) (fun _ => rfl) (fun _ _ _ _ _ => et_nil) (fun i x H3 e3 hi _ => ?_)) ?_)))) (fun hb2 H3 e3 => ?_) (fun hb2 H3 e3 => ?_)
      · have hi2 : i < ks.length := by rw [← hlen]; exact (List.getElem?_eq_some_iff.mp hi).1
        have hg : ks.getD i .oth = ks[i] := by rw [List.getD_eq_getElem?_getD, List.getElem?_eq_getElem hi2]; rfl
        rw [hg]
        exact ev_call (ea_cons (ev_var rfl) (ea_cons ev_c (ea_cons (ev_var rfl) ea_nil))) (svV_is_between (N := N) ((hit i x _ hi (List.getElem?_eq_getElem hi2)).ex (e2.trans e3)))
      · rw [hlen, given_all ks (fun x => .bl (btw 0 k x)) _ (fun i y h => by rw [List.getD_eq_getElem?_getD, h]; rfl), List.map_map]
        rfl
      · rw [Bool.not_eq_true'] at hb2
        rw [pB_not (fun ms z1 z2 => by
          have : (ks.map (btw 0 k)).all id = true := by
            rw [List.all_eq_true]
            intro z hz
            obtain ⟨x, hx, rfl⟩ := List.mem_map.mp hz
            rw [z1] at hx
            obtain ⟨m, hm, rfl⟩ := List.mem_map.mp hx
            have hle := mem_lt z2 m hm
            have hbt : btw 0 (k : Int) (nk m) = true := @btw_nat m k hle hk
            exact congrArg id hbt
          exact Bool.noConfusion (this.symm.trans hb2))] at kk
        exact s_ret ev_c fun H4 e4 => kk H4 (((e1.trans e2).trans e3).trans e4)
      rw [Bool.not_eq_false'] at hb2
      obtain ⟨ms, rfl, hmk⟩ := ints_of ks fun x hx => List.all_eq_true.mp hb2 _ (List.mem_map.mpr ⟨x, hx, rfl⟩)
      have hvs := vals_of hlen hit
      subst hvs
      rw [List.length_map] at hb
      have ha3 := ex_t e3 ha2
      refine q_when (b := !(((ms.take d).map fun m => decide (0 < m) && decide (m % (q - 1) = 0)).all id)) (et_not (et_B (ev_allN (bs := (ms.take d).map fun m => decide (0 < m) && decide (m % (q - 1) = 0)) (el_is (el_lcNU (K := K) (xs := (ms.take d).map N_) (fun _ => true) (fun i => .bl (decide (0 < (ms.take d).getD i 0) && decide ((ms.take d).getD i 0 % (q - 1) = 0))) (eu_is (eu_slTo (ev_var rfl) (ev_var rfl) ha3 (by rw [List.length_map]; omega)) (List.map_take ..).symm) (by rw [List.length_map, List.length_take]; omega) (fun _ => rfl) (fun _ _ _ _ _ => et_nil) (fun i x H4 e4 hi _ => ?_)) ?_)))) (fun hb3 H4 e4 => ?_) (fun hb3 H4 e4 => ?_)
      · rw [List.getElem?_map] at hi
        obtain ⟨m, hm, rfl⟩ := Option.map_eq_some_iff.mp hi
        have hg : (ms.take d).getD i 0 = m := by rw [List.getD_eq_getElem?_getD, hm]; rfl
        rw [hg]
        refine ev_is (ev_andV (a := decide (0 < m)) (b := decide (m % (q - 1) = 0)) (ev_is (ev_op (ev_var rfl) ev_c rv_I0) (congrArg V.bl (decide_eq_decide.mpr (by omega)))) fun _ => ev_is (ev_op (ev_op (ev_var rfl) (ev_op (ev_var rfl) ev_c rv_I0) (rv_I (by omega))) ev_c (rv_eq rfl)) (congrArg V.bl ?_)) rfl
        rw [show ((q : Int) - 1) = ((q - 1 : Nat) : Int) by omega, ← Int.natCast_emod]
        exact dec_int (y := 0)
      · rw [List.length_map, given_all (ms.take d) (fun m => .bl (decide (0 < m) && decide (m % (q - 1) = 0))) _ (fun i y h => by rw [List.getD_eq_getElem?_getD, h]; rfl), List.map_map]
        rfl
      · rw [Bool.not_eq_true'] at hb3
        rw [pB_not (fun ns z1 z2 => by
          cases map_int_inj z1
          rw [prt_dec2 z2] at hb3
          cases hb3)] at kk
        exact s_ret ev_c fun H5 e5 => kk H5 ((((e1.trans e2).trans e3).trans e4).trans e5)
      rw [Bool.not_eq_false'] at hb3
      have ha4 := ex_t e4 ha3
      have ebk : pB q d k (.tup (ms.map nk)) = (decide (ms.sum = k) && decide ((ms.map (ds (prE q))).sum = ds (prE q) ms.sum)) := by
        by_cases h1 : ms.sum = k
        · rw [decide_eq_true h1, Bool.true_and]
          by_cases h2 : (ms.map (ds (prE q))).sum = ds (prE q) ms.sum
          · rw [decide_eq_true h2]
            exact pB_yes ⟨ms, rfl, ⟨hb, h1, by rw [← h1]; exact h2, prt_dec (p := prE q) (k := k) hb hb3⟩⟩
          · rw [decide_eq_false h2]
            exact pB_not fun ns z1 z2 => by
              cases map_int_inj z1
              exact h2 (by rw [z2.sum]; exact z2.dg)
        · rw [decide_eq_false h1, Bool.false_and]
          exact pB_not fun ns z1 z2 => by
            cases map_int_inj z1
            exact h1 z2.sum
      rw [ebk] at kk
      refine s_ret (ev_andV (a := decide (ms.sum = k)) (ev_is (ev_op (ev_is (w := N_ ms.sum) (ev_cb (ea_cons (ev_var rfl) ea_nil) (rc_sumT (ns := ms.map Int.ofNat) (by rw [← mapN]; exact ha4))) (by rw [sumN])) (ev_var rfl) (rv_eq rfl)) (congrArg V.bl dec_int)) fun hs => ev_call (ea_cons (ev_tab0 T.w_PRIMES ht.pr (ev_var rfl)) (ea_cons (ev_var rfl) ea_nil)) (sv_are_carry_free hpb ha4 (by omega) (by rw [of_decide_eq_true hs]; exact gt60 hk))) fun H5 e5 => kk H5 ((((e1.trans e2).trans e3).trans e4).trans e5)


end Own
/-! own errors that keep what they are given -/
namespace Own
open PySem PySem.Spec PyProof.Rows L2 Evl
/-- what is asked of the program's own frame -/
structure PF (P : Program) : Prop where
  file : (P.main.file : Str) = ("/claim/cut.py" : Str)
  top : (P.main.scope.names.lookup ("super" : Str)).isSome = false
theorem supC_number {P : Program} {K : PySem.W.Frag} {mg : Str → Option Value} (T : Txt K mg) (pf : PF P) : Es.SupC K P "IndexError" "IndexError.__new__" "IndexError.__init__" [.type "IndexError", .type "LookupError", .type "Exception", .type "BaseException", .type "object"] T.a_InvalidNumber T.f_InvalidNumber T.k_InvalidNumber T.l_InvalidNumber "given" "self" "given"
    (defArgs (Sx.initSt s_InvalidNumber)) (defBody (Sx.initSt s_InvalidNumber)) (defScope (Sx.initSt s_InvalidNumber)) := by
  have u := T.u_InvalidNumber
  exact ⟨PySem.F.excBase_IndexError, PySem.W.kxs_IndexError, ⟨_, _, PySem.F.store_IndexError⟩, u.cls, u.fn, by
    obtain ⟨a, b, c, d, f, tf, h1, h2, h3⟩ := u.co
    exact ⟨a, b, c, d, f, tf, h1, h2, by rw [pf.file]; exact h3⟩, u.cell, u.any, u.sup, u.sa, u.fno, u.subB, u.self, pf.top, ⟨_, rfl, rfl⟩, rfl, rfl, rfl, rfl, rfl, by decide +kernel, rfl, rfl, by decide, by decide, by decide, by decide⟩
theorem supC_many {P : Program} {K : PySem.W.Frag} {mg : Str → Option Value} (T : Txt K mg) (pf : PF P) : Es.SupC K P "OverflowError" "OverflowError.__new__" "OverflowError.__init__" [.type "OverflowError", .type "ArithmeticError", .type "Exception", .type "BaseException", .type "object"] T.a_TooMany T.f_TooMany T.k_TooMany T.l_TooMany "limit" "self" "limit"
    (defArgs (Sx.initSt s_TooMany)) (defBody (Sx.initSt s_TooMany)) (defScope (Sx.initSt s_TooMany)) := by
  have u := T.u_TooMany
  exact ⟨PySem.F.excBase_OverflowError, PySem.W.kxs_OverflowError, ⟨_, _, PySem.F.store_OverflowError⟩, u.cls, u.fn, by
    obtain ⟨a, b, c, d, f, tf, h1, h2, h3⟩ := u.co
    exact ⟨a, b, c, d, f, tf, h1, h2, by rw [pf.file]; exact h3⟩, u.cell, u.any, u.sup, u.sa, u.fno, u.subB, u.self, pf.top, ⟨_, rfl, rfl⟩, rfl, rfl, rfl, rfl, rfl, by decide +kernel, rfl, rfl, by decide, by decide, by decide, by decide⟩
section
variable {X : Cx} {K : PySem.W.Frag} {mg : Str → Option Value} {ta : TA} {ee : Expr} {p pos : Pos}
theorem pmk_number (T : Txt K mg) (hK : X.K = K) (hM : X.mg = mg) (pf : PF X.prog) (hr : Room 1 X.A) (hg : Gl X "InvalidNumber") (ha : PA X [ee] ta) (he : starEach [ee] X.env = (false, eval ee X.env) :: starEach [] X.env := by rfl) :
    PMk X (.Call (.Name "InvalidNumber" p) [ee] [] pos) (fun σ H Q => ta σ H fun vs H1 => ∃ v, vs = [v] ∧ ∀ d, H1 d = none → Q (.ref T.a_InvalidNumber) (some d) (upd H1 d (.xd [("given", v)]))) := by
  subst hK
  subst hM
  have u := T.u_InvalidNumber
  exact Es.pmk_sup (k := 0) (x := "InvalidNumber") (fun _ _ => rfl) (fun _ _ => rfl) (supC_number T pf) (fun s qual kV doc pm an ct e w => .of_eq rfl) u.iC u.tI u.kC u.exC u.tyC T.z_super (by decide +kernel) hr hg T.g_InvalidNumber ha (by decide) he
theorem pmk_many (T : Txt K mg) (hK : X.K = K) (hM : X.mg = mg) (pf : PF X.prog) (hr : Room 1 X.A) (hg : Gl X "TooMany") (ha : PA X [ee] ta) (he : starEach [ee] X.env = (false, eval ee X.env) :: starEach [] X.env := by rfl) :
    PMk X (.Call (.Name "TooMany" p) [ee] [] pos) (fun σ H Q => ta σ H fun vs H1 => ∃ v, vs = [v] ∧ ∀ d, H1 d = none → Q (.ref T.a_TooMany) (some d) (upd H1 d (.xd [("limit", v)]))) := by
  subst hK
  subst hM
  have u := T.u_TooMany
  exact Es.pmk_sup (k := 0) (x := "TooMany") (fun _ _ => rfl) (fun _ _ => rfl) (supC_many T pf) (fun s qual kV doc pm an ct e w => .of_eq rfl) u.iC u.tI u.kC u.exC u.tyC T.z_super (by decide +kernel) hr hg T.g_TooMany ha (by decide) he
end
end Own
/-! what is refused: fields, numbers, partings -/
namespace Own
open PySem PySem.Spec PyProof.Rows L2 Evl

def ErN (C : Addr) (fld : Str) (v : V) (H : Hp) (E : XK) : Prop := ∀ e H', Ex H H' → H' e = some (.xd [(fld, v)]) → E (.ref C) (some e) H'
def ErF (C : Addr) (H : Hp) (E : XK) : Prop := ∀ H', Ex H H' → E (.ref C) none H'
theorem ErN.ex {C : Addr} {fld : Str} {v : V} {H H1 : Hp} {E : XK} (h : ErN C fld v H E) (e : Ex H H1) : ErN C fld v H1 E := fun a H' e2 => h a H' (e.trans e2)
theorem ErF.ex {C : Addr} {H H1 : Hp} {E : XK} (h : ErF C H E) (e : Ex H H1) : ErF C H1 E := fun H' e2 => h H' (e.trans e2)
def BadQ (K : PySem.W.Frag) (H : Hp) (v : V) : Prop := ∃ (N : Addr → Prop) (kd : Vk), It_ K N H v kd ∧ fldB kd = false
def BadB (K : PySem.W.Frag) (H : Hp) (lo hi : Int) (v : V) : Prop := ∃ (N : Addr → Prop) (kd : Vk), It_ K N H v kd ∧ btw lo hi kd = false
def BadK (K : PySem.W.Frag) (H : Hp) (lo : Int) (v : V) : Prop := ∃ (N : Addr → Prop) (kd : Vk), It_ K N H v kd ∧ frm lo kd = false
section
variable {K : PySem.W.Frag} {H H1 : Hp} {v q d k : V} {lo hi : Int} {E : XK} {CF CN : Addr}
theorem BadQ.ex (h : BadQ K H v) (e : Ex H H1) : BadQ K H1 v := let ⟨N, kd, a, b⟩ := h; ⟨N, kd, a.ex e, b⟩
theorem BadB.ex (h : BadB K H lo hi v) (e : Ex H H1) : BadB K H1 lo hi v := let ⟨N, kd, a, b⟩ := h; ⟨N, kd, a.ex e, b⟩
theorem BadK.ex (h : BadK K H lo v) (e : Ex H H1) : BadK K H1 lo v := let ⟨N, kd, a, b⟩ := h; ⟨N, kd, a.ex e, b⟩
def SumBad (K : PySem.W.Frag) (CF CN : Addr) (q d k : V) (H : Hp) (E : XK) : Prop := (BadQ K H q ∧ ErF CF H E) ∨ (∃ n : Nat, q = N_ n ∧ Fq n ∧ BadB K H 0 300 d ∧ ErN CN "given" d H E) ∨ (∃ n m : Nat, q = N_ n ∧ Fq n ∧ d = N_ m ∧ m ≤ 300 ∧ BadK K H 0 k ∧ ErN CN "given" k H E)
def RowBad (K : PySem.W.Frag) (CF CN : Addr) (q k : V) (H : Hp) (E : XK) : Prop := (BadQ K H q ∧ ErF CF H E) ∨ (∃ n : Nat, q = N_ n ∧ Fq n ∧ BadK K H 0 k ∧ ErN CN "given" k H E)
theorem SumBad.ex (h : SumBad K CF CN q d k H E) (e : Ex H H1) : SumBad K CF CN q d k H1 E := by
  rcases h with ⟨a, b⟩ | ⟨n, a, b, c, d⟩ | ⟨n, m, a, b, c, d, f, g⟩
  · exact .inl ⟨a.ex e, b.ex e⟩
  · exact .inr (.inl ⟨n, a, b, c.ex e, d.ex e⟩)
  · exact .inr (.inr ⟨n, m, a, b, c, d, f.ex e, g.ex e⟩)
theorem RowBad.ex (h : RowBad K CF CN q k H E) (e : Ex H H1) : RowBad K CF CN q k H1 E := by
  rcases h with ⟨a, b⟩ | ⟨n, a, b, c, d⟩
  · exact .inl ⟨a.ex e, b.ex e⟩
  · exact .inr ⟨n, a, b, c.ex e, d.ex e⟩
end
section
variable {K : PySem.W.Frag} {σ : L2.St} {H : Hp} {te : TE} {D : Ends} {tz : TS} {tA : TA}
theorem q_dropX {sp : Sp} {E : XK} {vs : List V} (hA : EvA tA σ H vs) (k : ∀ H1, Ex H H1 → sp vs H1 (fun _ H2 => tz D σ H2) E) : tSeq (tDrop (tCall sp [] E tA)) tz D σ H := hA H (Ex.refl H) _ fun H1 e1 => by
  rw [List.append_nil]
  exact k H1 e1
theorem s_dropX {sp : Sp} {E : XK} {vs : List V} (hA : EvA tA σ H vs) (k : ∀ H1, Ex H H1 → sp vs H1 (fun _ H2 => D.nx σ H2) E) : tDrop (tCall sp [] E tA) D σ H := hA H (Ex.refl H) _ fun H1 e1 => by
  rw [List.append_nil]
  exact k H1 e1
theorem s_whenX {sp : Sp} {E : XK} {vs : List V} {tu tv : TS} (hA : EvA tA σ H vs) (k : ∀ H1, Ex H H1 → ∀ Q, sp vs H1 Q E) : tIfS (tNot (tB (tCall sp [] E tA))) tu tv D σ H := hA H (Ex.refl H) _ fun H1 e1 => by
  rw [List.append_nil]
  exact k H1 e1 _
end
def spE_check_field (K : PySem.W.Frag) (CF : Addr) : Sp := fun vs H Q E => ∃ v, vs = [v] ∧ BadQ K H v ∧ ErF CF H E
def spE_check_between (K : PySem.W.Frag) (CN : Addr) : Sp := fun vs H Q E => ∃ (v : V) (lo hi : Int), vs = [v, .int lo, .int hi] ∧ BadB K H lo hi v ∧ ErN CN "given" v H E
def spE_check_from (K : PySem.W.Frag) (CN : Addr) : Sp := fun vs H Q E => ∃ (v : V) (lo : Int), vs = [v, .int lo] ∧ BadK K H lo v ∧ ErN CN "given" v H E
def spE_check_d (K : PySem.W.Frag) (CN : Addr) : Sp := fun vs H Q E => ∃ v, vs = [v] ∧ BadB K H 0 300 v ∧ ErN CN "given" v H E
def spE_sum (K : PySem.W.Frag) (CF CN : Addr) : Sp := fun vs H Q E => ∃ q d k, vs = [q, d, k] ∧ SumBad K CF CN q d k H E
def spE_part (K : PySem.W.Frag) (CF CN : Addr) : Sp := fun vs H Q E => ∃ q d k v, vs = [q, d, k, v] ∧ SumBad K CF CN q d k H E
def spE_row (K : PySem.W.Frag) (CF CN : Addr) : Sp := fun vs H Q E => ∃ q k, vs = [q, k] ∧ RowBad K CF CN q k H E

theorem okE_check_field {P : Program} {w : World} {K : PySem.W.Frag} {mg : Str → Option Value} {base : Heap} (T : Txt K mg) (pf : PF P) : FnOk P w K mg base (L2.CX P w) 3 T.a_check_field T.d_check_field ["q"] (spE_check_field K T.a_InvalidField) := by
  refine T.F_check_field.okX sc_check_field (fun vs H Q E h => ?_) (fun cdv A outer s H vs Q E hr h => ?_)
  · obtain ⟨v, rfl, _⟩ := h
    rfl
  · obtain ⟨v, rfl, ⟨N, kd, hv, hb⟩, ke⟩ := h
    refine ⟨_, (pss_one (ps_if (pt_not (pt_val (pe_call (okV_is_field T) (hr.mono (by decide)) (by rfl) T.g_is_field T.F_is_field.kp T.b_is_field .nil pass0 (pa_cons (pv 0) pa_nil)))) (pss_one (ps_raise rfl (takes_of rfl rfl rfl rfl) (pmk_own PySem.F.excBase_ValueError T.r_InvalidField.ex T.g_InvalidField T.r_InvalidField.kp (raises_own T.r_InvalidField.sb T.r_InvalidField.ty) rfl))) pss_nil)), ?_⟩
    exact s_when (b := true) (et_is (et_not (et_B (ev_call (ea_cons (ev_var rfl) ea_nil) (svV_is_field (K := K) hv)))) (by rw [hb]; rfl)) (fun _ H1 e1 => ke H1 e1) (fun h => nomatch h)


theorem okE_check_between {P : Program} {w : World} {K : PySem.W.Frag} {mg : Str → Option Value} {base : Heap} (T : Txt K mg) (pf : PF P) : FnOk P w K mg base (L2.CX P w) 3 T.a_check_between T.d_check_between ["value", "low", "high"] (spE_check_between K T.a_InvalidNumber) := by
  refine T.F_check_between.okX sc_check_between (fun vs H Q E h => ?_) (fun cdv A outer s H vs Q E hr h => ?_)
  · obtain ⟨v, lo, hi, rfl, _⟩ := h
    rfl
  · obtain ⟨v, lo, hi, rfl, ⟨N, kd, hv, hb⟩, ke⟩ := h
    refine ⟨_, (pss_one (ps_if (pt_not (pt_val (pe_call (okV_is_between T) (hr.mono (by decide)) (by rfl) T.g_is_between T.F_is_between.kp T.b_is_between .nil pass0 (pa_cons (pv 0) (pa_cons (pv 1) (pa_cons (pv 2) pa_nil)))))) (pss_one (ps_raise rfl (takes_of rfl rfl rfl rfl) (pmk_number T rfl rfl pf (hr.mono (by decide)) (by rfl) (pa_cons (pv 0) pa_nil)))) pss_nil)), ?_⟩
    exact s_when (b := true) (et_is (et_not (et_B (ev_call (ea_cons (ev_var rfl) (ea_cons (ev_var rfl) (ea_cons (ev_var rfl) ea_nil))) (svV_is_between (K := K) hv)))) (by rw [hb]; rfl)) (fun _ H1 e1 => (ea_cons (ev_var rfl) ea_nil : EvA _ _ H1 [v]) H1 (Ex.refl H1) _ fun H2 e2 => ⟨_, rfl, fun d nd => ke d _ ((e1.trans e2).trans (Ex.new nd)) upd_same⟩) (fun h => nomatch h)


theorem okE_check_from {P : Program} {w : World} {K : PySem.W.Frag} {mg : Str → Option Value} {base : Heap} (T : Txt K mg) (pf : PF P) : FnOk P w K mg base (L2.CX P w) 3 T.a_check_from T.d_check_from ["value", "low"] (spE_check_from K T.a_InvalidNumber) := by
  refine T.F_check_from.okX sc_check_from (fun vs H Q E h => ?_) (fun cdv A outer s H vs Q E hr h => ?_)
  · obtain ⟨v, lo, rfl, _⟩ := h
    rfl
  · obtain ⟨v, lo, rfl, ⟨N, kd, hv, hb⟩, ke⟩ := h
    refine ⟨_, (pss_one (ps_if (pt_not (pt_val (pe_call (okV_is_from T) (hr.mono (by decide)) (by rfl) T.g_is_from T.F_is_from.kp T.b_is_from .nil pass0 (pa_cons (pv 0) (pa_cons (pv 1) pa_nil))))) (pss_one (ps_raise rfl (takes_of rfl rfl rfl rfl) (pmk_number T rfl rfl pf (hr.mono (by decide)) (by rfl) (pa_cons (pv 0) pa_nil)))) pss_nil)), ?_⟩
    exact s_when (b := true) (et_is (et_not (et_B (ev_call (ea_cons (ev_var rfl) (ea_cons (ev_var rfl) ea_nil)) (svV_is_from (K := K) hv)))) (by rw [hb]; rfl)) (fun _ H1 e1 => (ea_cons (ev_var rfl) ea_nil : EvA _ _ H1 [v]) H1 (Ex.refl H1) _ fun H2 e2 => ⟨_, rfl, fun d nd => ke d _ ((e1.trans e2).trans (Ex.new nd)) upd_same⟩) (fun h => nomatch h)


theorem okE_check_d {P : Program} {w : World} {K : PySem.W.Frag} {mg : Str → Option Value} {base : Heap} (T : Txt K mg) (pf : PF P) : FnOk P w K mg base (L2.CX P w) 4 T.a_check_d T.d_check_d ["d"] (spE_check_d K T.a_InvalidNumber) := by
  refine T.F_check_d.okX sc_check_d (fun vs H Q E h => ?_) (fun cdv A outer s H vs Q E hr h => ?_)
  · obtain ⟨v, rfl, _⟩ := h
    rfl
  · obtain ⟨v, rfl, hb, ke⟩ := h
    refine ⟨_, (pss_one (ps_expr (pe_call (E := E) (okE_check_between T pf) (hr.mono (by decide)) (by rfl) T.g_check_between T.F_check_between.kp T.b_check_between .nil (passes_call (takes_of rfl rfl rfl rfl) fun _ _ _ _ h => h) (pa_cons (pv 0) (pa_cons pe_int (pa_cons pe_int pa_nil)))))), ?_⟩
    exact s_dropX (ea_cons (ev_var rfl) (ea_cons ev_c (ea_cons ev_c ea_nil))) fun H1 e1 => ⟨v, 0, 300, rfl, hb.ex e1, ke.ex e1⟩


theorem okE_check_sum {P : Program} {w : World} {K : PySem.W.Frag} {mg : Str → Option Value} {base : Heap} (T : Txt K mg) (pf : PF P) : FnOk P w K mg base (L2.CX P w) 5 T.a_check_sum T.d_check_sum ["q", "d", "k"] (spE_sum K T.a_InvalidField T.a_InvalidNumber) := by
  refine T.F_check_sum.okX sc_check_sum (fun vs H Q E h => ?_) (fun cdv A outer s H vs Q E hr h => ?_)
  · obtain ⟨q, d, k, rfl, _⟩ := h
    rfl
  · obtain ⟨q, d, k, rfl, hs⟩ := h
    rcases hs with ⟨hb, ke⟩ | ⟨n, rfl, hn, hb, ke⟩ | ⟨n, m, rfl, hn, rfl, hm, hb, ke⟩
    · refine ⟨_, (pss_cons (ps_expr (pe_call (E := E) (okE_check_field T pf) (hr.mono (by decide)) (by rfl) T.g_check_field T.F_check_field.kp T.b_check_field .nil (passes_call (takes_of rfl rfl rfl rfl) fun _ _ _ _ h => h) (pa_cons (pv 0) pa_nil)))
      (pss_cons (ps_expr (pe_call (ok_check_d T) (hr.mono (by decide)) (by rfl) T.g_check_d T.F_check_d.kp T.b_check_d .nil pass0 (pa_cons (pv 1) pa_nil)))
      (pss_one (ps_expr (pe_call (ok_check_from T) (hr.mono (by decide)) (by rfl) T.g_check_from T.F_check_from.kp T.b_check_from .nil pass0 (pa_cons (pv 2) (pa_cons pe_int pa_nil))))))), ?_⟩
      exact q_dropX (ea_cons (ev_var rfl) ea_nil) fun H1 e1 => ⟨q, rfl, hb.ex e1, ke.ex e1⟩
    · refine ⟨_, (pss_cons (ps_expr (pe_call (ok_check_field T) (hr.mono (by decide)) (by rfl) T.g_check_field T.F_check_field.kp T.b_check_field .nil pass0 (pa_cons (pv 0) pa_nil)))
      (pss_cons (ps_expr (pe_call (E := E) (okE_check_d T pf) (hr.mono (by decide)) (by rfl) T.g_check_d T.F_check_d.kp T.b_check_d .nil (passes_call (takes_of rfl rfl rfl rfl) fun _ _ _ _ h => h) (pa_cons (pv 1) pa_nil)))
      (pss_one (ps_expr (pe_call (ok_check_from T) (hr.mono (by decide)) (by rfl) T.g_check_from T.F_check_from.kp T.b_check_from .nil pass0 (pa_cons (pv 2) (pa_cons pe_int pa_nil))))))), ?_⟩
      refine q_drop (ev_call (ea_cons (ev_var rfl) ea_nil) (sv_check_field hn)) fun H1 e1 => ?_
      exact q_dropX (ea_cons (ev_var rfl) ea_nil) fun H2 e2 => ⟨d, rfl, hb.ex (e1.trans e2), ke.ex (e1.trans e2)⟩
    · refine ⟨_, (pss_cons (ps_expr (pe_call (ok_check_field T) (hr.mono (by decide)) (by rfl) T.g_check_field T.F_check_field.kp T.b_check_field .nil pass0 (pa_cons (pv 0) pa_nil)))
      (pss_cons (ps_expr (pe_call (ok_check_d T) (hr.mono (by decide)) (by rfl) T.g_check_d T.F_check_d.kp T.b_check_d .nil pass0 (pa_cons (pv 1) pa_nil)))
      (pss_one (ps_expr (pe_call (E := E) (okE_check_from T pf) (hr.mono (by decide)) (by rfl) T.g_check_from T.F_check_from.kp T.b_check_from .nil (passes_call (takes_of rfl rfl rfl rfl) fun _ _ _ _ h => h) (pa_cons (pv 2) (pa_cons pe_int pa_nil))))))), ?_⟩
      refine q_drop (ev_call (ea_cons (ev_var rfl) ea_nil) (sv_check_field hn)) fun H1 e1 => ?_
      refine q_drop (ev_call (ea_cons (ev_var rfl) ea_nil) (sv_check_d hm)) fun H2 e2 => ?_
      exact s_dropX (ea_cons (ev_var rfl) (ea_cons ev_c ea_nil)) fun H3 e3 => ⟨k, 0, rfl, hb.ex ((e1.trans e2).trans e3), ke.ex ((e1.trans e2).trans e3)⟩


theorem okE_parting {P : Program} {w : World} {K : PySem.W.Frag} {mg : Str → Option Value} {base : Heap} (T : Txt K mg) (pf : PF P) : FnOk P w K mg base (L2.CX P w) 6 T.a_parting T.d_parting ["q", "d", "k"] (spE_sum K T.a_InvalidField T.a_InvalidNumber) := by
  refine T.F_parting.okX sc_parting (fun vs H Q E h => ?_) (fun cdv A outer s H vs Q E hr h => ?_)
  · obtain ⟨q, d, k, rfl, _⟩ := h
    rfl
  · obtain ⟨q, d, k, rfl, hs⟩ := h
    refine ⟨_, (pss_cons (ps_expr (pe_call (E := E) (okE_check_sum T pf) (hr.mono (by decide)) (by rfl) T.g_check_sum T.F_check_sum.kp T.b_check_sum .nil (passes_call (takes_of rfl rfl rfl rfl) fun _ _ _ _ h => h) (pa_cons (pv 0) (pa_cons (pv 1) (pa_cons (pv 2) pa_nil)))))
      (pss_one (ps_ret (pe_call (ok_found_parting T) (hr.mono (by decide)) (by rfl) T.g_found_parting T.F_found_parting.kp T.b_found_parting .nil pass0 (pa_cons (pv 0) (pa_cons (pv 1) (pa_cons (pv 2) pa_nil))))))), ?_⟩
    exact q_dropX (ea_cons (ev_var rfl) (ea_cons (ev_var rfl) (ea_cons (ev_var rfl) ea_nil))) fun H1 e1 => ⟨q, d, k, rfl, hs.ex e1⟩


theorem okE_digit_bar {P : Program} {w : World} {K : PySem.W.Frag} {mg : Str → Option Value} {base : Heap} (T : Txt K mg) (pf : PF P) : FnOk P w K mg base (L2.CX P w) 6 T.a_digit_bar T.d_digit_bar ["q", "d", "k"] (spE_sum K T.a_InvalidField T.a_InvalidNumber) := by
  refine T.F_digit_bar.okX sc_digit_bar (fun vs H Q E h => ?_) (fun cdv A outer s H vs Q E hr h => ?_)
  · obtain ⟨q, d, k, rfl, _⟩ := h
    rfl
  · obtain ⟨q, d, k, rfl, hs⟩ := h
    refine ⟨_, (pss_cons (ps_expr (pe_call (E := E) (okE_check_sum T pf) (hr.mono (by decide)) (by rfl) T.g_check_sum T.F_check_sum.kp T.b_check_sum .nil (passes_call (takes_of rfl rfl rfl rfl) fun _ _ _ _ h => h) (pa_cons (pv 0) (pa_cons (pv 1) (pa_cons (pv 2) pa_nil)))))
      (pss_cons (ps_setLc (i := 3) (own := [("j", 4)]) (g := gName 4) (by rfl) sc_digit_bar.nd rfl rfl (sw_true rfl rfl rfl (by decide +kernel)) (pi_range1 rfl T.z_range (pa_cons (pe_ix (r := rIxW K) ix_tab (pe_glob (v := .ref T.a_POWERS) (by rfl) T.g_POWERS rfl) (pv 0) (fun _ _ => rfl)) pa_nil)) (blkOk_by (N := ["q", "d", "k", "bars", "j"]) (sc := defScope s_digit_bar) (by decide +kernel)) (fun _ _ _ _ _ => pg_name (i := 4) sc_digit_bar.nd rfl (Or.inl rfl)) (fun _ _ _ _ _ => (pts_one (pt_val (pe_call (ok_is_bar T) (hr.mono (by decide)) (by rfl) T.g_is_bar T.F_is_bar.kp T.b_is_bar .nil pass0 (pa_cons (pv 0) (pa_cons (pv 1) (pa_cons (pv 2) (pa_cons (pv 4) pa_nil)))))))) (fun _ _ _ _ _ => (pv 4)))
      (pss_one (ps_ret (pe_callBK (cr_minD (d := .non) rfl) (by rfl) T.z_min (by decide +kernel) (pa_cons (pv 3) pa_nil) (pk_cons pe_non pk_nil)))))), ?_⟩
    exact q_dropX (ea_cons (ev_var rfl) (ea_cons (ev_var rfl) (ea_cons (ev_var rfl) ea_nil))) fun H1 e1 => ⟨q, d, k, rfl, hs.ex e1⟩


theorem okE_is_zero_sum {P : Program} {w : World} {K : PySem.W.Frag} {mg : Str → Option Value} {base : Heap} (T : Txt K mg) (pf : PF P) : FnOk P w K mg base (L2.CX P w) 6 T.a_is_zero_sum T.d_is_zero_sum ["q", "d", "k"] (spE_sum K T.a_InvalidField T.a_InvalidNumber) := by
  refine T.F_is_zero_sum.okX sc_is_zero_sum (fun vs H Q E h => ?_) (fun cdv A outer s H vs Q E hr h => ?_)
  · obtain ⟨q, d, k, rfl, _⟩ := h
    rfl
  · obtain ⟨q, d, k, rfl, hs⟩ := h
    refine ⟨_, (pss_cons (ps_expr (pe_call (E := E) (okE_check_sum T pf) (hr.mono (by decide)) (by rfl) T.g_check_sum T.F_check_sum.kp T.b_check_sum .nil (passes_call (takes_of rfl rfl rfl rfl) fun _ _ _ _ h => h) (pa_cons (pv 0) (pa_cons (pv 1) (pa_cons (pv 2) pa_nil)))))
      (pss_one (ps_ret (pe_cmpR op_gt (pv 1) (pe_call (ok_parts_bound T) (hr.mono (by decide)) (by rfl) T.g_parts_bound T.F_parts_bound.kp T.b_parts_bound .nil pass0 (pa_cons (pv 0) (pa_cons (pv 2) pa_nil))) (nomark _))))), ?_⟩
    exact q_dropX (ea_cons (ev_var rfl) (ea_cons (ev_var rfl) (ea_cons (ev_var rfl) ea_nil))) fun H1 e1 => ⟨q, d, k, rfl, hs.ex e1⟩


theorem okE_greatest_parting {P : Program} {w : World} {K : PySem.W.Frag} {mg : Str → Option Value} {base : Heap} (T : Txt K mg) (pf : PF P) : FnOk P w K mg base (L2.CX P w) 6 T.a_greatest_parting T.d_greatest_parting ["q", "d", "k"] (spE_sum K T.a_InvalidField T.a_InvalidNumber) := by
  refine T.F_greatest_parting.okX sc_greatest_parting (fun vs H Q E h => ?_) (fun cdv A outer s H vs Q E hr h => ?_)
  · obtain ⟨q, d, k, rfl, _⟩ := h
    rfl
  · obtain ⟨q, d, k, rfl, hs⟩ := h
    refine ⟨_, (pss_cons (ps_expr (pe_call (E := E) (okE_check_sum T pf) (hr.mono (by decide)) (by rfl) T.g_check_sum T.F_check_sum.kp T.b_check_sum .nil (passes_call (takes_of rfl rfl rfl rfl) fun _ _ _ _ h => h) (pa_cons (pv 0) (pa_cons (pv 1) (pa_cons (pv 2) pa_nil)))))
      (pss_one (ps_ret (pe_call (ok_found_parting T) (hr.mono (by decide)) (by rfl) T.g_found_parting T.F_found_parting.kp T.b_found_parting .nil pass0 (pa_cons (pv 0) (pa_cons (pv 1) (pa_cons (pv 2) pa_nil))))))), ?_⟩
    exact q_dropX (ea_cons (ev_var rfl) (ea_cons (ev_var rfl) (ea_cons (ev_var rfl) ea_nil))) fun H1 e1 => ⟨q, d, k, rfl, hs.ex e1⟩


theorem okE_all_partings {P : Program} {w : World} {K : PySem.W.Frag} {mg : Str → Option Value} {base : Heap} (T : Txt K mg) (pf : PF P) : FnOk P w K mg base (L2.CX P w) 9 T.a_all_partings T.d_all_partings ["q", "d", "k"] (spE_sum K T.a_InvalidField T.a_InvalidNumber) := by
  refine T.F_all_partings.okX sc_all_partings (fun vs H Q E h => ?_) (fun cdv A outer s H vs Q E hr h => ?_)
  · obtain ⟨q, d, k, rfl, _⟩ := h
    rfl
  · obtain ⟨q, d, k, rfl, hs⟩ := h
    refine ⟨_, (pss_cons (ps_expr (pe_call (E := E) (okE_check_sum T pf) (hr.mono (by decide)) (by rfl) T.g_check_sum T.F_check_sum.kp T.b_check_sum .nil (passes_call (takes_of rfl rfl rfl rfl) fun _ _ _ _ h => h) (pa_cons (pv 0) (pa_cons (pv 1) (pa_cons (pv 2) pa_nil)))))
      (pss_one (ps_ret (pe_callTy call_tuple_of (by rfl) T.z_tuple (by decide +kernel) (pa_cons (pe_call (ok_found_partings T) (hr.mono (by decide)) (by rfl) T.g_found_partings T.F_found_partings.kp T.b_found_partings .nil pass0 (pa_cons (pv 0) (pa_cons (pv 1) (pa_cons (pv 2) pa_nil)))) pa_nil))))), ?_⟩
    exact q_dropX (ea_cons (ev_var rfl) (ea_cons (ev_var rfl) (ea_cons (ev_var rfl) ea_nil))) fun H1 e1 => ⟨q, d, k, rfl, hs.ex e1⟩


theorem okE_sum_by_partings {P : Program} {w : World} {K : PySem.W.Frag} {mg : Str → Option Value} {base : Heap} (T : Txt K mg) (pf : PF P) : FnOk P w K mg base (L2.CX P w) 9 T.a_sum_by_partings T.d_sum_by_partings ["q", "d", "k"] (spE_sum K T.a_InvalidField T.a_InvalidNumber) := by
  refine T.F_sum_by_partings.okX sc_sum_by_partings (fun vs H Q E h => ?_) (fun cdv A outer s H vs Q E hr h => ?_)
  · obtain ⟨q, d, k, rfl, _⟩ := h
    rfl
  · obtain ⟨q, d, k, rfl, hs⟩ := h
    refine ⟨_, (pss_cons (ps_expr (pe_call (E := E) (okE_check_sum T pf) (hr.mono (by decide)) (by rfl) T.g_check_sum T.F_check_sum.kp T.b_check_sum .nil (passes_call (takes_of rfl rfl rfl rfl) fun _ _ _ _ h => h) (pa_cons (pv 0) (pa_cons (pv 1) (pa_cons (pv 2) pa_nil)))))
      (pss_cons (ps_set (i := 3) sc_sum_by_partings.nd rfl (Or.inr rfl) pe_dnewK)
      (pss_cons (ps_for (passes_of rfl) rfl (pi_list (pe_call (ok_found_partings T) (hr.mono (by decide)) (by rfl) T.g_found_partings T.F_found_partings.kp T.b_found_partings .nil pass0 (pa_cons (pv 0) (pa_cons (pv 1) (pa_cons (pv 2) pa_nil))))) (pg_name (i := 4) sc_sum_by_partings.nd rfl (Or.inl rfl)) (pss_cons (ps_set (i := 5) sc_sum_by_partings.nd rfl (Or.inl rfl) (pe_call (ok_members_exponent T) (hr.mono (by decide)) (by rfl) T.g_members_exponent T.F_members_exponent.kp T.b_members_exponent .nil pass0 (pa_cons (pv 4) pa_nil)))
      (pss_one (ps_dput (hu_of hr) (pv 3) (pv 5) (pe_op op_add (pe_dget2 (hu_of hr) (pv 3) (pv 5) pe_int ⟨by rfl, by rfl, by rfl, by rfl⟩) (pe_call (ok_lots_rest T) (hr.mono (by decide)) (by rfl) T.g_lots_rest T.F_lots_rest.kp T.b_lots_rest .nil pass0 (pa_cons (pe_ix (r := rIxW K) ix_tab (pe_glob (v := .ref T.a_PRIMES) (by rfl) T.g_PRIMES rfl) (pv 0) (fun _ _ => rfl)) (pa_cons (pv 4) pa_nil)))) rfl))))
      (pss_cons (ps_set (i := 6) sc_sum_by_partings.nd rfl (Or.inr rfl) (pe_dc (own := [("exponent", 5)]) (g := gName 5) rfl sc_sum_by_partings.nd (pi_list (pe_callB (call_sortedDn rfl) (by rfl) T.z_sorted (by decide +kernel) (pa_cons (pv 3) pa_nil))) (blkOk_by (N := ["q", "d", "k", "totals", "members", "exponent", "told"]) (sc := defScope s_sum_by_partings) (by decide +kernel)) (fun _ _ _ _ _ => pg_name (i := 5) sc_sum_by_partings.nd rfl (Or.inl rfl)) (fun _ _ _ _ _ => pts_nil) (fun _ _ _ _ _ => (pv 5)) (fun _ _ _ _ _ => (pe_call (ok_signed T) (hr.mono (by decide)) (by rfl) T.g_signed T.F_signed.kp T.b_signed .nil pass0 (pa_cons (pv 0) (pa_cons (pv 1) (pa_cons (pe_dget (hu_of hr) (pv 3) (pv 5) (fun _ _ => rfl)) pa_nil)))))))
      (pss_one (ps_ret (pe_lock (pe_dc (own := [("exponent", 5)]) (g := gName 5) rfl sc_sum_by_partings.nd (pi_keys (pv 6)) (blkOk_by (N := ["q", "d", "k", "totals", "members", "exponent", "told"]) (sc := defScope s_sum_by_partings) (by decide +kernel)) (fun _ _ _ _ _ => pg_name (i := 5) sc_sum_by_partings.nd rfl (Or.inl rfl)) (fun _ _ _ _ _ => (pts_one (pt_cmpR op_ne (pe_dget (hu_of hr) (pv 6) (pv 5) (fun _ _ => rfl)) pe_int (nomark _)))) (fun _ _ _ _ _ => (pv 5)) (fun _ _ _ _ _ => (pe_dget (hu_of hr) (pv 6) (pv 5) (fun _ _ => rfl))))))))))), ?_⟩
    exact q_dropX (ea_cons (ev_var rfl) (ea_cons (ev_var rfl) (ea_cons (ev_var rfl) ea_nil))) fun H1 e1 => ⟨q, d, k, rfl, hs.ex e1⟩


theorem okE_is_parting {P : Program} {w : World} {K : PySem.W.Frag} {mg : Str → Option Value} {base : Heap} (T : Txt K mg) (pf : PF P) : FnOk P w K mg base (L2.CX P w) 6 T.a_is_parting T.d_is_parting ["q", "d", "k", "value"] (spE_part K T.a_InvalidField T.a_InvalidNumber) := by
  refine T.F_is_parting.okX sc_is_parting (fun vs H Q E h => ?_) (fun cdv A outer s H vs Q E hr h => ?_)
  · obtain ⟨q, d, k, v, rfl, _⟩ := h
    rfl
  · obtain ⟨q, d, k, v, rfl, hs⟩ := h
    refine ⟨_, (pss_cons (ps_expr (pe_call (E := E) (okE_check_sum T pf) (hr.mono (by decide)) (by rfl) T.g_check_sum T.F_check_sum.kp T.b_check_sum .nil (passes_call (takes_of rfl rfl rfl rfl) fun _ _ _ _ h => h) (pa_cons (pv 0) (pa_cons (pv 1) (pa_cons (pv 2) pa_nil)))))
      (pss_cons (ps_if (PW.pt (pw_or (pt_not (pt_val (pe_callB call_isi (by rfl) T.z_isinstance (by decide +kernel) (pa_cons (pv 3) (pa_cons (pe_bltn (v := .ty "tuple") (u := .type "tuple") (by rfl) T.z_tuple (by decide +kernel) rfl) pa_nil))))) (pw_or1 (pt_cmpR op_ne (pe_callB call_len_seq (by rfl) T.z_len (by decide +kernel) (pa_cons (pv 3) pa_nil)) (pe_op op_add (pv 1) pe_int) (nomark _))))) (pss_one (ps_ret pe_bl)) pss_nil)
      (pss_cons (ps_if (pt_not (pt_val (pe_callB (cr_all rfl) (by rfl) T.z_all (by decide +kernel) (pa_cons (pe_lc (own := [("member", 4)]) (g := gName 4) rfl sc_is_parting.nd (pi_tup (pv 3)) (blkOk_by (N := ["q", "d", "k", "value", "member"]) (sc := defScope s_is_parting) (by decide +kernel)) (fun _ _ _ _ _ => pg_name (i := 4) sc_is_parting.nd rfl (Or.inl rfl)) (fun _ _ _ _ _ => pts_nil) (fun _ _ _ _ _ => (pe_call (ok_is_between T) (hr.mono (by decide)) (by rfl) T.g_is_between T.F_is_between.kp T.b_is_between .nil pass0 (pa_cons (pv 4) (pa_cons pe_int (pa_cons (pv 2) pa_nil)))))) pa_nil)))) (pss_one (ps_ret pe_bl)) pss_nil)
      (pss_cons (ps_if (pt_not (pt_val (pe_callB (cr_all rfl) (by rfl) T.z_all (by decide +kernel) (pa_cons (pe_lc (own := [("member", 4)]) (g := gName 4) rfl sc_is_parting.nd (pi_tup (pe_slice sl_tup (pv 3) po_none (po_some (pv 1)))) (blkOk_by (N := ["q", "d", "k", "value", "member"]) (sc := defScope s_is_parting) (by decide +kernel)) (fun _ _ _ _ _ => pg_name (i := 4) sc_is_parting.nd rfl (Or.inl rfl)) (fun _ _ _ _ _ => pts_nil) (fun _ _ _ _ _ => (pe_and (pe_cmpR op_gt (pv 4) pe_int (nomark _)) (pe_one (pe_cmpR op_eq (pe_op op_mod (pv 4) (pe_op op_sub (pv 0) pe_int)) pe_int (nomark _)))))) pa_nil)))) (pss_one (ps_ret pe_bl)) pss_nil)
      (pss_one (ps_ret (pe_and (pe_cmpR op_eq (pe_callB (cr_sumT rfl) (by rfl) T.z_sum (by decide +kernel) (pa_cons (pv 3) pa_nil)) (pv 2) (nomark _)) (pe_one (pe_call (ok_are_carry_free T) (hr.mono (by decide)) (by rfl) T.g_are_carry_free T.F_are_carry_free.kp T.b_are_carry_free .nil pass0 (pa_cons (pe_ix (r := rIxW K) ix_tab (pe_glob (v := .ref T.a_PRIMES) (by rfl) T.g_PRIMES rfl) (pv 0) (fun _ _ => rfl)) (pa_cons (pv 3) pa_nil))))))))))), ?_⟩
    exact q_dropX (ea_cons (ev_var rfl) (ea_cons (ev_var rfl) (ea_cons (ev_var rfl) ea_nil))) fun H1 e1 => ⟨q, d, k, rfl, hs.ex e1⟩


theorem okE_is_digit_bar {P : Program} {w : World} {K : PySem.W.Frag} {mg : Str → Option Value} {base : Heap} (T : Txt K mg) (pf : PF P) : FnOk P w K mg base (L2.CX P w) 6 T.a_is_digit_bar T.d_is_digit_bar ["q", "d", "k", "value"] (spE_part K T.a_InvalidField T.a_InvalidNumber) := by
  refine T.F_is_digit_bar.okX sc_is_digit_bar (fun vs H Q E h => ?_) (fun cdv A outer s H vs Q E hr h => ?_)
  · obtain ⟨q, d, k, v, rfl, _⟩ := h
    rfl
  · obtain ⟨q, d, k, v, rfl, hs⟩ := h
    refine ⟨_, (pss_cons (ps_expr (pe_call (E := E) (okE_check_sum T pf) (hr.mono (by decide)) (by rfl) T.g_check_sum T.F_check_sum.kp T.b_check_sum .nil (passes_call (takes_of rfl rfl rfl rfl) fun _ _ _ _ h => h) (pa_cons (pv 0) (pa_cons (pv 1) (pa_cons (pv 2) pa_nil)))))
      (pss_one (ps_ret (pe_and (pe_call (ok_is_between T) (hr.mono (by decide)) (by rfl) T.g_is_between T.F_is_between.kp T.b_is_between .nil pass0 (pa_cons (pv 3) (pa_cons pe_int (pa_cons (pe_op op_sub (pe_ix (r := rIxW K) ix_tab (pe_glob (v := .ref T.a_POWERS) (by rfl) T.g_POWERS rfl) (pv 0) (fun _ _ => rfl)) pe_int) pa_nil)))) (pe_one (pe_call (ok_is_bar T) (hr.mono (by decide)) (by rfl) T.g_is_bar T.F_is_bar.kp T.b_is_bar .nil pass0 (pa_cons (pv 0) (pa_cons (pv 1) (pa_cons (pv 2) (pa_cons (pv 3) pa_nil)))))))))), ?_⟩
    exact q_dropX (ea_cons (ev_var rfl) (ea_cons (ev_var rfl) (ea_cons (ev_var rfl) ea_nil))) fun H1 e1 => ⟨q, d, k, rfl, hs.ex e1⟩


def spX_part (K : PySem.W.Frag) (CP : Addr) : Sp := fun vs H Q E => ∃ (q d k : Nat) (v : V) (N : Addr → Prop) (D : Dt), vs = [N_ q, N_ d, N_ k, v] ∧ Fq q ∧ d ≤ 300 ∧ k < 10 ^ 60 ∧ Vl K N H v D ∧ (∀ ks, D = .tup ks → ks.length ≤ 1000) ∧ pB q d k D = false ∧ ErF CP H E

theorem okE_check_parting {P : Program} {w : World} {K : PySem.W.Frag} {mg : Str → Option Value} {base : Heap} (T : Txt K mg) (pf : PF P) : FnOk P w K mg base (L2.CX P w) 7 T.a_check_parting T.d_check_parting ["q", "d", "k", "value"] (spE_part K T.a_InvalidField T.a_InvalidNumber) := by
  refine T.F_check_parting.okX sc_check_parting (fun vs H Q E h => ?_) (fun cdv A outer s H vs Q E hr h => ?_)
  · obtain ⟨q, d, k, v, rfl, _⟩ := h
    rfl
  · obtain ⟨q, d, k, v, rfl, hs⟩ := h
    refine ⟨_, (pss_one (ps_if (pt_not (pt_val (pe_call (E := E) (okE_is_parting T pf) (hr.mono (by decide)) (by rfl) T.g_is_parting T.F_is_parting.kp T.b_is_parting .nil (passes_call (takes_of rfl rfl rfl rfl) fun _ _ _ _ h => h) (pa_cons (pv 0) (pa_cons (pv 1) (pa_cons (pv 2) (pa_cons (pv 3) pa_nil))))))) (pss_one (ps_raise rfl (takes_of rfl rfl rfl rfl) (pmk_own PySem.F.excBase_ValueError T.r_InvalidParting.ex T.g_InvalidParting T.r_InvalidParting.kp (raises_own T.r_InvalidParting.sb T.r_InvalidParting.ty) rfl))) pss_nil)), ?_⟩
    exact s_whenX (ea_cons (ev_var rfl) (ea_cons (ev_var rfl) (ea_cons (ev_var rfl) (ea_cons (ev_var rfl) ea_nil)))) fun H1 e1 _ => ⟨q, d, k, v, rfl, hs.ex e1⟩


theorem okX_check_parting {P : Program} {w : World} {K : PySem.W.Frag} {mg : Str → Option Value} {base : Heap} (T : Txt K mg) (pf : PF P) : FnOk P w K mg base (L2.CX P w) 7 T.a_check_parting T.d_check_parting ["q", "d", "k", "value"] (spX_part K T.a_InvalidParting) := by
  refine T.F_check_parting.okX sc_check_parting (fun vs H Q E h => ?_) (fun cdv A outer s H vs Q E hr h => ?_)
  · obtain ⟨q, d, k, v, N, D, rfl, _⟩ := h
    rfl
  · obtain ⟨q, d, k, v, N, D, rfl, hq, hd, hk, hv, hz, hb, ke⟩ := h
    refine ⟨_, (pss_one (ps_if (pt_not (pt_val (pe_call (okV_is_parting T) (hr.mono (by decide)) (by rfl) T.g_is_parting T.F_is_parting.kp T.b_is_parting .nil pass0 (pa_cons (pv 0) (pa_cons (pv 1) (pa_cons (pv 2) (pa_cons (pv 3) pa_nil))))))) (pss_one (ps_raise rfl (takes_of rfl rfl rfl rfl) (pmk_own PySem.F.excBase_ValueError T.r_InvalidParting.ex T.g_InvalidParting T.r_InvalidParting.kp (raises_own T.r_InvalidParting.sb T.r_InvalidParting.ty) rfl))) pss_nil)), ?_⟩
    exact s_when (b := true) (et_is (et_not (et_B (ev_call (ea_cons (ev_var rfl) (ea_cons (ev_var rfl) (ea_cons (ev_var rfl) (ea_cons (ev_var rfl) ea_nil)))) (svV_is_parting (K := K) hq hd hk hv hz)))) (by rw [hb]; rfl)) (fun _ H1 e1 => ke H1 e1) (fun h => nomatch h)


theorem okE_parting_exponent {P : Program} {w : World} {K : PySem.W.Frag} {mg : Str → Option Value} {base : Heap} (T : Txt K mg) (pf : PF P) : FnOk P w K mg base (L2.CX P w) 8 T.a_parting_exponent T.d_parting_exponent ["q", "d", "k", "value"] (spE_part K T.a_InvalidField T.a_InvalidNumber) := by
  refine T.F_parting_exponent.okX sc_parting_exponent (fun vs H Q E h => ?_) (fun cdv A outer s H vs Q E hr h => ?_)
  · obtain ⟨q, d, k, v, rfl, _⟩ := h
    rfl
  · obtain ⟨q, d, k, v, rfl, hs⟩ := h
    refine ⟨_, (pss_cons (ps_expr (pe_call (E := E) (okE_check_parting T pf) (hr.mono (by decide)) (by rfl) T.g_check_parting T.F_check_parting.kp T.b_check_parting .nil (passes_call (takes_of rfl rfl rfl rfl) fun _ _ _ _ h => h) (pa_cons (pv 0) (pa_cons (pv 1) (pa_cons (pv 2) (pa_cons (pv 3) pa_nil))))))
      (pss_one (ps_ret (pe_call (ok_members_exponent T) (hr.mono (by decide)) (by rfl) T.g_members_exponent T.F_members_exponent.kp T.b_members_exponent .nil pass0 (pa_cons (pv 3) pa_nil))))), ?_⟩
    exact q_dropX (ea_cons (ev_var rfl) (ea_cons (ev_var rfl) (ea_cons (ev_var rfl) (ea_cons (ev_var rfl) ea_nil)))) fun H1 e1 => ⟨q, d, k, v, rfl, hs.ex e1⟩


theorem okE_parting_number {P : Program} {w : World} {K : PySem.W.Frag} {mg : Str → Option Value} {base : Heap} (T : Txt K mg) (pf : PF P) : FnOk P w K mg base (L2.CX P w) 8 T.a_parting_number T.d_parting_number ["q", "d", "k", "value"] (spE_part K T.a_InvalidField T.a_InvalidNumber) := by
  refine T.F_parting_number.okX sc_parting_number (fun vs H Q E h => ?_) (fun cdv A outer s H vs Q E hr h => ?_)
  · obtain ⟨q, d, k, v, rfl, _⟩ := h
    rfl
  · obtain ⟨q, d, k, v, rfl, hs⟩ := h
    refine ⟨_, (pss_cons (ps_expr (pe_call (E := E) (okE_check_parting T pf) (hr.mono (by decide)) (by rfl) T.g_check_parting T.F_check_parting.kp T.b_check_parting .nil (passes_call (takes_of rfl rfl rfl rfl) fun _ _ _ _ h => h) (pa_cons (pv 0) (pa_cons (pv 1) (pa_cons (pv 2) (pa_cons (pv 3) pa_nil))))))
      (pss_one (ps_ret (pe_call (ok_lots_rest T) (hr.mono (by decide)) (by rfl) T.g_lots_rest T.F_lots_rest.kp T.b_lots_rest .nil pass0 (pa_cons (pe_ix (r := rIxW K) ix_tab (pe_glob (v := .ref T.a_PRIMES) (by rfl) T.g_PRIMES rfl) (pv 0) (fun _ _ => rfl)) (pa_cons (pv 3) pa_nil)))))), ?_⟩
    exact q_dropX (ea_cons (ev_var rfl) (ea_cons (ev_var rfl) (ea_cons (ev_var rfl) (ea_cons (ev_var rfl) ea_nil)))) fun H1 e1 => ⟨q, d, k, v, rfl, hs.ex e1⟩


theorem okX_parting_exponent {P : Program} {w : World} {K : PySem.W.Frag} {mg : Str → Option Value} {base : Heap} (T : Txt K mg) (pf : PF P) : FnOk P w K mg base (L2.CX P w) 8 T.a_parting_exponent T.d_parting_exponent ["q", "d", "k", "value"] (spX_part K T.a_InvalidParting) := by
  refine T.F_parting_exponent.okX sc_parting_exponent (fun vs H Q E h => ?_) (fun cdv A outer s H vs Q E hr h => ?_)
  · obtain ⟨q, d, k, v, N, D, rfl, _⟩ := h
    rfl
  · obtain ⟨q, d, k, v, N, D, rfl, hq, hd, hk, hv, hz, hb, ke⟩ := h
    refine ⟨_, (pss_cons (ps_expr (pe_call (E := E) (okX_check_parting T pf) (hr.mono (by decide)) (by rfl) T.g_check_parting T.F_check_parting.kp T.b_check_parting .nil (passes_call (takes_of rfl rfl rfl rfl) fun _ _ _ _ h => h) (pa_cons (pv 0) (pa_cons (pv 1) (pa_cons (pv 2) (pa_cons (pv 3) pa_nil))))))
      (pss_one (ps_ret (pe_call (ok_members_exponent T) (hr.mono (by decide)) (by rfl) T.g_members_exponent T.F_members_exponent.kp T.b_members_exponent .nil pass0 (pa_cons (pv 3) pa_nil))))), ?_⟩
    exact q_dropX (ea_cons (ev_var rfl) (ea_cons (ev_var rfl) (ea_cons (ev_var rfl) (ea_cons (ev_var rfl) ea_nil)))) fun H1 e1 => ⟨q, d, k, v, N, D, rfl, hq, hd, hk, hv.ex e1, hz, hb, ke.ex e1⟩


theorem okX_parting_number {P : Program} {w : World} {K : PySem.W.Frag} {mg : Str → Option Value} {base : Heap} (T : Txt K mg) (pf : PF P) : FnOk P w K mg base (L2.CX P w) 8 T.a_parting_number T.d_parting_number ["q", "d", "k", "value"] (spX_part K T.a_InvalidParting) := by
  refine T.F_parting_number.okX sc_parting_number (fun vs H Q E h => ?_) (fun cdv A outer s H vs Q E hr h => ?_)
  · obtain ⟨q, d, k, v, N, D, rfl, _⟩ := h
    rfl
  · obtain ⟨q, d, k, v, N, D, rfl, hq, hd, hk, hv, hz, hb, ke⟩ := h
    refine ⟨_, (pss_cons (ps_expr (pe_call (E := E) (okX_check_parting T pf) (hr.mono (by decide)) (by rfl) T.g_check_parting T.F_check_parting.kp T.b_check_parting .nil (passes_call (takes_of rfl rfl rfl rfl) fun _ _ _ _ h => h) (pa_cons (pv 0) (pa_cons (pv 1) (pa_cons (pv 2) (pa_cons (pv 3) pa_nil))))))
      (pss_one (ps_ret (pe_call (ok_lots_rest T) (hr.mono (by decide)) (by rfl) T.g_lots_rest T.F_lots_rest.kp T.b_lots_rest .nil pass0 (pa_cons (pe_ix (r := rIxW K) ix_tab (pe_glob (v := .ref T.a_PRIMES) (by rfl) T.g_PRIMES rfl) (pv 0) (fun _ _ => rfl)) (pa_cons (pv 3) pa_nil)))))), ?_⟩
    exact q_dropX (ea_cons (ev_var rfl) (ea_cons (ev_var rfl) (ea_cons (ev_var rfl) (ea_cons (ev_var rfl) ea_nil)))) fun H1 e1 => ⟨q, d, k, v, N, D, rfl, hq, hd, hk, hv.ex e1, hz, hb, ke.ex e1⟩


end Own
/-! what is heard of a lambda -/
namespace Own
open PySem PySem.Spec PyProof.Rows L2 Evl LamX

theorem hu50 {k : Nat} {A : Around} {env : Env} (hr : Room k (A.deeper env)) : (A.deeper env).units + 50 < cLine := by have := hr.un; omega
theorem heard_body : ∃ (p1 p2 p3 p4 p5 p6 p7 p8 p9 p10 p11 p12 p13 p14 p15 p16 p17 p18 p19 p20 p21 p22 p23 p24 p25 p26 p27 p28 p29 p30 p31 p32 : Pos) (j1 j2 j3 j4 j5 : Nat), defBody s__law_met = [.Try [.Expr (.Call (.Name "_law_call" p1) [] [] p2) p3] [.ExceptHandler (some (.Name "InvalidField" p4)) none [.Return (some (.Constant (.str "field") j1 p5)) p6] p7, .ExceptHandler (some (.Name "InvalidParting" p8)) none [.Return (some (.Constant (.str "parting") j2 p9)) p10] p11,
      .ExceptHandler (some (.Name "InvalidNumber" p12)) (some "e") [.Return (some (.BinOp (.Constant (.str "number ") j3 p13) .Add (.Call (.Name "repr" p14) [.Attribute (.Name "e" p15) "given" p16] [] p17) p18)) p19] p20,
      .ExceptHandler (some (.Name "TooMany" p21)) (some "e") [.Return (some (.BinOp (.Constant (.str "many ") j4 p22) .Add (.Call (.Name "repr" p23) [.Attribute (.Name "e" p24) "limit" p25] [] p26) p27)) p28] p29] [] [] p30, .Return (some (.Constant (.str "fine") j5 p31)) p32] := ⟨_, _, _, _, _, _, _, _, _, _, _, _, _, _, _, _, _, _, _, _, _, _, _, _, _, _, _, _, _, _, _, _, _, _, _, _, _, rfl⟩
def sc_heard : FnScope ["_law_call", "e"] ["_law_call"] (defScope s__law_met) := ⟨rfl, rfl, rfl, by decide +kernel, rfl, by decide +kernel, by decide +kernel⟩
def F4 {K : PySem.W.Frag} {mg : Str → Option Value} (T : Txt K mg) : Eh.Four := ⟨T.a_InvalidField, T.a_InvalidParting, T.a_InvalidNumber, T.a_TooMany, "field", "parting", "number ", "many ", "given", "limit", "fine"⟩
theorem apart {K : PySem.W.Frag} {mg : Str → Option Value} (T : Txt K mg) : (F4 T).Apart K := ⟨T.x_InvalidField_InvalidField, T.x_InvalidParting_InvalidField, T.x_InvalidParting_InvalidParting, T.x_InvalidNumber_InvalidField, T.x_InvalidNumber_InvalidParting, T.x_InvalidNumber_InvalidNumber, T.x_TooMany_InvalidField, T.x_TooMany_InvalidParting, T.x_TooMany_InvalidNumber, T.x_TooMany_TooMany,
  T.u_InvalidNumber.xf, T.u_InvalidNumber.fno, T.u_TooMany.xf, T.u_TooMany.fno, (show ("number " : Str).length ≤ 100 by decide +kernel), (show ("many " : Str).length ≤ 100 by decide +kernel)⟩
theorem pe_heard {X : Cx} (gd : Prop) (hgd : gd → X.A.guards = some []) {K : PySem.W.Frag} {mg : Str → Option Value} (T : Txt K mg) (hK : X.K = K) (hmg : X.mg = mg) {Tt : List (Addr × Str)} {c P : Addr} {k : Nat} {params : Arguments} {body : Expr} {scope : Scope} {t : XK → TE} {p lpos pos : Pos} (hg : Gl X "_law_met")
    (TB : TabB X.base X.mg c P) (hcode : X.env.code = .ref c) (hmT : (P, X.env.qual ++ "<lambda>") ∈ Tt) (hu : ∀ p ∈ Tt, p.1 = P → p.2 = X.env.qual ++ "<lambda>") (hr : Room (k + 2) X.A) (L : LamS X.env.scope scope) (hdef : defaultsOf params X.env = ([], []))
    (hbind : ∀ (q : Str) (cl : List (Str × Addr)) (pm cv ctv : Value), bindArgs (PySem.W.kla_fn "<lambda>" q params body scope cl pm cv ctv) ⟨[], []⟩ = pure [])
    (hbody : ∀ (A : Around) (outer : List Env) (s : Shared) (H : Hp) (E : XK) (f c' : Addr), Room k (A.deeper (lamEnv X scope s.heap.objs.size f c')) → PE (lamCx X A outer s H E scope f c') body (t E)) :
    PE X (.Call (.Name "_law_met" p) [.Lambda params body scope lpos] [] pos) (tLam Tt (Eh.TFour (F4 T) K gd) t) := by
  subst hK
  subst hmg
  obtain ⟨oc, od, kV, doc, pm, an, cdv, ct, osl, e, lk, hcd⟩ := T.F__law_met.ex
  have hb := T.b__law_met
  rw [e] at lk hb
  obtain ⟨p1, p2, p3, p4, p5, p6, p7, p8, p9, p10, p11, p12, p13, p14, p15, p16, p17, p18, p19, p20, p21, p22, p23, p24, p25, p26, p27, p28, p29, p30, p31, p32, j1, j2, j3, j4, j5, eb⟩ := heard_body
  refine pe_lamcall (a := "_law_call") hg T.g__law_met T.F__law_met.kp lk hcd hb sc_heard rfl (Or.inl rfl) ?_ TB hcode hmT hu hr L hdef hbind hbody
  rw [eb]
  exact Eh.four_gives (F := F4 T) (Ng := ["_law_call", "e"]) (sg := defScope s__law_met) (apart T) (by have := hr.un; omega) hgd ⟨rfl, T.g_InvalidField, by decide⟩ ⟨rfl, T.g_InvalidParting, by decide⟩ ⟨rfl, T.g_InvalidNumber, by decide⟩ ⟨rfl, T.g_TooMany, by decide⟩
    rfl T.z_repr rfl rfl (by decide) (by decide) (by decide) rfl fun f => rfl

/-- several defs that a captured name may hold -/
structure HeldX (P : Program) (w : World) (K : PySem.W.Frag) (mg : Str → Option Value) (base : Heap) (CX : CXT) (k : Nat) (f : Addr) (sp : Sp) : Prop where
  ex : ∃ (fd : FuncData) (ps : List Str), FnOk P w K mg base CX k f fd ps sp ∧ PySem.W.keepIn K (.ref f) = true ∧ L2.Binds K fd ps []
def tCallV (i : Nat) (S : Addr → Sp → Prop) (E : XK) (t : TA) : TE := fun σ H Q => ∃ f sp, σ[i]? = some (some (.ref f)) ∧ S f sp ∧ t σ H fun vs H1 => sp vs H1 Q E
theorem pe_callV {X : Cx} {CX : CXT} {k i : Nat} {E : XK} {x : Str} {p pos : Pos} {e : Expr} {es : List Expr} {t : TA} {S : Addr → Sp → Prop} (A : ∀ f sp, S f sp → HeldX X.prog X.w X.K X.mg X.base CX k f sp) (hr : Room k X.A) (hN : X.N[i]? = some x) (hv : Vis X.env.scope x) (hx : Passes CX X E) (ha : PA X (e :: es) t)
    (hdb : (x == ("__debug__" : Str)) = false := by decide) (hcd : (x == ("__classdict__" : Str)) = false := by decide)
    (he : starEach (e :: es) X.env = (false, eval e X.env) :: starEach es X.env := by rfl) (hpl : (backTo pos (starEach es X.env)).any (·.1) = false := by rfl) : PE X (.Call (.Name x p) (e :: es) [] pos) (tCallV i S E t) := by
  refine ⟨fun pins s σ H Q I h => ?_⟩
  obtain ⟨f, sp, hs, hS, ht⟩ := h
  obtain ⟨fd, ps, F, hk, hb⟩ := (A f sp hS).ex
  have e0 : (fun (vs : List V) (H1 : Hp) => sp (vs ++ []) H1 Q E) = fun vs H1 => sp vs H1 Q E := by
    funext vs H1
    rw [List.append_nil]
  refine (pe_callL (i := i) (f := f) (sp := sp) (dvs := []) (E := E) F hr hN hv hk hb .nil hx ha hdb hcd he hpl).run pins s σ H Q I ⟨hs, ?_⟩
  show t σ H (fun vs H1 => sp (vs ++ []) H1 Q E)
  rw [e0]
  exact ht

theorem n_lst {xs : List V} : ∀ ps, HO.lst xs ≠ .tbl ps := fun ps z => by cases z
theorem n_tup {xs : List V} : ∀ ps, HO.tup xs ≠ .tbl ps := fun ps z => by cases z
theorem n_dk {xs : List (Key × V)} : ∀ ps, HO.dK xs ≠ .tbl ps := fun ps z => by cases z
theorem n_frz {o : Obj} {x : HO} : ∀ ps, HO.frz o x ≠ .tbl ps := fun ps z => by cases z
section
variable {K : PySem.W.Frag} {H H' : Hp} {p a : Addr} {xs : List V} {q : Nat} {N M : Addr → Prop}
theorem sqt_n (e : ExtN H H') (h : SqT K H a xs) : SqT K H' a xs := by
  rcases h with (h | ⟨o, h⟩) | h
  · exact .inl (.inl (e _ _ h n_tup))
  · exact .inl (.inr ⟨o, e _ _ h n_frz⟩)
  · exact .inr h
theorem sql_n (e : ExtN H H') (h : SqL K H a xs) : SqL K H' a xs := by
  rcases h with (h | ⟨o, h⟩) | h
  · exact .inl (.inl (e _ _ h n_lst))
  · exact .inl (.inr ⟨o, e _ _ h n_frz⟩)
  · exact .inr h
theorem It_.extN {v : V} {kd : Vk} (h : It_ K N H v kd) (e : ExtN H H') : It_ K N H' v kd := by
  cases kd with
  | oth =>
    obtain ⟨t, h⟩ := h
    exact ⟨t, h.mv (fun _ _ _ h => e _ _ h n_lst) (fun _ _ _ h => e _ _ h n_dk) (fun _ _ h => sqt_n e h)⟩
  | _ => exact h
theorem Vl.extN {v : V} {D : Dt} (h : Vl K N H v D) (e : ExtN H H') : Vl K N H' v D := by
  cases D with
  | no =>
    rcases h with h | h | h
    · exact .inl h
    · exact .inr (.inl h)
    · exact .inr (.inr (h.mv (fun _ _ _ h => e _ _ h n_lst) (fun _ _ _ h => e _ _ h n_dk) (fun _ _ h => sqt_n e h)))
  | tup ks =>
    obtain ⟨a, vs, e1, e2, e3, e4⟩ := h
    exact ⟨a, vs, e1, sqt_n e e2, e3, fun i x kd h1 h2 => (e4 i x kd h1 h2).extN e⟩
mutual
theorem dp_n (e : ExtN H H') : ∀ (d : PyData) (v : V), Dp K H v d → Dp K H' v d
  | .none, _, h => by cases h; exact .non
  | .bool _, _, h => by cases h; exact .bl _
  | .int _, _, h => by cases h; exact .int _
  | .str _, _, h => by cases h; exact .str _
  | .list ds, _, h => by
    cases h with
    | lst h1 h2 => exact .lst (sql_n e h1) (dpAll_n e ds _ h2)
  | .tuple ds, _, h => by
    cases h with
    | tup h1 h2 => exact .tup (sqt_n e h1) (dpAll_n e ds _ h2)
  | .dict _, _, h => by cases h
theorem dpAll_n (e : ExtN H H') : ∀ (ds : List PyData) (vs : List V), DpAll K H vs ds → DpAll K H' vs ds
  | [], _, h => by cases h; exact .nil
  | d :: ds, _, h => by
    cases h with
    | cons h1 h2 => exact .cons (dp_n e d _ h1) (dpAll_n e ds _ h2)
end
end
theorem str_beq (x : Str) : (x == x) = true := beq_self_eq_true x
theorem eqv_strs : ∀ xs : List Str, PyData.eqvAll (xs.map PyData.str) (xs.map PyData.str) = true
  | [] => by simp [PyData.eqvAll]
  | x :: xs => by
    rw [List.map_cons]
    simp only [PyData.eqvAll, PyData.eqv, eqv_strs xs, str_beq, Bool.and_self]
theorem can_strs : ∀ xs : List Str, (∀ x ∈ xs, PyData.canLay0 (.str x) = true) → PyData.canLayAll0 (xs.map PyData.str) = true
  | [], _ => by simp [PyData.canLayAll0]
  | x :: xs, h => by
    rw [List.map_cons]
    simp only [PyData.canLayAll0, can_strs xs fun y hy => h y (.tail _ hy), h x (.head _), Bool.and_self]
theorem dep_strs : ∀ xs : List Str, PyData.depthAll (xs.map PyData.str) = 0
  | [] => by simp [PyData.depthAll]
  | x :: xs => by
    rw [List.map_cons]
    simp only [PyData.depthAll, PyData.depth, dep_strs xs, Nat.max_self]
theorem dp_strs {K : PySem.W.Frag} {H : Hp} : ∀ xs : List Str, DpAll K H (xs.map V.str) (xs.map PyData.str)
  | [] => .nil
  | x :: xs => .cons (.str x) (dp_strs xs)
section
variable {K : PySem.W.Frag} {H : Hp} {m u : Addr} {xs : List Str}
theorem sh_strs (h : ∀ x ∈ xs, PyData.canLay0 (.str x) = true) : SeqAt.shaped (.list (xs.map PyData.str)) = true := by
  show (PyData.canLay0 (.list (xs.map PyData.str)) && decide (PyData.depth (.list (xs.map PyData.str)) ≤ 64)) = true
  simp only [PyData.canLay0, can_strs xs h, PyData.depth, dep_strs]
  rfl
theorem rv_eqS (h : ∀ x ∈ xs, PyData.canLay0 (.str x) = true) (h1 : SqL K H m (xs.map V.str)) (h2 : SqL K H u (xs.map V.str)) : RV (rEqD K) (.ref m) (.ref u) H (.bl true) := fun H1 e _ q =>
  ⟨_, _, .lst (sql_n (ExtN.of e) h1) (dp_strs xs), .lst (sql_n (ExtN.of e) h2) (dp_strs xs), sh_strs h, sh_strs h, by rw [show PyData.eqv (.list (xs.map PyData.str)) (.list (xs.map PyData.str)) = true by simp only [PyData.eqv, eqv_strs]]; exact q H1 (Ex.refl H1)⟩
theorem rv_neS (h : ∀ x ∈ xs, PyData.canLay0 (.str x) = true) (h1 : SqL K H m (xs.map V.str)) (h2 : SqL K H u (xs.map V.str)) : RV (rNeD K) (.ref m) (.ref u) H (.bl false) := fun H1 e _ q =>
  ⟨_, _, .lst (sql_n (ExtN.of e) h1) (dp_strs xs), .lst (sql_n (ExtN.of e) h2) (dp_strs xs), sh_strs h, sh_strs h, by rw [show PyData.eqv (.list (xs.map PyData.str)) (.list (xs.map PyData.str)) = true by simp only [PyData.eqv, eqv_strs]]; exact q H1 (Ex.refl H1)⟩
end
/-- what is told behind a lambda: all but the tables stays -/
def EvW (TLs : List (Addr × Str)) (te : TE) (σ : L2.St) (H : Hp) (v : V) : Prop := ∀ Q : VK, (∀ H', ExtN H H' → Tabs TLs H' → Q v H') → te σ H Q
def NewN (H : Hp) (m : Addr) : Prop := ∀ o, H m = some o → ∃ ps, o = .tbl ps
/-- a list that grows while lambdas are heard -/
structure Wk (TLs : List (Addr × Str)) (H0 H : Hp) (m : Addr) (ys : List V) : Prop where
  e : ExtN H0 H
  n : NewN H0 m
  t : Tabs TLs H
  h : H m = some (.lst ys)
section
variable {K : PySem.W.Frag} {mg : Str → Option Value} {TLs : List (Addr × Str)} {σ : L2.St} {H0 H H1 : Hp} {te ta : TE} {t : XK → TE} {D : Ends} {tz : TS} {v : V} {g : Prop} {m : Addr} {ys : List V}
theorem newN_of (e : ExtN H H1) (n : H1 m = none) : NewN H m := fun o h => Classical.byContradiction fun z => by
  have := e m o h (fun ps q => z ⟨ps, q⟩)
  rw [n] at this
  cases this
theorem extN_upd {o : HO} (e : ExtN H H1) (n : NewN H m) : ExtN H (upd H1 m o) := fun b o' h hn => by
  by_cases hb : b = m
  · subst hb
    obtain ⟨ps, hp⟩ := n o' h
    exact absurd hp (hn ps)
  · rw [upd_ne hb]
    exact e b o' h hn
theorem tabs_upd {o : HO} (h : Tabs TLs H) (hm : H m = some (.lst ys)) : Tabs TLs (upd H m o) := fun p hp => by
  obtain ⟨ps, h1, h2, h3⟩ := h p hp
  refine ⟨ps, by rw [upd_ne (fun z => by rw [z, hm] at h1; cases h1)]; exact h1, h2, fun pos cv hc => ?_⟩
  obtain ⟨c, e1, e2⟩ := h3 pos cv hc
  exact ⟨c, e1, by rw [upd_ne (fun z => by rw [z, hm] at e2; unfold CodeO at e2; cases e2)]; exact e2⟩
theorem Wk.ex (s : Wk TLs H0 H m ys) (e : Ex H H1) : Wk TLs H0 H1 m ys := ⟨s.e.trans (ExtN.of e), s.n, s.t.ext e, e _ _ s.h⟩
theorem w_field (T : Txt K mg) (hT : Tabs TLs H) (h : ∀ H1, ExtN H H1 → ∀ (E : XK) (Q : VK), ErF T.a_InvalidField H1 E → t E σ H1 Q) : EvW TLs (tLam TLs (Eh.TFour (F4 T) K g) t) σ H (.str "field") :=
  fun Q k => ⟨hT, fun H1 e1 T1 => h H1 e1 _ _ fun H' e' => .inl ⟨rfl, k H' (e1.trans (ExtN.of e')) (T1.ext e')⟩⟩
theorem w_parting (T : Txt K mg) (hT : Tabs TLs H) (h : ∀ H1, ExtN H H1 → ∀ (E : XK) (Q : VK), ErF T.a_InvalidParting H1 E → t E σ H1 Q) : EvW TLs (tLam TLs (Eh.TFour (F4 T) K g) t) σ H (.str "parting") :=
  fun Q k => ⟨hT, fun H1 e1 T1 => h H1 e1 _ _ fun H' e' => .inr (.inl ⟨rfl, k H' (e1.trans (ExtN.of e')) (T1.ext e')⟩)⟩
theorem w_number (T : Txt K mg) {dt : PyData} (hT : Tabs TLs H) (hd : Dp K H v dt) (ok : Eh.RepOk g v dt) (h : ∀ H1, ExtN H H1 → ∀ (E : XK) (Q : VK), ErN T.a_InvalidNumber "given" v H1 E → t E σ H1 Q) : EvW TLs (tLam TLs (Eh.TFour (F4 T) K g) t) σ H (.str (("number " : Str) ++ dt.shown)) :=
  fun Q k => ⟨hT, fun H1 e1 T1 => h H1 e1 _ _ fun e H' e' he => .inr (.inr (.inl ⟨rfl, e, v, dt, rfl, he, dp_n (e1.trans (ExtN.of e')) _ _ hd, ok, k H' (e1.trans (ExtN.of e')) (T1.ext e')⟩))⟩
theorem many60 : ("many " : Str) ++ PyData.shown (.int 60) = ("many 60" : Str) := by decide +kernel
theorem w_many (T : Txt K mg) (hT : Tabs TLs H) (h : ∀ H1, ExtN H H1 → ∀ (E : XK) (Q : VK), ErN T.a_TooMany "limit" (.int 60) H1 E → t E σ H1 Q) : EvW TLs (tLam TLs (Eh.TFour (F4 T) K g) t) σ H (.str "many 60") :=
  fun Q k => ⟨hT, fun H1 e1 T1 => h H1 e1 _ _ fun e H' e' he => .inr (.inr (.inr ⟨rfl, e, .int 60, .int 60, rfl, he, .int 60, ⟨by decide +kernel, by decide +kernel, by decide +kernel, by decide +kernel, .inr (fun a z => by cases z)⟩, by
    show Q (.str (("many " : Str) ++ PyData.shown (.int 60))) H'
    rw [many60]
    exact k H' (e1.trans (ExtN.of e')) (T1.ext e')⟩))⟩
theorem w_fine (T : Txt K mg) (hT : Tabs TLs H) (h : ∀ H1, ExtN H H1 → ∀ (E : XK) (Q : VK), (∀ v H', Ex H1 H' → Q v H') → t E σ H1 Q) : EvW TLs (tLam TLs (Eh.TFour (F4 T) K g) t) σ H (.str "fine") :=
  fun Q k => ⟨hT, fun H1 e1 T1 => h H1 e1 _ _ fun v H' e' => k H' (e1.trans (ExtN.of e')) (T1.ext e')⟩
theorem q_begW {i : Nat} (h : EvW TLs te σ H v) (k : ∀ m H1, Wk TLs H H1 m [v] → tz D (σ.set i (some (.ref m))) H1) : tSeq (tAsg (tLst (tCons te tNil)) (gName i)) tz D σ H :=
  h _ fun H1 e1 T1 => ⟨by show 1 ≤ sizeLine; decide, fun p np => k p _ ⟨e1.trans (ExtN.of (Ex.new np)), newN_of e1 np, T1.ext (Ex.new np), upd_same⟩⟩
theorem app_go {j : Nat} {Q : VK} (s : Wk TLs H0 H m ys) (hl : ys.length ≤ 1000) (gj : σ[j]? = some (some (.ref m))) (h : EvW TLs te σ H v) (k : ∀ H1, Wk TLs H0 H1 m (ys ++ [v]) → (∀ b o, b ≠ m → H b = some o → (∀ ps, o ≠ .tbl ps) → H1 b = some o) → Q .non H1) : tBM K "list" rAppend (tVar j) (tCons te tNil) σ H Q :=
  ⟨.ref m, gj, Or.inl ⟨rfl, _, sq_of s.h⟩, h _ fun H2 e2 T2 => ⟨m, ys, v, rfl, rfl, e2 _ _ s.h n_lst, sz_lt (by omega), k _ ⟨extN_upd (s.e.trans e2) s.n, s.n, tabs_upd T2 (e2 _ _ s.h n_lst), upd_same⟩ fun b o hb h1 h2 => by
    rw [upd_ne hb]
    exact e2 b o h1 h2⟩⟩
theorem q_appW {j : Nat} (s : Wk TLs H0 H m ys) (hl : ys.length ≤ 1000) (gj : σ[j]? = some (some (.ref m))) (h : EvW TLs te σ H v) (k : ∀ H1, Wk TLs H0 H1 m (ys ++ [v]) → (∀ b o, b ≠ m → H b = some o → (∀ ps, o ≠ .tbl ps) → H1 b = some o) → tz D σ H1) : tSeq (tDrop (tBM K "list" rAppend (tVar j) (tCons te tNil))) tz D σ H := app_go s hl gj h k
theorem s_appW {j : Nat} (s : Wk TLs H0 H m ys) (hl : ys.length ≤ 1000) (gj : σ[j]? = some (some (.ref m))) (h : EvW TLs te σ H v) (k : ∀ H1, Wk TLs H0 H1 m (ys ++ [v]) → (∀ b o, b ≠ m → H b = some o → (∀ ps, o ≠ .tbl ps) → H1 b = some o) → D.nx σ H1) : tDrop (tBM K "list" rAppend (tVar j) (tCons te tNil)) D σ H := app_go s hl gj h k
theorem cv_go {i : Nat} {S : Addr → Sp → Prop} {E : XK} {tA : TA} {vs : List V} {f : Addr} {sp : Sp} {Q : VK} (gi : σ[i]? = some (some (.ref f))) (hS : S f sp) (hA : EvA tA σ H vs) (k : ∀ H1, Ex H H1 → sp vs H1 Q E) : tCallV i S E tA σ H Q := ⟨f, sp, gi, hS, hA H (Ex.refl H) _ k⟩
theorem ca_go {E : XK} {tA : TA} {vs : List V} {sp : Sp} {Q : VK} (hA : EvA tA σ H vs) (k : ∀ H1, Ex H H1 → sp vs H1 Q E) : tCall sp [] E tA σ H Q := hA H (Ex.refl H) _ fun H1 e1 => by
  rw [List.append_nil]
  exact k H1 e1
end

section
variable {K : PySem.W.Frag} {σ : L2.St} {H : Hp} {ta tb : TE} {m : Addr} {xs : List Str}
theorem ev_eqNew (ok : ∀ x ∈ xs, PyData.canLay0 (.str x) = true) (h1 : Ev ta σ H (.ref m)) (hm : H m = some (.lst (xs.map V.str))) (h2 : EvL tb σ H (xs.map V.str)) : Ev (tOp (rEqD K) ta tb) σ H (.bl true) := fun H1 e Q q =>
  h1 H1 e _ fun H2 e2 => h2 H2 (e.trans e2) _ fun p H3 np e3 hp => rv_eqS ok (sq_of (((e.trans e2).trans e3) _ _ hm)) (sq_of hp) H3 (Ex.refl H3) Q fun H4 e4 => q H4 ((e2.trans e3).trans e4)
theorem ev_neNew (ok : ∀ x ∈ xs, PyData.canLay0 (.str x) = true) (h1 : Ev ta σ H (.ref m)) (hm : H m = some (.lst (xs.map V.str))) (h2 : EvL tb σ H (xs.map V.str)) : Ev (tOp (rNeD K) ta tb) σ H (.bl false) := fun H1 e Q q =>
  h1 H1 e _ fun H2 e2 => h2 H2 (e.trans e2) _ fun p H3 np e3 hp => rv_neS ok (sq_of (((e.trans e2).trans e3) _ _ hm)) (sq_of hp) H3 (Ex.refl H3) Q fun H4 e4 => q H4 ((e2.trans e3).trans e4)
end

theorem lift {P : Program} {w : World} {K : PySem.W.Frag} {mg : Str → Option Value} {base : Heap} {CX : CXT} {k : Nat} {f : Addr} {fd : FuncData} {ps : List Str} {sp : Sp} (F : FnOk P w K mg base CX0 k f fd ps sp) : FnOk P w K mg base CX k f fd ps sp :=
  ⟨F.len, fun A outer s H args us vs Q E hr e0 hb r h => codeAny_mono (F.run A outer s H args us vs Q E hr e0 hb r h) fun r s' hq => by
    cases r with
    | error e => exact False.elim hq
    | ok fl => cases fl <;> exact hq⟩
/-- the six defs of (q, d, k), refused alike -/
def S6 {K : PySem.W.Frag} {mg : Str → Option Value} (T : Txt K mg) (f : Addr) (sp : Sp) : Prop := sp = spE_sum K T.a_InvalidField T.a_InvalidNumber ∧ (f = T.a_parting ∨ f = T.a_digit_bar ∨ f = T.a_is_zero_sum ∨ f = T.a_greatest_parting ∨ f = T.a_all_partings ∨ f = T.a_sum_by_partings)
theorem held6 {P : Program} {w : World} {K : PySem.W.Frag} {mg : Str → Option Value} {base : Heap} (T : Txt K mg) (pf : PF P) : ∀ f sp, S6 T f sp → HeldX P w K mg base (L2.CX P w) 9 f sp := by
  rintro f sp ⟨rfl, rfl | rfl | rfl | rfl | rfl | rfl⟩
  · exact ⟨_, _, (okE_parting T pf).mono (by decide), T.F_parting.kp, T.b_parting⟩
  · exact ⟨_, _, (okE_digit_bar T pf).mono (by decide), T.F_digit_bar.kp, T.b_digit_bar⟩
  · exact ⟨_, _, (okE_is_zero_sum T pf).mono (by decide), T.F_is_zero_sum.kp, T.b_is_zero_sum⟩
  · exact ⟨_, _, (okE_greatest_parting T pf).mono (by decide), T.F_greatest_parting.kp, T.b_greatest_parting⟩
  · exact ⟨_, _, (okE_all_partings T pf).mono (by decide), T.F_all_partings.kp, T.b_all_partings⟩
  · exact ⟨_, _, (okE_sum_by_partings T pf).mono (by decide), T.F_sum_by_partings.kp, T.b_sum_by_partings⟩
/-- the two defs of (q, d, k, value) -/
def S2p {K : PySem.W.Frag} {mg : Str → Option Value} (T : Txt K mg) (f : Addr) (sp : Sp) : Prop := sp = spE_part K T.a_InvalidField T.a_InvalidNumber ∧ (f = T.a_is_parting ∨ f = T.a_is_digit_bar)
theorem held2 {P : Program} {w : World} {K : PySem.W.Frag} {mg : Str → Option Value} {base : Heap} (T : Txt K mg) (pf : PF P) : ∀ f sp, S2p T f sp → HeldX P w K mg base (L2.CX P w) 9 f sp := by
  rintro f sp ⟨rfl, rfl | rfl⟩
  · exact ⟨_, _, (okE_is_parting T pf).mono (by decide), T.F_is_parting.kp, T.b_is_parting⟩
  · exact ⟨_, _, (okE_is_digit_bar T pf).mono (by decide), T.F_is_digit_bar.kp, T.b_is_digit_bar⟩

def vN : Vk → Nat
  | .int z => z.toNat
  | _ => 0
def dbB (q d k : Nat) (kd : Vk) : Bool := btw 0 ((poE q : Int) - 1) kd && barB q d k (vN kd)
def spV_is_digit_bar (K : PySem.W.Frag) : Sp := fun vs H Q _ => ∃ (q d k : Nat) (v : V) (N : Addr → Prop) (kd : Vk), vs = [N_ q, N_ d, N_ k, v] ∧ Fq q ∧ d ≤ 300 ∧ k < 10 ^ 60 ∧ It_ K N H v kd ∧ RetV (.bl (dbB q d k kd)) H Q
theorem svV_is_digit_bar {K : PySem.W.Frag} {N : Addr → Prop} {H : Hp} {q d k : Nat} {v : V} {kd : Vk} (hq : Fq q) (hd : d ≤ 300) (hk : k < 10 ^ 60) (hv : It_ K N H v kd) : SpV (spV_is_digit_bar K) [N_ q, N_ d, N_ k, v] H (.bl (dbB q d k kd)) := fun H1 e Q q' E => ⟨q, d, k, v, N, kd, rfl, hq, hd, hk, hv.ex e, q'⟩

theorem okV_is_digit_bar {P : Program} {w : World} {K : PySem.W.Frag} {mg : Str → Option Value} {base : Heap} (T : Txt K mg) : FnOk P w K mg base CX0 6 T.a_is_digit_bar T.d_is_digit_bar ["q", "d", "k", "value"] (spV_is_digit_bar K) := by
  refine T.F_is_digit_bar.ok sc_is_digit_bar (fun vs H Q E h => ?_) (fun cdv A outer s H vs Q E hr h => ?_)
  · obtain ⟨q, d, k, v, N, kd, rfl, _⟩ := h
    rfl
  · obtain ⟨q, d, k, v, N, kd, rfl, hq, hd, hk, hv, kk⟩ := h
    refine ⟨_, (pss_cons (ps_expr (pe_call (ok_check_sum T) (hr.mono (by decide)) (by rfl) T.g_check_sum T.F_check_sum.kp T.b_check_sum .nil pass0 (pa_cons (pv 0) (pa_cons (pv 1) (pa_cons (pv 2) pa_nil)))))
      (pss_one (ps_ret (pe_and (pe_call (okV_is_between T) (hr.mono (by decide)) (by rfl) T.g_is_between T.F_is_between.kp T.b_is_between .nil pass0 (pa_cons (pv 3) (pa_cons pe_int (pa_cons (pe_op op_sub (pe_ix (r := rIxW K) ix_tab (pe_glob (v := .ref T.a_POWERS) (by rfl) T.g_POWERS rfl) (pv 0) (fun _ _ => rfl)) pe_int) pa_nil)))) (pe_one (pe_call (ok_is_bar T) (hr.mono (by decide)) (by rfl) T.g_is_bar T.F_is_bar.kp T.b_is_bar .nil pass0 (pa_cons (pv 0) (pa_cons (pv 1) (pa_cons (pv 2) (pa_cons (pv 3) pa_nil)))))))))), ?_⟩
    have ht := t0_of hq
    have hf1 := ht.f1
    refine q_drop (ev_call (ea_cons (ev_var rfl) (ea_cons (ev_var rfl) (ea_cons (ev_var rfl) ea_nil))) (sv_check_sum hq hd hk)) fun H1 e1 => ?_
    have hv1 := hv.ex e1
    refine s_ret (ev_andV (a := btw 0 ((poE q : Int) - 1) kd) (ev_call (ea_cons (ev_var rfl) (ea_cons ev_c (ea_cons (ev_op (ev_tab0 T.w_POWERS ht.po (ev_var rfl)) ev_c rv_I0) ea_nil))) (svV_is_between (N := N) hv1)) fun hb => ?_) fun H2 e2 => kk H2 (e1.trans e2)
    cases kd with
    | int z =>
      have h2 : (smB z && (decide (0 ≤ z) && decide (z ≤ (poE q : Int) - 1))) = true := hb
      rw [Bool.and_eq_true, Bool.and_eq_true, decide_eq_true_eq, decide_eq_true_eq] at h2
      have hz : z = ((z.toNat : Nat) : Int) := (Int.toNat_of_nonneg h2.2.1).symm
      have hx : v = .int z := hv1
      subst hx
      show Ev _ _ _ (.bl (barB q d k z.toNat))
      generalize z.toNat = j at hz ⊢
      subst hz
      exact ev_call (ea_cons (ev_var rfl) (ea_cons (ev_var rfl) (ea_cons (ev_var rfl) (ea_cons (ev_var rfl) ea_nil)))) (sv_is_bar hq hd hk (by omega))
    | bl b => cases hb
    | oth => cases hb


theorem chk_f : chkAll (fun q => okList q (prE q) (poE q) 1 [([], q + 1)] && (decide ((allI q (prE q) (poE q) 1 (q + 1)).length ≤ 2000) && (allI q (prE q) (poE q) 1 (q + 1)).all fun m => decide (m.length ≤ 13) && m.all fun x => decide (x ≤ q + 1))) = true := by decide +kernel
/-- the six defs at (q, 1, q + 1) -/
def F6 {K : PySem.W.Frag} {mg : Str → Option Value} (T : Txt K mg) (f : Addr) (sp : Sp) : Prop := (f = T.a_parting ∧ sp = sp_parting K) ∨ (f = T.a_digit_bar ∧ sp = sp_digit_bar K) ∨ (f = T.a_is_zero_sum ∧ sp = sp_is_zero_sum K) ∨ (f = T.a_greatest_parting ∧ sp = sp_greatest_parting K) ∨ (f = T.a_all_partings ∧ sp = sp_all_partings K) ∨ (f = T.a_sum_by_partings ∧ sp = sp_sum_by_partings K)
theorem heldF6 {P : Program} {w : World} {K : PySem.W.Frag} {mg : Str → Option Value} {base : Heap} (T : Txt K mg) : ∀ f sp, F6 T f sp → HeldX P w K mg base (L2.CX P w) 9 f sp := by
  rintro f sp (⟨rfl, rfl⟩ | ⟨rfl, rfl⟩ | ⟨rfl, rfl⟩ | ⟨rfl, rfl⟩ | ⟨rfl, rfl⟩ | ⟨rfl, rfl⟩)
  · exact ⟨_, _, lift ((ok_parting T).mono (by decide)), T.F_parting.kp, T.b_parting⟩
  · exact ⟨_, _, lift ((ok_digit_bar T).mono (by decide)), T.F_digit_bar.kp, T.b_digit_bar⟩
  · exact ⟨_, _, lift ((ok_is_zero_sum T).mono (by decide)), T.F_is_zero_sum.kp, T.b_is_zero_sum⟩
  · exact ⟨_, _, lift ((ok_greatest_parting T).mono (by decide)), T.F_greatest_parting.kp, T.b_greatest_parting⟩
  · exact ⟨_, _, lift ((ok_all_partings T).mono (by decide)), T.F_all_partings.kp, T.b_all_partings⟩
  · exact ⟨_, _, lift ((ok_sum_by_partings T).mono (by decide)), T.F_sum_by_partings.kp, T.b_sum_by_partings⟩
theorem f6_sp {K : PySem.W.Frag} {mg : Str → Option Value} (T : Txt K mg) {f : Addr} {sp : Sp} (h : F6 T f sp) {q : Nat} (hq : Fq q) {H : Hp} {Q : VK} {E : XK} (k : ∀ v H', Ex H H' → Q v H') : sp [N_ q, N_ 1, N_ (q + 1)] H Q E := by
  have hb := hq.b
  have h60 : q + 1 < 10 ^ 60 := Nat.lt_of_le_of_lt (show q + 1 ≤ 10 by omega) (by decide +kernel)
  have hc := chk_get chk_f hq
  simp only [Bool.and_eq_true, decide_eq_true_eq, List.all_eq_true] at hc
  have rp : RetP q 1 (q + 1) H Q := ⟨fun _ H' e => k _ H' e, fun _ p H' _ e _ => k _ H' e⟩
  rcases h with ⟨_, rfl⟩ | ⟨_, rfl⟩ | ⟨_, rfl⟩ | ⟨_, rfl⟩ | ⟨_, rfl⟩ | ⟨_, rfl⟩
  · exact ⟨q, 1, q + 1, rfl, hq, by decide, h60, rp⟩
  · exact ⟨q, 1, q + 1, rfl, hq, by decide, h60, fun H' e => k _ H' e⟩
  · exact ⟨q, 1, q + 1, rfl, hq, by decide, h60, fun H' e => k _ H' e⟩
  · exact ⟨q, 1, q + 1, rfl, hq, by decide, h60, rp⟩
  · exact ⟨q, 1, q + 1, rfl, hq, by decide, by omega, fun _ => hc.1, fun p rs H' _ e _ _ => k _ H' e⟩
  · exact ⟨q, 1, q + 1, rfl, hq, by decide, by omega, fun _ => hc.1, hc.2.1, hc.2.2, fun r zs H' _ e _ _ _ => k _ H' e⟩

def F2 {K : PySem.W.Frag} {mg : Str → Option Value} (T : Txt K mg) (f : Addr) (sp : Sp) : Prop := (f = T.a_is_parting ∧ sp = spV_is_parting K) ∨ (f = T.a_is_digit_bar ∧ sp = spV_is_digit_bar K)
theorem heldF2 {P : Program} {w : World} {K : PySem.W.Frag} {mg : Str → Option Value} {base : Heap} (T : Txt K mg) : ∀ f sp, F2 T f sp → HeldX P w K mg base (L2.CX P w) 9 f sp := by
  rintro f sp (⟨rfl, rfl⟩ | ⟨rfl, rfl⟩)
  · exact ⟨_, _, lift ((okV_is_parting T).mono (by decide)), T.F_is_parting.kp, T.b_is_parting⟩
  · exact ⟨_, _, lift ((okV_is_digit_bar T).mono (by decide)), T.F_is_digit_bar.kp, T.b_is_digit_bar⟩
theorem f2_sp {K : PySem.W.Frag} {mg : Str → Option Value} (T : Txt K mg) {f : Addr} {sp : Sp} (h : F2 T f sp) {q : Nat} (hq : Fq q) {H : Hp} {Q : VK} {E : XK} (k : ∀ v H', Ex H H' → Q v H') : sp [N_ q, N_ 1, N_ (q + 1), .non] H Q E := by
  have hb := hq.b
  have h60 : q + 1 < 10 ^ 60 := Nat.lt_of_le_of_lt (show q + 1 ≤ 10 by omega) (by decide +kernel)
  rcases h with ⟨_, rfl⟩ | ⟨_, rfl⟩
  · exact ⟨q, 1, q + 1, .non, fun _ => True, .no, rfl, hq, by decide, h60, .inr (.inr .non), fun ks z => (nomatch z), fun H' e => k _ H' e⟩
  · exact ⟨q, 1, q + 1, .non, fun _ => True, .oth, rfl, hq, by decide, h60, ⟨_, .non⟩, fun H' e => k _ H' e⟩
def SJ {K : PySem.W.Frag} {mg : Str → Option Value} (T : Txt K mg) (f : Addr) (sp : Sp) : Prop := S6 T f sp ∨ F6 T f sp
def SJ2 {K : PySem.W.Frag} {mg : Str → Option Value} (T : Txt K mg) (f : Addr) (sp : Sp) : Prop := S2p T f sp ∨ F2 T f sp
theorem heldJ {P : Program} {w : World} {K : PySem.W.Frag} {mg : Str → Option Value} {base : Heap} (T : Txt K mg) (pf : PF P) : ∀ f sp, SJ T f sp → HeldX P w K mg base (L2.CX P w) 9 f sp := fun f sp h => h.elim (held6 T pf f sp) (heldF6 T f sp)
theorem heldJ2 {P : Program} {w : World} {K : PySem.W.Frag} {mg : Str → Option Value} {base : Heap} (T : Txt K mg) (pf : PF P) : ∀ f sp, SJ2 T f sp → HeldX P w K mg base (L2.CX P w) 9 f sp := fun f sp h => h.elim (held2 T pf f sp) (heldF2 T f sp)
/-- what (q, d, k) is answered with -/
inductive Wd (K : PySem.W.Frag) (g : Prop) (H : Hp) : V → V → V → Str → Prop
  | field {q d k : V} (hb : BadQ K H q) : Wd K g H q d k "field"
  | dd {n : Nat} {d k : V} {dt : PyData} (hn : Fq n) (hb : BadB K H 0 300 d) (hd : Dp K H d dt) (ok : Eh.RepOk g d dt) : Wd K g H (N_ n) d k (("number " : Str) ++ dt.shown)
  | kk {n m : Nat} {k : V} {dt : PyData} (hn : Fq n) (hm : m ≤ 300) (hb : BadK K H 0 k) (hd : Dp K H k dt) (ok : Eh.RepOk g k dt) : Wd K g H (N_ n) (N_ m) k (("number " : Str) ++ dt.shown)
  | fine {n : Nat} (hn : Fq n) : Wd K g H (N_ n) (N_ 1) (N_ (n + 1)) "fine"
theorem BadQ.extN {K : PySem.W.Frag} {H H1 : Hp} {v : V} (h : BadQ K H v) (e : ExtN H H1) : BadQ K H1 v := let ⟨N, kd, a, b⟩ := h; ⟨N, kd, a.extN e, b⟩
theorem BadB.extN {K : PySem.W.Frag} {H H1 : Hp} {v : V} {lo hi : Int} (h : BadB K H lo hi v) (e : ExtN H H1) : BadB K H1 lo hi v := let ⟨N, kd, a, b⟩ := h; ⟨N, kd, a.extN e, b⟩
theorem BadK.extN {K : PySem.W.Frag} {H H1 : Hp} {v : V} {lo : Int} (h : BadK K H lo v) (e : ExtN H H1) : BadK K H1 lo v := let ⟨N, kd, a, b⟩ := h; ⟨N, kd, a.extN e, b⟩
section
variable {K : PySem.W.Frag} {mg : Str → Option Value} {TLs : List (Addr × Str)} {σ : L2.St} {H H1 : Hp} {q d k : V} {x : Str} {g : Prop}
theorem Wd.extN (h : Wd K g H q d k x) (e : ExtN H H1) : Wd K g H1 q d k x := by
  cases h with
  | field hb => exact .field (hb.extN e)
  | dd hn hb hd ok => exact .dd hn (hb.extN e) (dp_n e _ _ hd) ok
  | kk hn hm hb hd ok => exact .kk hn hm (hb.extN e) (dp_n e _ _ hd) ok
  | fine hn => exact .fine hn
theorem w_six (T : Txt K mg) (hT : Tabs TLs H) (hw : Wd K g H q d k x) {f : Addr} (g4 : σ[4]? = some (some (.ref f))) (h0 : ∀ H, EvA (tCons (tVar 0) (tCons (tVar 1) (tCons (tVar 2) tNil))) σ H [q, d, k]) (hE : S6 T f (spE_sum K T.a_InvalidField T.a_InvalidNumber)) (hF : ∃ sp, F6 T f sp) :
    EvW TLs (tLam TLs (Eh.TFour (F4 T) K g) fun E => tCallV 4 (SJ T) E (tCons (tVar 0) (tCons (tVar 1) (tCons (tVar 2) tNil)))) σ H (.str x) := by
  cases hw with
  | field hb => exact w_field T hT fun H1 e1 E Q ke => cv_go g4 (.inl hE) (h0 H1) fun H2 e2 => ⟨q, d, k, rfl, .inl ⟨(hb.extN e1).ex e2, ke.ex e2⟩⟩
  | dd hn hb hd ok => exact w_number T hT hd ok fun H1 e1 E Q ke => cv_go g4 (.inl hE) (h0 H1) fun H2 e2 => ⟨_, d, k, rfl, .inr (.inl ⟨_, rfl, hn, (hb.extN e1).ex e2, ke.ex e2⟩)⟩
  | kk hn hm hb hd ok => exact w_number T hT hd ok fun H1 e1 E Q ke => cv_go g4 (.inl hE) (h0 H1) fun H2 e2 => ⟨_, _, k, rfl, .inr (.inr ⟨_, _, rfl, hn, rfl, hm, (hb.extN e1).ex e2, ke.ex e2⟩)⟩
  | fine hn =>
    obtain ⟨sp, hF⟩ := hF
    exact w_fine T hT fun H1 e1 E Q k9 => cv_go g4 (.inr hF) (h0 H1) fun H2 e2 => f6_sp T hF hn fun v H3 e3 => k9 v H3 (e2.trans e3)
theorem w_two (T : Txt K mg) (hT : Tabs TLs H) (hw : Wd K g H q d k x) {f : Addr} (g4 : σ[4]? = some (some (.ref f))) (h0 : ∀ H, EvA (tCons (tVar 0) (tCons (tVar 1) (tCons (tVar 2) (tCons (tC .non) tNil)))) σ H [q, d, k, .non]) (hE : S2p T f (spE_part K T.a_InvalidField T.a_InvalidNumber)) (hF : ∃ sp, F2 T f sp) :
    EvW TLs (tLam TLs (Eh.TFour (F4 T) K g) fun E => tCallV 4 (SJ2 T) E (tCons (tVar 0) (tCons (tVar 1) (tCons (tVar 2) (tCons (tC .non) tNil))))) σ H (.str x) := by
  cases hw with
  | field hb => exact w_field T hT fun H1 e1 E Q ke => cv_go g4 (.inl hE) (h0 H1) fun H2 e2 => ⟨q, d, k, .non, rfl, .inl ⟨(hb.extN e1).ex e2, ke.ex e2⟩⟩
  | dd hn hb hd ok => exact w_number T hT hd ok fun H1 e1 E Q ke => cv_go g4 (.inl hE) (h0 H1) fun H2 e2 => ⟨_, d, k, .non, rfl, .inr (.inl ⟨_, rfl, hn, (hb.extN e1).ex e2, ke.ex e2⟩)⟩
  | kk hn hm hb hd ok => exact w_number T hT hd ok fun H1 e1 E Q ke => cv_go g4 (.inl hE) (h0 H1) fun H2 e2 => ⟨_, _, k, .non, rfl, .inr (.inr ⟨_, _, rfl, hn, rfl, hm, (hb.extN e1).ex e2, ke.ex e2⟩)⟩
  | fine hn =>
    obtain ⟨sp, hF⟩ := hF
    exact w_fine T hT fun H1 e1 E Q k9 => cv_go g4 (.inr hF) (h0 H1) fun H2 e2 => f2_sp T hF hn fun v H3 e3 => k9 v H3 (e2.trans e3)
end

def wsL (n : Nat) (x : Str) : List V := (List.replicate n x).map V.str
theorem wsL_succ {n : Nat} {x : Str} : wsL n x ++ [.str x] = wsL (n + 1) x := by
  unfold wsL
  rw [List.replicate_succ', List.map_append]
  rfl
theorem wsL_len {n : Nat} {x : Str} : (wsL n x).length = n := by
  unfold wsL
  rw [List.length_map, List.length_replicate]
def sp_words (K : PySem.W.Frag) (TLs : List (Addr × Str)) : Sp := fun vs H Q _ => ∃ (q d k : V) (x : Str), vs = [q, d, k] ∧ Wd K True H q d k x ∧ Tabs TLs H ∧ ∀ m H', ExtN H H' → NewN H m → Tabs TLs H' → H' m = some (.lst (wsL 8 x)) → Q (.ref m) H'

theorem okG__law_words {P : Program} {w : World} {K : PySem.W.Frag} {mg : Str → Option Value} {base : Heap} (T : Txt K mg) (pf : PF P) {TLs : List (Addr × Str)} {Pt : Addr} (TB : TabB base mg T.c__law_words Pt) (hm0 : (Pt, (("_law_words" : Str) ++ (".<locals>." : Str) ++ ("<lambda>" : Str))) ∈ TLs) (hu0 : ∀ p ∈ TLs, p.1 = Pt → p.2 = (("_law_words" : Str) ++ (".<locals>." : Str) ++ ("<lambda>" : Str))) :
    Gd.FnG P w K mg base CX0 12 T.a__law_words T.d__law_words ["_law_q_here", "_law_d", "_law_k"] (sp_words K TLs) := by
  refine Gd.lamG T.L__law_words sc__law_words (fun vs H Q E h => ?_) (fun A hA outer s H vs Q E hr h => ?_)
  · obtain ⟨q, d, k, x, rfl, _⟩ := h
    rfl
  · obtain ⟨q, d, k, x, rfl, hw, hT, kk⟩ := h
    have hmT : ∀ X : Cx, X.env.qual = ("_law_words" : Str) ++ (".<locals>." : Str) → (Pt, X.env.qual ++ "<lambda>") ∈ TLs := fun X hX => by
      rw [hX]
      exact hm0
    have hu : ∀ X : Cx, X.env.qual = ("_law_words" : Str) ++ (".<locals>." : Str) → ∀ p ∈ TLs, p.1 = Pt → p.2 = X.env.qual ++ "<lambda>" := fun X hX p hp hq => by
      rw [hX]
      exact hu0 p hp hq
    refine ⟨_, (pss_cons (ps_set (i := 3) sc__law_words.nd rfl (Or.inl rfl) (pe_lst pa_nil))
      (pss_cons (ps_for PassesOwn.never rfl (pi_tup (pe_tup (pa_cons (pe_glob (v := .ref T.a_parting) (by rfl) T.g_parting rfl) (pa_cons (pe_glob (v := .ref T.a_digit_bar) (by rfl) T.g_digit_bar rfl) (pa_cons (pe_glob (v := .ref T.a_is_zero_sum) (by rfl) T.g_is_zero_sum rfl) (pa_cons (pe_glob (v := .ref T.a_greatest_parting) (by rfl) T.g_greatest_parting rfl) (pa_cons (pe_glob (v := .ref T.a_all_partings) (by rfl) T.g_all_partings rfl) (pa_cons (pe_glob (v := .ref T.a_sum_by_partings) (by rfl) T.g_sum_by_partings rfl) pa_nil)))))))) (pg_name (i := 4) sc__law_words.nd rfl (Or.inr rfl)) (pss_one (ps_expr (pe_bm PySem.F.plainAttrs_list PySem.F.slot_list_append PySem.F.type_list_append mt_append (pv 3) (pa_cons (pe_heard True (fun _ => hA) (k := 9) T rfl rfl (by rfl) TB rfl (hmT _ rfl) (hu _ rfl) (hr.mono (by decide)) (LamX.lamS_by (show LamX.lamSB (defScope s__law_words) _ = true by decide +kernel)) rfl (fun _ _ _ _ _ => rfl) fun A9 o9 s9 H9 E9 f9 c9 hr9 => pe_callV (CX := L2.CX P w) (k := 9) (S := SJ T) (i := 4) (E := E9) (heldJ T pf) (hr9.mono (by decide)) rfl (Or.inr (Or.inr rfl)) (passes_call (takes_of rfl rfl rfl rfl) fun _ _ _ _ h => h) (pa_cons (pv 0) (pa_cons (pv 1) (pa_cons (pv 2) pa_nil)))) pa_nil)))))
      (pss_cons (ps_for PassesOwn.never rfl (pi_tup (pe_tup (pa_cons (pe_glob (v := .ref T.a_is_parting) (by rfl) T.g_is_parting rfl) (pa_cons (pe_glob (v := .ref T.a_is_digit_bar) (by rfl) T.g_is_digit_bar rfl) pa_nil)))) (pg_name (i := 4) sc__law_words.nd rfl (Or.inr rfl)) (pss_one (ps_expr (pe_bm PySem.F.plainAttrs_list PySem.F.slot_list_append PySem.F.type_list_append mt_append (pv 3) (pa_cons (pe_heard True (fun _ => hA) (k := 9) T rfl rfl (by rfl) TB rfl (hmT _ rfl) (hu _ rfl) (hr.mono (by decide)) (LamX.lamS_by (show LamX.lamSB (defScope s__law_words) _ = true by decide +kernel)) rfl (fun _ _ _ _ _ => rfl) fun A9 o9 s9 H9 E9 f9 c9 hr9 => pe_callV (CX := L2.CX P w) (k := 9) (S := SJ2 T) (i := 4) (E := E9) (heldJ2 T pf) (hr9.mono (by decide)) rfl (Or.inr (Or.inr rfl)) (passes_call (takes_of rfl rfl rfl rfl) fun _ _ _ _ h => h) (pa_cons (pv 0) (pa_cons (pv 1) (pa_cons (pv 2) (pa_cons pe_non pa_nil))))) pa_nil)))))
      (pss_one (ps_ret (pv 3)))))), ?_⟩
    refine q_asgL (el_lst ea_nil (by decide)) fun m H1 nm e1 h1 => ?_
    have s1 : Wk TLs H H1 m (wsL 0 x) := ⟨ExtN.of e1, newN_of (ExtN.refl H) nm, hT.ext e1, h1⟩
    refine q_forNT (xs := [.ref T.a_parting, .ref T.a_digit_bar, .ref T.a_is_zero_sum, .ref T.a_greatest_parting, .ref T.a_all_partings, .ref T.a_sum_by_partings]) (eu_tup (ea_cons ev_c (ea_cons ev_c (ea_cons ev_c (ea_cons ev_c (ea_cons ev_c (ea_cons ev_c ea_nil)))))) (by show 6 ≤ 100000; decide)) (fun Tt i σ' H' => ∃ o, σ' = [some q, some d, some k, some (.ref m), o] ∧ Wk TLs H H' m (wsL (0 + i) x) ∧ H' Tt = some (.tup [.ref T.a_parting, .ref T.a_digit_bar, .ref T.a_is_zero_sum, .ref T.a_greatest_parting, .ref T.a_all_partings, .ref T.a_sum_by_partings])) (fun Tt H4 _ e4 h4 => ⟨none, rfl, s1.ex e4, h4⟩) (fun Tt i σ' H' _ hP => ?_) (fun Tt i y σ' H' hx2 hP => ?_) (fun Tt σ' H' hP => ?_)
    · obtain ⟨_, _, _, h⟩ := hP
      exact st_of h
    · obtain ⟨o, rfl, s', hT'⟩ := hP
      have hi : i < 6 := (List.getElem?_eq_some_iff.mp hx2).1
      have hS : ∃ f, y = .ref f ∧ S6 T f (spE_sum K T.a_InvalidField T.a_InvalidNumber) ∧ ∃ sp, F6 T f sp := by
        rcases i with _ | _ | _ | _ | _ | _ | i
        · cases hx2; exact ⟨_, rfl, ⟨rfl, .inl rfl⟩, _, .inl ⟨rfl, rfl⟩⟩
        · cases hx2; exact ⟨_, rfl, ⟨rfl, .inr (.inl rfl)⟩, _, .inr (.inl ⟨rfl, rfl⟩)⟩
        · cases hx2; exact ⟨_, rfl, ⟨rfl, .inr (.inr (.inl rfl))⟩, _, .inr (.inr (.inl ⟨rfl, rfl⟩))⟩
        · cases hx2; exact ⟨_, rfl, ⟨rfl, .inr (.inr (.inr (.inl rfl)))⟩, _, .inr (.inr (.inr (.inl ⟨rfl, rfl⟩)))⟩
        · cases hx2; exact ⟨_, rfl, ⟨rfl, .inr (.inr (.inr (.inr (.inl rfl))))⟩, _, .inr (.inr (.inr (.inr (.inl ⟨rfl, rfl⟩))))⟩
        · cases hx2; exact ⟨_, rfl, ⟨rfl, .inr (.inr (.inr (.inr (.inr (rfl)))))⟩, _, .inr (.inr (.inr (.inr (.inr (⟨rfl, rfl⟩)))))⟩
        · cases hx2
      obtain ⟨f, rfl, hE, hF⟩ := hS
      exact s_appW s' (by rw [wsL_len]; omega) rfl (w_six T s'.t (hw.extN s'.e) rfl (fun H => ea_cons (ev_var rfl) (ea_cons (ev_var rfl) (ea_cons (ev_var rfl) ea_nil))) hE hF) fun H4 s4 st4 => ⟨_, rfl, by rw [wsL_succ] at s4; exact s4, st4 _ _ (fun z => by rw [z, s'.h] at hT'; cases hT') hT' n_tup⟩
    obtain ⟨o, rfl, s2, _⟩ := hP
    refine q_forNT (xs := [.ref T.a_is_parting, .ref T.a_is_digit_bar]) (eu_tup (ea_cons ev_c (ea_cons ev_c ea_nil)) (by show 2 ≤ 100000; decide)) (fun Tt i σ'' H'' => ∃ o, σ'' = [some q, some d, some k, some (.ref m), o] ∧ Wk TLs H H'' m (wsL (6 + i) x) ∧ H'' Tt = some (.tup [.ref T.a_is_parting, .ref T.a_is_digit_bar])) (fun Tt H4 _ e4 h4 => ⟨o, rfl, s2.ex e4, h4⟩) (fun Tt i σ' H' _ hP => ?_) (fun Tt i y σ' H' hx2 hP => ?_) (fun Tt σ' H' hP => ?_)
    · obtain ⟨_, _, _, h⟩ := hP
      exact st_of h
    · obtain ⟨o, rfl, s', hT'⟩ := hP
      have hi : i < 2 := (List.getElem?_eq_some_iff.mp hx2).1
      have hS : ∃ f, y = .ref f ∧ S2p T f (spE_part K T.a_InvalidField T.a_InvalidNumber) ∧ ∃ sp, F2 T f sp := by
        rcases i with _ | _ | i
        · cases hx2; exact ⟨_, rfl, ⟨rfl, .inl rfl⟩, _, .inl ⟨rfl, rfl⟩⟩
        · cases hx2; exact ⟨_, rfl, ⟨rfl, .inr (rfl)⟩, _, .inr (⟨rfl, rfl⟩)⟩
        · cases hx2
      obtain ⟨f, rfl, hE, hF⟩ := hS
      exact s_appW s' (by rw [wsL_len]; omega) rfl (w_two T s'.t (hw.extN s'.e) rfl (fun H => ea_cons (ev_var rfl) (ea_cons (ev_var rfl) (ea_cons (ev_var rfl) (ea_cons ev_c ea_nil)))) hE hF) fun H4 s4 st4 => ⟨_, rfl, by rw [wsL_succ] at s4; exact s4, st4 _ _ (fun z => by rw [z, s'.h] at hT'; cases hT') hT' n_tup⟩
    obtain ⟨o, rfl, s9, _⟩ := hP
    exact s_ret (ev_var rfl) fun H5 e5 => kk m H5 (s9.ex e5).e s9.n (s9.ex e5).t (s9.ex e5).h


end Own
/-! too many partings are told so -/
namespace Own
open PySem PySem.Spec PyProof.Rows L2 Evl

def manyW (q P F : Nat) (row : List Nat) : Nat → List Nat → List (Nat × List Int) → Bool
  | 0, _, _ => false
  | a + 1, room, heads => decide (heads.length ≤ 2000) && (if row.getD a 0 = 0 then manyW q P F row a room heads else
      decide (row.getD a 0 ≤ room.getD (a % F) 0) && (decide (2000 < (longI q P F a (row.getD a 0) (lessR room (a % F) (row.getD a 0)) heads).length) || manyW q P F row a (lessR room (a % F) (row.getD a 0)) (longI q P F a (row.getD a 0) (lessR room (a % F) (row.getD a 0)) heads)))
def mnR (q P F : Nat) (row : List Nat) (after : Nat) : Bool := geI (spI q P F row after) && manyW q P F row row.length (roomI F row) [(0, spI q P F row after)]
def mnF (q k after : Nat) : Bool := mnR q (prE q) (poE q) (dgf2 200 (prE q) k) after
theorem chk_m1 : mnF 2 2047 0 = true := by decide +kernel
theorem chk_m2 : mnF 2 (2 ^ 190 - 1) 0 = true := by decide +kernel
theorem chk_m3 : mnF 3 (2 ^ 190 - 1) 4 = true := by decide +kernel
def bnG (q d k : Nat) : Bool := (List.range (poE q)).all fun j => decide ((q - 1) * d ≤ (dgf2 200 q (prE q ^ j * k)).sum)
theorem chk_b1 : bnG 2 1 2047 = true := by decide +kernel
theorem chk_b2 : bnG 2 1 (2 ^ 190 - 1) = true := by decide +kernel
theorem chk_b3 : bnG 3 5 (2 ^ 190 - 1) = true := by decide +kernel
def spM_first (K : PySem.W.Frag) (CM : Addr) : Sp := fun vs H Q E => ∃ q k after : Nat, vs = [N_ q, N_ k, N_ after, N_ 2000] ∧ Fq q ∧ k < 10 ^ 60 ∧ k < 2 ^ 200 ∧ after ≤ 300 ∧ mnF q k after = true ∧ ErN CM "limit" (N_ 2000) H E

theorem okM_first_members {P : Program} {w : World} {K : PySem.W.Frag} {mg : Str → Option Value} {base : Heap} (T : Txt K mg) (pf : PF P) : FnOk P w K mg base (L2.CX P w) 5 T.a_first_members T.d_first_members ["q", "k", "after", "most"] (spM_first K T.a_TooMany) := by
  refine T.F_first_members.okX sc_first_members (fun vs H Q E h => ?_) (fun cdv A outer s H vs Q E hr h => ?_)
  · obtain ⟨q, k, after, rfl, _⟩ := h
    rfl
  · obtain ⟨q, k, after, rfl, hq, hk60, hk, ha, hok, ke⟩ := h
    refine ⟨_, (pss_cons (ps_set (i := 4) sc_first_members.nd rfl (Or.inr rfl) (pe_call (ok_digit_row T) (hr.mono (by decide)) (by rfl) T.g_digit_row T.F_digit_row.kp T.b_digit_row .nil pass0 (pa_cons (pe_ix (r := rIxW K) ix_tab (pe_glob (v := .ref T.a_PRIMES) (by rfl) T.g_PRIMES rfl) (pv 0) (fun _ _ => rfl)) (pa_cons (pv 1) pa_nil))))
      (pss_cons (ps_set (i := 5) sc_first_members.nd rfl (Or.inr rfl) (pe_callB call_len_seq (by rfl) T.z_len (by decide +kernel) (pa_cons (pe_ix (r := rIxW K) ix_tab (pe_glob (v := .ref T.a_WEIGHTS) (by rfl) T.g_WEIGHTS rfl) (pv 0) (fun _ _ => rfl)) pa_nil)))
      (pss_cons (ps_setLc (i := 6) (own := [("t", 7)]) (g := gName 7) (by rfl) sc_first_members.nd rfl rfl (sw_true rfl rfl rfl (by decide +kernel)) (pi_range1 rfl T.z_range (pa_cons (pv 5) pa_nil)) (blkOk_by (N := ["q", "k", "after", "most", "row", "many", "room", "t", "heads", "at", "head", "_"]) (sc := defScope s_first_members) (by decide +kernel)) (fun _ _ _ _ _ => pg_name (i := 7) sc_first_members.nd rfl (Or.inl rfl)) (fun _ _ _ _ _ => pts_nil) (fun _ _ _ _ _ => (pe_callB (r := rSum K) (cr_sum rfl) (by rfl) T.z_sum (by decide +kernel) (pa_cons (pe_sliceSK (K := K) (by rfl) (pv 4) (po_some (pv 7)) (po_some (pv 5))) pa_nil))))
      (pss_cons (ps_set (i := 8) sc_first_members.nd rfl (Or.inl rfl) (pe_lst (pa_cons (pe_tup (pa_cons pe_int (pa_cons (pe_call (ok_spare_sums T) (hr.mono (by decide)) (by rfl) T.g_spare_sums T.F_spare_sums.kp T.b_spare_sums .nil pass0 (pa_cons (pv 0) (pa_cons (pv 4) (pa_cons (pv 2) pa_nil)))) pa_nil))) pa_nil)))
      (pss_cons (ps_for (passes_of rfl) rfl (pi_range3 rfl T.z_range (pa_cons (pe_op op_sub (pe_callB call_len_seq (by rfl) T.z_len (by decide +kernel) (pa_cons (pv 4) pa_nil)) pe_int) (pa_cons (pe_un un_neg pe_int) (pa_cons (pe_un un_neg pe_int) pa_nil)))) (pg_name (i := 9) sc_first_members.nd rfl (Or.inl rfl)) (pss_one (ps_if (pt_cmpR op_gt (pe_ix (r := rIxL K) ix_list (pv 4) (pv 9) (fun _ _ => rfl)) pe_int (nomark _)) (pss_cons (ps_asg (pe_op op_sub (pe_ix (r := rIxL K) ix_list (pv 6) (pe_op op_mod (pv 9) (pv 5)) (fun _ _ => rfl)) (pe_ix (r := rIxL K) ix_list (pv 4) (pv 9) (fun _ _ => rfl))) (pg_sub (pv 6) (pe_op op_mod (pv 9) (pv 5)) set_list))
      (pss_cons (ps_set (i := 8) sc_first_members.nd rfl (Or.inl rfl) (pe_call (ok_longer_heads T) (hr.mono (by decide)) (by rfl) T.g_longer_heads T.F_longer_heads.kp T.b_longer_heads .nil pass0 (pa_cons (pv 0) (pa_cons (pv 8) (pa_cons (pv 9) (pa_cons (pe_ix (r := rIxL K) ix_list (pv 4) (pv 9) (fun _ _ => rfl)) (pa_cons (pv 6) pa_nil)))))))
      (pss_one (ps_if (pt_cmpR op_gt (pe_callB call_len_seq (by rfl) T.z_len (by decide +kernel) (pa_cons (pv 8) pa_nil)) (pv 3) (nomark _)) (pss_one (ps_raise rfl (takes_of rfl rfl rfl rfl) (pmk_many T rfl rfl pf (hr.mono (by decide)) (by rfl) (pa_cons (pv 3) pa_nil)))) pss_nil)))) pss_nil)))
      (pss_one (ps_ret (pe_lc (own := [("head", 10), ("_", 11)]) (g := (gTup K 2 (gCons (gName 10) (gCons (gName 11) gNil)))) rfl sc_first_members.nd (pi_list (pv 8)) (blkOk_by (N := ["q", "k", "after", "most", "row", "many", "room", "t", "heads", "at", "head", "_"]) (sc := defScope s_first_members) (by decide +kernel)) (fun _ _ _ _ _ => (pg_tup (by rfl) (pgs_cons (pg_name (i := 10) sc_first_members.nd rfl (Or.inl rfl)) (pgs_cons (pg_name (i := 11) sc_first_members.nd rfl (Or.inl rfl)) pgs_nil)))) (fun _ _ _ _ _ => pts_nil) (fun _ _ _ _ _ => (pv 10)))))))))), ?_⟩
    have ht := t0_of hq
    have hp2 := ht.p2
    have hp7 := ht.p7
    obtain ⟨hf1, hf3⟩ := fq_F hq
    obtain ⟨wa, rs, W, hrv⟩ := wts_get hq T.w_WEIGHTS
    have hrl : (rs.map V.ref).length = poE q := by rw [List.length_map, W.ln]
    have hrowE : dgf2 200 (prE q) k = dg (prE q) k := dgf2_eq (by omega) 200 k hk
    unfold mnF mnR at hok
    rw [Bool.and_eq_true] at hok
    obtain ⟨hge, hwk⟩ := hok
    obtain ⟨hsp1, hsp2⟩ := spI_nat hq hge
    refine q_asgL (xs := (dgf2 200 (prE q) k).map N_) (by rw [hrowE]; exact el_call (ea_cons (ev_tab0 T.w_PRIMES ht.pr (ev_var rfl)) (ea_cons (ev_var rfl) ea_nil)) (sv_digit_row ⟨hp2, by omega⟩ (gt_n hk60))) fun r H1 nr e1 h1 => ?_
    have hrl10 : (dgf2 200 (prE q) k).length ≤ 200 := by rw [hrowE]; exact dg_len (by omega) 200 k hk
    have hrd : ∀ d ∈ dgf2 200 (prE q) k, d < prE q := fun d hd => by rw [hrowE] at hd; exact dg_lt (by omega) k d hd
    generalize hrow : dgf2 200 (prE q) k = row at *
    refine q_asg (v := N_ (poE q)) (ev_is (ev_cb (ea_cons (ev_op ev_c (ev_var rfl) (hrv _)) ea_nil) (rc_lenT (W.sq _))) (congrArg V.int (by rw [hrl]))) fun H2 e2 => ?_
    have hsh : ∀ t, (strd (poE q) t row).sum ≤ 2800 := fun t => by
      have h1 := sum_bound (m := 7) (strd (poE q) t row) fun d hd => Nat.lt_of_lt_of_le (hrd d (strd_sub _ row t d hd)) hp7
      have h2 := strd_len (poE q) row t
      omega
    refine q_asgL (xs := (roomI (poE q) row).map N_) (el_is (el_lcR1 (n := (poE q : Int)) (fun _ => true) (fun t => N_ (strd (poE q) t row).sum) (ea_cons (ev_var rfl) ea_nil) ⟨by omega, by omega⟩ (fun _ => rfl) (fun _ _ _ _ => et_nil) (fun t H3 e3 ht2 _ => ?_)) ?_) fun rm H3 nrm e3 h3 => ?_
    · refine ev_is (ev_sumN (K := K) (ns := (strd (poE q) t row).map Int.ofNat) (el_is (el_slS (K := K) (ev_var rfl) (eo_some (ev_var rfl)) (eo_some (ev_var rfl)) (by omega) (sq_of ((e2.trans e3) _ _ h1))) ?_)) (congrArg V.int (sumN _))
      rw [pick_map, pick_strd _ (by omega), mapN]
    · rw [Int.toNat_natCast, given_range]
      unfold roomI
      rw [List.map_map]
      rfl
    have e13 := (e1.trans e2).trans e3
    have nrmH : H rm = none := fresh_back (e1.trans e2) nrm
    have hrrm : r ≠ rm := fun z => by
      rw [← z, e2 _ _ h1] at nrm
      cases nrm
    refine q_asgR9 (fun x H' => ∃ (l t s : Addr), x = .ref l ∧ Ex H3 H' ∧ l ≠ rm ∧ H' l = some (.lst ([t].map V.ref)) ∧ Hdx H' (fun a => a ≠ rm) [t] [(0, spI q (prE q) (poE q) row after)]) (fun Q' q' => ?_) (fun x H4 m4 => ?_)
    · refine (el_call (ea_cons (ev_var rfl) (ea_cons (ev_var rfl) (ea_cons (ev_var rfl) ea_nil))) (sv_spare_sums (m := after) hq (sq_of ((e2.trans e3) _ _ h1)) (by omega) hrd ha hsp1)) H3 (Ex.refl H3) _ fun s H4 ns e4 h4 => ⟨by show 2 ≤ sizeLine; decide, fun t nt => ⟨by show 1 ≤ sizeLine; decide, fun l nl => q' _ _ ⟨l, t, s, rfl, (e4.trans (Ex.new nt)).trans (Ex.new nl), fun z => ?_, upd_same, ?_⟩⟩⟩
      · rw [z, (e4.trans (Ex.new nt)) _ _ h3] at nl
        cases nl
      · have hts : s ≠ t := fun z => by rw [← z, h4] at nt; cases nt
        have htl : t ≠ l := fun z => by rw [← z, upd_same] at nl; cases nl
        have hsl : s ≠ l := fun z => by rw [← z, upd_ne hts, h4] at nl; cases nl
        refine Hdx.snoc (s := s) (Hdx.nil _ _) (fun z => ?_) (fun z => ?_) ?_ ?_
        · rw [z, e4 _ _ h3] at nt
          cases nt
        · rw [z, h3] at ns
          cases ns
        · rw [upd_ne htl, upd_same]
          rfl
        · rw [upd_ne hsl, upd_ne hts, h4, hsp2]
    obtain ⟨l0, t0, s0, rfl, e4, hl0, g0, hd0⟩ := m4
    generalize hL : row.length = len at *
    have hml : (row.map N_).length = len := by rw [List.length_map, hL]
    refine q_forRd (lo := ((len : Nat) : Int) - 1) (n := -1) (ea_cons (ev_is (ev_op (ev_cb (ea_cons (ev_var rfl) ea_nil) (rc_lenL (sq_of (((e2.trans e3).trans e4) _ _ h1)))) ev_c rv_I0) (congrArg V.int (by rw [hml]))) (ea_cons (ev_un ev_c ru_neg) (ea_cons (ev_un ev_c ru_neg) ea_nil))) ⟨by omega, by omega, by omega, by omega⟩
      (fun i σ H' => ∃ (l : Addr) (ts : List Addr) (hs : List (Nat × List Int)) (room : List Nat) (y9 : Option V), σ = [some (N_ q), some (N_ k), some (N_ after), some (N_ 2000), some (.ref r), some (N_ (poE q)), some (.ref rm), none, some (.ref l), y9, none, none] ∧ Ex H H' ∧ SqL K H' r (row.map N_) ∧ H' rm = some (.lst (room.map N_)) ∧ l ≠ rm ∧ SqL K H' l (ts.map V.ref) ∧ Hdx H' (fun a => a ≠ rm) ts hs ∧ room.length = poE q ∧ lnI (poE q) hs ∧ manyW q (prE q) (poE q) row (len - i) room hs = true)
      (fun H5 e5 => ⟨l0, [t0], _, roomI (poE q) row, none, rfl, (e13.trans e4).trans e5, sq_of (((e2.trans e3).trans (e4.trans e5)) _ _ h1), (e4.trans e5) _ _ h3, hl0, sq_of (e5 _ _ g0), hd0.ex e5, room_len .., fun x hx => ?_, hwk⟩) (fun i σ H5 hi hw => ?_) (fun σ H5 hw => ?_)
    · rw [List.mem_singleton.mp hx]
      unfold spI
      rw [List.length_map, List.length_range]
    · obtain ⟨l, ts, hs, room, y9, rfl, e5, sr, hrm, hlr, sl, hdx, hrml, hln, hokw⟩ := hw
      have hil : i < len := by omega
      obtain ⟨a, ha'⟩ : ∃ a, len - i = a + 1 := ⟨len - i - 1, by omega⟩
      have hni : len - (i + 1) = a := by omega
      have hat : (((len : Nat) : Int) - 1 - (i : Int)) = ((a : Nat) : Int) := by omega
      rw [hat, hni]
      rw [ha'] at hokw
      have hal : a < row.length := by omega
      have hga : (row.map N_)[a]? = some (N_ (row.getD a 0)) := get_sp hal
      rw [manyW, Bool.and_eq_true, decide_eq_true_eq] at hokw
      obtain ⟨hsm, hokw⟩ := hokw
      have hd7 : row.getD a 0 < 7 := Nat.lt_of_lt_of_le (hrd _ (List.mem_of_getElem? (getD_get hal))) hp7
      generalize row.getD a 0 = d at *
      have hcf : a % poE q < poE q := Nat.mod_lt _ hf1
      refine s_when (et_test (ev_op (ev_op (r := rIxL K) (ev_var rfl) (ev_var rfl) (rv_ixL sr (atI_nat hga))) ev_c rv_I0)) (fun hb H6 e6 => ?_) (fun hb H6 e6 => ?_)
      · have hd0' : ¬ d = 0 := by have := of_decide_eq_true hb; omega
        rw [if_neg hd0'] at hokw
        rw [Bool.and_eq_true, decide_eq_true_eq] at hokw
        obtain ⟨hle, hokw⟩ := hokw
        have sr6 := ex_l e6 sr
        have hrm6 := e6 _ _ hrm
        have hgr : (room.map N_)[a % poE q]? = some (N_ (room.getD (a % poE q) 0)) := get_sp (by rw [hrml]; exact hcf)
        refine q_setL (l := rm) (j := a % poE q) (v := N_ (room.getD (a % poE q) 0 - d)) hrm6 (ev_is (ev_op (ev_op (r := rIxL K) (ev_var rfl) (ev_is (w := N_ (a % poE q)) (ev_op (ev_var rfl) (ev_var rfl) (rv_I (by omega))) rfl) (rv_ixL (sq_of hrm6) (atI_nat hgr))) (ev_op (r := rIxL K) (ev_var rfl) (ev_var rfl) (rv_ixL sr6 (atI_nat hga))) rv_I0) (congrArg V.int (by omega))) (ev_var rfl) (ev_is (w := N_ (a % poE q)) (ev_op (ev_var rfl) (ev_var rfl) (rv_I (by omega))) rfl) (by rw [List.length_map, hrml]; exact hcf) fun H7 e7 => ?_
        have hrm8 : (upd H7 rm (.lst ((room.map N_).set (a % poE q) (N_ (room.getD (a % poE q) 0 - d))))) rm = some (.lst ((lessR room (a % poE q) d).map N_)) := by
          unfold lessR
          rw [upd_same, List.map_set]
        have keep : ∀ b o, b ≠ rm → H5 b = some o → (upd H7 rm (.lst ((room.map N_).set (a % poE q) (N_ (room.getD (a % poE q) 0 - d))))) b = some o := fun b o n g => by rw [upd_ne n]; exact e7 _ _ (e6 _ _ g)
        have e8 : Ex H (upd H7 rm (.lst ((room.map N_).set (a % poE q) (N_ (room.getD (a % poE q) 0 - d))))) := ((e5.trans e6).trans e7).mut nrmH
        have sr8 := exd_l (p := rm) hrrm (Exd.put (o := .lst ((room.map N_).set (a % poE q) (N_ (room.getD (a % poE q) 0 - d))))) (ex_l e7 sr6)
        have sl8 := exd_l (p := rm) hlr (Exd.put (o := .lst ((room.map N_).set (a % poE q) (N_ (room.getD (a % poE q) 0 - d))))) (ex_l (e6.trans e7) sl)
        have hdx8 := hdx.keep (M := fun _ => True) fun b o n g => ⟨trivial, keep b o n g⟩
        generalize upd H7 rm (.lst ((room.map N_).set (a % poE q) (N_ (room.getD (a % poE q) 0 - d)))) = H8 at hrm8 e8 sr8 sl8 hdx8
        refine q_asgC (ea_cons (ev_var rfl) (ea_cons (ev_var rfl) (ea_cons (ev_var rfl) (ea_cons (ev_op (r := rIxL K) (ev_var rfl) (ev_var rfl) (rv_ixL sr8 (atI_nat hga))) (ea_cons (ev_var rfl) ea_nil))))) fun H9 e9 => ⟨q, a, d, l, rm, ts, hs, lessR room (a % poE q) d, rfl, hq, ex_l e9 sl8, hdx8.ex e9, sq_of (e9 _ _ hrm8), by rw [lessR_len, hrml], hln, hsm, by omega, hd7, fun p ts' H10 np e10 h10 hd10 => ?_⟩
        have hpr : p ≠ rm := fun z => by
          rw [z, e9 _ _ hrm8] at np
          cases np
        rw [Bool.or_eq_true, decide_eq_true_eq] at hokw
        rcases hokw with hbig | hokw
        · exact s_when (b := true) (et_is (et_test (ev_op (ev_cb (ea_cons (ev_var rfl) ea_nil) (rc_lenL (sq_of h10))) (ev_var rfl) rv_I0)) (decide_eq_true (by rw [List.length_map, hd10.1]; omega))) (fun _ H11 e11 => (ea_cons (ev_var rfl) ea_nil : EvA _ _ H11 [N_ 2000]) H11 (Ex.refl H11) _ fun H12 e12 => ⟨_, rfl, fun dd nd => ke dd _ (((((e8.trans e9).trans e10).trans e11).trans e12).trans (Ex.new nd)) upd_same⟩) (fun h => nomatch h)
        by_cases hbig : 2000 < (longI q (prE q) (poE q) a d (lessR room (a % poE q) d) hs).length
        · exact s_when (b := true) (et_is (et_test (ev_op (ev_cb (ea_cons (ev_var rfl) ea_nil) (rc_lenL (sq_of h10))) (ev_var rfl) rv_I0)) (decide_eq_true (by rw [List.length_map, hd10.1]; omega))) (fun _ H11 e11 => (ea_cons (ev_var rfl) ea_nil : EvA _ _ H11 [N_ 2000]) H11 (Ex.refl H11) _ fun H12 e12 => ⟨_, rfl, fun dd nd => ke dd _ (((((e8.trans e9).trans e10).trans e11).trans e12).trans (Ex.new nd)) upd_same⟩) (fun h => nomatch h)
        have hpr : p ≠ rm := fun z => by
          rw [z, e9 _ _ hrm8] at np
          cases np
        refine s_when (b := false) (et_is (et_test (ev_op (ev_cb (ea_cons (ev_var rfl) ea_nil) (rc_lenL (sq_of h10))) (ev_var rfl) rv_I0)) (decide_eq_false (by rw [List.length_map, hd10.1]; omega))) (fun h => nomatch h) (fun _ H11 e11 => ⟨p, ts', _, _, _, rfl, ((e8.trans e9).trans e10).trans e11, ex_l ((e9.trans e10).trans e11) sr8, ((e9.trans e10).trans e11) _ _ hrm8, hpr, sq_of (e11 _ _ h10), (hd10.ex e11).keep fun b o n g => ⟨fun z => ?_, g⟩, by rw [lessR_len, hrml], long_len hln, hokw⟩)
        rw [z, e9 _ _ hrm8] at n
        cases n
      · have hd0' : d = 0 := by have := of_decide_eq_false hb; omega
        rw [if_pos hd0'] at hokw
        exact ⟨l, ts, hs, room, _, rfl, e5.trans e6, ex_l e6 sr, e6 _ _ hrm, hlr, ex_l e6 sl, hdx.ex e6, hrml, hln, hokw⟩
    · obtain ⟨l, ts, hs, room, y9, rfl, e5, sr, hrm, hlr, sl, hdx, hrml, hln, hokw⟩ := hw
      have h0 : len - (((len : Nat) : Int) - 1 - (-1)).toNat = 0 := by omega
      rw [h0, manyW] at hokw
      cases hokw


theorem q_forX {K : PySem.W.Frag} {σ : L2.St} {H : Hp} {sp : Sp} {E : XK} {tA : TA} {vs : List V} {g : TG} {tu tz : TS} {D : Ends} (hA : EvA tA σ H vs) (k : ∀ H1, Ex H H1 → ∀ Q, sp vs H1 Q E) : tSeq (tFor (iList K (tCall sp [] E tA)) g tu) tz D σ H := hA H (Ex.refl H) _ fun H1 e1 => by
  rw [List.append_nil]
  exact k H1 e1 _
def spM_next (K : PySem.W.Frag) (CM : Addr) : Sp := fun vs H Q E => ∃ (q k after : Nat) (l t m : Addr), vs = [N_ q, .ref l, N_ after, N_ 2000] ∧ Fq q ∧ k < 10 ^ 60 ∧ k < 2 ^ 200 ∧ after ≤ 300 ∧ SqL K H l [.ref t] ∧ H t = some (.tup [.ref m, N_ k]) ∧ mnF q k after = true ∧ ErN CM "limit" (N_ 2000) H E

theorem okM_with_next_members {P : Program} {w : World} {K : PySem.W.Frag} {mg : Str → Option Value} {base : Heap} (T : Txt K mg) (pf : PF P) : FnOk P w K mg base (L2.CX P w) 6 T.a_with_next_members T.d_with_next_members ["q", "begun", "after", "most"] (spM_next K T.a_TooMany) := by
  refine T.F_with_next_members.okX sc_with_next_members (fun vs H Q E h => ?_) (fun cdv A outer s H vs Q E hr h => ?_)
  · obtain ⟨q, k, after, l, t, m, rfl, _⟩ := h
    rfl
  · obtain ⟨q, k, after, l, t, m, rfl, hq, hk60, hk, ha, h1, h2, hok, ke⟩ := h
    refine ⟨_, (pss_cons (ps_set (i := 4) sc_with_next_members.nd rfl (Or.inl rfl) (pe_lst pa_nil))
      (pss_cons (ps_for (passes_of rfl) rfl (pi_list (pv 1)) (pg_tup (by rfl) (pgs_cons (pg_name (i := 5) sc_with_next_members.nd rfl (Or.inl rfl)) (pgs_cons (pg_name (i := 6) sc_with_next_members.nd rfl (Or.inl rfl)) pgs_nil))) (pss_cons (ps_for (passes_of rfl) rfl (pi_list (pe_call (E := E) (okM_first_members T pf) (hr.mono (by decide)) (by rfl) T.g_first_members T.F_first_members.kp T.b_first_members .nil (passes_call (takes_of rfl rfl rfl rfl) fun _ _ _ _ h => h) (pa_cons (pv 0) (pa_cons (pv 6) (pa_cons (pv 2) (pa_cons (pv 3) pa_nil)))))) (pg_name (i := 7) sc_with_next_members.nd rfl (Or.inl rfl)) (pss_one (ps_expr (pe_bm PySem.F.plainAttrs_list PySem.F.slot_list_append PySem.F.type_list_append mt_append (pv 4) (pa_cons (pe_tup (pa_cons (pe_op (op_catAK (K := K) (by rfl)) (pv 5) (pe_tup (pa_cons (pv 7) pa_nil))) (pa_cons (pe_op op_sub (pv 6) (pv 7)) pa_nil))) pa_nil)))))
      (pss_one (ps_if (pt_cmpR op_gt (pe_callB call_len_seq (by rfl) T.z_len (by decide +kernel) (pa_cons (pv 4) pa_nil)) (pv 3) (nomark _)) (pss_one ps_never) pss_nil))))
      (pss_one (ps_ret (pv 4))))), ?_⟩
    refine q_asgL (xs := []) (el_lst ea_nil (by decide)) fun fp H1 nf e1 h1' => ?_
    refine q_forL (K := K) (ev_var rfl) (ex_l e1 h1) (fun i σ H' => i = 0 ∧ σ = [some (N_ q), some (.ref l), some (N_ after), some (N_ 2000), some (.ref fp), none, none, none] ∧ Ex H H')
      (fun H2 e2 => ⟨rfl, rfl, e1.trans e2⟩) (fun i σ H2 hi hw => ex_l hw.2.2 h1) (fun i x σ H2 hx hw => ?_) (fun σ H2 hw => ?_)
    · obtain ⟨rfl, rfl, e2⟩ := hw
      cases hx
      refine ⟨t, [.ref m, N_ k], rfl, st_of (e2 _ _ h2), rfl, .ref m, [N_ k], rfl, N_ k, [], rfl, rfl, ?_⟩
      exact q_forX (ea_cons (ev_var rfl) (ea_cons (ev_var rfl) (ea_cons (ev_var rfl) (ea_cons (ev_var rfl) ea_nil)))) fun H3 e3 _ => ⟨q, k, after, rfl, hq, hk60, hk, ha, hok, ke.ex (e2.trans e3)⟩
    · exact absurd hw.1 (by show ¬ 1 = 0; decide)


def spM_listed (K : PySem.W.Frag) (CM : Addr) : Sp := fun vs H Q E => ∃ (q d k : Nat), vs = [N_ q, N_ (d + 1), N_ k, N_ 2000] ∧ Fq q ∧ k < 10 ^ 60 ∧ k < 2 ^ 200 ∧ d ≤ 11 ∧ mnF q k d = true ∧ ErN CM "limit" (N_ 2000) H E

theorem okM_listed_partings {P : Program} {w : World} {K : PySem.W.Frag} {mg : Str → Option Value} {base : Heap} (T : Txt K mg) (pf : PF P) : FnOk P w K mg base (L2.CX P w) 7 T.a_listed_partings T.d_listed_partings ["q", "d", "k", "most"] (spM_listed K T.a_TooMany) := by
  refine T.F_listed_partings.okX sc_listed_partings (fun vs H Q E h => ?_) (fun cdv A outer s H vs Q E hr h => ?_)
  · obtain ⟨q, d, k, rfl, _⟩ := h
    rfl
  · obtain ⟨q, d, k, rfl, hq, hk60, hk, hd, hok, ke⟩ := h
    refine ⟨_, (pss_cons (ps_set (i := 4) sc_listed_partings.nd rfl (Or.inl rfl) (pe_lst (pa_cons (pe_tup (pa_cons (pe_tup pa_nil) (pa_cons (pv 2) pa_nil))) pa_nil)))
      (pss_cons (ps_for (passes_of rfl) rfl (pi_range3 rfl T.z_range (pa_cons (pe_op op_sub (pv 1) pe_int) (pa_cons (pe_un un_neg pe_int) (pa_cons (pe_un un_neg pe_int) pa_nil)))) (pg_name (i := 5) sc_listed_partings.nd rfl (Or.inl rfl)) (pss_one (ps_set (i := 4) sc_listed_partings.nd rfl (Or.inl rfl) (pe_call (E := E) (okM_with_next_members T pf) (hr.mono (by decide)) (by rfl) T.g_with_next_members T.F_with_next_members.kp T.b_with_next_members .nil (passes_call (takes_of rfl rfl rfl rfl) fun _ _ _ _ h => h) (pa_cons (pv 0) (pa_cons (pv 4) (pa_cons (pv 5) (pa_cons (pv 3) pa_nil))))))))
      (pss_one (ps_ret (pe_lc (own := [("members", 6), ("left", 7)]) (g := (gTup K 2 (gCons (gName 6) (gCons (gName 7) gNil)))) rfl sc_listed_partings.nd (pi_list (pv 4)) (blkOk_by (N := ["q", "d", "k", "most", "begun", "after", "members", "left"]) (sc := defScope s_listed_partings) (by decide +kernel)) (fun _ _ _ _ _ => (pg_tup (by rfl) (pgs_cons (pg_name (i := 6) sc_listed_partings.nd rfl (Or.inl rfl)) (pgs_cons (pg_name (i := 7) sc_listed_partings.nd rfl (Or.inl rfl)) pgs_nil)))) (fun _ _ _ _ _ => pts_nil) (fun _ _ _ _ _ => (pe_op (op_catAK (K := K) (by rfl)) (pv 6) (pe_tup (pa_cons (pv 7) pa_nil))))))))), ?_⟩
    refine q_asgR9 (fun x H' => ∃ (l t m : Addr), x = .ref l ∧ Ex H H' ∧ H' l = some (.lst ([t].map V.ref)) ∧ Bgn K H' [t] [([], k)]) (fun Q' q' => ?_) (fun x H1 m1 => ?_)
    · refine ⟨by show 0 ≤ sizeLine; decide, fun m nm => ⟨N_ k, rfl, by show 2 ≤ sizeLine; decide, fun t nt => ⟨by show 1 ≤ sizeLine; decide, fun l nl => q' _ _ ⟨l, t, m, rfl, ((Ex.new nm).trans (Ex.new nt)).trans (Ex.new nl), upd_same, ?_⟩⟩⟩⟩
      have htl : t ≠ l := fun z => by rw [← z, upd_same] at nl; cases nl
      have hmt : m ≠ t := fun z => by rw [← z, upd_same] at nt; cases nt
      have hml : m ≠ l := fun z => by rw [← z, upd_ne hmt, upd_same] at nl; cases nl
      refine Bgn.snoc (m := m) (x := ([], k)) (Bgn.nil _ _) ?_ (st_of ?_)
      · rw [upd_ne htl, upd_same]
      · rw [upd_ne hml, upd_ne hmt, upd_same]
        rfl
    obtain ⟨l0, t0, m0, rfl, e1, g1, b1⟩ := m1
    refine q_forRd (lo := (((d + 1 : Nat) : Nat) : Int) - 1) (n := -1) (ea_cons (ev_op (ev_var rfl) ev_c rv_I0) (ea_cons (ev_un ev_c ru_neg) (ea_cons (ev_un ev_c ru_neg) ea_nil))) ⟨by omega, by omega, by omega, by omega⟩
      (fun i σ H' => i = 0 ∧ σ = [some (N_ q), some (N_ (d + 1)), some (N_ k), some (N_ 2000), some (.ref l0), none, none, none] ∧ Ex H1 H')
      (fun H2 e2 => ⟨rfl, rfl, e2⟩) (fun i σ H2 hi hw => ?_) (fun σ H2 hw => ?_)
    · obtain ⟨rfl, rfl, e2⟩ := hw
      obtain ⟨m, g3, g4⟩ := b1.2 0 t0 ([], k) rfl rfl
      rw [show ((((d + 1 : Nat) : Nat) : Int) - 1 - ((0 : Nat) : Int)) = ((d : Nat) : Int) by omega]
      exact s_asgC (ea_cons (ev_var rfl) (ea_cons (ev_var rfl) (ea_cons (ev_var rfl) (ea_cons (ev_var rfl) ea_nil)))) fun H3 e3 => ⟨q, k, d, l0, t0, m, rfl, hq, hk60, hk, by omega, sq_of ((e2.trans e3) _ _ g1), (e2.trans e3) _ _ g3, hok, ke.ex (e1.trans (e2.trans e3))⟩
    · exact absurd hw.1 (by omega)


theorem bnG_mp {q d k : Nat} (hq : Fq q) (hk : k < 2 ^ 190) (h : bnG q d k = true) : d ≤ mpN q k := by
  have hb := hq.b
  have ht := t0_of hq
  have hp2 := ht.p2
  have hp7 := ht.p7
  obtain ⟨hf1, hf3⟩ := fq_F hq
  refine (mp_iff hq).mpr fun j hj => ?_
  have h1 := of_decide_eq_true (List.all_eq_true.mp h j (List.mem_range.mpr hj))
  rw [dgf2_eq (by omega) 200 _ (by
    have e1 : prE q ^ j ≤ 7 ^ 2 := Nat.le_trans (Nat.pow_le_pow_left hp7 j) (Nat.pow_le_pow_right (by decide) (by omega))
    refine Nat.lt_of_le_of_lt (Nat.mul_le_mul e1 (Nat.le_of_lt hk)) (by decide +kernel))] at h1
  unfold ds
  exact h1
def spM_all (K : PySem.W.Frag) (CM : Addr) : Sp := fun vs H Q E => ∃ (q d k : Nat), vs = [N_ q, N_ (d + 1), N_ k] ∧ Fq q ∧ k < 10 ^ 60 ∧ k < 2 ^ 190 ∧ d ≤ 11 ∧ mnF q k d = true ∧ bnG q (d + 1) k = true ∧ ErN CM "limit" (N_ 2000) H E

theorem okM_found_partings {P : Program} {w : World} {K : PySem.W.Frag} {mg : Str → Option Value} {base : Heap} (T : Txt K mg) (pf : PF P) : FnOk P w K mg base (L2.CX P w) 8 T.a_found_partings T.d_found_partings ["q", "d", "k"] (spM_all K T.a_TooMany) := by
  refine T.F_found_partings.okX sc_found_partings (fun vs H Q E h => ?_) (fun cdv A outer s H vs Q E hr h => ?_)
  · obtain ⟨q, d, k, rfl, _⟩ := h
    rfl
  · obtain ⟨q, d, k, rfl, hq, hk60, hk, hd, hok, hbn, ke⟩ := h
    refine ⟨_, (pss_cons (ps_if (pt_cmpR op_gt (pv 1) (pe_call (ok_parts_bound T) (hr.mono (by decide)) (by rfl) T.g_parts_bound T.F_parts_bound.kp T.b_parts_bound .nil pass0 (pa_cons (pv 0) (pa_cons (pv 2) pa_nil))) (nomark _)) (pss_one (ps_ret (pe_lst pa_nil))) pss_nil)
      (pss_cons (ps_if (pt_cmpR op_gt (pv 1) (pe_glob (v := .int 12) (by rfl) T.c_MOST_AHEAD ⟨_, rfl⟩) (nomark _)) (pss_one ps_never) pss_nil)
      (pss_one (ps_ret (pe_call (E := E) (okM_listed_partings T pf) (hr.mono (by decide)) (by rfl) T.g_listed_partings T.F_listed_partings.kp T.b_listed_partings .nil (passes_call (takes_of rfl rfl rfl rfl) fun _ _ _ _ h => h) (pa_cons (pv 0) (pa_cons (pv 1) (pa_cons (pv 2) (pa_cons (pe_glob (v := .int 2000) (by rfl) T.c_MAX_LISTED ⟨_, rfl⟩) pa_nil))))))))), ?_⟩
    have hle := bnG_mp hq hk hbn
    refine q_when (b := false) (et_is (et_test (ev_op (ev_var rfl) (ev_call (ea_cons (ev_var rfl) (ea_cons (ev_var rfl) ea_nil)) (sv_parts_bound hq hk60)) rv_I0)) (decide_eq_false (by omega))) (fun h => nomatch h) (fun _ H1 e1 => ?_)
    refine q_when (b := false) (et_is (et_test (ev_op (ev_var rfl) ev_c rv_I0)) (decide_eq_false (by omega))) (fun h => nomatch h) (fun _ H2 e2 => ?_)
    exact ⟨N_ q, rfl, N_ (d + 1), rfl, N_ k, rfl, q, d, k, rfl, hq, hk60, Nat.lt_trans hk (by decide +kernel), hd, hok, ke.ex (e1.trans e2)⟩


theorem okM_all_partings {P : Program} {w : World} {K : PySem.W.Frag} {mg : Str → Option Value} {base : Heap} (T : Txt K mg) (pf : PF P) : FnOk P w K mg base (L2.CX P w) 9 T.a_all_partings T.d_all_partings ["q", "d", "k"] (spM_all K T.a_TooMany) := by
  refine T.F_all_partings.okX sc_all_partings (fun vs H Q E h => ?_) (fun cdv A outer s H vs Q E hr h => ?_)
  · obtain ⟨q, d, k, rfl, _⟩ := h
    rfl
  · obtain ⟨q, d, k, rfl, hq, hk60, hk, hd, hok, hbn, ke⟩ := h
    refine ⟨_, (pss_cons (ps_expr (pe_call (ok_check_sum T) (hr.mono (by decide)) (by rfl) T.g_check_sum T.F_check_sum.kp T.b_check_sum .nil pass0 (pa_cons (pv 0) (pa_cons (pv 1) (pa_cons (pv 2) pa_nil)))))
      (pss_one (ps_ret (pe_callTy call_tuple_of (by rfl) T.z_tuple (by decide +kernel) (pa_cons (pe_call (E := E) (okM_found_partings T pf) (hr.mono (by decide)) (by rfl) T.g_found_partings T.F_found_partings.kp T.b_found_partings .nil (passes_call (takes_of rfl rfl rfl rfl) fun _ _ _ _ h => h) (pa_cons (pv 0) (pa_cons (pv 1) (pa_cons (pv 2) pa_nil)))) pa_nil))))), ?_⟩
    refine q_drop (ev_call (ea_cons (ev_var rfl) (ea_cons (ev_var rfl) (ea_cons (ev_var rfl) ea_nil))) (sv_check_sum hq (by omega) hk60)) fun H1 e1 => ?_
    exact ⟨N_ q, rfl, N_ (d + 1), rfl, N_ k, rfl, q, d, k, rfl, hq, hk60, hk, hd, hok, hbn, ke.ex e1⟩


theorem okM_sum_by_partings {P : Program} {w : World} {K : PySem.W.Frag} {mg : Str → Option Value} {base : Heap} (T : Txt K mg) (pf : PF P) : FnOk P w K mg base (L2.CX P w) 9 T.a_sum_by_partings T.d_sum_by_partings ["q", "d", "k"] (spM_all K T.a_TooMany) := by
  refine T.F_sum_by_partings.okX sc_sum_by_partings (fun vs H Q E h => ?_) (fun cdv A outer s H vs Q E hr h => ?_)
  · obtain ⟨q, d, k, rfl, _⟩ := h
    rfl
  · obtain ⟨q, d, k, rfl, hq, hk60, hk, hd, hok, hbn, ke⟩ := h
    refine ⟨_, (pss_cons (ps_expr (pe_call (ok_check_sum T) (hr.mono (by decide)) (by rfl) T.g_check_sum T.F_check_sum.kp T.b_check_sum .nil pass0 (pa_cons (pv 0) (pa_cons (pv 1) (pa_cons (pv 2) pa_nil)))))
      (pss_cons (ps_set (i := 3) sc_sum_by_partings.nd rfl (Or.inr rfl) pe_dnewK)
      (pss_cons (ps_for (passes_of rfl) rfl (pi_list (pe_call (E := E) (okM_found_partings T pf) (hr.mono (by decide)) (by rfl) T.g_found_partings T.F_found_partings.kp T.b_found_partings .nil (passes_call (takes_of rfl rfl rfl rfl) fun _ _ _ _ h => h) (pa_cons (pv 0) (pa_cons (pv 1) (pa_cons (pv 2) pa_nil))))) (pg_name (i := 4) sc_sum_by_partings.nd rfl (Or.inl rfl)) (pss_cons (ps_set (i := 5) sc_sum_by_partings.nd rfl (Or.inl rfl) (pe_call (ok_members_exponent T) (hr.mono (by decide)) (by rfl) T.g_members_exponent T.F_members_exponent.kp T.b_members_exponent .nil pass0 (pa_cons (pv 4) pa_nil)))
      (pss_one (ps_dput (hu_of hr) (pv 3) (pv 5) (pe_op op_add (pe_dget2 (hu_of hr) (pv 3) (pv 5) pe_int ⟨by rfl, by rfl, by rfl, by rfl⟩) (pe_call (ok_lots_rest T) (hr.mono (by decide)) (by rfl) T.g_lots_rest T.F_lots_rest.kp T.b_lots_rest .nil pass0 (pa_cons (pe_ix (r := rIxW K) ix_tab (pe_glob (v := .ref T.a_PRIMES) (by rfl) T.g_PRIMES rfl) (pv 0) (fun _ _ => rfl)) (pa_cons (pv 4) pa_nil)))) rfl))))
      (pss_cons (ps_set (i := 6) sc_sum_by_partings.nd rfl (Or.inr rfl) (pe_dc (own := [("exponent", 5)]) (g := gName 5) rfl sc_sum_by_partings.nd (pi_list (pe_callB (call_sortedDn rfl) (by rfl) T.z_sorted (by decide +kernel) (pa_cons (pv 3) pa_nil))) (blkOk_by (N := ["q", "d", "k", "totals", "members", "exponent", "told"]) (sc := defScope s_sum_by_partings) (by decide +kernel)) (fun _ _ _ _ _ => pg_name (i := 5) sc_sum_by_partings.nd rfl (Or.inl rfl)) (fun _ _ _ _ _ => pts_nil) (fun _ _ _ _ _ => (pv 5)) (fun _ _ _ _ _ => (pe_call (ok_signed T) (hr.mono (by decide)) (by rfl) T.g_signed T.F_signed.kp T.b_signed .nil pass0 (pa_cons (pv 0) (pa_cons (pv 1) (pa_cons (pe_dget (hu_of hr) (pv 3) (pv 5) (fun _ _ => rfl)) pa_nil)))))))
      (pss_one (ps_ret (pe_lock (pe_dc (own := [("exponent", 5)]) (g := gName 5) rfl sc_sum_by_partings.nd (pi_keys (pv 6)) (blkOk_by (N := ["q", "d", "k", "totals", "members", "exponent", "told"]) (sc := defScope s_sum_by_partings) (by decide +kernel)) (fun _ _ _ _ _ => pg_name (i := 5) sc_sum_by_partings.nd rfl (Or.inl rfl)) (fun _ _ _ _ _ => (pts_one (pt_cmpR op_ne (pe_dget (hu_of hr) (pv 6) (pv 5) (fun _ _ => rfl)) pe_int (nomark _)))) (fun _ _ _ _ _ => (pv 5)) (fun _ _ _ _ _ => (pe_dget (hu_of hr) (pv 6) (pv 5) (fun _ _ => rfl))))))))))), ?_⟩
    refine q_drop (ev_call (ea_cons (ev_var rfl) (ea_cons (ev_var rfl) (ea_cons (ev_var rfl) ea_nil))) (sv_check_sum hq (by omega) hk60)) fun H1 e1 => ?_
    intro pd npd
    exact ⟨N_ q, rfl, N_ (d + 1), rfl, N_ k, rfl, q, d, k, rfl, hq, hk60, hk, hd, hok, hbn, ke.ex (e1.trans (Ex.new npd))⟩


def spZ_found (K : PySem.W.Frag) : Sp := fun vs H Q _ => ∃ (q k : Nat), vs = [N_ q, N_ 0, N_ k] ∧ Fq q ∧ k < 10 ^ 60 ∧ RetPs K [[k]] H Q
def spZ_all (K : PySem.W.Frag) : Sp := fun vs H Q _ => ∃ (q k : Nat), vs = [N_ q, N_ 0, N_ k] ∧ Fq q ∧ k < 10 ^ 60 ∧ RetPt K [[k]] H Q

theorem okZ_found_partings {P : Program} {w : World} {K : PySem.W.Frag} {mg : Str → Option Value} {base : Heap} (T : Txt K mg) : FnOk P w K mg base CX0 8 T.a_found_partings T.d_found_partings ["q", "d", "k"] (spZ_found K) := by
  refine T.F_found_partings.ok sc_found_partings (fun vs H Q E h => ?_) (fun cdv A outer s H vs Q E hr h => ?_)
  · obtain ⟨q, k, rfl, _⟩ := h
    rfl
  · obtain ⟨q, k, rfl, hq, hk60, kk⟩ := h
    refine ⟨_, (pss_cons (ps_if (pt_cmpR op_gt (pv 1) (pe_call (ok_parts_bound T) (hr.mono (by decide)) (by rfl) T.g_parts_bound T.F_parts_bound.kp T.b_parts_bound .nil pass0 (pa_cons (pv 0) (pa_cons (pv 2) pa_nil))) (nomark _)) (pss_one (ps_ret (pe_lst pa_nil))) pss_nil)
      (pss_cons (ps_if (pt_cmpR op_gt (pv 1) (pe_glob (v := .int 12) (by rfl) T.c_MOST_AHEAD ⟨_, rfl⟩) (nomark _)) (pss_one ps_never) pss_nil)
      (pss_one (ps_ret (pe_call (ok_listed_partings T) (hr.mono (by decide)) (by rfl) T.g_listed_partings T.F_listed_partings.kp T.b_listed_partings .nil pass0 (pa_cons (pv 0) (pa_cons (pv 1) (pa_cons (pv 2) (pa_cons (pe_glob (v := .int 2000) (by rfl) T.c_MAX_LISTED ⟨_, rfl⟩) pa_nil))))))))), ?_⟩
    refine q_when (b := false) (et_is (et_test (ev_op (ev_var rfl) (ev_call (ea_cons (ev_var rfl) (ea_cons (ev_var rfl) ea_nil)) (sv_parts_bound hq hk60)) rv_I0)) (decide_eq_false (by omega))) (fun h => nomatch h) (fun _ H1 e1 => ?_)
    refine q_when (b := false) (et_is (et_test (ev_op (ev_var rfl) ev_c rv_I0)) (decide_eq_false (by omega))) (fun h => nomatch h) (fun _ H2 e2 => ?_)
    exact ⟨N_ q, rfl, N_ 0, rfl, N_ k, rfl, q, 0, k, rfl, hq, by decide, rfl, kk.go (e1.trans e2)⟩


theorem okZ_all_partings {P : Program} {w : World} {K : PySem.W.Frag} {mg : Str → Option Value} {base : Heap} (T : Txt K mg) : FnOk P w K mg base CX0 9 T.a_all_partings T.d_all_partings ["q", "d", "k"] (spZ_all K) := by
  refine T.F_all_partings.ok sc_all_partings (fun vs H Q E h => ?_) (fun cdv A outer s H vs Q E hr h => ?_)
  · obtain ⟨q, k, rfl, _⟩ := h
    rfl
  · obtain ⟨q, k, rfl, hq, hk60, kk⟩ := h
    refine ⟨_, (pss_cons (ps_expr (pe_call (ok_check_sum T) (hr.mono (by decide)) (by rfl) T.g_check_sum T.F_check_sum.kp T.b_check_sum .nil pass0 (pa_cons (pv 0) (pa_cons (pv 1) (pa_cons (pv 2) pa_nil)))))
      (pss_one (ps_ret (pe_callTy call_tuple_of (by rfl) T.z_tuple (by decide +kernel) (pa_cons (pe_call (okZ_found_partings T) (hr.mono (by decide)) (by rfl) T.g_found_partings T.F_found_partings.kp T.b_found_partings .nil pass0 (pa_cons (pv 0) (pa_cons (pv 1) (pa_cons (pv 2) pa_nil)))) pa_nil))))), ?_⟩
    refine q_drop (ev_call (ea_cons (ev_var rfl) (ea_cons (ev_var rfl) (ea_cons (ev_var rfl) ea_nil))) (sv_check_sum hq (by omega) hk60)) fun H1 e1 => ?_
    refine ⟨N_ q, rfl, N_ 0, rfl, N_ k, rfl, q, k, rfl, hq, hk60, fun p rs H2 np e2 h2 t2 => ⟨p, rs.map V.ref, rfl, .inl ⟨sq_of h2, fun l nl => kk l rs _ (fresh_back (e1.trans e2) nl) ((e1.trans e2).trans (Ex.new nl)) upd_same (t2.ex (Ex.new nl))⟩⟩⟩


end Own
/-! the law's right -/
namespace Own
open PySem PySem.Spec PyProof.Rows L2 Evl LamX

/-- all but the dice and the tables stay -/
def ExdN (p : Addr) (H H' : Hp) : Prop := ∀ a o, a ≠ p → H a = some o → (∀ ps, o ≠ .tbl ps) → H' a = some o
theorem ExdN.of {p : Addr} {H H' : Hp} (x : Exd p H H') : ExdN p H H' := fun a o ha h _ => x a o ha h
theorem ExdN.ofN {p : Addr} {H H' : Hp} (x : LamX.ExtN H H') : ExdN p H H' := fun a o _ h n => x a o h n
theorem ExdN.trans {p : Addr} {H H1 H2 : Hp} (x : ExdN p H H1) (y : ExdN p H1 H2) : ExdN p H H2 := fun a o ha h n => y a o ha (x a o ha h n) n

section
variable {K : PySem.W.Frag} {H H' : Hp} {p a : Addr} {xs : List V} {q : Nat} {N M : Addr → Prop}
theorem dice_n (e : LamX.ExtN H H') (d : IsDice H p) : IsDice H' p := by
  obtain ⟨a, b, c, h⟩ := d
  exact ⟨a, b, c, e _ _ h n_lst⟩
theorem LLt.keepL {xss : List (List Nat)} (h : LLt N H a xss) (hk : ∀ b o, N b → H b = some o → (∀ ps, o ≠ .tbl ps) → M b ∧ H' b = some o) : LLt M H' a xss := by
  obtain ⟨rs, n, h1, h2, h3⟩ := h
  exact ⟨rs, (hk _ _ n h1 n_lst).1, (hk _ _ n h1 n_lst).2, h2, fun i r xs e1 e2 => hk _ _ (h3 i r xs e1 e2).1 (h3 i r xs e1 e2).2 n_lst⟩
theorem FldAt.keepL {d : Addr} (h : FldAt N H d q) (hk : ∀ b o, N b → H b = some o → (∀ ps, o ≠ .tbl ps) → M b ∧ H' b = some o) : FldAt M H' d q := by
  obtain ⟨nd, kvs, a1, a2, a3, h1, g1, g2, g3, g4, g5, g6, l1, l2, n3, h3⟩ := h
  exact ⟨(hk _ _ nd h1 n_dk).1, kvs, a1, a2, a3, (hk _ _ nd h1 n_dk).2, g1, g2, g3, g4, g5, g6, l1.keepL hk, l2.keepL hk, (hk _ _ n3 h3 n_lst).1, (hk _ _ n3 h3 n_lst).2⟩
end

theorem tabs_d {TLs : List (Addr × Str)} {H H' : Hp} {p : Addr} (d : IsDice H p) (x : Exd p H H') (h : Tabs TLs H) : Tabs TLs H' := fun t ht => by
  obtain ⟨ps, h1, h2, h3⟩ := h t ht
  refine ⟨ps, x _ _ (fun z => ?_) h1, h2, fun pos cv hc => ?_⟩
  · obtain ⟨_, _, _, hd⟩ := d
    rw [z, hd] at h1
    cases h1
  obtain ⟨_, _, _, hd⟩ := d
  obtain ⟨c, e1, e2⟩ := h3 pos cv hc
  exact ⟨c, e1, x _ _ (fun z => by rw [z, hd] at e2; unfold CodeO at e2; cases e2) e2⟩

section
variable {K : PySem.W.Frag} {σ : L2.St} {H H1 : Hp} {te ta tb : TE} {tA : TA} {D : Ends} {tu tz : TS} {v : V} {xs : List V} {n : Nat}
/-- values of known kind, some of them new objects -/
def EvP (G : Hp → V → Prop) (te : TE) (σ : L2.St) (H : Hp) : Prop := ∀ H1, Ex H H1 → ∀ Q : VK, (∀ v H2, Ex H1 H2 → G H2 v → Q v H2) → te σ H1 Q
def EaP (G : Hp → V → Prop) (ta : TA) (σ : L2.St) (H : Hp) (n : Nat) : Prop := ∀ H1, Ex H H1 → ∀ Q : List V → Hp → Prop, (∀ vs H2, Ex H1 H2 → vs.length = n → (∀ v ∈ vs, G H2 v) → Q vs H2) → ta σ H1 Q
def StP (G : Hp → V → Prop) : Prop := ∀ H H' v, G H v → ExtN H H' → G H' v
variable {G : Hp → V → Prop}
theorem ep_ev (h : Ev te σ H v) (hv : ∀ H', G H' v) : EvP G te σ H := fun H1 e Q k => h H1 e _ fun H2 e2 => k v H2 e2 (hv H2)
theorem ep_tup (h : EvU te σ H xs) (hv : ∀ a H', H' a = some (.tup xs) → G H' (.ref a)) : EvP G te σ H := fun H1 e Q k => h H1 e _ fun p H2 _ e2 h2 => k _ H2 e2 (hv p H2 h2)
theorem ep_lst (h : EvL te σ H xs) (hv : ∀ a H', H' a = some (.lst xs) → G H' (.ref a)) : EvP G te σ H := fun H1 e Q k => h H1 e _ fun p H2 _ e2 h2 => k _ H2 e2 (hv p H2 h2)
theorem ap_nil : EaP G tNil σ H 0 := fun H1 e Q k => k [] H1 (Ex.refl H1) rfl fun v h => by cases h
theorem ap_cons (st : StP G) (h : EvP G te σ H) (h2 : EaP G tA σ H n) : EaP G (tCons te tA) σ H (n + 1) := fun H1 e Q k =>
  h H1 e _ fun v H2 e2 gv => h2 H2 (e.trans e2) _ fun vs H3 e3 hl hv => k (v :: vs) H3 (e2.trans e3) (by rw [List.length_cons, hl]) fun z hz => by
    rcases List.mem_cons.mp hz with rfl | hz
    · exact st _ _ _ gv (ExtN.of e3)
    · exact hv z hz
/-- for x in a display of such values -/
theorem q_forPT {j : Nat} (st : StP G) (h : EaP G tA σ H n) (hn : n ≤ 1000) (Pv : Addr → List V → Nat → L2.St → Hp → Prop) (h0 : ∀ p xs H1, xs.length = n → (∀ v ∈ xs, G H1 v) → Ex H H1 → H1 p = some (.tup xs) → Pv p xs 0 σ H1) (hl : ∀ p xs i σ' H', i ≤ xs.length → Pv p xs i σ' H' → SqT K H' p xs)
    (hs : ∀ p xs i x σ' H', xs[i]? = some x → Pv p xs i σ' H' → tu { D with nx := Pv p xs (i + 1), ct := Pv p xs (i + 1), bk := tz D } (σ'.set j (some x)) H') (hd : ∀ p xs σ' H', Pv p xs xs.length σ' H' → tz D σ' H') : tSeq (tFor (iTup K (tTup tA)) (gName j) tu) tz D σ H :=
  h H (Ex.refl H) _ fun vs H1 e1 hln hv => ⟨sz_of (by omega), fun p np => ⟨p, rfl, ⟨vs, st_of upd_same⟩, for_tup (Pv p vs) (h0 p vs _ hln (fun v hm => st _ _ _ (hv v hm) (ExtN.of (Ex.new np))) (e1.trans (Ex.new np)) upd_same) (hl p vs) (hs p vs) (hd p vs)⟩⟩
end
/-- what can be shown of a value -/
def okD (dt : PyData) : Bool := dt.showable && (!dt.hasDict && (decide (dt.depth ≤ 40) && (decide (dt.shown.length ≤ 5000) && PyData.canLay0 (.str (("number " : Str) ++ dt.shown)))))
theorem okD_rep {dt : PyData} {g : Prop} {v : V} (h : okD dt = true) (hg : g) : Eh.RepOk g v dt := by
  unfold okD at h
  simp only [Bool.and_eq_true, decide_eq_true_eq, Bool.not_eq_true'] at h
  exact ⟨h.1, h.2.1, h.2.2.1, h.2.2.2.1, .inl hg⟩
theorem okD_can {dt : PyData} (h : okD dt = true) : PyData.canLay0 (.str (("number " : Str) ++ dt.shown)) = true := by
  unfold okD at h
  simp only [Bool.and_eq_true, decide_eq_true_eq, Bool.not_eq_true'] at h
  exact h.2.2.2.2
/-- a value that is refused by a test, and can be shown -/
def Bn (K : PySem.W.Frag) (P : Vk → Bool) (H : Hp) (v : V) : Prop := ∃ (kd : Vk) (dt : PyData), It_ K (fun _ => True) H v kd ∧ P kd = false ∧ Dp K H v dt ∧ okD dt = true
theorem bn_st {K : PySem.W.Frag} {P : Vk → Bool} : StP (Bn K P) := fun _ _ _ ⟨kd, dt, a, b, c, d⟩ e => ⟨kd, dt, a.extN e, b, dp_n e _ _ c, d⟩
theorem bn_int {K : PySem.W.Frag} {P : Vk → Bool} {z : Int} (h : P (.int z) = false) (h2 : okD (.int z) = true) (H : Hp) : Bn K P H (.int z) := ⟨.int z, .int z, rfl, h, .int z, h2⟩
theorem bn_bl {K : PySem.W.Frag} {P : Vk → Bool} {b : Bool} (h : P (.bl b) = false) (h2 : okD (.bool b) = true) (H : Hp) : Bn K P H (.bl b) := ⟨.bl b, .bool b, rfl, h, .bl b, h2⟩
theorem bn_non {K : PySem.W.Frag} {P : Vk → Bool} (h : P .oth = false) (h2 : okD .none = true) (H : Hp) : Bn K P H .non := ⟨.oth, .none, ⟨_, .non⟩, h, .non, h2⟩
theorem bn_str {K : PySem.W.Frag} {P : Vk → Bool} {x : Str} (h : P .oth = false) (h2 : okD (.str x) = true) (H : Hp) : Bn K P H (.str x) := ⟨.oth, .str x, ⟨_, .str x⟩, h, .str x, h2⟩
theorem bn_t1 {K : PySem.W.Frag} {P : Vk → Bool} {z : Int} (h : P .oth = false) (h2 : okD (.tuple [.int z]) = true) (a : Addr) (H : Hp) (ha : H a = some (.tup [.int z])) : Bn K P H (.ref a) := ⟨.oth, .tuple [.int z], ⟨_, .tup (st_of ha)⟩, h, .tup (st_of ha) (.cons (.int z) .nil), h2⟩
theorem bn_l1 {K : PySem.W.Frag} {P : Vk → Bool} {z : Int} (h : P .oth = false) (h2 : okD (.list [.int z]) = true) (a : Addr) (H : Hp) (ha : H a = some (.lst [.int z])) : Bn K P H (.ref a) := ⟨.oth, .list [.int z], ⟨_, .lst trivial ha⟩, h, .lst (sq_of ha) (.cons (.int z) .nil), h2⟩
theorem ev_rep {K : PySem.W.Frag} {σ : L2.St} {H : Hp} {i : Nat} {v : V} {dt : PyData} {g : Prop} (gi : σ[i]? = some (some v)) (hd : Dp K H v dt) (ok : Eh.RepOk g v dt) : Ev (tOp Eh.rCat (tC (.str "number ")) (tCB (Eh.rRep K g) (tCons (tVar i) tNil))) σ H (.str (("number " : Str) ++ dt.shown)) := fun H1 e Q q =>
  ⟨v, gi, ⟨v, dt, rfl, dp_n (ExtN.of e) _ _ hd, ok, "number ", dt.shown, rfl, rfl, by
    have := ok.size
    have h7 : ("number " : Str).length = 7 := by decide +kernel
    rw [sizeLine_eq]
    omega, q H1 (Ex.refl H1)⟩⟩
def ns7 (n : Nat) (x : Str) : List V := (List.replicate n x).map V.str
theorem ns7_succ {n : Nat} {x : Str} : ns7 n x ++ [.str x] = ns7 (n + 1) x := by
  unfold ns7
  rw [List.replicate_succ', List.map_append]
  rfl
theorem el_ns {σ : L2.St} {H : Hp} {te : TE} {x : Str} {n : Nat} (h : Ev te σ H (.str x)) (hn : n ≤ 100) : EvL (tOp rRep (tLst (tCons te tNil)) (tC (.int n))) σ H ((List.replicate n x).map V.str) :=
  el_is (el_rep (k := (n : Int)) (el_lst (ea_cons h ea_nil) (by show 1 ≤ 100000; decide)) ev_c (by omega) (by show 1 * (n : Int).toNat ≤ 100000; omega) (by omega)) (by
    rw [Int.toNat_natCast, List.map_replicate]
    clear hn
    induction n with
    | zero => rfl
    | succ n ih => rw [List.replicate_succ, List.flatten_cons, ih, List.replicate_succ]; rfl)

/-- what is no parting -/
def Np (K : PySem.W.Frag) (q k : Nat) (H : Hp) (v : V) : Prop := ∃ D, Vl K (fun _ => True) H v D ∧ (∀ ks, D = .tup ks → ks.length ≤ 1000) ∧ pB q 1 k D = false
theorem np_st {K : PySem.W.Frag} {q k : Nat} : StP (Np K q k) := fun _ _ _ ⟨D, a, b, c⟩ e => ⟨D, a.extN e, b, c⟩
section
variable {K : PySem.W.Frag} {q k : Nat} {H : Hp} {v x y : V} {a : Addr}
theorem np_no (h : Vl K (fun _ => True) H v .no) : Np K q k H v := ⟨.no, h, fun ks z => (nomatch z), pB_no (D := .no) fun z => z⟩
theorem np_tup {ks : List Vk} {xs : List V} (ha : SqT K H a xs) (hl : xs.length = ks.length) (hk : ks.length ≤ 1000) (hi : ∀ (i : Nat) (x : V) (kd : Vk), xs[i]? = some x → ks[i]? = some kd → It_ K (fun _ => True) H x kd) (h : ∀ ms : List Nat, ks = ms.map nk → Prt (prE q) (q - 1) 1 k ms → False) : Np K q k H (.ref a) :=
  ⟨.tup ks, ⟨a, xs, rfl, ha, hl, hi⟩, fun ks' z => by cases z; exact hk, pB_not h⟩
theorem np_nats (ms : List Nat) (hl : ms.length ≤ 1000) (h : ¬ Prt (prE q) (q - 1) 1 k ms) (ha : SqT K H a (ms.map N_)) : Np K q k H (.ref a) :=
  np_tup (ks := ms.map nk) ha (by rw [List.length_map, List.length_map]) (by rw [List.length_map]; exact hl) (fun i x kd e1 e2 => by
    rw [List.getElem?_map] at e1 e2
    obtain ⟨m, hm, rfl⟩ := Option.map_eq_some_iff.mp e1
    rw [hm] at e2
    cases e2
    rfl) fun ns z1 z2 => by
      cases map_int_inj z1
      exact h z2
theorem np_two {k1 k2 : Vk} (ha : SqT K H a [x, y]) (h1 : It_ K (fun _ => True) H x k1) (h2 : It_ K (fun _ => True) H y k2) (h : (∀ m, k1 ≠ nk m) ∨ ∀ m, k2 ≠ nk m) : Np K q k H (.ref a) :=
  np_tup (ks := [k1, k2]) ha rfl (by show 2 ≤ 1000; decide) (fun i z kd e1 e2 => by
    rcases i with _ | _ | i
    · cases e1; cases e2; exact h1
    · cases e1; cases e2; exact h2
    · cases e1) fun ms z1 _ => by
      match ms, z1 with
      | [], z1 => cases z1
      | [_], z1 => cases z1
      | m1 :: m2 :: r, z1 =>
        have e1 := (List.cons.inj z1).1
        have e2 := (List.cons.inj (List.cons.inj z1).2).1
        rcases h with h | h
        · exact h _ e1
        · exact h _ e2
end

theorem bq_st {K : PySem.W.Frag} : StP (BadQ K) := fun _ _ _ h e => h.extN e
section
variable {K : PySem.W.Frag}
theorem bq_int {z : Int} (h : fldB (.int z) = false) (H : Hp) : BadQ K H (.int z) := ⟨fun _ => True, .int z, rfl, h⟩
theorem bq_bl {b : Bool} (H : Hp) : BadQ K H (.bl b) := ⟨fun _ => True, .bl b, rfl, rfl⟩
theorem bq_non (H : Hp) : BadQ K H .non := ⟨fun _ => True, .oth, ⟨_, .non⟩, rfl⟩
theorem bq_str {x : Str} (H : Hp) : BadQ K H (.str x) := ⟨fun _ => True, .oth, ⟨_, .str x⟩, rfl⟩
theorem bq_tup {xs : List V} (a : Addr) (H : Hp) (h : H a = some (.tup xs)) : BadQ K H (.ref a) := ⟨fun _ => True, .oth, ⟨_, .tup (st_of h)⟩, rfl⟩
end

/-- the heap without the dice -/
def hide (p : Addr) (H : Hp) : Hp := fun a => if a = p then none else H a
def Hid (p : Addr) (G : Hp → V → Prop) : Hp → V → Prop := fun H v => G (hide p H) v
section
variable {K : PySem.W.Frag} {σ : L2.St} {H H' : Hp} {te ta tb : TE} {tA : TA} {D : Ends} {tu tz : TS} {v : V} {xs : List V} {n : Nat} {p : Addr} {G : Hp → V → Prop}
theorem hide_ne {a : Addr} (h : a ≠ p) : hide p H a = H a := if_neg h
theorem hide_ext (e : ExtN H H') : ExtN (hide p H) (hide p H') := fun a o h n => by
  by_cases ha : a = p
  · rw [ha] at h
    exact nomatch (if_pos rfl).symm.trans h
  · rw [hide_ne ha] at h ⊢
    exact e a o h n
theorem hide_exd (e : Exd p H H') : Ex (hide p H) (hide p H') := fun a o h => by
  by_cases ha : a = p
  · rw [ha] at h
    exact nomatch (if_pos rfl).symm.trans h
  · rw [hide_ne ha] at h ⊢
    exact e a o ha h
theorem hide_le : Ex (hide p H) H := fun a o h => by
  by_cases ha : a = p
  · rw [ha] at h
    exact nomatch (if_pos rfl).symm.trans h
  · rw [hide_ne ha] at h
    exact h
theorem hid_st (st : StP G) : StP (Hid p G) := fun H H' v h e => st _ _ v h (hide_ext e)
theorem hid_d (st : StP G) (h : Hid p G H v) (e : Exd p H H') : Hid p G H' v := st _ _ v h (ExtN.of (hide_exd e))
theorem hid_o (st : StP G) (h : Hid p G H v) : G H v := st _ _ v h (ExtN.of hide_le)
theorem dice_new {a : Addr} (d : IsDice H p) (n : H a = none) : a ≠ p := fun z => by
  obtain ⟨_, _, _, h⟩ := d
  rw [z, h] at n
  cases n
theorem eh_ev (h : Ev te σ H v) (hv : ∀ H', G H' v) : EvP (Hid p G) te σ H := ep_ev h fun H' => hv _
theorem eh_tup (d : IsDice H p) (h : EvU te σ H xs) (hv : ∀ a H', H' a = some (.tup xs) → G H' (.ref a)) : EvP (Hid p G) te σ H := fun H1 e Q k => h H1 e _ fun b H2 nb e2 h2 => k _ H2 e2 (hv b _ (by rw [hide_ne (dice_new (d.ex e) nb)]; exact h2))
theorem eh_lst (d : IsDice H p) (h : EvL te σ H xs) (hv : ∀ a H', H' a = some (.lst xs) → G H' (.ref a)) : EvP (Hid p G) te σ H := fun H1 e Q k => h H1 e _ fun b H2 nb e2 h2 => k _ H2 e2 (hv b _ (by rw [hide_ne (dice_new (d.ex e) nb)]; exact h2))
theorem eh_dk (d : IsDice H p) (hv : ∀ a H', H' a = some (.dK []) → G H' (.ref a)) : EvP (Hid p G) tDNewK σ H := fun H1 e Q k b nb => k _ _ (Ex.new nb) (hv b _ (by rw [hide_ne (dice_new (d.ex e) nb)]; exact upd_same))
/-- x = _law_one_of(dice, [..]) -/
theorem q_pick {i : Nat} {E : XK} (st : StP G) (d : IsDice H p) (g0 : σ[0]? = some (some (.ref p))) (h : EaP (Hid p G) tA σ H n) (h0 : 0 < n) (hn : n ≤ 1000) (k : ∀ v H1, Exd p H H1 → IsDice H1 p → Hid p G H1 v → tz D (σ.set i (some v)) H1) : tSeq (tAsg (tCall (sp__law_one_of K) [] E (tCons (tVar 0) (tCons (tLst tA) tNil))) (gName i)) tz D σ H :=
  ⟨.ref p, g0, h H (Ex.refl H) _ fun vs H1 e1 hl hv => ⟨sz_of (by omega), fun m nm => ⟨p, m, vs, rfl, (d.ex e1).ex (Ex.new nm), sq_of upd_same, dice_new (d.ex e1) nm, by omega, by omega, fun x H' hx ex hd' =>
    k x H' ((Exd.of (e1.trans (Ex.new nm))).trans ex) hd' (hid_d st (hid_st st _ _ _ (hv x hx) (ExtN.of (Ex.new nm))) ex)⟩⟩⟩
end
/-- a test that is false, all but the tables staying -/
def EvTW (TLs : List (Addr × Str)) (tt : TT) (σ : L2.St) (H : Hp) : Prop := ∀ Q : Bool → Hp → Prop, (∀ H', ExtN H H' → Tabs TLs H' → Q false H') → tt σ H Q
section
variable {K : PySem.W.Frag} {TLs : List (Addr × Str)} {σ : L2.St} {H : Hp} {tt uu : TT} {tb : TE} {tA : TA} {D : Ends} {tu tz : TS} {x : Str} {q d k : V} {E : XK}
theorem q_whenW (h : EvTW TLs tt σ H) (k : ∀ H', ExtN H H' → Tabs TLs H' → tz D σ H') : tSeq (tIfS tt tu tNext) tz D σ H := h _ fun H' e T => by
  rw [if_neg (by decide)]
  exact k H' e T
theorem et_orW (h1 : EvTW TLs tt σ H) (h2 : ∀ H', ExtN H H' → Tabs TLs H' → EvTW TLs uu σ H') : EvTW TLs (tOr tt uu) σ H := fun Q k => h1 _ fun H1 e1 T1 => by
  rw [if_neg (by decide)]
  exact h2 H1 e1 T1 Q fun H2 e2 T2 => k H2 (e1.trans e2) T2
theorem et_words (hA : EvA tA σ H [q, d, k]) (hw : Wd K True H q d k x) (hT : Tabs TLs H) (ok : PyData.canLay0 (.str x) = true) (hb : ∀ H', ExtN H H' → EvL tb σ H' (wsL 8 x)) : EvTW TLs (tTest (tOp (rNeD K) (tCall (sp_words K TLs) [] E tA) tb)) σ H := fun Q kk =>
  hA H (Ex.refl H) _ fun H1 e1 => ⟨q, d, k, x, rfl, hw.extN (ExtN.of e1), hT.ext e1, fun m H2 e2 n2 T2 h2 => hb H2 ((ExtN.of e1).trans e2) H2 (Ex.refl H2) _ fun u H3 nu e3 h3 =>
    rv_neS (K := K) (xs := List.replicate 8 x) (fun y hy => by rw [(List.mem_replicate.mp hy).2]; exact ok) (sq_of (e3 _ _ h2)) (sq_of h3) H3 (Ex.refl H3) _ fun H4 e4 => ⟨false, rfl, kk H4 (((ExtN.of e1).trans e2).trans (ExtN.of (e3.trans e4))) ((T2.ext e3).ext e4)⟩⟩
end
theorem can_fine : PyData.canLay0 (.str "fine") = true := by decide +kernel
theorem can_field : PyData.canLay0 (.str "field") = true := by decide +kernel
theorem can_part : PyData.canLay0 (.str "parting") = true := by decide +kernel
def sp_right (K : PySem.W.Frag) (TLs : List (Addr × Str)) : Sp := fun vs H Q _ => ∃ (p : Addr), vs = [.ref p] ∧ IsDice H p ∧ Tabs TLs H ∧ ∀ H', ExdN p H H' → IsDice H' p → Tabs TLs H' → Q (.bl true) H'
theorem not_prt11 {q : Nat} (h : Fq q) : ¬ Prt (prE q) (q - 1) 1 (q + 1) [1, 1] := fun z => by
  have hb := h.b
  have h2 := z.sum
  have : (1 : Nat) + (1 + 0) = q + 1 := h2
  omega
theorem not_prt0 {q : Nat} : ¬ Prt (prE q) (q - 1) 1 (q + 1) [] := fun z => by have := z.len; cases this
theorem not_prt0q {q : Nat} : ¬ Prt (prE q) (q - 1) 1 (q + 1) [0, q + 1] := fun z => by
  have := (z.mul 0 (by decide)).1
  exact absurd this (by show ¬ 0 < 0; decide)

theorem bq_lst {K : PySem.W.Frag} {xs : List V} (a : Addr) (H : Hp) (h : H a = some (.lst xs)) : BadQ K H (.ref a) := ⟨fun _ => True, .oth, ⟨_, .lst trivial h⟩, rfl⟩
theorem bq_dk {K : PySem.W.Frag} {xs : List (Key × V)} (a : Addr) (H : Hp) (h : H a = some (.dK xs)) : BadQ K H (.ref a) := ⟨fun _ => True, .oth, ⟨_, .dk trivial h⟩, rfl⟩
theorem okG__law_right {P : Program} {w : World} {K : PySem.W.Frag} {mg : Str → Option Value} {base : Heap} (T : Txt K mg) (pf : PF P) {TLs : List (Addr × Str)} {P0 : Addr} (TB0 : TabB base mg T.c__law_words P0) (hm0 : (P0, (("_law_words" : Str) ++ (".<locals>." : Str) ++ ("<lambda>" : Str))) ∈ TLs) (hu0 : ∀ p ∈ TLs, p.1 = P0 → p.2 = (("_law_words" : Str) ++ (".<locals>." : Str) ++ ("<lambda>" : Str))) {P1 : Addr} (TB1 : TabB base mg T.c__law_right P1) (hm1 : (P1, (("_law_right" : Str) ++ (".<locals>." : Str) ++ ("<lambda>" : Str))) ∈ TLs) (hu1 : ∀ p ∈ TLs, p.1 = P1 → p.2 = (("_law_right" : Str) ++ (".<locals>." : Str) ++ ("<lambda>" : Str))) :
    Gd.FnG P w K mg base CX0 13 T.a__law_right T.d__law_right ["_law_dice_here"] (sp_right K TLs) := by
  refine Gd.lamG T.L__law_right sc__law_right (fun vs H Q E h => ?_) (fun A hA outer s H vs Q E hr h => ?_)
  · obtain ⟨p, rfl, _⟩ := h
    rfl
  · obtain ⟨p, rfl, hd, hT, kk⟩ := h
    have hmT : ∀ X : Cx, X.env.qual = ("_law_right" : Str) ++ (".<locals>." : Str) → (P1, X.env.qual ++ "<lambda>") ∈ TLs := fun X hX => by
      rw [hX]
      exact hm1
    have hu : ∀ X : Cx, X.env.qual = ("_law_right" : Str) ++ (".<locals>." : Str) → ∀ p ∈ TLs, p.1 = P1 → p.2 = X.env.qual ++ "<lambda>" := fun X hX p hp hq => by
      rw [hX]
      exact hu1 p hp hq
    refine ⟨_, (pss_cons (ps_set (i := 1) sc__law_right.nd rfl (Or.inr rfl) (pe_call (ok__law_q T) (hr.mono (by decide)) (by rfl) T.g__law_q T.F__law_q.kp T.b__law_q .nil pass0 (pa_cons (pv 0) pa_nil)))
      (pss_cons (ps_set (i := 2) sc__law_right.nd rfl (Or.inr rfl) (pe_call (ok__law_one_of T) (hr.mono (by decide)) (by rfl) T.g__law_one_of T.F__law_one_of.kp T.b__law_one_of .nil pass0 (pa_cons (pv 0) (pa_cons (pe_lst (pa_cons pe_non (pa_cons pe_int (pa_cons pe_int (pa_cons pe_int (pa_cons (pe_un un_neg pe_int) (pa_cons pe_bl (pa_cons pe_str (pa_cons (pe_tup (pa_cons pe_int pa_nil)) (pa_cons (pe_lst (pa_cons pe_int pa_nil)) (pa_cons pe_int (pa_cons pe_dnewK (pa_cons (pe_call (ok__law_raised T) (hr.mono (by decide)) (by rfl) T.g__law_raised T.F__law_raised.kp T.b__law_raised .nil pass0 (pa_cons pe_int (pa_cons pe_int pa_nil))) pa_nil))))))))))))) pa_nil))))
      (pss_cons (ps_set (i := 3) sc__law_right.nd rfl (Or.inr rfl) (pe_call (ok__law_one_of T) (hr.mono (by decide)) (by rfl) T.g__law_one_of T.F__law_one_of.kp T.b__law_one_of .nil pass0 (pa_cons (pv 0) (pa_cons (pe_lst (pa_cons pe_non (pa_cons (pe_un un_neg pe_int) (pa_cons pe_int (pa_cons pe_bl (pa_cons pe_str (pa_cons (pe_tup (pa_cons pe_int pa_nil)) (pa_cons (pe_call (ok__law_raised T) (hr.mono (by decide)) (by rfl) T.g__law_raised T.F__law_raised.kp T.b__law_raised .nil pass0 (pa_cons pe_int (pa_cons pe_int pa_nil))) (pa_cons (pe_lst (pa_cons pe_int pa_nil)) (pa_cons pe_bl pa_nil)))))))))) pa_nil))))
      (pss_cons (ps_set (i := 4) sc__law_right.nd rfl (Or.inr rfl) (pe_call (ok__law_one_of T) (hr.mono (by decide)) (by rfl) T.g__law_one_of T.F__law_one_of.kp T.b__law_one_of .nil pass0 (pa_cons (pv 0) (pa_cons (pe_lst (pa_cons pe_non (pa_cons (pe_un un_neg pe_int) (pa_cons pe_bl (pa_cons pe_str (pa_cons (pe_tup (pa_cons pe_int pa_nil)) (pa_cons (pe_call (ok__law_raised T) (hr.mono (by decide)) (by rfl) T.g__law_raised T.F__law_raised.kp T.b__law_raised .nil pass0 (pa_cons pe_int (pa_cons pe_int pa_nil))) (pa_cons (pe_lst (pa_cons pe_int pa_nil)) (pa_cons pe_bl (pa_cons (pe_op op_sub pe_int (pe_call (ok__law_raised T) (hr.mono (by decide)) (by rfl) T.g__law_raised T.F__law_raised.kp T.b__law_raised .nil pass0 (pa_cons pe_int (pa_cons pe_int pa_nil)))) pa_nil)))))))))) pa_nil))))
      (pss_cons (ps_if (pt_cmpR (op_neD hr.units) (Gd.pe_callG (okG__law_words T pf TB0 hm0 hu0) hA (hr.mono (by decide)) (by rfl) T.g__law_words T.F__law_words.kp T.b__law_words pass0 (pa_cons (pv 2) (pa_cons (pv 3) (pa_cons (pv 4) pa_nil)))) (pe_op op_rep (pe_lst (pa_cons pe_str pa_nil)) pe_int) (nomark _)) (pss_one (ps_ret pe_bl)) pss_nil)
      (pss_cons (ps_if (pt_cmpR (op_neD hr.units) (Gd.pe_callG (okG__law_words T pf TB0 hm0 hu0) hA (hr.mono (by decide)) (by rfl) T.g__law_words T.F__law_words.kp T.b__law_words pass0 (pa_cons (pv 1) (pa_cons (pv 3) (pa_cons (pv 4) pa_nil)))) (pe_op op_rep (pe_lst (pa_cons (pe_op Eh.op_cat pe_str (pe_callB (r := Eh.rRep K (A.guards = some [])) (Eh.call_rep (hu50 hr)) (by rfl) T.z_repr (by decide +kernel) (pa_cons (pv 3) pa_nil))) pa_nil)) pe_int) (nomark _)) (pss_one (ps_ret pe_bl)) pss_nil)
      (pss_cons (ps_if (PW.pt (pw_or (pt_cmpR (op_neD hr.units) (Gd.pe_callG (okG__law_words T pf TB0 hm0 hu0) hA (hr.mono (by decide)) (by rfl) T.g__law_words T.F__law_words.kp T.b__law_words pass0 (pa_cons (pv 1) (pa_cons pe_int (pa_cons (pv 4) pa_nil)))) (pe_op op_rep (pe_lst (pa_cons (pe_op Eh.op_cat pe_str (pe_callB (r := Eh.rRep K (A.guards = some [])) (Eh.call_rep (hu50 hr)) (by rfl) T.z_repr (by decide +kernel) (pa_cons (pv 4) pa_nil))) pa_nil)) pe_int) (nomark _)) (pw_or1 (pt_cmpR (op_neD hr.units) (Gd.pe_callG (okG__law_words T pf TB0 hm0 hu0) hA (hr.mono (by decide)) (by rfl) T.g__law_words T.F__law_words.kp T.b__law_words pass0 (pa_cons (pv 1) (pa_cons pe_int (pa_cons (pe_op op_add (pv 1) pe_int) pa_nil)))) (pe_op op_rep (pe_lst (pa_cons pe_str pa_nil)) pe_int) (nomark _))))) (pss_one (ps_ret pe_bl)) pss_nil)
      (pss_cons (ps_set (i := 5) sc__law_right.nd rfl (Or.inr rfl) (pe_call (ok__law_one_of T) (hr.mono (by decide)) (by rfl) T.g__law_one_of T.F__law_one_of.kp T.b__law_one_of .nil pass0 (pa_cons (pv 0) (pa_cons (pe_lst (pa_cons pe_non (pa_cons (pe_tup pa_nil) (pa_cons pe_int (pa_cons (pe_tup (pa_cons pe_int (pa_cons pe_int pa_nil))) (pa_cons pe_str (pa_cons (pe_lst (pa_cons pe_int (pa_cons pe_int pa_nil))) (pa_cons (pe_tup (pa_cons pe_non (pa_cons pe_non pa_nil))) (pa_cons (pe_tup (pa_cons pe_int (pa_cons (pe_op op_add (pv 1) pe_int) pa_nil))) pa_nil))))))))) pa_nil))))
      (pss_cons (ps_set (i := 6) sc__law_right.nd rfl (Or.inl rfl) (pe_lst (pa_cons (pe_heard True (fun _ => hA) (k := 9) T rfl rfl (by rfl) TB1 rfl (hmT _ rfl) (hu _ rfl) (hr.mono (by decide)) (LamX.lamS_by (show LamX.lamSB (defScope s__law_right) _ = true by decide +kernel)) rfl (fun _ _ _ _ _ => rfl) fun A9 o9 s9 H9 E9 f9 c9 hr9 => pe_call (E := E9) (okX_parting_exponent T pf) (hr9.mono (by decide)) (by rfl) T.g_parting_exponent T.F_parting_exponent.kp T.b_parting_exponent .nil (passes_call (takes_of rfl rfl rfl rfl) fun _ _ _ _ h => h) (pa_cons (pv 1) (pa_cons pe_int (pa_cons (pe_op op_add (pv 1) pe_int) (pa_cons (pv 5) pa_nil))))) pa_nil)))
      (pss_cons (ps_expr (pe_bm PySem.F.plainAttrs_list PySem.F.slot_list_append PySem.F.type_list_append mt_append (pv 6) (pa_cons (pe_heard True (fun _ => hA) (k := 9) T rfl rfl (by rfl) TB1 rfl (hmT _ rfl) (hu _ rfl) (hr.mono (by decide)) (LamX.lamS_by (show LamX.lamSB (defScope s__law_right) _ = true by decide +kernel)) rfl (fun _ _ _ _ _ => rfl) fun A9 o9 s9 H9 E9 f9 c9 hr9 => pe_call (E := E9) (okX_parting_number T pf) (hr9.mono (by decide)) (by rfl) T.g_parting_number T.F_parting_number.kp T.b_parting_number .nil (passes_call (takes_of rfl rfl rfl rfl) fun _ _ _ _ h => h) (pa_cons (pv 1) (pa_cons pe_int (pa_cons (pe_op op_add (pv 1) pe_int) (pa_cons (pv 5) pa_nil))))) pa_nil)))
      (pss_cons (ps_expr (pe_bm PySem.F.plainAttrs_list PySem.F.slot_list_append PySem.F.type_list_append mt_append (pv 6) (pa_cons (pe_heard True (fun _ => hA) (k := 9) T rfl rfl (by rfl) TB1 rfl (hmT _ rfl) (hu _ rfl) (hr.mono (by decide)) (LamX.lamS_by (show LamX.lamSB (defScope s__law_right) _ = true by decide +kernel)) rfl (fun _ _ _ _ _ => rfl) fun A9 o9 s9 H9 E9 f9 c9 hr9 => pe_call (E := E9) (okE_parting_number T pf) (hr9.mono (by decide)) (by rfl) T.g_parting_number T.F_parting_number.kp T.b_parting_number .nil (passes_call (takes_of rfl rfl rfl rfl) fun _ _ _ _ h => h) (pa_cons (pv 2) (pa_cons (pv 3) (pa_cons (pv 4) (pa_cons (pv 5) pa_nil))))) pa_nil)))
      (pss_cons (ps_expr (pe_bm PySem.F.plainAttrs_list PySem.F.slot_list_append PySem.F.type_list_append mt_append (pv 6) (pa_cons (pe_heard True (fun _ => hA) (k := 9) T rfl rfl (by rfl) TB1 rfl (hmT _ rfl) (hu _ rfl) (hr.mono (by decide)) (LamX.lamS_by (show LamX.lamSB (defScope s__law_right) _ = true by decide +kernel)) rfl (fun _ _ _ _ _ => rfl) fun A9 o9 s9 H9 E9 f9 c9 hr9 => pe_call (E := E9) (okE_parting_exponent T pf) (hr9.mono (by decide)) (by rfl) T.g_parting_exponent T.F_parting_exponent.kp T.b_parting_exponent .nil (passes_call (takes_of rfl rfl rfl rfl) fun _ _ _ _ h => h) (pa_cons (pv 1) (pa_cons (pv 3) (pa_cons (pv 4) (pa_cons (pv 5) pa_nil))))) pa_nil)))
      (pss_one (ps_ret (pe_cmpR (op_eqD hr.units) (pv 6) (pe_lst (pa_cons pe_str (pa_cons pe_str (pa_cons pe_str (pa_cons (pe_op Eh.op_cat pe_str (pe_callB (r := Eh.rRep K (A.guards = some [])) (Eh.call_rep (hu50 hr)) (by rfl) T.z_repr (by decide +kernel) (pa_cons (pv 3) pa_nil))) pa_nil))))) (nomark _)))))))))))))))), ?_⟩
    refine q_asgC (ea_cons (ev_var rfl) ea_nil) fun H0 e0 => ⟨p, rfl, hd.ex e0, fun q H1 hq x1 d1 => ?_⟩
    have hb := hq.b
    have x01 := (Exd.of e0).trans x1
    refine q_pick (G := BadQ K) (n := 12) bq_st d1 rfl (ap_cons (hid_st bq_st) (eh_ev ev_c bq_non) (ap_cons (hid_st bq_st) (eh_ev ev_c (bq_int (by decide +kernel))) (ap_cons (hid_st bq_st) (eh_ev ev_c (bq_int (by decide +kernel))) (ap_cons (hid_st bq_st) (eh_ev ev_c (bq_int (by decide +kernel))) (ap_cons (hid_st bq_st) (eh_ev (ev_un ev_c ru_neg) (bq_int (by decide +kernel))) (ap_cons (hid_st bq_st) (eh_ev ev_c bq_bl) (ap_cons (hid_st bq_st) (eh_ev ev_c bq_str) (ap_cons (hid_st bq_st) (eh_tup d1 (eu_tup (ea_cons ev_c ea_nil) (by show 1 ≤ 100000; decide)) bq_tup) (ap_cons (hid_st bq_st) (eh_lst d1 (el_lst (ea_cons ev_c ea_nil) (by show 1 ≤ 100000; decide)) bq_lst) (ap_cons (hid_st bq_st) (eh_ev ev_c (bq_int (by decide +kernel))) (ap_cons (hid_st bq_st) (eh_dk d1 bq_dk) (ap_cons (hid_st bq_st) (eh_ev (ev_call (ea_cons (ev_is (w := N_ 10) ev_c rfl) (ea_cons (ev_is (w := N_ 59) ev_c rfl) ea_nil)) (sv_raised (by decide) (by decide))) (bq_int (by decide +kernel))) ap_nil)))))))))))) (by decide) (by decide) fun bad H2 x2 d2 g2 => ?_
    refine q_pick (G := Bn K (btw 0 300)) (n := 9) bn_st d2 rfl (ap_cons (hid_st bn_st) (eh_ev ev_c (bn_non (by decide +kernel) (by decide +kernel))) (ap_cons (hid_st bn_st) (eh_ev (ev_un ev_c ru_neg) (bn_int (by decide +kernel) (by decide +kernel))) (ap_cons (hid_st bn_st) (eh_ev ev_c (bn_int (by decide +kernel) (by decide +kernel))) (ap_cons (hid_st bn_st) (eh_ev ev_c (bn_bl (by decide +kernel) (by decide +kernel))) (ap_cons (hid_st bn_st) (eh_ev ev_c (bn_str (by decide +kernel) (by decide +kernel))) (ap_cons (hid_st bn_st) (eh_tup d2 (eu_tup (ea_cons ev_c ea_nil) (by show 1 ≤ 100000; decide)) (bn_t1 (by decide +kernel) (by decide +kernel))) (ap_cons (hid_st bn_st) (eh_ev (ev_call (ea_cons (ev_is (w := N_ 10) ev_c rfl) (ea_cons (ev_is (w := N_ 60) ev_c rfl) ea_nil)) (sv_raised (by decide) (by decide))) (bn_int (by decide +kernel) (by decide +kernel))) (ap_cons (hid_st bn_st) (eh_lst d2 (el_lst (ea_cons ev_c ea_nil) (by show 1 ≤ 100000; decide)) (bn_l1 (by decide +kernel) (by decide +kernel))) (ap_cons (hid_st bn_st) (eh_ev ev_c (bn_bl (by decide +kernel) (by decide +kernel))) ap_nil))))))))) (by decide) (by decide) fun wrong H3 x3 d3 g3 => ?_
    refine q_pick (G := Bn K (frm 0)) (n := 9) bn_st d3 rfl (ap_cons (hid_st bn_st) (eh_ev ev_c (bn_non (by decide +kernel) (by decide +kernel))) (ap_cons (hid_st bn_st) (eh_ev (ev_un ev_c ru_neg) (bn_int (by decide +kernel) (by decide +kernel))) (ap_cons (hid_st bn_st) (eh_ev ev_c (bn_bl (by decide +kernel) (by decide +kernel))) (ap_cons (hid_st bn_st) (eh_ev ev_c (bn_str (by decide +kernel) (by decide +kernel))) (ap_cons (hid_st bn_st) (eh_tup d3 (eu_tup (ea_cons ev_c ea_nil) (by show 1 ≤ 100000; decide)) (bn_t1 (by decide +kernel) (by decide +kernel))) (ap_cons (hid_st bn_st) (eh_ev (ev_call (ea_cons (ev_is (w := N_ 10) ev_c rfl) (ea_cons (ev_is (w := N_ 60) ev_c rfl) ea_nil)) (sv_raised (by decide) (by decide))) (bn_int (by decide +kernel) (by decide +kernel))) (ap_cons (hid_st bn_st) (eh_lst d3 (el_lst (ea_cons ev_c ea_nil) (by show 1 ≤ 100000; decide)) (bn_l1 (by decide +kernel) (by decide +kernel))) (ap_cons (hid_st bn_st) (eh_ev ev_c (bn_bl (by decide +kernel) (by decide +kernel))) (ap_cons (hid_st bn_st) (eh_ev (ev_op ev_c (ev_call (ea_cons (ev_is (w := N_ 10) ev_c rfl) (ea_cons (ev_is (w := N_ 59) ev_c rfl) ea_nil)) (sv_raised (by decide) (by decide))) rv_I0) (bn_int (by decide +kernel) (by decide +kernel))) ap_nil))))))))) (by decide) (by decide) fun number H4 x4 d4 g4 => ?_
    have x04 := ((x01.trans x2).trans x3).trans x4
    have T4 := tabs_d hd x04 hT
    have b4 := hid_d bq_st (hid_d bq_st g2 x3) x4
    have w4 := hid_d bn_st g3 x4
    have bw : ∀ H', ExtN H4 H' → BadQ K H' bad := fun H' e => (hid_o bq_st b4).extN e
    have ww : ∀ H', ExtN H4 H' → Bn K (btw 0 300) H' wrong := fun H' e => bn_st _ _ _ (hid_o bn_st w4) e
    have wn : ∀ H', ExtN H4 H' → Bn K (frm 0) H' number := fun H' e => bn_st _ _ _ (hid_o bn_st g4) e
    refine q_whenW (et_words (ea_cons (ev_var rfl) (ea_cons (ev_var rfl) (ea_cons (ev_var rfl) ea_nil))) (.field (bw H4 (ExtN.refl H4))) T4 can_field fun H' e => el_ns (n := 8) ev_c (by decide)) fun H5 e5 T5 => ?_
    obtain ⟨kd5, dt5, hit5, hbt5, hdp5, hok5⟩ := ww H5 e5
    refine q_whenW (et_words (ea_cons (ev_var rfl) (ea_cons (ev_var rfl) (ea_cons (ev_var rfl) ea_nil))) (.dd hq ⟨_, kd5, hit5, hbt5⟩ hdp5 (okD_rep hok5 trivial)) T5 (okD_can hok5) fun H' e => el_ns (n := 8) (ev_rep rfl (dp_n e _ _ hdp5) (okD_rep hok5 hA)) (by decide)) fun H6 e6 T6 => ?_
    obtain ⟨kd6, dt6, hit6, hbt6, hdp6, hok6⟩ := wn H6 (e5.trans e6)
    refine q_whenW (et_orW (et_words (d := N_ 2) (ea_cons (ev_var rfl) (ea_cons ev_c (ea_cons (ev_var rfl) ea_nil))) (.kk hq (by decide) ⟨_, kd6, hit6, hbt6⟩ hdp6 (okD_rep hok6 trivial)) T6 (okD_can hok6) fun H' e => el_ns (n := 8) (ev_rep rfl (dp_n e _ _ hdp6) (okD_rep hok6 hA)) (by decide)) fun H7 e7 T7 =>
      et_words (d := N_ 1) (k := N_ (q + 1)) (ea_cons (ev_var rfl) (ea_cons ev_c (ea_cons (ev_op (ev_var rfl) ev_c rv_I0) ea_nil))) (.fine hq) T7 can_fine fun H' e => el_ns (n := 8) ev_c (by decide)) fun H8 e8 T8 => ?_
    have e48 := (e5.trans e6).trans e8
    have d9 : IsDice H8 p := dice_n e48 d4
    have b8 := hid_st bq_st _ _ _ b4 e48
    have w8 := hid_st bn_st _ _ _ w4 e48
    have n8 := hid_st bn_st _ _ _ g4 e48
    refine q_pick (G := Np K q (q + 1)) (n := 8) np_st d9 rfl (ap_cons (hid_st np_st) (eh_ev ev_c fun H => np_no (.inr (.inr .non))) (ap_cons (hid_st np_st) (eh_tup d9 (eu_tup ea_nil (by decide)) fun a H h => np_nats [] (by decide) not_prt0 (st_of h)) (ap_cons (hid_st np_st) (eh_ev ev_c fun H => np_no (.inr (.inl ⟨5, rfl⟩))) (ap_cons (hid_st np_st) (eh_tup d9 (eu_tup (ea_cons ev_c (ea_cons ev_c ea_nil)) (by show 2 ≤ 100000; decide)) fun a H h => np_nats [1, 1] (by decide) (not_prt11 hq) (st_of h)) (ap_cons (hid_st np_st) (eh_ev ev_c fun H => np_no (.inr (.inr (.str _)))) (ap_cons (hid_st np_st) (eh_lst d9 (el_lst (ea_cons ev_c (ea_cons ev_c ea_nil)) (by show 2 ≤ 100000; decide)) fun a H h => np_no (.inr (.inr (.lst trivial h)))) (ap_cons (hid_st np_st) (eh_tup d9 (eu_tup (ea_cons ev_c (ea_cons ev_c ea_nil)) (by show 2 ≤ 100000; decide)) fun a H h => np_two (k1 := .oth) (k2 := .oth) (st_of h) ⟨_, .non⟩ ⟨_, .non⟩ (.inl fun m z => by cases z)) (ap_cons (hid_st np_st) (eh_tup (xs := [N_ 0, N_ (q + 1)]) d9 (eu_tup (ea_cons ev_c (ea_cons (ev_op (ev_var rfl) ev_c rv_I0) ea_nil)) (by show 2 ≤ 100000; decide)) fun a H h => np_nats [0, q + 1] (by show 2 ≤ 1000; decide) not_prt0q (st_of h)) ap_nil)))))))) (by decide) (by decide) fun odd H9 x9 d10 g9 => ?_
    have T9 := tabs_d d9 x9 T8
    have b9 := hid_o bq_st (hid_d bq_st b8 x9)
    have w9 := hid_o bn_st (hid_d bn_st w8 x9)
    have o9 := hid_o np_st g9
    obtain ⟨kd9, dt9, hit9, hbt9, hdp9, hok9⟩ := w9
    have hq60 : q + 1 < 10 ^ 60 := Nat.lt_of_le_of_lt (show q + 1 ≤ 10 by omega) (by decide +kernel)
    refine q_begW (w_parting T T9 fun H10 e10 E Q ke => ca_go (ea_cons (ev_var rfl) (ea_cons ev_c (ea_cons (ev_is (w := N_ (q + 1)) (ev_op (ev_var rfl) ev_c rv_I0) rfl) (ea_cons (ev_var rfl) ea_nil)))) fun H11 e11 => ?_) fun m H10 s10 => ?_
    · obtain ⟨D9, hv9, hz9, hb9⟩ := np_st _ _ _ o9 (e10.trans (ExtN.of e11))
      exact ⟨q, 1, q + 1, odd, _, D9, rfl, hq, by decide, hq60, hv9, hz9, hb9, ke.ex e11⟩
    refine q_appW s10 (show 1 ≤ 1000 by decide) rfl (w_parting T s10.t fun H11 e11 E Q ke => ca_go (ea_cons (ev_var rfl) (ea_cons ev_c (ea_cons (ev_is (w := N_ (q + 1)) (ev_op (ev_var rfl) ev_c rv_I0) rfl) (ea_cons (ev_var rfl) ea_nil)))) fun H12 e12 => ?_) fun H11 s11 _ => ?_
    · obtain ⟨D9, hv9, hz9, hb9⟩ := np_st _ _ _ o9 ((s10.e.trans e11).trans (ExtN.of e12))
      exact ⟨q, 1, q + 1, odd, _, D9, rfl, hq, by decide, hq60, hv9, hz9, hb9, ke.ex e12⟩
    refine q_appW s11 (show 2 ≤ 1000 by decide) rfl (w_field T s11.t fun H12 e12 E Q ke => ca_go (ea_cons (ev_var rfl) (ea_cons (ev_var rfl) (ea_cons (ev_var rfl) (ea_cons (ev_var rfl) ea_nil)))) fun H13 e13 => ⟨bad, wrong, number, odd, rfl, .inl ⟨b9.extN ((s11.e.trans e12).trans (ExtN.of e13)), ke.ex e13⟩⟩) fun H12 s12 _ => ?_
    refine q_appW s12 (show 3 ≤ 1000 by decide) rfl (w_number T s12.t (dp_n s12.e _ _ hdp9) (okD_rep hok9 trivial) fun H13 e13 E Q ke => ca_go (ea_cons (ev_var rfl) (ea_cons (ev_var rfl) (ea_cons (ev_var rfl) (ea_cons (ev_var rfl) ea_nil)))) fun H14 e14 => ⟨N_ q, wrong, number, odd, rfl, .inr (.inl ⟨q, rfl, hq, ⟨_, kd9, hit9.extN ((s12.e.trans e13).trans (ExtN.of e14)), hbt9⟩, ke.ex e14⟩)⟩) fun H13 s13 _ => ?_
    refine s_ret (ev_eqNew (K := K) (xs := ["parting", "parting", "field", ("number " : Str) ++ dt9.shown]) (fun x hx => ?_) (ev_var rfl) s13.h (el_lst (ea_cons ev_c (ea_cons ev_c (ea_cons ev_c (ea_cons (ev_rep rfl (dp_n s13.e _ _ hdp9) (okD_rep hok9 hA)) ea_nil)))) (by show 4 ≤ 100000; decide))) fun H14 e14 => kk H14 ?_ ?_ ?_
    · rcases List.mem_cons.mp hx with rfl | hx
      · exact can_part
      rcases List.mem_cons.mp hx with rfl | hx
      · exact can_part
      rcases List.mem_cons.mp hx with rfl | hx
      · exact can_field
      rw [List.mem_singleton.mp hx]
      exact okD_can hok9
    · exact ((ExdN.of x04).trans ((ExdN.ofN e48).trans (ExdN.of x9))).trans (ExdN.ofN (s13.ex e14).e)
    · exact dice_n (s13.ex e14).e d10
    · exact (s13.ex e14).t


end Own
/-! too many, and the law -/
namespace Own
open PySem PySem.Spec PyProof.Rows L2 Evl LamX

section
variable {X : Cx} {CX : CXT} {k : Nat} {f : Addr} {fd : FuncData} {sp : Sp} {E : XK} {x : Str} {p pos : Pos}
theorem pe_call0G (F : Gd.FnG X.prog X.w X.K X.mg X.base CX k f fd [] sp) (hA : X.A.guards = some []) (hr : Room k X.A) (hg : Gl X x) (hm : X.mg x = some (.ref f)) (hk : PySem.W.keepIn X.K (.ref f) = true) (hb : Binds X.K fd [] []) (hx : Passes CX X E)
    (hdb : (x == ("__debug__" : Str)) = false := by decide) : PE X (.Call (.Name x p) [] [] pos) (tCall sp [] E tNil) := by
  refine ⟨fun pins s σ H Q I h => ?_⟩
  refine wpAny_Call_Name_kw (ld_glob I hg hm ?_ hdb)
  have q : sp [] H Q E := h
  refine PySem.W.callWith_K0 I.kIn hk ?_
  refine wpAny_call (codeAny_mono (F.go X.A hA X.stack s H ⟨[], []⟩ [] [] Q E hr I.env0 (hb s [] I.kIn rfl) .nil q) fun r s' hq => ?_)
  cases r with
  | error e => exact hx pins σ H s e s' I hq
  | ok fl =>
    cases fl with
    | ret u => exact I.after hq
    | next => exact False.elim hq
    | brk => exact False.elim hq
    | cont => exact False.elim hq
end
theorem many2k : ("many " : Str) ++ PyData.shown (.int 2000) = ("many 2000" : Str) := by decide +kernel
theorem can_2k : PyData.canLay0 (.str "many 2000") = true := by decide +kernel
section
variable {K : PySem.W.Frag} {mg : Str → Option Value} {TLs : List (Addr × Str)} {σ : L2.St} {H0 H H1 : Hp} {t : XK → TE} {g : Prop}
theorem w_many2k (T : Txt K mg) (hT : Tabs TLs H) (h : ∀ H1, ExtN H H1 → ∀ (E : XK) (Q : VK), ErN T.a_TooMany "limit" (N_ 2000) H1 E → t E σ H1 Q) : EvW TLs (tLam TLs (Eh.TFour (F4 T) K g) t) σ H (.str "many 2000") :=
  fun Q k => ⟨hT, fun H1 e1 T1 => h H1 e1 _ _ fun e H' e' he => .inr (.inr (.inr ⟨rfl, e, .int 2000, .int 2000, rfl, he, .int 2000, ⟨by decide +kernel, by decide +kernel, by decide +kernel, by decide +kernel, .inr (fun a z => by cases z)⟩, by
    show Q (.str (("many " : Str) ++ PyData.shown (.int 2000))) H'
    rw [many2k]
    exact k H' (e1.trans (ExtN.of e')) (T1.ext e')⟩))⟩
end
section
variable {σ : L2.St} {H : Hp} {Q : VK}
theorem tc_go {v : V} (h : Q v H) : tC v σ H Q := h
theorem cb_call {r : List V → Hp → VK → Prop} {sp : Sp} {E : XK} {tA : TA} {vs : List V} (hA : EvA tA σ H vs) (k : ∀ H1, Ex H H1 → sp vs H1 (fun x H2 => r [x] H2 Q) E) : tCB r (tCons (tCall sp [] E tA) tNil) σ H Q := hA H (Ex.refl H) _ fun H1 e1 => by
  rw [List.append_nil]
  exact k H1 e1
theorem op_call {r : R2} {sp : Sp} {E : XK} {tA : TA} {tb : TE} {vs : List V} (hA : EvA tA σ H vs) (k : ∀ H1, Ex H H1 → sp vs H1 (fun x H2 => tb σ H2 fun y H3 => r x y H3 Q) E) : tOp r (tCall sp [] E tA) tb σ H Q := hA H (Ex.refl H) _ fun H1 e1 => by
  rw [List.append_nil]
  exact k H1 e1
theorem tup_tup {te : TE} {xs : List V} (h : EvU te σ H xs) (k : ∀ b H1, Ex H H1 → H1 b = some (.tup xs) → ∀ c, H1 c = none → Q (.ref c) (upd H1 c (.tup [.ref b]))) : tTup (tCons te tNil) σ H Q := h H (Ex.refl H) _ fun b H1 nb e1 h1 => ⟨by show 1 ≤ sizeLine; decide, fun c nc => k b H1 e1 h1 c nc⟩
theorem s_retAnd {r : R2} {tl tb tc : TE} {D : Ends} (h : tl σ H (fun x H7 => tb σ H7 fun y H8 => r x y H8 fun z H9 => ∃ b, z = V.bl b ∧ (if b = true then tc σ H9 D.rt else D.rt (.bl false) H9))) : tRet (tAndV (tOp r tl tb) tc) D σ H := h
end
def gr_ : Nat := 2 ^ 190 - 1
theorem gr_60 : gr_ < 10 ^ 60 := by decide +kernel
theorem gr_b : gr_ < 2 ^ 190 := by decide +kernel
theorem f2 : Fq 2 := show 2 ∈ FQ by decide
theorem f3 : Fq 3 := show 3 ∈ FQ by decide
theorem chk_l : okList 2 (prE 2) (poE 2) 1 [([], 1023)] = true := by decide +kernel
theorem chk_ln : (allI 2 (prE 2) (poE 2) 1 1023).length = 1023 := by decide +kernel
theorem sh_gr : SeqAt.shaped (.tuple [.tuple [.int (gr_ : Int)]]) = true := by decide +kernel
theorem eq_gr : PyData.eqv (.tuple [.tuple [.int (gr_ : Int)]]) (.tuple [.tuple [.int (gr_ : Int)]]) = true := by decide +kernel
theorem dp_gr {K : PySem.W.Frag} {H : Hp} {a r : Addr} (h : SqT K H a [.ref r]) (h2 : SqT K H r [N_ gr_]) : Dp K H (.ref a) (.tuple [.tuple [.int (gr_ : Int)]]) := .tup h (.cons (.tup h2 (.cons (.int _) .nil)) .nil)
def sp_many (K : PySem.W.Frag) (TLs : List (Addr × Str)) : Sp := fun vs H Q _ => vs = [] ∧ Tabs TLs H ∧ ∀ H', Q (.bl true) H'

theorem okG__law_many_right {P : Program} {w : World} {K : PySem.W.Frag} {mg : Str → Option Value} {base : Heap} (T : Txt K mg) (pf : PF P) {TLs : List (Addr × Str)} {P2 : Addr} (TB2 : TabB base mg T.c__law_many_right P2) (hm2 : (P2, (("_law_many_right" : Str) ++ (".<locals>." : Str) ++ ("<lambda>" : Str))) ∈ TLs) (hu2 : ∀ p ∈ TLs, p.1 = P2 → p.2 = (("_law_many_right" : Str) ++ (".<locals>." : Str) ++ ("<lambda>" : Str))) :
    Gd.FnG P w K mg base CX0 12 T.a__law_many_right T.d__law_many_right [] (sp_many K TLs) := by
  refine Gd.lamG T.L__law_many_right sc__law_many_right (fun vs H Q E h => ?_) (fun A hA outer s H vs Q E hr h => ?_)
  · obtain ⟨rfl, _⟩ := h
    rfl
  · obtain ⟨rfl, hT, kk⟩ := h
    have hmT : ∀ X : Cx, X.env.qual = ("_law_many_right" : Str) ++ (".<locals>." : Str) → (P2, X.env.qual ++ "<lambda>") ∈ TLs := fun X hX => by
      rw [hX]
      exact hm2
    have hu : ∀ X : Cx, X.env.qual = ("_law_many_right" : Str) ++ (".<locals>." : Str) → ∀ p ∈ TLs, p.1 = P2 → p.2 = X.env.qual ++ "<lambda>" := fun X hX p hp hq => by
      rw [hX]
      exact hu2 p hp hq
    refine ⟨_, (pss_cons (ps_set (i := 0) sc__law_many_right.nd rfl (Or.inr rfl) (pe_op op_sub (pe_call (ok__law_raised T) (hr.mono (by decide)) (by rfl) T.g__law_raised T.F__law_raised.kp T.b__law_raised .nil pass0 (pa_cons pe_int (pa_cons pe_int pa_nil))) pe_int))
      (pss_cons (ps_set (i := 1) sc__law_many_right.nd rfl (Or.inl rfl) (pe_lst (pa_cons (pe_heard True (fun _ => hA) (k := 9) T rfl rfl (by rfl) TB2 rfl (hmT _ rfl) (hu _ rfl) (hr.mono (by decide)) (LamX.lamS_by (show LamX.lamSB (defScope s__law_many_right) _ = true by decide +kernel)) rfl (fun _ _ _ _ _ => rfl) fun A9 o9 s9 H9 E9 f9 c9 hr9 => pe_call (E := E9) (okM_all_partings T pf) (hr9.mono (by decide)) (by rfl) T.g_all_partings T.F_all_partings.kp T.b_all_partings .nil (passes_call (takes_of rfl rfl rfl rfl) fun _ _ _ _ h => h) (pa_cons pe_int (pa_cons pe_int (pa_cons pe_int pa_nil)))) pa_nil)))
      (pss_cons (ps_expr (pe_bm PySem.F.plainAttrs_list PySem.F.slot_list_append PySem.F.type_list_append mt_append (pv 1) (pa_cons (pe_heard True (fun _ => hA) (k := 9) T rfl rfl (by rfl) TB2 rfl (hmT _ rfl) (hu _ rfl) (hr.mono (by decide)) (LamX.lamS_by (show LamX.lamSB (defScope s__law_many_right) _ = true by decide +kernel)) rfl (fun _ _ _ _ _ => rfl) fun A9 o9 s9 H9 E9 f9 c9 hr9 => pe_call (E := E9) (okM_sum_by_partings T pf) (hr9.mono (by decide)) (by rfl) T.g_sum_by_partings T.F_sum_by_partings.kp T.b_sum_by_partings .nil (passes_call (takes_of rfl rfl rfl rfl) fun _ _ _ _ h => h) (pa_cons pe_int (pa_cons pe_int (pa_cons pe_int pa_nil)))) pa_nil)))
      (pss_cons (ps_expr (pe_bm PySem.F.plainAttrs_list PySem.F.slot_list_append PySem.F.type_list_append mt_append (pv 1) (pa_cons (pe_heard True (fun _ => hA) (k := 9) T rfl rfl (by rfl) TB2 rfl (hmT _ rfl) (hu _ rfl) (hr.mono (by decide)) (LamX.lamS_by (show LamX.lamSB (defScope s__law_many_right) _ = true by decide +kernel)) rfl (fun _ _ _ _ _ => rfl) fun A9 o9 s9 H9 E9 f9 c9 hr9 => pe_call (E := E9) (okM_all_partings T pf) (hr9.mono (by decide)) (by rfl) T.g_all_partings T.F_all_partings.kp T.b_all_partings .nil (passes_call (takes_of rfl rfl rfl rfl) fun _ _ _ _ h => h) (pa_cons pe_int (pa_cons pe_int (pa_cons (pv 0) pa_nil)))) pa_nil)))
      (pss_cons (ps_expr (pe_bm PySem.F.plainAttrs_list PySem.F.slot_list_append PySem.F.type_list_append mt_append (pv 1) (pa_cons (pe_heard True (fun _ => hA) (k := 9) T rfl rfl (by rfl) TB2 rfl (hmT _ rfl) (hu _ rfl) (hr.mono (by decide)) (LamX.lamS_by (show LamX.lamSB (defScope s__law_many_right) _ = true by decide +kernel)) rfl (fun _ _ _ _ _ => rfl) fun A9 o9 s9 H9 E9 f9 c9 hr9 => pe_call (E := E9) (okM_sum_by_partings T pf) (hr9.mono (by decide)) (by rfl) T.g_sum_by_partings T.F_sum_by_partings.kp T.b_sum_by_partings .nil (passes_call (takes_of rfl rfl rfl rfl) fun _ _ _ _ h => h) (pa_cons pe_int (pa_cons pe_int (pa_cons (pv 0) pa_nil)))) pa_nil)))
      (pss_cons (ps_if (PW.pt (pw_or (pt_cmpR (op_neD hr.units) (pv 1) (pe_op op_rep (pe_lst (pa_cons pe_str pa_nil)) pe_int) (nomark _)) (pw_or1 (pt_cmpR op_ne (pe_glob (v := .int 2000) (by rfl) T.c_MAX_LISTED ⟨_, rfl⟩) pe_int (nomark _))))) (pss_one (ps_ret pe_bl)) pss_nil)
      (pss_one (ps_ret (pe_and (pe_cmpR op_eq (pe_callB call_len_seq (by rfl) T.z_len (by decide +kernel) (pa_cons (pe_call (ok_all_partings T) (hr.mono (by decide)) (by rfl) T.g_all_partings T.F_all_partings.kp T.b_all_partings .nil pass0 (pa_cons pe_int (pa_cons pe_int (pa_cons pe_int pa_nil)))) pa_nil)) pe_int (nomark _)) (pe_one (pe_cmpR (op_eqD hr.units) (pe_call (okZ_all_partings T) (hr.mono (by decide)) (by rfl) T.g_all_partings T.F_all_partings.kp T.b_all_partings .nil pass0 (pa_cons pe_int (pa_cons pe_int (pa_cons (pv 0) pa_nil)))) (pe_tup (pa_cons (pe_tup (pa_cons (pv 0) pa_nil)) pa_nil)) (nomark _)))))))))))), ?_⟩
    refine q_asg (v := N_ gr_) (ev_is (ev_op (ev_call (ea_cons (ev_is (w := N_ 2) ev_c rfl) (ea_cons (ev_is (w := N_ 190) ev_c rfl) ea_nil)) (sv_raised (by decide) (by decide))) ev_c rv_I0) (congrArg V.int (by decide +kernel))) fun H1 e1 => ?_
    have T1 := hT.ext e1
    refine q_begW (w_many2k T T1 fun H2 e2 E Q ke => ca_go (ea_cons (ev_is (w := N_ 2) ev_c rfl) (ea_cons (ev_is (w := N_ 1) ev_c rfl) (ea_cons (ev_is (w := N_ 2047) ev_c rfl) ea_nil))) fun H3 e3 => ⟨2, 0, 2047, rfl, f2, by decide +kernel, by decide +kernel, by decide, chk_m1, chk_b1, ke.ex e3⟩) fun m H2 s2 => ?_
    refine q_appW s2 (show 1 ≤ 1000 by decide) rfl (w_many2k T s2.t fun H3 e3 E Q ke => ca_go (ea_cons (ev_is (w := N_ 2) ev_c rfl) (ea_cons (ev_is (w := N_ 1) ev_c rfl) (ea_cons (ev_is (w := N_ 2047) ev_c rfl) ea_nil))) fun H4 e4 => ⟨2, 0, 2047, rfl, f2, by decide +kernel, by decide +kernel, by decide, chk_m1, chk_b1, ke.ex e4⟩) fun H3 s3 _ => ?_
    refine q_appW s3 (show 2 ≤ 1000 by decide) rfl (w_many2k T s3.t fun H4 e4 E Q ke => ca_go (ea_cons (ev_is (w := N_ 2) ev_c rfl) (ea_cons (ev_is (w := N_ 1) ev_c rfl) (ea_cons (ev_var rfl) ea_nil))) fun H5 e5 => ⟨2, 0, gr_, rfl, f2, gr_60, gr_b, by decide, chk_m2, chk_b2, ke.ex e5⟩) fun H4 s4 _ => ?_
    refine q_appW s4 (show 3 ≤ 1000 by decide) rfl (w_many2k T s4.t fun H5 e5 E Q ke => ca_go (ea_cons (ev_is (w := N_ 3) ev_c rfl) (ea_cons (ev_is (w := N_ 5) ev_c rfl) (ea_cons (ev_var rfl) ea_nil))) fun H6 e6 => ⟨3, 4, gr_, rfl, f3, gr_60, gr_b, by decide, chk_m3, chk_b3, ke.ex e6⟩) fun H5 s5 _ => ?_
    refine q_when (b := false) (et_or (a := false) (b := false) (et_test (ev_neNew (K := K) (xs := List.replicate 4 "many 2000") (fun y hy => by rw [(List.mem_replicate.mp hy).2]; exact can_2k) (ev_var rfl) s5.h (el_ns (n := 4) ev_c (by decide)))) fun _ => et_is (et_test (ev_op ev_c ev_c (rv_ne rfl))) (by decide +kernel)) (fun h => nomatch h) (fun _ H6 e6 => ?_)
    refine s_retAnd ?_
    refine cb_call (ea_cons (ev_is (w := N_ 2) ev_c rfl) (ea_cons (ev_is (w := N_ 1) ev_c rfl) (ea_cons (ev_is (w := N_ 1023) ev_c rfl) ea_nil))) fun H7 e7 => ⟨2, 1, 1023, rfl, f2, by decide, by decide, fun _ => chk_l, fun u rs H8 nu e8 h8 t8 => ?_⟩
    refine ⟨u, _, rfl, .inr (st_of h8), tc_go ?_⟩
    refine rv_eq rfl H8 (Ex.refl H8) _ fun H10 e10 => ⟨true, congrArg V.bl (by rw [List.length_map, t8.1, chk_ln]; decide), ?_⟩
    rw [if_pos rfl]
    refine op_call (ea_cons (ev_is (w := N_ 2) ev_c rfl) (ea_cons (ev_is (w := N_ 0) ev_c rfl) (ea_cons (ev_var rfl) ea_nil))) fun H11 e11 => ⟨2, gr_, rfl, f2, gr_60, fun a rs H12 na e12 h12 t12 => ?_⟩
    obtain ⟨hl12, ht12⟩ := t12
    match rs, hl12, h12, ht12 with
    | [r], _, h12, ht12 =>
      have hr12 := ht12 0 r [gr_] rfl rfl
      refine tup_tup (eu_tup (vs := [N_ gr_]) (ea_cons (ev_var rfl) ea_nil) (by show 1 ≤ 100000; decide)) fun b H13 e13 h13 c nc => ?_
      have eb := e13.trans (Ex.new (o := .tup [.ref b]) nc)
      exact ⟨_, _, dp_gr (st_of (eb _ _ h12)) (ex_t eb hr12), dp_gr (st_of upd_same) (st_of (Ex.new nc _ _ h13)), sh_gr, sh_gr, by rw [eq_gr]; exact kk _⟩


theorem minmax5 (L : Nat) : ∃ n : Nat, n ≤ 5 ∧ (if (if (L : Int) < 5 then (L : Int) else 5) > 1 then (if (L : Int) < 5 then (L : Int) else 5) else 1) = (n : Int) := by
  by_cases h : (L : Int) < 5
  · rw [if_pos h]
    by_cases h2 : (L : Int) > 1
    · exact ⟨L, by omega, by rw [if_pos h2]⟩
    · exact ⟨1, by decide, by rw [if_neg h2]; rfl⟩
  · exact ⟨5, Nat.le_refl _, by rw [if_neg h, if_pos (by decide)]; rfl⟩

theorem sql_dn {K : PySem.W.Frag} {H2 H3 H5 : Hp} {p a : Addr} {xs : List V} (np : H2 p = none) (h : SqL K H2 a xs) (e : Ex H2 H3) (x : ExdN p H3 H5) : SqL K H5 a xs := by
  rcases h with (h | ⟨o, h⟩) | h
  · exact .inl (.inl (x a _ (fun z => by rw [z, np] at h; cases h) (e _ _ h) n_lst))
  · exact .inl (.inr ⟨o, x a _ (fun z => by rw [z, np] at h; cases h) (e _ _ h) n_frz⟩)
  · exact .inr h

def plG : Nat := 0
def sp_law (K : PySem.W.Frag) (TLs : List (Addr × Str)) : Sp := fun vs H Q _ => ∃ (a : Addr) (ns : List Int), vs = [.ref a] ∧ SqL K H a (ns.map V.int) ∧ ns.length ≤ 63 ∧ Tabs TLs H ∧ ∀ H', Q (.bl true) H'

theorem funG {P : Program} {w : World} {K : PySem.W.Frag} {mg : Str → Option Value} {base : Heap} {x qual : Str} {st : Stmt} {f : Addr} {fd : FuncData} {N ps : List Str} {k : Nat} {sp : Sp} (F : Fun K x qual st f fd) (S : FnScope N ps (defScope st)) (len : ∀ vs H Q E, sp vs H Q E → vs.length = ps.length)
    (hbody : ∀ (cdv : Value) (A : Around), A.guards = some [] → ∀ (outer : List Env) (s : Shared) (H : Hp) (vs : List V) (Q : VK) (E : XK), Room k (A.deeper (envOfC qual (defScope st) s.heap.objs.size f cdv)) → sp vs H Q E →
      ∃ t, PSs (cxOf CX0 P w K mg base N qual (defScope st) f cdv A outer s H E).nox (defBody st) t ∧ t { nx := fun _ H' => Q .non H', rt := Q } (start N vs) H) : Gd.FnG P w K mg base CX0 (k + 1) f fd ps sp := by
  obtain ⟨oc, od, kV, doc, pm, an, cdv, ct, osl, rfl, lk, hcd⟩ := F.ex
  refine ⟨len, fun A hA outer s H args us vs Q E hr e0 hb r h => run_ofS lk hcd S hr e0 hb r (len _ _ _ _ h) fun hr' => ?_⟩
  obtain ⟨t, h1, h2⟩ := hbody cdv A hA outer s H vs Q E hr' h
  exact ⟨t, h1.nox, h2⟩

theorem okG_law {P : Program} {w : World} {K : PySem.W.Frag} {mg : Str → Option Value} {base : Heap} (T : Txt K mg) (pf : PF P) {TLs : List (Addr × Str)} {P0 : Addr} (TB0 : TabB base mg T.c__law_words P0) (hm0 : (P0, (("_law_words" : Str) ++ (".<locals>." : Str) ++ ("<lambda>" : Str))) ∈ TLs) (hu0 : ∀ p ∈ TLs, p.1 = P0 → p.2 = (("_law_words" : Str) ++ (".<locals>." : Str) ++ ("<lambda>" : Str))) {P1 : Addr} (TB1 : TabB base mg T.c__law_right P1) (hm1 : (P1, (("_law_right" : Str) ++ (".<locals>." : Str) ++ ("<lambda>" : Str))) ∈ TLs) (hu1 : ∀ p ∈ TLs, p.1 = P1 → p.2 = (("_law_right" : Str) ++ (".<locals>." : Str) ++ ("<lambda>" : Str))) {P2 : Addr} (TB2 : TabB base mg T.c__law_many_right P2) (hm2 : (P2, (("_law_many_right" : Str) ++ (".<locals>." : Str) ++ ("<lambda>" : Str))) ∈ TLs) (hu2 : ∀ p ∈ TLs, p.1 = P2 → p.2 = (("_law_many_right" : Str) ++ (".<locals>." : Str) ++ ("<lambda>" : Str))) :
    Gd.FnG P w K mg base CX0 14 T.a_law T.d_law ["_law_script"] (sp_law K TLs) := by
  refine funG T.F_law sc_law (fun vs H Q E h => ?_) (fun cdv A hA outer s H vs Q E hr h => ?_)
  · obtain ⟨a, ns, rfl, _⟩ := h
    rfl
  · obtain ⟨a, ns, rfl, hx, hlen, hT, kk⟩ := h
    refine ⟨_, (pss_cons (ps_for PassesOwn.never rfl (pi_range1 rfl T.z_range (pa_cons (pe_callB (call_max2 rfl) (by rfl) T.z_max (by decide +kernel) (pa_cons pe_int (pa_cons (pe_callB (call_min2 rfl) (by rfl) T.z_min (by decide +kernel) (pa_cons pe_int (pa_cons (pe_callB call_len_seq (by rfl) T.z_len (by decide +kernel) (pa_cons (pv 0) pa_nil)) pa_nil))) pa_nil))) pa_nil)) (pg_name (i := 1) sc_law.nd rfl (Or.inl rfl)) (pss_one (ps_if (pt_not (pt_val (Gd.pe_callG (okG__law_right T pf TB0 hm0 hu0 TB1 hm1 hu1) hA (hr.mono (by decide)) (by rfl) T.g__law_right T.F__law_right.kp T.b__law_right pass0 (pa_cons (pe_call (ok__law_dice T) (hr.mono (by decide)) (by rfl) T.g__law_dice T.F__law_dice.kp T.b__law_dice .nil pass0 (pa_cons (pv 0) (pa_cons (pv 1) pa_nil))) pa_nil)))) (pss_one (ps_ret pe_bl)) pss_nil)))
      (pss_one (ps_ret (pe_call0G (okG__law_many_right T pf TB2 hm2 hu2) hA (hr.mono (by decide)) (by rfl) T.g__law_many_right T.F__law_many_right.kp T.b__law_many_right pass0)))), ?_⟩
    obtain ⟨n, hn, en⟩ := minmax5 (ns.map V.int).length
    refine q_forR1 (n := (n : Int)) (ea_cons (ev_is (ev_cb (ea_cons ev_c (ea_cons (ev_cb (ea_cons ev_c (ea_cons (ev_cb (ea_cons (ev_var rfl) ea_nil) (rc_lenL hx)) ea_nil)) rc_min2) ea_nil)) rc_max2) (congrArg V.int en)) ea_nil) ⟨by omega, by omega⟩
      (fun i σ H' => ∃ y1 : Option V, σ = [some (.ref a), y1] ∧ SqL K H' a (ns.map V.int) ∧ Tabs TLs H') (fun H1 e1 => ⟨none, rfl, ex_l e1 hx, hT.ext e1⟩) (fun i σ H2 hi hw => ?_) (fun σ H2 hw => ?_)
    · obtain ⟨y1, rfl, h2, hT2⟩ := hw
      refine ⟨.ref a, rfl, N_ i, rfl, a, ns, i, rfl, h2, hlen, by omega, fun p H3 np e3 d3 => ?_⟩
      exact ⟨p, rfl, d3, hT2.ext e3, fun H4 x4 d4 hT4 => ⟨true, rfl, iteF ⟨_, rfl, sql_dn np h2 e3 x4, hT4⟩⟩⟩
    · obtain ⟨y1, rfl, h2, hT2⟩ := hw
      exact ⟨rfl, hT2, fun H3 => kk H3⟩


end Own
namespace Own
open PySem PySem.Spec PyProof.Rows L2 Evl

theorem hFacts {l : PySem.W.OpenLaw} {w : World} {K1 K : PySem.W.Frag} {h : Heap} {mg : Str → Option Value} {f : Addr} (pf : PF l.prog) (X : K.In h) (G : h.Ns mainGlobals mg) (hfa : mg ("law" : Str) = some (.ref f)) (cx : hAS.Says h K1 K) :
    Gd.LawG l w K CX0 14 63 "_law_script" mg f h := by
  have c := cx.x.a
  obtain ⟨g_digit_row, d_digit_row, F_digit_row⟩ := c.def_ X G 0 "digit_row" s_digit_row rfl
  have b_digit_row := F_digit_row.binds (ps := ["b", "k"]) fun _ _ _ _ _ _ us hl => match us, hl with | [_, _], _ => rfl
  obtain ⟨g_digit_total, d_digit_total, F_digit_total⟩ := c.def_ X G 1 "digit_total" s_digit_total rfl
  have b_digit_total := F_digit_total.binds (ps := ["b", "k"]) fun _ _ _ _ _ _ us hl => match us, hl with | [_, _], _ => rfl
  obtain ⟨g_are_carry_free, d_are_carry_free, F_are_carry_free⟩ := c.def_ X G 2 "are_carry_free" s_are_carry_free rfl
  have b_are_carry_free := F_are_carry_free.binds (ps := ["b", "numbers"]) fun _ _ _ _ _ _ us hl => match us, hl with | [_, _], _ => rfl
  obtain ⟨g_shift_sum_list, d_shift_sum_list, F_shift_sum_list⟩ := c.def_ X G 3 "shift_sum_list" s_shift_sum_list rfl
  have b_shift_sum_list := F_shift_sum_list.binds (ps := ["q", "k"]) fun _ _ _ _ _ _ us hl => match us, hl with | [_, _], _ => rfl
  obtain ⟨g_parts_bound, d_parts_bound, F_parts_bound⟩ := c.def_ X G 4 "parts_bound" s_parts_bound rfl
  have b_parts_bound := F_parts_bound.binds (ps := ["q", "k"]) fun _ _ _ _ _ _ us hl => match us, hl with | [_, _], _ => rfl
  obtain ⟨g_is_integer, d_is_integer, F_is_integer⟩ := c.def_ X G 5 "is_integer" s_is_integer rfl
  have b_is_integer := F_is_integer.binds (ps := ["value"]) fun _ _ _ _ _ _ us hl => match us, hl with | [_], _ => rfl
  obtain ⟨g_is_from, d_is_from, F_is_from⟩ := c.def_ X G 6 "is_from" s_is_from rfl
  have b_is_from := F_is_from.binds (ps := ["value", "low"]) fun _ _ _ _ _ _ us hl => match us, hl with | [_, _], _ => rfl
  obtain ⟨g_is_between, d_is_between, F_is_between⟩ := c.def_ X G 7 "is_between" s_is_between rfl
  have b_is_between := F_is_between.binds (ps := ["value", "low", "high"]) fun _ _ _ _ _ _ us hl => match us, hl with | [_, _, _], _ => rfl
  obtain ⟨g_check_from, d_check_from, F_check_from⟩ := c.def_ X G 8 "check_from" s_check_from rfl
  have b_check_from := F_check_from.binds (ps := ["value", "low"]) fun _ _ _ _ _ _ us hl => match us, hl with | [_, _], _ => rfl
  obtain ⟨g_check_between, d_check_between, F_check_between⟩ := c.def_ X G 9 "check_between" s_check_between rfl
  have b_check_between := F_check_between.binds (ps := ["value", "low", "high"]) fun _ _ _ _ _ _ us hl => match us, hl with | [_, _, _], _ => rfl
  obtain ⟨g_check_d, d_check_d, F_check_d⟩ := c.def_ X G 10 "check_d" s_check_d rfl
  have b_check_d := F_check_d.binds (ps := ["d"]) fun _ _ _ _ _ _ us hl => match us, hl with | [_], _ => rfl
  obtain ⟨g_whole_power, d_whole_power, F_whole_power⟩ := c.def_ X G 11 "whole_power" s_whole_power rfl
  have b_whole_power := F_whole_power.binds (ps := ["base", "exponent"]) fun _ _ _ _ _ _ us hl => match us, hl with | [_, _], _ => rfl
  obtain ⟨g_is_field, d_is_field, F_is_field⟩ := c.def_ X G 12 "is_field" s_is_field rfl
  have b_is_field := F_is_field.binds (ps := ["value"]) fun _ _ _ _ _ _ us hl => match us, hl with | [_], _ => rfl
  obtain ⟨g_check_field, d_check_field, F_check_field⟩ := c.def_ X G 13 "check_field" s_check_field rfl
  have b_check_field := F_check_field.binds (ps := ["q"]) fun _ _ _ _ _ _ us hl => match us, hl with | [_], _ => rfl
  obtain ⟨g_lots_rest, d_lots_rest, F_lots_rest⟩ := c.def_ X G 14 "lots_rest" s_lots_rest rfl
  have b_lots_rest := F_lots_rest.binds (ps := ["p", "numbers"]) fun _ _ _ _ _ _ us hl => match us, hl with | [_, _], _ => rfl
  obtain ⟨g_spare_sums, d_spare_sums, F_spare_sums⟩ := c.def_ X G 15 "spare_sums" s_spare_sums rfl
  have b_spare_sums := F_spare_sums.binds (ps := ["q", "row", "many"]) fun _ _ _ _ _ _ us hl => match us, hl with | [_, _, _], _ => rfl
  obtain ⟨g_less_digit, d_less_digit, F_less_digit⟩ := c.def_ X G 16 "less_digit" s_less_digit rfl
  have b_less_digit := F_less_digit.binds (ps := ["spare", "weights", "digit"]) fun _ _ _ _ _ _ us hl => match us, hl with | [_, _, _], _ => rfl
  obtain ⟨g_high_digits, d_high_digits, F_high_digits⟩ := c.def_ X G 17 "high_digits" s_high_digits rfl
  have b_high_digits := F_high_digits.binds (ps := ["q", "row"]) fun _ _ _ _ _ _ us hl => match us, hl with | [_, _], _ => rfl
  obtain ⟨g_lowered, d_lowered, F_lowered⟩ := c.def_ X G 18 "lowered" s_lowered rfl
  have b_lowered := F_lowered.binds (ps := ["triples", "spare"]) fun _ _ _ _ _ _ us hl => match us, hl with | [_, _], _ => rfl
  obtain ⟨g_least_sums, d_least_sums, F_least_sums⟩ := c.def_ X G 19 "least_sums" s_least_sums rfl
  have b_least_sums := F_least_sums.binds (ps := ["q", "d", "k"]) fun _ _ _ _ _ _ us hl => match us, hl with | [_, _, _], _ => rfl
  obtain ⟨g_greatest_members, d_greatest_members, F_greatest_members⟩ := c.def_ X G 20 "greatest_members" s_greatest_members rfl
  have b_greatest_members := F_greatest_members.binds (ps := ["q", "d", "k"]) fun _ _ _ _ _ _ us hl => match us, hl with | [_, _, _], _ => rfl
  obtain ⟨g_members_exponent, d_members_exponent, F_members_exponent⟩ := c.def_ X G 21 "members_exponent" s_members_exponent rfl
  have b_members_exponent := F_members_exponent.binds (ps := ["members"]) fun _ _ _ _ _ _ us hl => match us, hl with | [_], _ => rfl
  obtain ⟨g_check_sum, d_check_sum, F_check_sum⟩ := c.def_ X G 22 "check_sum" s_check_sum rfl
  have b_check_sum := F_check_sum.binds (ps := ["q", "d", "k"]) fun _ _ _ _ _ _ us hl => match us, hl with | [_, _, _], _ => rfl
  obtain ⟨g_does_fit, d_does_fit, F_does_fit⟩ := c.def_ X G 23 "does_fit" s_does_fit rfl
  have b_does_fit := F_does_fit.binds (ps := ["q", "need", "room", "spare"]) fun _ _ _ _ _ _ us hl => match us, hl with | [_, _, _, _], _ => rfl
  obtain ⟨g_does_go_on, d_does_go_on, F_does_go_on⟩ := c.def_ X G 24 "does_go_on" s_does_go_on rfl
  have b_does_go_on := F_does_go_on.binds (ps := ["q", "head", "room", "spare"]) fun _ _ _ _ _ _ us hl => match us, hl with | [_, _, _, _], _ => rfl
  obtain ⟨g_longer_heads, d_longer_heads, F_longer_heads⟩ := c.def_ X G 25 "longer_heads" s_longer_heads rfl
  have b_longer_heads := F_longer_heads.binds (ps := ["q", "heads", "at", "digit", "room"]) fun _ _ _ _ _ _ us hl => match us, hl with | [_, _, _, _, _], _ => rfl
  obtain ⟨g_first_members, d_first_members, F_first_members⟩ := c.def_ X G 26 "first_members" s_first_members rfl
  have b_first_members := F_first_members.binds (ps := ["q", "k", "after", "most"]) fun _ _ _ _ _ _ us hl => match us, hl with | [_, _, _, _], _ => rfl
  obtain ⟨g_with_next_members, d_with_next_members, F_with_next_members⟩ := c.def_ X G 27 "with_next_members" s_with_next_members rfl
  have b_with_next_members := F_with_next_members.binds (ps := ["q", "begun", "after", "most"]) fun _ _ _ _ _ _ us hl => match us, hl with | [_, _, _, _], _ => rfl
  obtain ⟨g_listed_partings, d_listed_partings, F_listed_partings⟩ := c.def_ X G 28 "listed_partings" s_listed_partings rfl
  have b_listed_partings := F_listed_partings.binds (ps := ["q", "d", "k", "most"]) fun _ _ _ _ _ _ us hl => match us, hl with | [_, _, _, _], _ => rfl
  obtain ⟨g_parting, d_parting, F_parting⟩ := c.def_ X G 29 "parting" s_parting rfl
  have b_parting := F_parting.binds (ps := ["q", "d", "k"]) fun _ _ _ _ _ _ us hl => match us, hl with | [_, _, _], _ => rfl
  obtain ⟨g_found_parting, d_found_parting, F_found_parting⟩ := c.def_ X G 30 "found_parting" s_found_parting rfl
  have b_found_parting := F_found_parting.binds (ps := ["q", "d", "k"]) fun _ _ _ _ _ _ us hl => match us, hl with | [_, _, _], _ => rfl
  obtain ⟨g_is_parting, d_is_parting, F_is_parting⟩ := c.def_ X G 31 "is_parting" s_is_parting rfl
  have b_is_parting := F_is_parting.binds (ps := ["q", "d", "k", "value"]) fun _ _ _ _ _ _ us hl => match us, hl with | [_, _, _, _], _ => rfl
  obtain ⟨g_check_parting, d_check_parting, F_check_parting⟩ := c.def_ X G 32 "check_parting" s_check_parting rfl
  have b_check_parting := F_check_parting.binds (ps := ["q", "d", "k", "value"]) fun _ _ _ _ _ _ us hl => match us, hl with | [_, _, _, _], _ => rfl
  obtain ⟨g_is_bar, d_is_bar, F_is_bar⟩ := c.def_ X G 33 "is_bar" s_is_bar rfl
  have b_is_bar := F_is_bar.binds (ps := ["q", "d", "k", "j"]) fun _ _ _ _ _ _ us hl => match us, hl with | [_, _, _, _], _ => rfl
  obtain ⟨g_digit_bar, d_digit_bar, F_digit_bar⟩ := c.def_ X G 34 "digit_bar" s_digit_bar rfl
  have b_digit_bar := F_digit_bar.binds (ps := ["q", "d", "k"]) fun _ _ _ _ _ _ us hl => match us, hl with | [_, _, _], _ => rfl
  obtain ⟨g_is_digit_bar, d_is_digit_bar, F_is_digit_bar⟩ := c.def_ X G 35 "is_digit_bar" s_is_digit_bar rfl
  have b_is_digit_bar := F_is_digit_bar.binds (ps := ["q", "d", "k", "value"]) fun _ _ _ _ _ _ us hl => match us, hl with | [_, _, _, _], _ => rfl
  obtain ⟨g_is_zero_sum, d_is_zero_sum, F_is_zero_sum⟩ := c.def_ X G 36 "is_zero_sum" s_is_zero_sum rfl
  have b_is_zero_sum := F_is_zero_sum.binds (ps := ["q", "d", "k"]) fun _ _ _ _ _ _ us hl => match us, hl with | [_, _, _], _ => rfl
  obtain ⟨g_greatest_parting, d_greatest_parting, F_greatest_parting⟩ := c.def_ X G 37 "greatest_parting" s_greatest_parting rfl
  have b_greatest_parting := F_greatest_parting.binds (ps := ["q", "d", "k"]) fun _ _ _ _ _ _ us hl => match us, hl with | [_, _, _], _ => rfl
  obtain ⟨g_found_partings, d_found_partings, F_found_partings⟩ := c.def_ X G 38 "found_partings" s_found_partings rfl
  have b_found_partings := F_found_partings.binds (ps := ["q", "d", "k"]) fun _ _ _ _ _ _ us hl => match us, hl with | [_, _, _], _ => rfl
  obtain ⟨g_all_partings, d_all_partings, F_all_partings⟩ := c.def_ X G 39 "all_partings" s_all_partings rfl
  have b_all_partings := F_all_partings.binds (ps := ["q", "d", "k"]) fun _ _ _ _ _ _ us hl => match us, hl with | [_, _, _], _ => rfl
  obtain ⟨g_signed, d_signed, F_signed⟩ := c.def_ X G 40 "signed" s_signed rfl
  have b_signed := F_signed.binds (ps := ["q", "d", "number"]) fun _ _ _ _ _ _ us hl => match us, hl with | [_, _, _], _ => rfl
  obtain ⟨g_sum_by_partings, d_sum_by_partings, F_sum_by_partings⟩ := c.def_ X G 41 "sum_by_partings" s_sum_by_partings rfl
  have b_sum_by_partings := F_sum_by_partings.binds (ps := ["q", "d", "k"]) fun _ _ _ _ _ _ us hl => match us, hl with | [_, _, _], _ => rfl
  obtain ⟨g_parting_exponent, d_parting_exponent, F_parting_exponent⟩ := c.def_ X G 42 "parting_exponent" s_parting_exponent rfl
  have b_parting_exponent := F_parting_exponent.binds (ps := ["q", "d", "k", "value"]) fun _ _ _ _ _ _ us hl => match us, hl with | [_, _, _, _], _ => rfl
  obtain ⟨g_parting_number, d_parting_number, F_parting_number⟩ := c.def_ X G 43 "parting_number" s_parting_number rfl
  have b_parting_number := F_parting_number.binds (ps := ["q", "d", "k", "value"]) fun _ _ _ _ _ _ us hl => match us, hl with | [_, _, _, _], _ => rfl
  obtain ⟨g__law_dice, d__law_dice, F__law_dice⟩ := c.def_ X G 44 "_law_dice" s__law_dice rfl
  have b__law_dice := F__law_dice.binds (ps := ["_law_script", "_law_at"]) fun _ _ _ _ _ _ us hl => match us, hl with | [_, _], _ => rfl
  obtain ⟨g__law_roll, d__law_roll, F__law_roll⟩ := c.def_ X G 45 "_law_roll" s__law_roll rfl
  have b__law_roll := F__law_roll.binds (ps := ["_law_dice_here", "_law_total"]) fun _ _ _ _ _ _ us hl => match us, hl with | [_, _], _ => rfl
  obtain ⟨g__law_one_of, d__law_one_of, F__law_one_of⟩ := c.def_ X G 46 "_law_one_of" s__law_one_of rfl
  have b__law_one_of := F__law_one_of.binds (ps := ["_law_dice_here", "_law_items"]) fun _ _ _ _ _ _ us hl => match us, hl with | [_, _], _ => rfl
  obtain ⟨g__law_raised, d__law_raised, F__law_raised⟩ := c.def_ X G 47 "_law_raised" s__law_raised rfl
  have b__law_raised := F__law_raised.binds (ps := ["_law_base", "_law_count"]) fun _ _ _ _ _ _ us hl => match us, hl with | [_, _], _ => rfl
  obtain ⟨g__law_q, d__law_q, F__law_q⟩ := c.def_ X G 48 "_law_q" s__law_q rfl
  have b__law_q := F__law_q.binds (ps := ["_law_dice_here"]) fun _ _ _ _ _ _ us hl => match us, hl with | [_], _ => rfl
  obtain ⟨g__law_met, d__law_met, F__law_met⟩ := c.def_ X G 49 "_law_met" s__law_met rfl
  have b__law_met := F__law_met.binds (ps := ["_law_call"]) fun _ _ _ _ _ _ us hl => match us, hl with | [_], _ => rfl
  obtain ⟨g__law_words, d__law_words, F__law_words⟩ := c.def_ X G 50 "_law_words" s__law_words rfl
  have b__law_words := F__law_words.binds (ps := ["_law_q_here", "_law_d", "_law_k"]) fun _ _ _ _ _ _ us hl => match us, hl with | [_, _, _], _ => rfl
  obtain ⟨g__law_right, d__law_right, F__law_right⟩ := c.def_ X G 51 "_law_right" s__law_right rfl
  have b__law_right := F__law_right.binds (ps := ["_law_dice_here"]) fun _ _ _ _ _ _ us hl => match us, hl with | [_], _ => rfl
  obtain ⟨g__law_many_right, d__law_many_right, F__law_many_right⟩ := c.def_ X G 52 "_law_many_right" s__law_many_right rfl
  have b__law_many_right := F__law_many_right.binds (ps := []) fun _ _ _ _ _ _ us hl => match us, hl with | [], _ => rfl
  obtain ⟨g_law, d_law, F_law⟩ := c.def_ X G 53 "law" s_law rfl
  have b_law := F_law.binds (ps := ["_law_script"]) fun _ _ _ _ _ _ us hl => match us, hl with | [_], _ => rfl
  have e := hfa.symm.trans g_law
  cases e
  obtain ⟨t_TOO_LONG, q_TOO_LONG⟩ := c.int_ X G 0 "TOO_LONG" 1000000000000000000000000000000000000000000000000000000000000 rfl
  obtain ⟨t_MAX_LISTED, q_MAX_LISTED⟩ := c.int_ X G 1 "MAX_LISTED" 2000 rfl
  obtain ⟨t_MOST_AHEAD, q_MOST_AHEAD⟩ := c.int_ X G 2 "MOST_AHEAD" 12 rfl
  have w_PRIMES := Hd.see_t0 (c.tab_ 0 "PRIMES" (.t0 W_PRIMES) rfl)
  have w_POWERS := Hd.see_t0 (c.tab_ 1 "POWERS" (.t0 W_POWERS) rfl)
  have w_FIELDS := Hd.see_r (c.tab_ 2 "FIELDS" (.r W_FIELDS) rfl)
  have w_WEIGHTS := Hd.see_t2 (c.tab_ 3 "WEIGHTS" (.t2 W_WEIGHTS) rfl)
  have w_NEEDS := Hd.see_t3 (c.tab_ 4 "NEEDS" (.t3 W_NEEDS) rfl)
  obtain ⟨ge_InvalidField, re_InvalidField⟩ := cx.x.err_ X G 5 0 "InvalidField" rfl rfl
  obtain ⟨ge_InvalidParting, re_InvalidParting⟩ := cx.x.err_ X G 6 1 "InvalidParting" rfl rfl
  obtain ⟨ge_InvalidNumber, fI_InvalidNumber, cd_InvalidNumber, cc_InvalidNumber, re_InvalidNumber⟩ := cx.sup_ X G 7 0 "InvalidNumber" (dSup 0) rfl rfl rfl
  obtain ⟨ge_TooMany, fI_TooMany, cd_TooMany, cc_TooMany, re_TooMany⟩ := cx.sup_ X G 8 1 "TooMany" (dSup 1) rfl rfl rfl
  have x_InvalidField_InvalidField := cx.exm_ 5 5 0 "InvalidField" "InvalidField" true rfl rfl rfl
  have x_InvalidField_InvalidParting := cx.exm_ 5 6 1 "InvalidField" "InvalidParting" false rfl rfl rfl
  have x_InvalidField_InvalidNumber := cx.exm_ 5 7 2 "InvalidField" "InvalidNumber" false rfl rfl rfl
  have x_InvalidField_TooMany := cx.exm_ 5 8 3 "InvalidField" "TooMany" false rfl rfl rfl
  have x_InvalidParting_InvalidField := cx.exm_ 6 5 4 "InvalidParting" "InvalidField" false rfl rfl rfl
  have x_InvalidParting_InvalidParting := cx.exm_ 6 6 5 "InvalidParting" "InvalidParting" true rfl rfl rfl
  have x_InvalidParting_InvalidNumber := cx.exm_ 6 7 6 "InvalidParting" "InvalidNumber" false rfl rfl rfl
  have x_InvalidParting_TooMany := cx.exm_ 6 8 7 "InvalidParting" "TooMany" false rfl rfl rfl
  have x_InvalidNumber_InvalidField := cx.exm_ 7 5 8 "InvalidNumber" "InvalidField" false rfl rfl rfl
  have x_InvalidNumber_InvalidParting := cx.exm_ 7 6 9 "InvalidNumber" "InvalidParting" false rfl rfl rfl
  have x_InvalidNumber_InvalidNumber := cx.exm_ 7 7 10 "InvalidNumber" "InvalidNumber" true rfl rfl rfl
  have x_InvalidNumber_TooMany := cx.exm_ 7 8 11 "InvalidNumber" "TooMany" false rfl rfl rfl
  have x_TooMany_InvalidField := cx.exm_ 8 5 12 "TooMany" "InvalidField" false rfl rfl rfl
  have x_TooMany_InvalidParting := cx.exm_ 8 6 13 "TooMany" "InvalidParting" false rfl rfl rfl
  have x_TooMany_InvalidNumber := cx.exm_ 8 7 14 "TooMany" "InvalidNumber" false rfl rfl rfl
  have x_TooMany_TooMany := cx.exm_ 8 8 15 "TooMany" "TooMany" true rfl rfl rfl
  obtain ⟨Lr1, hTab1, nK1, hCd1⟩ := cx.x.lam_ X 50 0 "_law_words" s__law_words rfl rfl F__law_words
  obtain ⟨Lr2, hTab2, nK2, hCd2⟩ := cx.x.lam_ X 51 1 "_law_right" s__law_right rfl rfl F__law_right
  obtain ⟨Lr3, hTab3, nK3, hCd3⟩ := cx.x.lam_ X 52 2 "_law_many_right" s__law_many_right rfl rfl F__law_many_right
  have nod : List.Nodup [Hx.tbAt K "_law_words", Hx.tbAt K "_law_right", Hx.tbAt K "_law_many_right"] := cx.nod
  have nd1 := List.nodup_cons.mp nod
  have nd2 := List.nodup_cons.mp nd1.2
  have n12 : ¬ Hx.tbAt K "_law_words" = Hx.tbAt K "_law_right" := fun z => nd1.1 (z ▸ .head _)
  have n13 : ¬ Hx.tbAt K "_law_words" = Hx.tbAt K "_law_many_right" := fun z => nd1.1 (z ▸ .tail _ (.head _))
  have n23 : ¬ Hx.tbAt K "_law_right" = Hx.tbAt K "_law_many_right" := fun z => nd2.1 (z ▸ .head _)
  refine ⟨_, [(Hx.cdAt K "_law_words", Hx.tbAt K "_law_words"), (Hx.cdAt K "_law_right", Hx.tbAt K "_law_right"), (Hx.cdAt K "_law_many_right", Hx.tbAt K "_law_many_right")], sp_law K [(Hx.tbAt K "_law_words", (("_law_words" : Str) ++ (".<locals>." : Str) ++ ("<lambda>" : Str))), (Hx.tbAt K "_law_right", (("_law_right" : Str) ++ (".<locals>." : Str) ++ ("<lambda>" : Str))), (Hx.tbAt K "_law_many_right", (("_law_many_right" : Str) ++ (".<locals>." : Str) ++ ("<lambda>" : Str)))], ?_, Hd.bindsTo_of F_law fun _ _ _ _ _ _ _ _ => .of_eq rfl, ?_, ?_⟩
  · intro p hp
    rcases List.mem_cons.mp hp with rfl | hp
    · exact ⟨hTab1, nK1, hCd1⟩
    rcases List.mem_cons.mp hp with rfl | hp
    · exact ⟨hTab2, nK2, hCd2⟩
    rcases List.mem_cons.mp hp with rfl | hp
    · exact ⟨hTab3, nK3, hCd3⟩
    cases hp
  · intro H a ns hl _ hT hS
    refine ⟨a, ns, rfl, hS, hl, fun p hp => ?_, fun _ => rfl⟩
    rcases List.mem_cons.mp hp with rfl | hp
    · exact LamX.TabS.nil (hT (Hx.cdAt K "_law_words", _) (.head _))
    rcases List.mem_cons.mp hp with rfl | hp
    · exact LamX.TabS.nil (hT (Hx.cdAt K "_law_right", _) (.tail _ (.head _)))
    rcases List.mem_cons.mp hp with rfl | hp
    · exact LamX.TabS.nil (hT (Hx.cdAt K "_law_many_right", _) (.tail _ (.tail _ (.head _))))
    cases hp
  · intro base _ _ hTB
    have t1 := hTB (Hx.cdAt K "_law_words", Hx.tbAt K "_law_words") (.head _)
    have t2 := hTB (Hx.cdAt K "_law_right", Hx.tbAt K "_law_right") (.tail _ (.head _))
    have t3 := hTB (Hx.cdAt K "_law_many_right", Hx.tbAt K "_law_many_right") (.tail _ (.tail _ (.head _)))
    refine okG_law { F_digit_row := F_digit_row, g_digit_row := g_digit_row, b_digit_row := b_digit_row, F_digit_total := F_digit_total, g_digit_total := g_digit_total, b_digit_total := b_digit_total, F_are_carry_free := F_are_carry_free, g_are_carry_free := g_are_carry_free, b_are_carry_free := b_are_carry_free, F_shift_sum_list := F_shift_sum_list, g_shift_sum_list := g_shift_sum_list, b_shift_sum_list := b_shift_sum_list, F_parts_bound := F_parts_bound, g_parts_bound := g_parts_bound, b_parts_bound := b_parts_bound, F_is_integer := F_is_integer, g_is_integer := g_is_integer, b_is_integer := b_is_integer, F_is_from := F_is_from, g_is_from := g_is_from, b_is_from := b_is_from, F_is_between := F_is_between, g_is_between := g_is_between, b_is_between := b_is_between, F_check_from := F_check_from, g_check_from := g_check_from, b_check_from := b_check_from, F_check_between := F_check_between, g_check_between := g_check_between, b_check_between := b_check_between, F_check_d := F_check_d, g_check_d := g_check_d, b_check_d := b_check_d, F_whole_power := F_whole_power, g_whole_power := g_whole_power, b_whole_power := b_whole_power, F_is_field := F_is_field, g_is_field := g_is_field, b_is_field := b_is_field, F_check_field := F_check_field, g_check_field := g_check_field, b_check_field := b_check_field, F_lots_rest := F_lots_rest, g_lots_rest := g_lots_rest, b_lots_rest := b_lots_rest, F_spare_sums := F_spare_sums, g_spare_sums := g_spare_sums, b_spare_sums := b_spare_sums, F_less_digit := F_less_digit, g_less_digit := g_less_digit, b_less_digit := b_less_digit, F_high_digits := F_high_digits, g_high_digits := g_high_digits, b_high_digits := b_high_digits, F_lowered := F_lowered, g_lowered := g_lowered, b_lowered := b_lowered, F_least_sums := F_least_sums, g_least_sums := g_least_sums, b_least_sums := b_least_sums, F_greatest_members := F_greatest_members, g_greatest_members := g_greatest_members, b_greatest_members := b_greatest_members, F_members_exponent := F_members_exponent, g_members_exponent := g_members_exponent, b_members_exponent := b_members_exponent, F_check_sum := F_check_sum, g_check_sum := g_check_sum, b_check_sum := b_check_sum, F_does_fit := F_does_fit, g_does_fit := g_does_fit, b_does_fit := b_does_fit, F_does_go_on := F_does_go_on, g_does_go_on := g_does_go_on, b_does_go_on := b_does_go_on, F_longer_heads := F_longer_heads, g_longer_heads := g_longer_heads, b_longer_heads := b_longer_heads, F_first_members := F_first_members, g_first_members := g_first_members, b_first_members := b_first_members, F_with_next_members := F_with_next_members, g_with_next_members := g_with_next_members, b_with_next_members := b_with_next_members, F_listed_partings := F_listed_partings, g_listed_partings := g_listed_partings, b_listed_partings := b_listed_partings, F_parting := F_parting, g_parting := g_parting, b_parting := b_parting, F_found_parting := F_found_parting, g_found_parting := g_found_parting, b_found_parting := b_found_parting, F_is_parting := F_is_parting, g_is_parting := g_is_parting, b_is_parting := b_is_parting, F_check_parting := F_check_parting, g_check_parting := g_check_parting, b_check_parting := b_check_parting, F_is_bar := F_is_bar, g_is_bar := g_is_bar, b_is_bar := b_is_bar, F_digit_bar := F_digit_bar, g_digit_bar := g_digit_bar, b_digit_bar := b_digit_bar, F_is_digit_bar := F_is_digit_bar, g_is_digit_bar := g_is_digit_bar, b_is_digit_bar := b_is_digit_bar, F_is_zero_sum := F_is_zero_sum, g_is_zero_sum := g_is_zero_sum, b_is_zero_sum := b_is_zero_sum, F_greatest_parting := F_greatest_parting, g_greatest_parting := g_greatest_parting, b_greatest_parting := b_greatest_parting, F_found_partings := F_found_partings, g_found_partings := g_found_partings, b_found_partings := b_found_partings, F_all_partings := F_all_partings, g_all_partings := g_all_partings, b_all_partings := b_all_partings, F_signed := F_signed, g_signed := g_signed, b_signed := b_signed, F_sum_by_partings := F_sum_by_partings, g_sum_by_partings := g_sum_by_partings, b_sum_by_partings := b_sum_by_partings, F_parting_exponent := F_parting_exponent, g_parting_exponent := g_parting_exponent, b_parting_exponent := b_parting_exponent, F_parting_number := F_parting_number, g_parting_number := g_parting_number, b_parting_number := b_parting_number, F__law_dice := F__law_dice, g__law_dice := g__law_dice, b__law_dice := b__law_dice, F__law_roll := F__law_roll, g__law_roll := g__law_roll, b__law_roll := b__law_roll, F__law_one_of := F__law_one_of, g__law_one_of := g__law_one_of, b__law_one_of := b__law_one_of, F__law_raised := F__law_raised, g__law_raised := g__law_raised, b__law_raised := b__law_raised, F__law_q := F__law_q, g__law_q := g__law_q, b__law_q := b__law_q, F__law_met := F__law_met, g__law_met := g__law_met, b__law_met := b__law_met, F__law_words := F__law_words, g__law_words := g__law_words, b__law_words := b__law_words, F__law_right := F__law_right, g__law_right := g__law_right, b__law_right := b__law_right, F__law_many_right := F__law_many_right, g__law_many_right := g__law_many_right, b__law_many_right := b__law_many_right, F_law := F_law, g_law := g_law, b_law := b_law, m_comb := c.blt_ X G 0 "comb" "math.comb" rfl, z_sum := c.free_ X G 0 "sum" rfl, z_range := c.free_ X G 1 "range" rfl, z_min := c.free_ X G 2 "min" rfl, z_isinstance := c.free_ X G 3 "isinstance" rfl, z_int := c.free_ X G 4 "int" rfl, z_bool := c.free_ X G 5 "bool" rfl, z_enumerate := c.free_ X G 6 "enumerate" rfl, z_len := c.free_ X G 7 "len" rfl, z_zip := c.free_ X G 8 "zip" rfl, z_tuple := c.free_ X G 9 "tuple" rfl, z_any := c.free_ X G 10 "any" rfl, z_all := c.free_ X G 11 "all" rfl, z_sorted := c.free_ X G 12 "sorted" rfl, z_abs := c.free_ X G 13 "abs" rfl, z_repr := c.free_ X G 14 "repr" rfl, z_max := c.free_ X G 15 "max" rfl, z_super := c.free_ X G 16 "super" rfl, g_PRIMES := c.glo_ X G 0 "PRIMES" rfl, w_PRIMES := w_PRIMES, g_POWERS := c.glo_ X G 1 "POWERS" rfl, w_POWERS := w_POWERS, g_FIELDS := c.glo_ X G 2 "FIELDS" rfl, w_FIELDS := w_FIELDS, g_WEIGHTS := c.glo_ X G 3 "WEIGHTS" rfl, w_WEIGHTS := w_WEIGHTS, g_NEEDS := c.glo_ X G 4 "NEEDS" rfl, w_NEEDS := w_NEEDS, c_TOO_LONG := q_TOO_LONG, c_MAX_LISTED := q_MAX_LISTED, c_MOST_AHEAD := q_MOST_AHEAD, g_InvalidField := ge_InvalidField, g_InvalidParting := ge_InvalidParting, g_InvalidNumber := ge_InvalidNumber, g_TooMany := ge_TooMany, r_InvalidField := re_InvalidField, r_InvalidParting := re_InvalidParting, u_InvalidNumber := re_InvalidNumber, u_TooMany := re_TooMany, x_InvalidField_InvalidField := x_InvalidField_InvalidField, x_InvalidField_InvalidParting := x_InvalidField_InvalidParting, x_InvalidField_InvalidNumber := x_InvalidField_InvalidNumber, x_InvalidField_TooMany := x_InvalidField_TooMany, x_InvalidParting_InvalidField := x_InvalidParting_InvalidField, x_InvalidParting_InvalidParting := x_InvalidParting_InvalidParting, x_InvalidParting_InvalidNumber := x_InvalidParting_InvalidNumber, x_InvalidParting_TooMany := x_InvalidParting_TooMany, x_InvalidNumber_InvalidField := x_InvalidNumber_InvalidField, x_InvalidNumber_InvalidParting := x_InvalidNumber_InvalidParting, x_InvalidNumber_InvalidNumber := x_InvalidNumber_InvalidNumber, x_InvalidNumber_TooMany := x_InvalidNumber_TooMany, x_TooMany_InvalidField := x_TooMany_InvalidField, x_TooMany_InvalidParting := x_TooMany_InvalidParting, x_TooMany_InvalidNumber := x_TooMany_InvalidNumber, x_TooMany_TooMany := x_TooMany_TooMany, L__law_words := Lr1, L__law_right := Lr2, L__law_many_right := Lr3 } pf t1 (.head _) (fun p hp hq => ?_) t2 (.tail _ (.head _)) (fun p hp hq => ?_) t3 (.tail _ (.tail _ (.head _))) (fun p hp hq => ?_)
    · rcases List.mem_cons.mp hp with rfl | hp
      · rfl
      rcases List.mem_cons.mp hp with rfl | hp
      · exact absurd hq.symm n12
      rcases List.mem_cons.mp hp with rfl | hp
      · exact absurd hq.symm n13
      cases hp
    · rcases List.mem_cons.mp hp with rfl | hp
      · exact absurd hq n12
      rcases List.mem_cons.mp hp with rfl | hp
      · rfl
      rcases List.mem_cons.mp hp with rfl | hp
      · exact absurd hq.symm n23
      cases hp
    · rcases List.mem_cons.mp hp with rfl | hp
      · exact absurd hq n13
      rcases List.mem_cons.mp hp with rfl | hp
      · exact absurd hq n23
      rcases List.mem_cons.mp hp with rfl | hp
      · rfl
      cases hp
end Own
open PySem PySem.W PySem.Calls PyProof.Rows
set_option maxHeartbeats 0 in
theorem PySem.Challenge.cw_monicsums_k23_errors_of_partings_holds : PySem.Challenge.rw_monicsums_k23_errors_of_partings.Holds := by
  w_on; o_law
  refine HandSHeadRun.head_imp (r := OpenLaw.row PySem.Challenge.rw_monicsums_k23_errors_of_partings) (q := Own.hQ) (H := Own.hAS.hook) (ob := Own.hOb) (M := Own.hSteps) (loose := Own.hNames) (d := HandSHeadRun.topDef (OpenLaw.row PySem.Challenge.rw_monicsums_k23_errors_of_partings).prog 77) (kwd := []) Own.hOb_eq Own.hRun
    (by kernel_rfl) (by kernel_rfl) (by kernel_rfl) (by rfl) (by first | assumption | decide +kernel) (by decide +kernel) ⟨rfl, rfl, rfl, rfl, rfl, by decide +kernel⟩ ?hw ?hc
  case hw => w_witness2
  case hc =>
    refine Gd.walk_ofG (l := PySem.Challenge.rw_monicsums_k23_errors_of_partings) (n := 63) (k := 14) (x := "_law_script") (CX := fun _ => L2.CX0) rfl (by decide) (by kernel_rfl) ⟨rfl, by decide, by decide⟩ ?F (fun _ _ _ _ _ z => z)
    intro w mg fa h Y G hmg0
    obtain ⟨K1, K, KX, c⟩ := Y
    have hmg : mg ("law" : PySem.Str) = some (.ref fa) := by
      have e : (HandSHeadRun.topDef (OpenLaw.row PySem.Challenge.rw_monicsums_k23_errors_of_partings).prog 77).name = ("law" : PySem.Str) := by kernel_rfl
      rw [← e]
      exact hmg0
    exact ⟨K, KX, Own.hFacts ⟨by kernel_rfl, by kernel_rfl⟩ KX G hmg c⟩
#print axioms PySem.Challenge.cw_monicsums_k23_errors_of_partings_holds
