import PyProof.Rows.All
import Wide.All
import OpenK.AllK
import Wide.FinOn
import HandS.Words
import KE.KStateDown
import HandS.Head3
import HandS.HeadEnd
import HandS.HeadHook1
import HandS.ForMost
import HandS.Wide
import HandS.TupMul
import HandS.TupAny
import HandS.Style
import HandS.Evl
import HandS.IsInst
import HandS.Conv
import HandS.SortInts
import HandS.Zip
import HandS.Walk
import HandS.SortKw
import HandS.DictComp
import HandS.Gcd
import HandS.TupLe
import HandS.SortRule
import HandS.SetFor
import PyProof.EnumMake
import HandS.More
import HandS.WordsDict
import PySem.Challenge.RW_monicsums_k62_whole_exponential_and_loga
set_option Elab.async false
set_option linter.all false
set_option maxRecDepth 100000
set_option maxHeartbeats 4000000
set_option autoImplicit true
/-! written tables with integer keys: how they are read off a written part -/
namespace Own
open PySem PySem.Spec PyProof.Rows L2
abbrev Fr_ := PySem.W.Frag
def asInt : Value → Option Int
  | .int i _ => some i
  | _ => none
def asInts : List Value → Option (List Int)
  | [] => some []
  | v :: r => match asInt v, asInts r with
    | some i, some is => some (i :: is)
    | _, _ => none
/-- the items of a written tuple -/
def asTup (K : Fr_) : Value → Option (List Value)
  | .ref a => match K.lookup a with
    | some ⟨.type T, _, .seq its _, _⟩ => if T = "tuple" ∧ its.size ≤ 1000 then some its.toList else none
    | _ => none
  | _ => none
def asRow (K : Fr_) (v : Value) : Option (List Int) := match asTup K v with
  | some l => asInts l
  | none => none
def asRowsL (K : Fr_) : List Value → Option (List (List Int))
  | [] => some []
  | v :: r => match asRow K v, asRowsL K r with
    | some i, some is => some (i :: is)
    | _, _ => none
def asRows (K : Fr_) (v : Value) : Option (List (List Int)) := match asTup K v with
  | some l => asRowsL K l
  | none => none
/-- the entries of a written dict with integer keys -/
def entriesI : List DictEntry → Option (List (Int × Value))
  | [] => some []
  | e :: r => match asInt e.key, entriesI r with
    | some i, some is => if e.hash = hashInt i then some ((i, e.val) :: is) else none
    | _, _ => none
def tabOf (K : Fr_) (d : Addr) : Option (List (Int × Value)) := match K.lookup d with
  | some ⟨.type T, none, .dict es _, sl⟩ => if T = "dict" ∧ sl = #[] then entriesI es.toList else none
  | _ => none
def mapV2 {α β : Type} (f : α → Option β) : List (Int × α) → Option (List (Int × β))
  | [] => some []
  | (i, v) :: r => match f v, mapV2 f r with
    | some w, some is => some ((i, w) :: is)
    | _, _ => none
def tab0 (K : Fr_) (d : Addr) : Option (List (Int × Int)) := (tabOf K d).bind (mapV2 asInt)
def tab1 (K : Fr_) (d : Addr) : Option (List (Int × List Int)) := (tabOf K d).bind (mapV2 (asRow K))
def tab2 (K : Fr_) (d : Addr) : Option (List (Int × List (List Int))) := (tabOf K d).bind (mapV2 (asRows K))
def asRows3L (K : Fr_) : List Value → Option (List (List (List Int)))
  | [] => some []
  | v :: r => match asRows K v, asRows3L K r with
    | some i, some is => some (i :: is)
    | _, _ => none
def asRows3 (K : Fr_) (v : Value) : Option (List (List (List Int))) := match asTup K v with
  | some l => asRows3L K l
  | none => none
def tab3 (K : Fr_) (d : Addr) : Option (List (Int × List (List (List Int)))) := (tabOf K d).bind (mapV2 (asRows3 K))
end Own
/-! the head by runs of the kernel for each answer of the world, the facts of the text read off the heap behind it -/
namespace Hd
open PySem PySem.Spec PyProof.Rows L2 He
def grow (g : Addr → Option Obj) (as : List Addr) : List Addr := as.flatMap fun a => match g a with
  | some o => refsO o
  | none => []
def lev (g : Addr → Option Obj) : Nat → List Addr → List Addr
  | 0, as => as
  | n + 1, as => as ++ lev g n (grow g as)
def kOf (n : Nat) (g : Addr → Option Obj) : PySem.W.Frag := frG g (lev g n [mainGlobals])
/-- a def of the text -/
abbrev dF (n : Str) (st : Stmt) : FnD := ⟨(n, none), n, n, defArgs st, defBody st, defScope st⟩
def defB (K : PySem.W.Frag) (d : FnD) : Bool := match PySem.W.nsIn K mainGlobals d.name with
  | some (some (.ref a)) => (match K.lookup a with
    | some ⟨_, _, .func fd, _⟩ => PySem.W.codeIn K fd.code d.qual
    | _ => false)
  | _ => false
def gloB (K : PySem.W.Frag) (x : Str) : Bool := match PySem.W.nsIn K mainGlobals x with
  | some (some (.ref _)) => true
  | _ => false
def freeB (K : PySem.W.Frag) (x : Str) : Bool := match PySem.W.nsIn K mainGlobals x with
  | some none => true
  | _ => false
def intB (K : PySem.W.Frag) (x : Str × Int) : Bool := match PySem.W.nsIn K mainGlobals x.1 with
  | some (some (.int j _)) => decide (j = x.2)
  | _ => false
def bltB (K : PySem.W.Frag) (x : Str × String) : Bool := match PySem.W.nsIn K mainGlobals x.1 with
  | some (some (.builtin j)) => decide (j = x.2)
  | _ => false
section
variable {K : PySem.W.Frag} {h : Heap} {mg : Str → Option Value}
theorem gloB_ok (X : K.In h) (G : h.Ns mainGlobals mg) {x : Str} (c : gloB K x = true) : mg x = some (.ref (ga K x)) := by
  unfold gloB at c
  split at c
  · rename_i a e
    have e2 : ga K x = a := by
      unfold ga
      rw [e]
    rw [e2]
    exact PySem.W.mg_of X G e
  · cases c
theorem freeB_ok (X : K.In h) (G : h.Ns mainGlobals mg) {x : Str} (c : freeB K x = true) : mg x = none := by
  unfold freeB at c
  split at c
  · rename_i e
    exact PySem.W.mg_none_of X G e
  · cases c
theorem intB_ok (X : K.In h) (G : h.Ns mainGlobals mg) {x : Str × Int} (c : intB K x = true) : ∃ t, mg x.1 = some (.int x.2 t) := by
  unfold intB at c
  split at c
  · rename_i j t e
    have e2 : j = x.2 := of_decide_eq_true c
    rw [← e2]
    exact ⟨t, PySem.W.mg_of X G e⟩
  · cases c
theorem bltB_ok (X : K.In h) (G : h.Ns mainGlobals mg) {x : Str × String} (c : bltB K x = true) : mg x.1 = some (.builtin x.2) := by
  unfold bltB at c
  split at c
  · rename_i j e
    have e2 : j = x.2 := of_decide_eq_true c
    rw [← e2]
    exact PySem.W.mg_of X G e
  · cases c
theorem defB_ok {n : Str} {st : Stmt} (X : K.In h) (G : h.Ns mainGlobals mg) (c : defB K (dF n st) = true) (e : fnObs K (n, none) = (dF n st).val) : mg n = some (.ref (ga K n)) ∧ ∃ d, Fun K n n st (ga K n) d := by
  unfold defB at c
  split at c
  · rename_i a e1
    have e2 : ga K n = a := by
      unfold ga
      rw [e1]
    split at c
    · rename_i oc od fd osl e3
      refine ⟨?_, ?_⟩
      · rw [e2]
        exact PySem.W.mg_of X G e1
      · have ef : fAd K (n, none) = a := e2
        have c2 : (Fa.code (n, none) n).ok K = true := by
          show (match K.lookup (fAd K (n, none)) with
            | some ⟨_, _, .func fd, _⟩ => PySem.W.codeIn K fd.code n
            | _ => false) = true
          rw [ef, e3]
          exact c
        obtain ⟨oc2, od2, osl2, kV, doc, pm, an, cdv, ct, l, cc⟩ := fn_ok (d := dF n st) e c2
        refine ⟨_, fun_mk (st := st) l cc ?_⟩
        show PySem.W.keepIn K (.ref (fAd K (n, none))) = true
        rw [ef]
        show (match K.lookup a with
          | some ⟨_, _, .func _, _⟩ => true
          | some ⟨_, _, .cls _, _⟩ => PySem.W.specialIn K (.ref a) "__call__" == some (some (.builtin "type.__call__"))
          | _ => false) = true
        rw [e3]
    · cases c
  · cases c
end
/-! ### parts of a part -/
def Sub (K1 K : PySem.W.Frag) : Prop := ∀ a o, K1.lookup a = some o → K.lookup a = some o
theorem frG_mem {g : Addr → Option Obj} {a : Addr} : ∀ {as : List Addr}, a ∈ as → (frG g as).lookup a = g a
  | [], h => by cases h
  | b :: r, h => by
    unfold frG
    rw [List.filterMap_cons]
    by_cases e : a = b
    · subst e
      cases hb : g a with
      | none =>
        show (frG g r).lookup a = none
        cases q : (frG g r).lookup a with
        | none => rfl
        | some o =>
          have := frG_at r q
          rw [hb] at this
          cases this
      | some o =>
        show (match a == a with | true => some o | false => (frG g r).lookup a) = some o
        rw [show (a == a) = true from beq_iff_eq.mpr rfl]
    · have hr : a ∈ r := by
        rcases List.mem_cons.mp h with h | h
        · exact absurd h e
        · exact h
      have ih := frG_mem (g := g) hr
      cases hb : g b with
      | none => exact ih
      | some o =>
        show (match a == b with | true => some o | false => (frG g r).lookup a) = g a
        rw [show (a == b) = false from beq_eq_false_iff_ne.mpr e]
        exact ih
theorem lookup_mem {a : Addr} {o : Obj} : ∀ {K : PySem.W.Frag}, K.lookup a = some o → ∃ o2, (a, o2) ∈ K
  | [], h => by cases h
  | (b, o2) :: r, h => by
    have h2 : (match a == b with | true => some o2 | false => List.lookup a r) = some o := h
    cases e : (a == b) with
    | true =>
      have : a = b := beq_iff_eq.mp e
      subst this
      exact ⟨o2, List.mem_cons_self⟩
    | false =>
      rw [e] at h2
      obtain ⟨o3, h3⟩ := lookup_mem (K := r) h2
      exact ⟨o3, List.mem_cons_of_mem _ h3⟩
theorem frG_as {g : Addr → Option Obj} {a : Addr} {o : Obj} {as : List Addr} (h : (frG g as).lookup a = some o) : a ∈ as := by
  obtain ⟨o2, h2⟩ := lookup_mem h
  obtain ⟨b, hb, e⟩ := List.mem_filterMap.mp (show (a, o2) ∈ as.filterMap fun a => (g a).map fun o => (a, o) from h2)
  obtain ⟨o3, _, e3⟩ := Option.map_eq_some_iff.mp e
  cases e3
  exact hb
theorem sub_of {g : Addr → Option Obj} {as bs : List Addr} (h : ∀ a ∈ as, a ∈ bs) : Sub (frG g as) (frG g bs) := fun a o e => by
  rw [frG_mem (h a (frG_as e))]
  exact frG_at as e
theorem sub_in {K1 K : PySem.W.Frag} {h : Heap} (s : Sub K1 K) (X : K.In h) : K1.In h := fun a o e => X a o (s a o e)
theorem sub_code {K1 K : PySem.W.Frag} (s : Sub K1 K) {cd : Value} {q : Str} (h : PySem.W.codeIn K1 cd q = true) : PySem.W.codeIn K cd q = true := by
  cases cd with
  | ref c =>
    have h1 : (match K1.lookup c with
      | some ⟨_, _, .fields vs, _⟩ => (match vs.toList with | _ :: .str n _ :: _ => n == q | _ => false)
      | _ => false) = true := h
    cases e : K1.lookup c with
    | none =>
      rw [e] at h1
      cases h1
    | some o =>
      rw [e] at h1
      show (match K.lookup c with
        | some ⟨_, _, .fields vs, _⟩ => (match vs.toList with | _ :: .str n _ :: _ => n == q | _ => false)
        | _ => false) = true
      rw [s c o e]
      exact h1
  | _ => cases h
theorem sub_fun {K1 K : PySem.W.Frag} (s : Sub K1 K) {n : Str} {st : Stmt} {f : Addr} {d : FuncData} (F : Fun K1 n n st f d) : Fun K n n st f d := by
  obtain ⟨oc, od, kV, doc, pm, an, cdv, ct, osl, e, lk, hcd⟩ := F.ex
  refine ⟨⟨oc, od, kV, doc, pm, an, cdv, ct, osl, e, s _ _ lk, sub_code s hcd⟩, ?_⟩
  show (match K.lookup f with
    | some ⟨_, _, .func _, _⟩ => true
    | some ⟨_, _, .cls _, _⟩ => PySem.W.specialIn K (.ref f) "__call__" == some (some (.builtin "type.__call__"))
    | _ => false) = true
  rw [s _ _ lk]
/-! ### tables -/
open Own in
section
variable {K1 K : PySem.W.Frag}
theorem sub_tup (s : Sub K1 K) {v : Value} {l : List Value} (h : asTup K1 v = some l) : asTup K v = some l := by
  cases v with
  | ref a =>
    have h1 : (match K1.lookup a with
      | some ⟨.type T, _, .seq its _, _⟩ => if T = "tuple" ∧ its.size ≤ 1000 then some its.toList else none
      | _ => none) = some l := h
    cases e : K1.lookup a with
    | none =>
      rw [e] at h1
      cases h1
    | some o =>
      rw [e] at h1
      show (match K.lookup a with
        | some ⟨.type T, _, .seq its _, _⟩ => if T = "tuple" ∧ its.size ≤ 1000 then some its.toList else none
        | _ => none) = some l
      rw [s a o e]
      exact h1
  | _ => cases h
theorem sub_row (s : Sub K1 K) {v : Value} {l : List Int} (h : asRow K1 v = some l) : asRow K v = some l := by
  unfold asRow at h ⊢
  split at h
  · rename_i l2 e
    rw [sub_tup s e]
    exact h
  · cases h
theorem sub_rowsL (s : Sub K1 K) : ∀ {vs : List Value} {l : List (List Int)}, asRowsL K1 vs = some l → asRowsL K vs = some l
  | [], l, h => h
  | v :: vs, l, h => by
    unfold asRowsL at h ⊢
    split at h
    · rename_i i is e1 e2
      rw [sub_row s e1, sub_rowsL s e2]
      exact h
    · cases h
theorem sub_rows (s : Sub K1 K) {v : Value} {l : List (List Int)} (h : asRows K1 v = some l) : asRows K v = some l := by
  unfold asRows at h ⊢
  split at h
  · rename_i l2 e
    rw [sub_tup s e]
    exact sub_rowsL s h
  · cases h
theorem sub_rows3L (s : Sub K1 K) : ∀ {vs : List Value} {l : List (List (List Int))}, asRows3L K1 vs = some l → asRows3L K vs = some l
  | [], l, h => h
  | v :: vs, l, h => by
    unfold asRows3L at h ⊢
    split at h
    · rename_i i is e1 e2
      rw [sub_rows s e1, sub_rows3L s e2]
      exact h
    · cases h
theorem sub_rows3 (s : Sub K1 K) {v : Value} {l : List (List (List Int))} (h : asRows3 K1 v = some l) : asRows3 K v = some l := by
  unfold asRows3 at h ⊢
  split at h
  · rename_i l2 e
    rw [sub_tup s e]
    exact sub_rows3L s h
  · cases h
theorem sub_tabOf (s : Sub K1 K) {d : Addr} {l : List (Int × Value)} (h : tabOf K1 d = some l) : tabOf K d = some l := by
  have h1 : (match K1.lookup d with
    | some ⟨.type T, none, .dict es _, sl⟩ => if T = "dict" ∧ sl = #[] then entriesI es.toList else none
    | _ => none) = some l := h
  cases e : K1.lookup d with
  | none =>
    rw [e] at h1
    cases h1
  | some o =>
    rw [e] at h1
    show (match K.lookup d with
      | some ⟨.type T, none, .dict es _, sl⟩ => if T = "dict" ∧ sl = #[] then entriesI es.toList else none
      | _ => none) = some l
    rw [s d o e]
    exact h1
theorem sub_mapV {α β : Type} {f f2 : α → Option β} (hf : ∀ x y, f x = some y → f2 x = some y) : ∀ {l : List (Int × α)} {m : List (Int × β)}, mapV2 f l = some m → mapV2 f2 l = some m
  | [], m, h => h
  | (i, v) :: r, m, h => by
    unfold mapV2 at h ⊢
    split at h
    · rename_i w is e1 e2
      rw [hf _ _ e1, sub_mapV hf e2]
      exact h
    · cases h
end
/-- what a written name may be read as -/
inductive TabV where
  | r (l : List Int)
  | t0 (l : List (Int × Int))
  | t1 (l : List (Int × List Int))
  | t2 (l : List (Int × List (List Int)))
  | t3 (l : List (Int × List (List (List Int))))
def see (K : PySem.W.Frag) (a : Addr) : TabV → Option TabV
  | .r _ => (Own.asRow K (.ref a)).map .r
  | .t0 _ => (Own.tab0 K a).map .t0
  | .t1 _ => (Own.tab1 K a).map .t1
  | .t2 _ => (Own.tab2 K a).map .t2
  | .t3 _ => (Own.tab3 K a).map .t3
section
variable {K1 K : PySem.W.Frag} {a : Addr}
theorem see_r {l : List Int} (h : see K a (.r l) = some (.r l)) : Own.asRow K (.ref a) = some l := by
  obtain ⟨m, e, q⟩ := Option.map_eq_some_iff.mp (show (Own.asRow K (.ref a)).map TabV.r = _ from h)
  cases q
  exact e
theorem see_t0 {l : List (Int × Int)} (h : see K a (.t0 l) = some (.t0 l)) : Own.tab0 K a = some l := by
  obtain ⟨m, e, q⟩ := Option.map_eq_some_iff.mp (show (Own.tab0 K a).map TabV.t0 = _ from h)
  cases q
  exact e
theorem see_t1 {l : List (Int × List Int)} (h : see K a (.t1 l) = some (.t1 l)) : Own.tab1 K a = some l := by
  obtain ⟨m, e, q⟩ := Option.map_eq_some_iff.mp (show (Own.tab1 K a).map TabV.t1 = _ from h)
  cases q
  exact e
theorem see_t2 {l : List (Int × List (List Int))} (h : see K a (.t2 l) = some (.t2 l)) : Own.tab2 K a = some l := by
  obtain ⟨m, e, q⟩ := Option.map_eq_some_iff.mp (show (Own.tab2 K a).map TabV.t2 = _ from h)
  cases q
  exact e
theorem see_t3 {l : List (Int × List (List (List Int)))} (h : see K a (.t3 l) = some (.t3 l)) : Own.tab3 K a = some l := by
  obtain ⟨m, e, q⟩ := Option.map_eq_some_iff.mp (show (Own.tab3 K a).map TabV.t3 = _ from h)
  cases q
  exact e
theorem sub_tab {β : Type} (s : Sub K1 K) {f f2 : Value → Option β} (hf : ∀ x y, f x = some y → f2 x = some y) {m : List (Int × β)} (h : (Own.tabOf K1 a).bind (Own.mapV2 f) = some m) : (Own.tabOf K a).bind (Own.mapV2 f2) = some m := by
  obtain ⟨l, e1, e2⟩ := Option.bind_eq_some_iff.mp h
  exact Option.bind_eq_some_iff.mpr ⟨l, sub_tabOf s e1, sub_mapV hf e2⟩
theorem sub_see (s : Sub K1 K) {t : TabV} (h : see K1 a t = some t) : see K a t = some t := by
  cases t with
  | r l =>
    show (Own.asRow K (.ref a)).map TabV.r = _
    rw [sub_row s (see_r h)]
    rfl
  | t0 l =>
    show (Own.tab0 K a).map TabV.t0 = _
    rw [show Own.tab0 K a = some l from sub_tab s (fun x y e => e) (show Own.tab0 K1 a = some l from see_t0 h)]
    rfl
  | t1 l =>
    show (Own.tab1 K a).map TabV.t1 = _
    rw [show Own.tab1 K a = some l from sub_tab s (fun x y e => sub_row s e) (show Own.tab1 K1 a = some l from see_t1 h)]
    rfl
  | t2 l =>
    show (Own.tab2 K a).map TabV.t2 = _
    rw [show Own.tab2 K a = some l from sub_tab s (fun x y e => sub_rows s e) (show Own.tab2 K1 a = some l from see_t2 h)]
    rfl
  | t3 l =>
    show (Own.tab3 K a).map TabV.t3 = _
    rw [show Own.tab3 K a = some l from sub_tab s (fun x y e => sub_rows3 s e) (show Own.tab3 K1 a = some l from see_t3 h)]
    rfl
end
/-! ### the Hook: a law's own look at the written part, its value -/
abbrev AlT : Type := Bool × (List FnV × List (Option TabV))
structure Asks where
  fn : List FnD
  glo : List Str
  free : List Str
  int : List (Str × Int)
  blt : List (Str × String)
  tabs : List (Str × TabV)
def Asks.obs1 (A : Asks) (K : PySem.W.Frag) : Bool := A.fn.all (defB K) && (A.glo.all (gloB K) && (A.free.all (freeB K) && (A.int.all (intB K) && A.blt.all (bltB K))))
def Asks.obsG (A : Asks) (g : Addr → Option Obj) : AlT := (A.obs1 (kOf 2 g), A.fn.map (fun d => fnObs (kOf 2 g) d.at_), A.tabs.map fun t => see (frG g (lev g 3 [ga (kOf 2 g) t.1])) (ga (kOf 2 g) t.1) t.2)
def Asks.val (A : Asks) : AlT := (true, A.fn.map FnD.val, A.tabs.map fun t => some t.2)
structure Asks.Says (A : Asks) (K1 K : PySem.W.Frag) : Prop where
  s : Sub K1 K
  b : A.obs1 K1 = true
  f : A.fn.map (fun d => fnObs K1 d.at_) = A.fn.map FnD.val
  t : ∀ t ∈ A.tabs, see K (ga K1 t.1) t.2 = some t.2
def Asks.hook (A : Asks) : PySem.W.Hook where
  α := AlT
  obs := fun s => A.obsG s.heap.get?
  val := fun _ => A.val
  says := fun _ h => ∃ K1 K : PySem.W.Frag, K.In h ∧ A.Says K1 K
  of := fun _ s e => by
    refine ⟨kOf 2 s.heap.get?, frG s.heap.get? (lev s.heap.get? 2 [mainGlobals] ++ A.tabs.flatMap fun t => lev s.heap.get? 3 [ga (kOf 2 s.heap.get?) t.1]), frG_in, sub_of fun a h => List.mem_append_left _ h, congrArg (fun z : AlT => z.1) e, congrArg (fun z : AlT => z.2.1) e, fun t ht => ?_⟩
    have e3 : A.tabs.map (fun t => see (frG s.heap.get? (lev s.heap.get? 3 [ga (kOf 2 s.heap.get?) t.1])) (ga (kOf 2 s.heap.get?) t.1) t.2) = A.tabs.map fun t => some t.2 := congrArg (fun z : AlT => z.2.2) e
    have e4 := List.map_inj_left.mp e3 t ht
    exact sub_see (sub_of fun a h => List.mem_append_right _ (List.mem_flatMap.mpr ⟨t, ht, h⟩)) e4
  keeps := fun _ _ _ ⟨K1, K, hK, c⟩ k => ⟨K1, K, PySem.W.Frag.In.keeps hK k, c⟩
theorem Asks.obsG_eq (A : Asks) {g : Addr → Option Obj} {s : Shared} (h : ∀ a, g a = s.heap.get? a) : A.obsG g = A.hook.obs s := by
  have e : g = s.heap.get? := funext h
  rw [e] <;> rfl
theorem both {a b : Bool} (h : (a && b) = true) : a = true ∧ b = true := Bool.and_eq_true_iff.mp h
section
variable {K1 K : PySem.W.Frag} {h : Heap} {mg : Str → Option Value} {A : Asks}
theorem Asks.Says.bb (c : A.Says K1 K) : A.fn.all (defB K1) = true ∧ A.glo.all (gloB K1) = true ∧ A.free.all (freeB K1) = true ∧ A.int.all (intB K1) = true ∧ A.blt.all (bltB K1) = true := by
  obtain ⟨c1, c⟩ := both (show (A.fn.all (defB K1) && (A.glo.all (gloB K1) && (A.free.all (freeB K1) && (A.int.all (intB K1) && A.blt.all (bltB K1))))) = true from c.b)
  obtain ⟨c2, c⟩ := both c
  obtain ⟨c3, c⟩ := both c
  obtain ⟨c4, c5⟩ := both c
  exact ⟨c1, c2, c3, c4, c5⟩
theorem Asks.Says.tab_ (c : A.Says K1 K) (i : Nat) (n : Str) (t : TabV) (hi : A.tabs[i]? = some (n, t)) : see K (ga K1 n) t = some t := c.t (n, t) (List.mem_of_getElem? hi)
theorem Asks.Says.def_ (c : A.Says K1 K) (X : K.In h) (G : h.Ns mainGlobals mg) (i : Nat) (n : Str) (st : Stmt) (hi : A.fn[i]? = some (dF n st)) : mg n = some (.ref (ga K1 n)) ∧ ∃ d, Fun K n n st (ga K1 n) d := by
  have e2 : (A.fn.map fun d => fnObs K1 d.at_)[i]? = (A.fn.map FnD.val)[i]? := by rw [c.f]
  rw [List.getElem?_map, List.getElem?_map, hi] at e2
  obtain ⟨q1, d, q2⟩ := defB_ok (sub_in c.s X) G (List.all_eq_true.mp c.bb.1 _ (List.mem_of_getElem? hi)) (Option.some.inj e2)
  exact ⟨q1, d, sub_fun c.s q2⟩
theorem Asks.Says.glo_ (c : A.Says K1 K) (X : K.In h) (G : h.Ns mainGlobals mg) (i : Nat) (n : Str) (hi : A.glo[i]? = some n) : mg n = some (.ref (ga K1 n)) := gloB_ok (sub_in c.s X) G (List.all_eq_true.mp c.bb.2.1 _ (List.mem_of_getElem? hi))
theorem Asks.Says.free_ (c : A.Says K1 K) (X : K.In h) (G : h.Ns mainGlobals mg) (i : Nat) (n : Str) (hi : A.free[i]? = some n) : mg n = none := freeB_ok (sub_in c.s X) G (List.all_eq_true.mp c.bb.2.2.1 _ (List.mem_of_getElem? hi))
theorem Asks.Says.int_ (c : A.Says K1 K) (X : K.In h) (G : h.Ns mainGlobals mg) (i : Nat) (n : Str) (z : Int) (hi : A.int[i]? = some (n, z)) : ∃ t, mg n = some (.int z t) := intB_ok (sub_in c.s X) G (x := (n, z)) (List.all_eq_true.mp c.bb.2.2.2.1 _ (List.mem_of_getElem? hi))
theorem Asks.Says.blt_ (c : A.Says K1 K) (X : K.In h) (G : h.Ns mainGlobals mg) (i : Nat) (n : Str) (z : String) (hi : A.blt[i]? = some (n, z)) : mg n = some (.builtin z) := bltB_ok (sub_in c.s X) G (x := (n, z)) (List.all_eq_true.mp c.bb.2.2.2.2 _ (List.mem_of_getElem? hi))
theorem bindsTo_of {n : Str} {st : Stmt} {f : Addr} {d : FuncData} {x : Str} (F : Fun K n n st f d)
    (h : ∀ (kV doc pm : Value) (an : Option Addr) (cdv ct : Value) (s : Shared) (v : Value), BindsTo s (PySem.W.fnOf n n (defArgs st) (defBody st) (defScope st) .none kV doc pm an cdv ct) ⟨[v], []⟩ [(x, v)]) (s : Shared) (v : Value) : BindsTo s d ⟨[v], []⟩ [(x, v)] := by
  obtain ⟨oc, od, kV, doc, pm, an, cdv, ct, osl, rfl, lk, hcd⟩ := F.ex
  exact h kV doc pm an cdv ct s v
end
/-! ### the run in two looks -/
theorem map_two {α β γ δ : Type} {o : Option α} {f : α → β} {f2 : α → γ} {g : α → δ} {b : β} {c : γ} {d : δ} (h1 : o.map (fun x => (f x, f2 x)) = some (b, c)) (h2 : o.map g = some d) : o.map (fun x => (f x, f2 x, g x)) = some (b, c, d) := by
  cases o with
  | none => cases h1
  | some x =>
    have e1 : (f x, f2 x) = (b, c) := Option.some.inj h1
    have e2 : g x = d := Option.some.inj h2
    show some (f x, f2 x, g x) = some (b, c, d)
    cases e1
    cases e2
    rfl
end Hd
namespace Own
open PySem PySem.Spec PyProof.Rows L2
def topS (i : Nat) : Stmt := PySem.Challenge.pw_monicsums_k62_whole_exponential_and_loga.main.body.getD i (.Pass ⟨0, 0, 0, 0⟩)
abbrev s_digit_row : Stmt := topS 4
abbrev s_is_integer : Stmt := topS 12
abbrev s_is_from : Stmt := topS 13
abbrev s_check_from : Stmt := topS 14
abbrev s_whole_power : Stmt := topS 15
abbrev s_is_field : Stmt := topS 18
abbrev s_check_field : Stmt := topS 19
abbrev s_trimmed : Stmt := topS 21
abbrev s_row_sum : Stmt := topS 22
abbrev s_row_opposite : Stmt := topS 23
abbrev s_row_less : Stmt := topS 24
abbrev s_terms_quotient : Stmt := topS 26
abbrev s_bracket_terms : Stmt := topS 27
abbrev s_times_bracket : Stmt := topS 28
abbrev s_over_bracket : Stmt := topS 29
abbrev s_times_brackets : Stmt := topS 30
abbrev s_exponents_degree : Stmt := topS 31
abbrev s_check_made : Stmt := topS 34
abbrev s_product_exponents : Stmt := topS 36
abbrev s_check_index : Stmt := topS 40
abbrev s_exp_coefficient : Stmt := topS 41
abbrev s_log_coefficient : Stmt := topS 42
abbrev s__law_dice : Stmt := topS 44
abbrev s__law_roll : Stmt := topS 45
abbrev s__law_one_of : Stmt := topS 46
abbrev s__law_raised : Stmt := topS 47
abbrev s__law_digits : Stmt := topS 48
abbrev s__law_element_product : Stmt := topS 49
abbrev s__law_element_sum : Stmt := topS 50
abbrev s__law_field : Stmt := topS 51
abbrev s__law_trim : Stmt := topS 52
abbrev s__law_plus : Stmt := topS 53
abbrev s__law_scaled : Stmt := topS 54
abbrev s__law_product : Stmt := topS 55
abbrev s__law_parted : Stmt := topS 56
abbrev s__law_rest : Stmt := topS 57
abbrev s__law_stretched : Stmt := topS 58
abbrev s__law_common : Stmt := topS 59
abbrev s__law_monic_of : Stmt := topS 60
abbrev s__law_poly : Stmt := topS 61
abbrev s__law_monic : Stmt := topS 62
abbrev s__law_q : Stmt := topS 63
abbrev s__law_quotient : Stmt := topS 64
abbrev s__law_quotient_plus : Stmt := topS 65
abbrev s__law_quotient_product : Stmt := topS 66
abbrev s__law_bracket : Stmt := topS 67
abbrev s__law_all_product : Stmt := topS 68
abbrev s__law_least_multiple : Stmt := topS 69
abbrev s__law_carlitz : Stmt := topS 70
abbrev s__law_root_power : Stmt := topS 71
abbrev s__law_undone : Stmt := topS 72
abbrev s__law_acts_right : Stmt := topS 73
abbrev s_law : Stmt := topS 74
def W_PRIMES : List (Int × Int) := [(2, 2), (3, 3), (4, 2), (5, 5), (7, 7), (8, 2), (9, 3)]
def W_SUMS : List (Int × List (List Int)) := [(2, [[0, 1], [1, 0]]), (3, [[0, 1, 2], [1, 2, 0], [2, 0, 1]]), (4, [[0, 1, 2, 3], [1, 0, 3, 2], [2, 3, 0, 1], [3, 2, 1, 0]]), (5, [[0, 1, 2, 3, 4], [1, 2, 3, 4, 0], [2, 3, 4, 0, 1], [3, 4, 0, 1, 2], [4, 0, 1, 2, 3]]), (7, [[0, 1, 2, 3, 4, 5, 6], [1, 2, 3, 4, 5, 6, 0], [2, 3, 4, 5, 6, 0, 1], [3, 4, 5, 6, 0, 1, 2], [4, 5, 6, 0, 1, 2, 3], [5, 6, 0, 1, 2, 3, 4], [6, 0, 1, 2, 3, 4, 5]]), (8, [[0, 1, 2, 3, 4, 5, 6, 7], [1, 0, 3, 2, 5, 4, 7, 6], [2, 3, 0, 1, 6, 7, 4, 5], [3, 2, 1, 0, 7, 6, 5, 4], [4, 5, 6, 7, 0, 1, 2, 3], [5, 4, 7, 6, 1, 0, 3, 2], [6, 7, 4, 5, 2, 3, 0, 1], [7, 6, 5, 4, 3, 2, 1, 0]]), (9, [[0, 1, 2, 3, 4, 5, 6, 7, 8], [1, 2, 0, 4, 5, 3, 7, 8, 6], [2, 0, 1, 5, 3, 4, 8, 6, 7], [3, 4, 5, 6, 7, 8, 0, 1, 2], [4, 5, 3, 7, 8, 6, 1, 2, 0], [5, 3, 4, 8, 6, 7, 2, 0, 1], [6, 7, 8, 0, 1, 2, 3, 4, 5], [7, 8, 6, 1, 2, 0, 4, 5, 3], [8, 6, 7, 2, 0, 1, 5, 3, 4]])]
def W_OPPOSITES : List (Int × List Int) := [(2, [0, 1]), (3, [0, 2, 1]), (4, [0, 1, 2, 3]), (5, [0, 4, 3, 2, 1]), (7, [0, 6, 5, 4, 3, 2, 1]), (8, [0, 1, 2, 3, 4, 5, 6, 7]), (9, [0, 2, 1, 6, 8, 7, 3, 5, 4])]
def W_FIELDS : List Int := [2, 3, 4, 5, 7, 8, 9]
def hFn0 : List He.FnD := [Hd.dF "digit_row" s_digit_row, Hd.dF "is_integer" s_is_integer, Hd.dF "is_from" s_is_from, Hd.dF "check_from" s_check_from, Hd.dF "whole_power" s_whole_power, Hd.dF "is_field" s_is_field, Hd.dF "check_field" s_check_field, Hd.dF "trimmed" s_trimmed, Hd.dF "row_sum" s_row_sum, Hd.dF "row_opposite" s_row_opposite, Hd.dF "row_less" s_row_less, Hd.dF "terms_quotient" s_terms_quotient, Hd.dF "bracket_terms" s_bracket_terms, Hd.dF "times_bracket" s_times_bracket, Hd.dF "over_bracket" s_over_bracket]
def hFn1 : List He.FnD := [Hd.dF "times_brackets" s_times_brackets, Hd.dF "exponents_degree" s_exponents_degree, Hd.dF "check_made" s_check_made, Hd.dF "product_exponents" s_product_exponents, Hd.dF "check_index" s_check_index, Hd.dF "exp_coefficient" s_exp_coefficient, Hd.dF "log_coefficient" s_log_coefficient, Hd.dF "_law_dice" s__law_dice, Hd.dF "_law_roll" s__law_roll, Hd.dF "_law_one_of" s__law_one_of, Hd.dF "_law_raised" s__law_raised, Hd.dF "_law_digits" s__law_digits, Hd.dF "_law_element_product" s__law_element_product, Hd.dF "_law_element_sum" s__law_element_sum, Hd.dF "_law_field" s__law_field]
def hFn2 : List He.FnD := [Hd.dF "_law_trim" s__law_trim, Hd.dF "_law_plus" s__law_plus, Hd.dF "_law_scaled" s__law_scaled, Hd.dF "_law_product" s__law_product, Hd.dF "_law_parted" s__law_parted, Hd.dF "_law_rest" s__law_rest, Hd.dF "_law_stretched" s__law_stretched, Hd.dF "_law_common" s__law_common, Hd.dF "_law_monic_of" s__law_monic_of, Hd.dF "_law_poly" s__law_poly, Hd.dF "_law_monic" s__law_monic, Hd.dF "_law_q" s__law_q, Hd.dF "_law_quotient" s__law_quotient, Hd.dF "_law_quotient_plus" s__law_quotient_plus, Hd.dF "_law_quotient_product" s__law_quotient_product]
def hFn3 : List He.FnD := [Hd.dF "_law_bracket" s__law_bracket, Hd.dF "_law_all_product" s__law_all_product, Hd.dF "_law_least_multiple" s__law_least_multiple, Hd.dF "_law_carlitz" s__law_carlitz, Hd.dF "_law_root_power" s__law_root_power, Hd.dF "_law_undone" s__law_undone, Hd.dF "_law_acts_right" s__law_acts_right, Hd.dF "law" s_law]
def hFn : List He.FnD := hFn0 ++ hFn1 ++ hFn2 ++ hFn3
def hGlo0 : List PySem.Str := ["PRIMES", "SUMS", "OPPOSITES", "FIELDS"]
def hGlo : List PySem.Str := hGlo0
def hFree0 : List PySem.Str := ["isinstance", "int", "bool", "range", "len", "tuple", "zip", "list", "sum", "abs", "enumerate", "max", "min"]
def hFree : List PySem.Str := hFree0
def hInt0 : List (PySem.Str × Int) := [("TOO_LONG", 1000000000000000000000000000000000000000000000000000000000000), ("MAX_MADE", 2000), ("MOST_MADE_DEGREE", 2000), ("MOST_BRACKET", 10)]
def hInt : List (PySem.Str × Int) := hInt0
def hBlt0 : List (PySem.Str × String) := []
def hBlt : List (PySem.Str × String) := hBlt0
def hTabs0 : List (PySem.Str × Hd.TabV) := [("PRIMES", .t0 W_PRIMES), ("SUMS", .t2 W_SUMS), ("OPPOSITES", .t1 W_OPPOSITES), ("FIELDS", .r W_FIELDS)]
def hTabs : List (PySem.Str × Hd.TabV) := hTabs0
def hA : Hd.Asks := ⟨hFn, hGlo, hFree, hInt, hBlt, hTabs⟩
def hNames0 : List PySem.Str := ["PRIMES", "SUMS", "OPPOSITES", "__name__", "digit_row", "MonicError", "InvalidField", "InvalidNumber", "TooMany", "TOO_LONG", "is_integer", "is_from", "check_from", "whole_power", "FIELDS"]
def hNames1 : List PySem.Str := ["is_field", "check_field", "trimmed", "row_sum", "row_opposite", "row_less", "terms_quotient", "bracket_terms", "times_bracket", "over_bracket", "times_brackets", "exponents_degree", "MAX_MADE", "check_made", "product_exponents"]
def hNames2 : List PySem.Str := ["MOST_MADE_DEGREE", "MOST_BRACKET", "check_index", "exp_coefficient", "log_coefficient", "_law_dice", "_law_roll", "_law_one_of", "_law_raised", "_law_digits", "_law_element_product", "_law_element_sum", "_law_field", "_law_trim", "_law_plus"]
def hNames3 : List PySem.Str := ["_law_scaled", "_law_product", "_law_parted", "_law_rest", "_law_stretched", "_law_common", "_law_monic_of", "_law_poly", "_law_monic", "_law_q", "_law_quotient", "_law_quotient_plus", "_law_quotient_product", "_law_bracket", "_law_all_product"]
def hNames4 : List PySem.Str := ["_law_least_multiple", "_law_carlitz", "_law_root_power", "_law_undone", "_law_acts_right"]
def hNames : List PySem.Str := hNames0 ++ hNames1 ++ hNames2 ++ hNames3 ++ hNames4
abbrev hR : PySem.W.OpenRow := PySem.W.OpenLaw.row PySem.Challenge.rw_monicsums_k62_whole_exponential_and_loga
abbrev hQ : Program := PySem.W.view hR.prog [74]
def hSteps : Nat := 12000
def hOb (s : PySem.W.SharedT) : Hd.AlT := hA.obsG (HandSHeadRun.getT s)
theorem hOb_eq (s : PySem.W.SharedT) : hOb s = hA.hook.obs s.abs := hA.obsG_eq (HandSHeadRun.getT_eq s)
open PySem.W PySem.Calls
theorem hLook_false (w : World) (os : OsState) : (HandSHeadRun.endF (HandSHeadRun.stepQ (HandSHeadRun.denQ HandSHeadRun.tabQ) hR.prog (w.withFollow "special-get-raises" false)) hSteps hR.prog (w.withFollow "special-get-raises" false) os).map (fun s => (HandSHeadRun.looksF hR.prog (boot_heap (World.params (w.withFollow "special-get-raises" false))) s.abs, HandSHeadRun.seenQ hQ hNames (importedModules hR.prog.main.body) (fun s => PySem.W.xlAt hQ [] s && PySem.W.recOk hR.toRowW.records s) s.abs)) = some (true, PySem.W.openGood hQ hNames) := by
  kernel_rfl
theorem hSee_false (w : World) (os : OsState) : (HandSHeadRun.endF (HandSHeadRun.stepQ (HandSHeadRun.denQ HandSHeadRun.tabQ) hR.prog (w.withFollow "special-get-raises" false)) hSteps hR.prog (w.withFollow "special-get-raises" false) os).map hOb = some hA.val := by
  kernel_rfl
theorem hLook_true (w : World) (os : OsState) : (HandSHeadRun.endF (HandSHeadRun.stepQ (HandSHeadRun.denQ HandSHeadRun.tabQ) hR.prog (w.withFollow "special-get-raises" true)) hSteps hR.prog (w.withFollow "special-get-raises" true) os).map (fun s => (HandSHeadRun.looksF hR.prog (boot_heap (World.params (w.withFollow "special-get-raises" true))) s.abs, HandSHeadRun.seenQ hQ hNames (importedModules hR.prog.main.body) (fun s => PySem.W.xlAt hQ [] s && PySem.W.recOk hR.toRowW.records s) s.abs)) = some (true, PySem.W.openGood hQ hNames) := by
  kernel_rfl
theorem hSee_true (w : World) (os : OsState) : (HandSHeadRun.endF (HandSHeadRun.stepQ (HandSHeadRun.denQ HandSHeadRun.tabQ) hR.prog (w.withFollow "special-get-raises" true)) hSteps hR.prog (w.withFollow "special-get-raises" true) os).map hOb = some hA.val := by
  kernel_rfl
theorem hRun (w : World) : HandSHeadRun.RunEq hR hQ hA.hook hOb hSteps hNames w := PySem.W.byRow2 "special-get-raises" (P := fun w => HandSHeadRun.RunEq hR hQ hA.hook hOb hSteps hNames w) (fun w os => Hd.map_two (hLook_false w os) (hSee_false w os)) (fun w os => Hd.map_two (hLook_true w os) (hSee_true w os)) w
end Own
/-! own rules: powers of wide bases, sum of a tuple, tuple * 0 and * 1, tuple[::-1] -/
namespace Own
open PySem PySem.Spec PyProof.Rows L2

def CPowW (i j : Int) : Prop := 0 ≤ j ∧ j ≤ 1000 ∧ i.natAbs < 2 ^ 1000
section
variable {X : Cx}
theorem op_powW : OpR X (binaryOp .Pow) (rI CPowW fun i j => .int (i ^ j.toNat)) := opI fun i j _ _ _ _ _ hc q => by
  refine pow_int hc.1 ?_ q
  have h1 := PySem.Flt.log2_lt_of (by decide : 0 < 1000) hc.2.2
  have b : Builtin.Int.intBits i ≤ i.natAbs.log2 + 1 := by
    unfold Builtin.Int.intBits
    split <;> omega
  have h2 := hc.2.1
  have h0 := hc.1
  have h3 : ((Builtin.Int.intBits i : Nat) : Int) ≤ 1001 := by omega
  have h4 : ((Builtin.Int.intBits i : Nat) : Int) * j ≤ 1001 * j := Int.mul_le_mul_of_nonneg_right h3 h0
  omega

/-! sum of a tuple of ints -/
def rSumT (K : PySem.W.Frag) : List V → Hp → VK → Prop := fun vs H Q => ∃ (a : Addr) (ns : List Int), vs = [V.ref a] ∧ SqT K H a (ns.map V.int) ∧ Q (.int ns.sum) H
end
section
variable {prog : Program} {w : World} {A : Around} {E : Value → Shared → Prop} {s : Shared} {l : Addr} {its : List Value} {ns : List Int} {Q : Value → Shared → Prop}
theorem iter_intTup {xs : Array (Int × Tok)} {Q : Value → Shared → Prop} (hl : s.heap.IsTuple l (intItems xs))
    (h : ∀ s₂ : Shared, s₂ = { s with heap := s.heap.push { cls := .type "tuple_iterator", data := .fields #[.ref l, .int 0 0] } } →
      (s₂.heap.IsTupleIter s.heap.objs.size l 0 ∧ s₂.heap.IsTuple l (intItems xs)) → (∀ b ∈ [s.heap.objs.size, l], b < s₂.heap.objs.size) → l ≠ s.heap.objs.size → Q (.ref s.heap.objs.size) s₂) :
    wpAny (model prog w) A (pyIter (.ref l)) Q E s := by
  have hlt : l < s.heap.objs.size := by obtain ⟨_, e, _⟩ := hl; exact Heap.lt_size e
  refine wpAny_pyIter_tuple hl (h _ rfl ⟨⟨_, Heap.get?_push_size _ rfl, rfl, rfl⟩, hl.push _⟩ (fun b hb => ?_) (Nat.ne_of_lt hlt))
  show b < (s.heap.push _).objs.size
  rw [Heap.size_push]
  rcases List.mem_cons.mp hb with rfl | hb
  · exact Nat.lt_succ_self _
  · rcases List.mem_cons.mp hb with rfl | hb
    · exact Nat.lt_succ_of_lt hlt
    · cases hb
theorem old_keptT {h' : Heap} (hk : ∀ b o, b ∉ [s.heap.objs.size] → (s.heap.push { cls := .type "tuple_iterator", data := .fields #[.ref l, .int 0 0] }).get? b = some o → h'.get? b = some o) :
    ∀ b o, s.heap.get? b = some o → h'.get? b = some o := fun b o e => by
  refine hk b o (fun hm => ?_) (Heap.get?_push_of_some _ e)
  rcases List.mem_cons.mp hm with e1 | hm
  · exact absurd (e1 ▸ Heap.lt_size e) (Nat.lt_irrefl _)
  · cases hm
theorem sum_intTup {xs : Array (Int × Tok)} {Q : Value → Shared → Prop} (hh : A.handled = none) (hl : s.heap.IsTuple l (intItems xs))
    (h : ∀ h' tk t', (∀ b o, s.heap.get? b = some o → h'.get? b = some o) → Q (.int (preSum (numAt xs) xs.size) t') { s with heap := h', toks := tk }) :
    wpAny (model prog w) A (call (.builtin "sum") [.ref l]) Q E s := by
  refine call_sum_walkG (iter_intTup hl fun s₂ e st hfp hlI => ?_)
  subst e
  refine ⟨_, _, _, _, _, _, numAt xs, rfl, Walks.tuple (A := A.in1) hh _ l hlI (intItems xs), st, hfp, (fun _ _ => intItems_at), fun h' tk t' hk => ?_⟩
  have := h h' tk t' (old_keptT hk)
  simpa [intItems] using this
theorem sum_rawT (hh : A.handled = none) (hl : s.heap.IsTuple l its.toArray) (hi : IntsAre its ns)
    (h : ∀ h' tk t', (∀ b o, s.heap.get? b = some o → h'.get? b = some o) → Q (.int ns.sum t') { s with heap := h', toks := tk }) : wpAny (model prog w) A (call (.builtin "sum") [.ref l]) Q E s := by
  obtain ⟨xs, e⟩ := hi.allInts.items
  have hn : numsOf (intItems xs).toList = ns := by rw [← e]; exact hi.numsOf
  rw [nums_intItems] at hn
  rw [e] at hl
  refine sum_intTup hh hl fun h' tk t' hk => ?_
  have := h h' tk t' hk
  rw [preSum_eq, List.take_of_length_le (by simp), hn]; exact this
end
section
variable {X : Cx}
theorem cr_sumT (hc : X.calm = true) : CallR X (.builtin "sum") (rSumT X.K) := by
  intro pins s σ H vs us Q I r h
  obtain ⟨a, ns, rfl, hs, q⟩ := h
  obtain ⟨its, rv, hl, _⟩ := I.tuple hs
  rw [Vals.ref1 r]
  exact sum_rawT (I.ok.hd hc) hl rv.ints fun h' tk t' hk => ⟨.int _, H, I.kept hk, ⟨_, rfl⟩, q⟩
end

/-! tuple * k for k = 0 and k = 1 -/
theorem tuple_mul1 (l : Addr) (items : Array Value) (n : Nat) (dd : Option Addr) (sl : Array (Option Value)) (u : Tok) :
    Meets (Builtin.«tuple.__mul__» ⟨[.ref l, .int 1 u], []⟩) (fun _ R s => s.heap.get? l = some { cls := .type "tuple", dict := dd, data := .seq items n, slots := sl } ∧
      R (.ok (.ret (Value.ref l))) s) :=
  .of_wp fun prog w A R s h => by
    obtain ⟨hp, g, d, tk, os⟩ := s
    obtain ⟨hl, h⟩ := h
    have f1 := AutoSeq1.idx_int
    wp_walk using wpAny_loadPart' hl
    repeat (first
      | (refine wpAny_ite_false (by decide) ?_; wp_walk using wpAny_loadPart' hl)
      | (refine wpAny_ite_true (by rw [Bool.or_eq_true]; exact Or.inr rfl) ?_; wp_walk using wpAny_loadPart' hl)
      | (refine wpAny_ite_true (by simp) ?_; wp_walk using wpAny_loadPart' hl))
    exact ⟨_, rfl, h⟩
theorem tuple_mul0 (l : Addr) (items : Array Value) (n : Nat) (dd : Option Addr) (sl : Array (Option Value)) (u : Tok) (hn : items.isEmpty = false) :
    Meets (Builtin.«tuple.__mul__» ⟨[.ref l, .int 0 u], []⟩) (fun _ R s => s.heap.get? l = some { cls := .type "tuple", dict := dd, data := .seq items n, slots := sl } ∧
      R (.ok (.ret (Value.ref s.heap.objs.size))) { s with heap := s.heap.push { cls := Value.type "tuple", data := Data.seq #[] }, toks := s.toks }) :=
  .of_wp fun prog w A R s h => by
    obtain ⟨hp, g, d, tk, os⟩ := s
    obtain ⟨hl, h⟩ := h
    have f1 := AutoSeq1.idx_int
    wp_walk using wpAny_loadPart' hl
    repeat (first
      | (refine wpAny_ite_false (by decide) ?_; wp_walk using wpAny_loadPart' hl)
      | (refine wpAny_ite_false (by rw [hn]; decide) ?_; wp_walk using wpAny_loadPart' hl)
      | (refine wpAny_ite_true (by decide) ?_; wp_walk using wpAny_loadPart' hl)
      | (refine wpAny_ite_true (by rw [Bool.or_eq_true]; exact Or.inl rfl) ?_; wp_walk using wpAny_loadPart' hl)
      | (refine wpAny_ite_false (decide_eq_false (Nat.not_lt.mpr (Nat.zero_le _))) ?_; wp_walk using wpAny_loadPart' hl))
    exact ⟨_, rfl, h⟩
def rRepU (K : PySem.W.Frag) : R2 := fun x y H Q => ∃ l k xs, x = .ref l ∧ y = .int k ∧ SqT K H l xs ∧ xs ≠ [] ∧ 0 ≤ k ∧ k ≤ 1000 ∧ xs.length ≤ 1000 ∧ ∀ p H', Evl.Ex H H' → SqT K H' p (List.replicate k.toNat xs).flatten → Q (.ref p) H'
section
variable {X : Cx}
theorem op_repU : OpR X (binaryOp .Mult) (rRepU X.K) := by
  intro pins s σ H x y v u Q I rx ry h
  obtain ⟨l, k, xs, ex, ey, hT, hne, h1, h2, hz, q⟩ := h
  by_cases h22 : 2 ≤ k
  · exact op_repT pins s σ H x y v u Q I rx ry ⟨l, k, xs, ex, ey, hT, hne, h22, h2, hz, fun p hp => q p _ (Evl.Ex.new hp) (SqT.of upd_same)⟩
  · subst ex ey
    cases rx
    obtain ⟨t, rfl⟩ := ry
    obtain ⟨its, r, ⟨⟨cls, dd, data, sl⟩, ho, hc, n, hd⟩, hs⟩ := I.tuple hT
    simp only at hc hd
    subst hc hd
    have hle : its.length = xs.length := r.length.symm
    have hi : its.toArray.isEmpty = false := by
      cases its with
      | nil => exact absurd (List.eq_nil_of_length_eq_zero hle.symm) hne
      | cons a b => rfl
    by_cases h1k : k = 1
    · subst h1k
      refine wpAny_binaryOp_repeat_ref (T := "tuple") (U := "int") (by decide) ⟨_, ho, rfl⟩ (fun s' => typeIs_int s' 1 t) noFill_tuple_mul F.fills_int_mul F.slot_int_rmul repeat_tuple F.slot_int_index.lookup
        (call_meets F.slot_int_rmul (typeIs_int s 1 t) F.entry_int_rmul (F.args_int_rmul_2 _ _) (int_rmul_tuple 1 t l its.toArray n dd sl)
          ⟨ho, rfl, ⟨_, ho, rfl⟩, call_meets F.slot_tuple_mul ⟨_, ho, rfl⟩ F.entry_tuple_mul (F.args_tuple_mul_2 _ _) (tuple_mul1 l its.toArray n dd sl t) ⟨ho, ?_⟩⟩)
      refine ⟨.ref l, H, I.tok _, rfl, q l H (Evl.Ex.refl H) ?_⟩
      show SqT X.K H l (List.replicate 1 xs).flatten
      rw [List.replicate_one, List.flatten_singleton]
      exact hT
    · have h0k : k = 0 := by omega
      subst h0k
      refine wpAny_binaryOp_repeat_ref (T := "tuple") (U := "int") (by decide) ⟨_, ho, rfl⟩ (fun s' => typeIs_int s' 0 t) noFill_tuple_mul F.fills_int_mul F.slot_int_rmul repeat_tuple F.slot_int_index.lookup
        (call_meets F.slot_int_rmul (typeIs_int s 0 t) F.entry_int_rmul (F.args_int_rmul_2 _ _) (int_rmul_tuple 0 t l its.toArray n dd sl)
          ⟨ho, rfl, ⟨_, ho, rfl⟩, call_meets F.slot_tuple_mul ⟨_, ho, rfl⟩ F.entry_tuple_mul (F.args_tuple_mul_2 _ _) (tuple_mul0 l its.toArray n dd sl t hi) ⟨ho, ?_⟩⟩)
      have hf := I.hok.fresh (Nat.le_refl s.heap.objs.size)
      refine ⟨.ref s.heap.objs.size, _, I.laid (t' := s.toks) (o := .tup []) (fun b ob q => Heap.get?_push_of_some _ q) (Nat.le_refl _) ?_, rfl, q _ _ (Evl.Ex.new hf) (SqT.of upd_same)⟩
      exact ⟨Nat.zero_le _, [], .nil, IsTup.new _ _⟩

/-! tuple[::-1] -/
def tRevT (K : PySem.W.Frag) (te : TE) : TE := fun σ H Q => te σ H fun x H1 => ∃ a xs, x = .ref a ∧ SqT K H1 a xs ∧ ∀ p, H1 p = none → Q (.ref p) (upd H1 p (.tup xs.reverse))
end
theorem rev_adjust (n : Nat) : Builtin.Slice.sliceAdjust none none (-1) (n : Int) = ((n : Int) - 1, -1) := by
  first
  | rfl
  | simp [Builtin.Slice.sliceAdjust]
theorem rev_places (n : Nat) : Builtin.Slice.slicePlaces ((n : Int) - 1) (-1) (-1) = n := by
  unfold Builtin.Slice.slicePlaces
  have h1 : ¬ ((-1 : Int) > 0) := by decide
  have h2 : (- -1 : Int) = 1 := by decide
  simp only [h1, if_false, h2, Int.ediv_one]
  split <;> omega
theorem rev_pick (xs : Array Value) : ((List.range xs.size).filterMap fun (m : Nat) => xs[(((xs.size : Int) - 1) + (m : Int) * (-1)).toNat]?).toArray = xs.toList.reverse.toArray := by
  have e : (fun (m : Nat) => xs[(((xs.size : Int) - 1) + (m : Int) * (-1)).toNat]?) = fun m => xs[xs.size - 1 - m]? := by
    funext m
    have : (((xs.size : Int) - 1) + (m : Int) * (-1)).toNat = xs.size - 1 - m := by omega
    rw [this]
  rw [e]
  have h := PySem.W.krv_all xs
  have h2 : (List.range xs.size).filterMap (fun m => xs[xs.size - 1 - m]?) = ((List.range xs.size).map fun k => xs.size - 1 - k).filterMap (xs[·]?) := by
    rw [List.filterMap_map]
    rfl
  rw [h2, PySem.W.krv_range, List.filterMap_reverse, h]
section
variable {prog : Program} {w : World} {A : Around} {E : Value → Shared → Prop} {s : Shared}
theorem sliceApplied_rev {sl : Addr} {vl vu vs : Value} {n : Nat} {Q : Int × Int × Nat → Shared → Prop} (hs : s.heap.IsSliceOf sl vl vu vs) (pl : IsPart vl none) (pu : IsPart vu none) (ps : IsPart vs (some (-1)))
    (h : Q ((n : Int) - 1, -1, n) s) : wpAny (model prog w) A (Builtin.Slice.sliceApplied (.ref sl) (pure (n : Int))) Q E s := by
  obtain ⟨os, hos, hcs, hds⟩ := id hs
  unfold Builtin.Slice.sliceApplied Builtin.Slice.sliceFields
  refine wpAny_bind (wpAny_bind (wpAny_field hos hds (x := vl) rfl (wpAny_bind (wpAny_field hos hds (x := vu) rfl (wpAny_bind (wpAny_field hos hds (x := vs) rfl (wpAny_pure ?_)))))))
  refine wpAny_bind (HT.slicePart_ ps ?_)
  show wpAny _ _ (if ((-1 : Int) == 0) = true then _ else _) _ _ s
  rw [if_neg (by decide)]
  refine wpAny_bind (HT.slicePart_ pl (wpAny_bind (HT.slicePart_ pu (wpAny_bind (wpAny_pure ?_)))))
  show wpAny _ _ (match Builtin.Slice.sliceAdjust none none (-1) (n : Int) with | (lo, hi) => pure (lo, (-1 : Int), Builtin.Slice.slicePlaces lo hi (-1))) _ _ s
  rw [rev_adjust n]
  show wpAny _ _ (pure ((n : Int) - 1, (-1 : Int), Builtin.Slice.slicePlaces ((n : Int) - 1) (-1) (-1))) _ _ s
  rw [rev_places]
  exact wpAny_pure h
theorem getItem_tuple_rev {t sl : Addr} {items : Array Value} {vl vu vs : Value} {Q : Value → Shared → Prop} (ht : IsTup s.heap t items) (hs : s.heap.IsSliceOf sl vl vu vs) (pl : IsPart vl none) (pu : IsPart vu none) (ps : IsPart vs (some (-1)))
    (h : Q (.ref s.heap.objs.size) { s with heap := s.heap.push { cls := .type "tuple", data := .seq items.toList.reverse.toArray } })
    (hsz : items.size ≤ sizeLine) : wpAny (model prog w) A (getItem (.ref t) (.ref sl)) Q E s := by
  have htake : sizeOk (.seq items.toList.reverse.toArray) := by
    show items.toList.reverse.toArray.size ≤ sizeLine
    rw [List.size_toArray, List.length_reverse, Array.length_toList]
    exact hsz
  obtain ⟨os, hos, hcs, hds⟩ := id hs
  have hTs : s.TypeIs (.ref sl) "slice" := ⟨os, hos, hcs⟩
  unfold getItem
  try with_reducible refine wpAny_holding ?_
  first | refine wpAny_bind (wpAny_pure ?_) | skip
  refine wpAny_bind (wpAny_sequenceKey ht.typeIs (by decide) ?_)
  refine wpAny_bind (wpAny_callSpecial?_slot (name := Str.ofString "__getitem__") ht.typeIs PyProof.Rows.slot_tuple_getitem
    (wpAny_call_entry PyProof.Rows.slot_tuple_getitem ht.typeIs entry_tuple_getitem ?_ (args_tuple_getitem _ _)))
  show wpAny _ _ (Builtin.Tuple.tupleItemsOf (.ref t) >>= _) _ _ s
  refine wpAny_bind (tupleItemsOf_ ht ?_)
  refine wpAny_bind (wpAny_typeOf hTs ?_)
  rw [if_pos (by decide)]
  refine wpAny_bind (sliceApplied_rev hs pl pu ps ?_)
  have hno : ¬ ((((items.size : Int) - 1) == 0 && (-1 : Int) == 1 && items.size == items.size) = true) := by
    rw [show ((-1 : Int) == 1) = false from rfl, Bool.and_false, Bool.false_and]
    decide
  show wpAny _ _ (if ((((items.size : Int) - 1) == 0 && (-1 : Int) == 1 && items.size == items.size) = true) then _ else _) _ _ s
  rw [if_neg hno, rev_pick]
  first
    | exact wpAny_bind (m := Builtin.Tuple.tupleExact _) (wpAny_newObj_type (wpAny_pure ⟨_, rfl, wpAny_pure h⟩) htake)
    | exact wpAny_bind (m := Builtin.Tuple.tupleExact _) (wpAny_newObj_type (wpAny_bind (wpAny_pure (wpAny_pure ⟨_, rfl, wpAny_pure h⟩))) htake)
    | exact wpAny_bind (wpAny_bind (m := Builtin.Tuple.tupleExact _) (wpAny_newObj_type (wpAny_pure (wpAny_pure ⟨_, rfl, wpAny_pure h⟩)) htake))
    | exact wpAny_bind (wpAny_bind (m := Builtin.Tuple.tupleExact _) (wpAny_newObj_type (wpAny_pure ⟨_, rfl, wpAny_pure h⟩) htake))
end
section
variable {X : Cx}
theorem pe_revT {e : Expr} {te : TE} {k : Nat} {p1 p2 p3 pos : Pos} (he : PE X e te) : PE X (.Subscript e (.Slice none none (some (.UnaryOp .USub (.Constant (.int 1) k p1) p2)) p3) pos) (tRevT X.K te) := by
  refine ⟨fun pins s σ H Q I h => ?_⟩
  refine Subscript_ (thn (he.run pins s σ H _ I h) fun v s1 ⟨x, H1, I1, r1, q1⟩ => ?_)
  obtain ⟨a, xs, ex, hx, q⟩ := q1
  subst ex
  cases r1
  have hst : PO X (some (.UnaryOp .USub (.Constant (.int 1) k p1) p2)) (tPart (tUn (rU fun i => .int (-i)) (tC (.int 1)))) := po_some (pe_un un_neg pe_int)
  refine wpAny_Slice (thn (po_none.run pins s1 σ H1 (fun o H2 => o = none ∧ H2 = H1) I1 ⟨rfl, rfl⟩) fun vl s2 ⟨l, H2, I2, pl, el, e2⟩ => ?_)
  subst el e2
  refine thn (po_none.run pins s2 σ H2 (fun o H3 => o = none ∧ H3 = H2) I2 ⟨rfl, rfl⟩) fun vu s3 ⟨u, H3, I3, pu, eu, e3⟩ => ?_
  subst eu e3
  refine thn (hst.run pins s3 σ H3 (fun o H4 => o = some (-1) ∧ H4 = H3) I3 ⟨1, rfl, -1, rfl, rfl, rfl⟩) fun vs s4 ⟨o, H4, I4, ps, eo, e4⟩ => ?_
  subst eo e4
  have I5 : Inv X pins σ H4 { s4 with heap := s4.heap.push { cls := .type "slice", data := .fields #[vl, vu, vs] } } := I4.kept (t' := s4.toks) fun b ob q => Heap.get?_push_of_some _ q
  obtain ⟨its, r, ht, hz⟩ := I5.tuple hx
  have hlen := r.length
  show wpAny (model X.prog X.w) X.A (subscriptTail e (.Slice none none (some (.UnaryOp .USub (.Constant (.int 1) k p1) p2)) p3) (.ref a) (.ref s4.heap.objs.size)) (EP X pins σ Q) X.xe { s4 with heap := s4.heap.push { cls := .type "slice", data := .fields #[vl, vu, vs] } }
  refine tail_any (ops := [.ref a, .ref s4.heap.objs.size]) ht.typeIs PyProof.Rows.slot_tuple_getitem.lookup ?_ (by with_unfolding_all rfl)
  refine getItem_tuple_rev ht (Heap.IsSliceOf.new _ vl vu vs) pl pu ps ?_ (by rw [List.size_toArray]; omega)
  refine ⟨.ref _, _, I5.laid (t' := s4.toks) (o := .tup xs.reverse) (fun b ob q => Heap.get?_push_of_some _ q) (Nat.le_refl _) ?_, rfl, q _ (I5.hok.fresh (Nat.le_refl _))⟩
  exact ⟨by rw [List.length_reverse]; exact hz, _, r.reverse, IsTup.new _ _⟩
end
end Own
/-! own words over HandS.Evl: built-in calls, tuples walked, chains, promises of new tuples -/
namespace Own
open PySem PySem.Spec PyProof.Rows L2 Evl
section
variable {K : PySem.W.Frag} {σ : L2.St} {H H' : Hp} {ta tb te tx : TE} {t u : TT} {x y z v : V}
theorem rc_abs {i : Int} : RC (fun xs H Q => ∃ i, xs = [V.int i] ∧ Q (.int (if i < 0 then -i else i)) H) [.int i] H (.int (if i < 0 then -i else i)) := fun H1 _ _ q => ⟨i, rfl, q H1 (Ex.refl H1)⟩
theorem rc_int {i : Int} : RC (fun xs H Q => (∃ i, xs = [V.int i] ∧ Q (.int i) H) ∨ ∃ k, xs = [V.bl k] ∧ Q (.int (if k then 1 else 0)) H) [.int i] H (.int i) := fun H1 _ _ q => .inl ⟨i, rfl, q H1 (Ex.refl H1)⟩
theorem rc_intB {k : Bool} : RC (fun xs H Q => (∃ i, xs = [V.int i] ∧ Q (.int i) H) ∨ ∃ k, xs = [V.bl k] ∧ Q (.int (if k then 1 else 0)) H) [.bl k] H (.int (if k then 1 else 0)) := fun H1 _ _ q => .inr ⟨k, rfl, q H1 (Ex.refl H1)⟩
theorem rc_max2 {i j : Int} : RC (fun xs H Q => ∃ i j, xs = [V.int i, V.int j] ∧ Q (.int (if j > i then j else i)) H) [.int i, .int j] H (.int (if j > i then j else i)) := fun H1 _ _ q => ⟨i, j, rfl, q H1 (Ex.refl H1)⟩
theorem rc_min2 {i j : Int} : RC (fun xs H Q => ∃ i j, xs = [V.int i, V.int j] ∧ Q (.int (if j < i then j else i)) H) [.int i, .int j] H (.int (if j < i then j else i)) := fun H1 _ _ q => ⟨i, j, rfl, q H1 (Ex.refl H1)⟩
abbrev rLenQ (K : PySem.W.Frag) : List V → Hp → VK → Prop := fun xs H Q => ∃ p ys, xs = [.ref p] ∧ (SqL K H p ys ∨ SqT K H p ys) ∧ Q (.int ys.length) H
theorem rc_lenL {a : Addr} {xs : List V} (h : SqL K H a xs) : RC (rLenQ K) [.ref a] H (.int xs.length) := fun H1 e _ q => ⟨a, xs, rfl, .inl (ex_l e h), q H1 (Ex.refl H1)⟩
theorem rc_lenT {a : Addr} {xs : List V} (h : SqT K H a xs) : RC (rLenQ K) [.ref a] H (.int xs.length) := fun H1 e _ q => ⟨a, xs, rfl, .inr (ex_t e h), q H1 (Ex.refl H1)⟩
theorem rc_sumL {a : Addr} {ns : List Int} (h : SqL K H a (ns.map V.int)) : RC (rSum K) [.ref a] H (.int ns.sum) := fun H1 e _ q => ⟨a, ns, rfl, ex_l e h, q H1 (Ex.refl H1)⟩
theorem rc_sumT {a : Addr} {ns : List Int} (h : SqT K H a (ns.map V.int)) : RC (rSumT K) [.ref a] H (.int ns.sum) := fun H1 e _ q => ⟨a, ns, rfl, ex_t e h, q H1 (Ex.refl H1)⟩
theorem ev_sumN {ns : List Int} (h : EvL ta σ H (ns.map V.int)) : Ev (tCB (rSum K) (tCons ta tNil)) σ H (.int ns.sum) := fun H1 e _ q =>
  h H1 e _ fun p H2 _ e2 h2 => ⟨p, ns, rfl, sq_of h2, q H2 e2⟩
theorem ev_allN {bs : List Bool} (h : EvL ta σ H (bs.map V.bl)) : Ev (tCB (rAll K) (tCons ta tNil)) σ H (.bl (bs.all id)) := fun H1 e _ q =>
  h H1 e _ fun p H2 _ e2 h2 => ⟨p, bs, rfl, sq_of h2, q H2 e2⟩
theorem tyx_tup {a : Addr} {xs : List V} (h : SqT K H a xs) : TyX K H (.ref a) (.type "tuple") := by
  rcases h with (h | ⟨o, h⟩) | ⟨o, its, n, e, c, _⟩
  · exact .base (.tup h)
  · exact .fTuple h
  · exact .kTuple e c
theorem tyx_ex {x : V} {t : Value} (e : Ex H H') (h : TyX K H x t) : TyX K H' x t := by
  cases h with
  | base h =>
    refine .base ?_
    cases h with
    | non => exact .non
    | bl x => exact .bl x
    | int i => exact .int i
    | str x => exact .str x
    | flt x => exact .flt x
    | lst q => exact .lst (e _ _ q)
    | frz q => exact .frz (e _ _ q)
    | tup q => exact .tup (e _ _ q)
    | dK q => exact .dK (e _ _ q)
    | dT q => exact .dT (e _ _ q)
    | ins q a b c d f => exact .ins (e _ _ q) a b c d f
  | byt b => exact .byt b
  | set q => exact .set (e _ _ q)
  | kList a b => exact .kList a b
  | kTuple a b => exact .kTuple a b
  | kDict a b => exact .kDict a b
  | fTuple q => exact .fTuple (e _ _ q)
  | fDict q => exact .fDict (e _ _ q)
theorem rc_isi {x : V} {t : Value} {n : String} {b : Bool} (h : TyX K H x t) (hk : PySem.W.kitOne K t (.type n) = some b) : RC (rIsi K) [x, .ty n] H (.bl b) := fun H1 e _ q =>
  ⟨x, .ty n, t, .type n, b, rfl, .ty n, tyx_ex e h, hk, q H1 (Ex.refl H1)⟩
theorem ev_chain {r r' : R2} {a b : Bool} {tc : TE} (ha : Ev ta σ H x) (hb : Ev tb σ H y) (hr : RV r x y H (.bl a)) (hc : a = true → Ev tc σ H z) (hr' : a = true → RV r' y z H (.bl b)) : Ev (tChain r r' ta tb tc) σ H (.bl (a && b)) := fun H1 e Q q =>
  ha H1 e _ fun H2 e2 => hb H2 (e.trans e2) _ fun H3 e3 => hr H3 ((e.trans e2).trans e3) _ fun H4 e4 => ⟨a, rfl, by
    cases a with
    | true => exact iteT (hc rfl H4 (((e.trans e2).trans e3).trans e4) _ fun H5 e5 => hr' rfl H5 ((((e.trans e2).trans e3).trans e4).trans e5) Q fun H6 e6 => q H6 ((((e2.trans e3).trans e4).trans e5).trans e6))
    | false => exact iteF (q H4 ((e2.trans e3).trans e4))⟩
/-- tuple(..) of a new list -/
abbrev rTupQ (K : PySem.W.Frag) : List V → Hp → VK → Prop := fun xs H Q => ∃ p ys, xs = [.ref p] ∧ ((SqL K H p ys ∧ ∀ l, H l = none → Q (.ref l) (upd H l (.tup ys))) ∨ (SqT K H p ys ∧ Q (.ref p) H))
theorem eu_tupleN {xs : List V} (h : EvL ta σ H xs) : EvU (tCB (rTupQ K) (tCons ta tNil)) σ H xs := fun H1 e Q q =>
  h H1 e _ fun p H2 _ e2 h2 => ⟨p, xs, rfl, .inl ⟨sq_of h2, fun l hl => q l _ (fresh_back e2 hl) (e2.trans (Ex.new hl)) upd_same⟩⟩
theorem eu_tupleL {a : Addr} {xs : List V} (h : Ev ta σ H (.ref a)) (hx : SqL K H a xs) : EvU (tCB (rTupQ K) (tCons ta tNil)) σ H xs := fun H1 e Q q =>
  h H1 e _ fun H2 e2 => ⟨a, xs, rfl, .inl ⟨ex_l (e.trans e2) hx, fun l hl => q l _ (fresh_back e2 hl) (e2.trans (Ex.new hl)) upd_same⟩⟩
abbrev rLstQ (K : PySem.W.Frag) : List V → Hp → VK → Prop := fun xs H Q => ∃ p ys, xs = [.ref p] ∧ (SqL K H p ys ∨ SqT K H p ys) ∧ ∀ l, H l = none → Q (.ref l) (upd H l (.lst ys))
theorem el_listT {a : Addr} {xs : List V} (h : Ev ta σ H (.ref a)) (hx : SqT K H a xs) : EvL (tCB (rLstQ K) (tCons ta tNil)) σ H xs := fun H1 e Q q =>
  h H1 e _ fun H2 e2 => ⟨a, xs, rfl, .inr (ex_t (e.trans e2) hx), fun l hl => q l _ (fresh_back e2 hl) (e2.trans (Ex.new hl)) upd_same⟩
theorem eu_revT {a : Addr} {xs : List V} (h : Ev ta σ H (.ref a)) (hx : SqT K H a xs) : EvU (tRevT K ta) σ H xs.reverse := fun H1 e Q q =>
  h H1 e _ fun H2 e2 => ⟨a, xs, rfl, ex_t (e.trans e2) hx, fun l hl => q l _ (fresh_back e2 hl) (e2.trans (Ex.new hl)) upd_same⟩
/-- a comprehension over a tuple -/
theorem el_lcT {a : Addr} {xs : List V} {tl : TE} {j : Nat} {vs : List Nat} (f : Nat → Bool) (v : Nat → V) (h : Ev tl σ H (.ref a)) (hx : SqT K H a xs) (hz : xs.length ≤ 40000) (hw : ∀ x, wipe ((wipe σ vs).set j (some x)) vs = wipe σ vs)
    (ht : ∀ (i : Nat) (x : V) H1, Ex H H1 → xs[i]? = some x → EvT t ((wipe σ vs).set j (some x)) H1 (f i)) (he : ∀ (i : Nat) (x : V) H1, Ex H H1 → xs[i]? = some x → f i = true → Ev te ((wipe σ vs).set j (some x)) H1 (v i)) :
    EvL (tLc (iTup K tl) (gName j) t te vs) σ H (given xs.length f v) := fun H0 e Q q => h H0 e _ fun H1 e1 => ⟨a, rfl, ⟨xs, ex_t (e.trans e1) hx⟩, fun Dl hD =>
  lc_tup (xs := xs) (Cw H1 f v Dl) ⟨hD, Ex.new hD, upd_same⟩ (fun i H' _ p => ex_t ((e.trans e1).trans p.2.1) hx) (fun i x H' hi p => ⟨hw x, cw_turn p (by have := (List.getElem?_eq_some_iff.mp hi).1; omega) (ht i x H1 (e.trans e1) hi) (fun hf => he i x H1 (e.trans e1) hi hf)⟩)
    (fun H' p => q Dl H' (fresh_back e1 p.1) (e1.trans p.2.1) p.2.2)⟩
theorem et_nil : EvT tYes σ H true := fun H1 _ _ q => q H1 (Ex.refl H1)
theorem el_is {xs ys : List V} (h : EvL te σ H xs) (e : xs = ys) : EvL te σ H ys := e ▸ h
theorem eu_is {xs ys : List V} (h : EvU te σ H xs) (e : xs = ys) : EvU te σ H ys := e ▸ h
/-- all are kept: the list is a map -/
theorem given_all {α : Type} (ys : List α) (g : α → V) (v : Nat → V) (hv : ∀ (i : Nat) (y : α), ys[i]? = some y → v i = g y) : given ys.length (fun _ => true) v = ys.map g := by
  unfold given
  rw [List.filter_eq_self.mpr (fun _ _ => rfl)]
  refine List.ext_getElem? fun i => ?_
  rw [List.getElem?_map, List.getElem?_map]
  by_cases hi : i < ys.length
  · rw [List.getElem?_range hi, List.getElem?_eq_getElem hi]
    exact congrArg some (hv i _ (List.getElem?_eq_getElem hi))
  · rw [List.getElem?_eq_none (by rw [List.length_range]; omega), List.getElem?_eq_none (by omega)]
    rfl
variable {D : Ends} {tu tw tz : TS}
/-- for x in a new tuple; the target is a name -/
theorem s_forNT {xs : List V} {tl : TE} {j : Nat} (h : EvU tl σ H xs) (Pv : Addr → Nat → L2.St → Hp → Prop) (h0 : ∀ p H1, H p = none → Ex H H1 → H1 p = some (.tup xs) → Pv p 0 σ H1) (hl : ∀ p i σ' H', i ≤ xs.length → Pv p i σ' H' → SqT K H' p xs)
    (hs : ∀ p i x σ' H', xs[i]? = some x → Pv p i σ' H' → tu { D with nx := Pv p (i + 1), ct := Pv p (i + 1), bk := D.nx } (σ'.set j (some x)) H') (hd : ∀ p σ' H', Pv p xs.length σ' H' → D.nx σ' H') : tFor (iTup K tl) (gName j) tu D σ H :=
  h H (Ex.refl H) _ fun p H1 hp e h1 => ⟨p, rfl, ⟨xs, st_of h1⟩, for_tup (Pv p) (h0 p H1 hp e h1) (hl p) (hs p) (hd p)⟩
theorem q_forNT {xs : List V} {tl : TE} {j : Nat} (h : EvU tl σ H xs) (Pv : Addr → Nat → L2.St → Hp → Prop) (h0 : ∀ p H1, H p = none → Ex H H1 → H1 p = some (.tup xs) → Pv p 0 σ H1) (hl : ∀ p i σ' H', i ≤ xs.length → Pv p i σ' H' → SqT K H' p xs)
    (hs : ∀ p i x σ' H', xs[i]? = some x → Pv p i σ' H' → tu { D with nx := Pv p (i + 1), ct := Pv p (i + 1), bk := tz D } (σ'.set j (some x)) H') (hd : ∀ p σ' H', Pv p xs.length σ' H' → tz D σ' H') : tSeq (tFor (iTup K tl) (gName j) tu) tz D σ H :=
  s_forNT (D := { D with nx := tz D }) h Pv h0 hl hs hd
theorem q_par {i j : Nat} (h : Ev ta σ H x) (h2 : Ev tb σ H y) (k : ∀ H1, Ex H H1 → tz D ((σ.set i (some x)).set j (some y)) H1) : tSeq (tPar i j (tCons ta (tCons tb tNil))) tz D σ H :=
  h H (Ex.refl H) _ fun H1 e1 => h2 H1 e1 _ fun H2 e2 => ⟨x, y, rfl, k H2 (e1.trans e2)⟩
theorem q_parL {i j : Nat} {xs : List V} (h : EvL ta σ H xs) (h2 : ∀ p H1, H p = none → Ex H H1 → H1 p = some (.lst xs) → Ev tb σ H1 y) (k : ∀ p H1, H p = none → Ex H H1 → H1 p = some (.lst xs) → tz D ((σ.set i (some (.ref p))).set j (some y)) H1) : tSeq (tPar i j (tCons ta (tCons tb tNil))) tz D σ H :=
  h H (Ex.refl H) _ fun p H1 hp e1 hx => h2 p H1 hp e1 hx H1 (Ex.refl H1) _ fun H2 e2 => ⟨.ref p, y, rfl, k p H2 hp (e1.trans e2) (e2 _ _ hx)⟩
theorem q_par3 {i j l : Nat} {tc : TE} (h : Ev ta σ H x) (h2 : Ev tb σ H y) (h3 : Ev tc σ H z) (k : ∀ H1, Ex H H1 → tz D (((σ.set i (some x)).set j (some y)).set l (some z)) H1) : tSeq (tPar3 i j l (tCons ta (tCons tb (tCons tc tNil)))) tz D σ H :=
  h H (Ex.refl H) _ fun H1 e1 => h2 H1 e1 _ fun H2 e2 => h3 H2 (e1.trans e2) _ fun H3 e3 => ⟨x, y, z, rfl, k H3 ((e1.trans e2).trans e3)⟩
theorem s_par3 {i j l : Nat} {tc : TE} (h : Ev ta σ H x) (h2 : Ev tb σ H y) (h3 : Ev tc σ H z) (k : ∀ H1, Ex H H1 → D.nx (((σ.set i (some x)).set j (some y)).set l (some z)) H1) : tPar3 i j l (tCons ta (tCons tb (tCons tc tNil))) D σ H :=
  h H (Ex.refl H) _ fun H1 e1 => h2 H1 e1 _ fun H2 e2 => h3 H2 (e1.trans e2) _ fun H3 e3 => ⟨x, y, z, rfl, k H3 ((e1.trans e2).trans e3)⟩
/-- a, b = (e1, e2) where the tuple is made: two names; a name and an item of a list -/
theorem q_tupNN {i j : Nat} (h : Ev ta σ H x) (h2 : Ev tb σ H y) (k : ∀ H1, Ex H H1 → tz D ((σ.set i (some x)).set j (some y)) H1) : tSeq (tAsg (tTup (tCons ta (tCons tb tNil))) (gTup K 2 (gCons (gName i) (gCons (gName j) gNil)))) tz D σ H :=
  h H (Ex.refl H) _ fun H1 e1 => h2 H1 e1 _ fun H2 e2 => ⟨by show 2 ≤ sizeLine; decide, fun p hp => ⟨p, [x, y], rfl, st_of upd_same, rfl, x, [y], rfl, y, [], rfl, rfl, k _ ((e1.trans e2).trans (Ex.new hp))⟩⟩
theorem s_tupNS {i j : Nat} {to ti : TE} {l : Addr} {xs : List V} (h : Ev ta σ H x) (h2 : Ev tb σ H y) (hl : H l = some (.lst xs)) (ho : Ev to (σ.set i (some x)) H (.ref l)) (hi : Ev ti (σ.set i (some x)) H (.int (j : Int))) (hj : j < xs.length)
    (k : ∀ H1, Ex H H1 → D.nx (σ.set i (some x)) (upd H1 l (.lst (xs.set j y)))) : tAsg (tTup (tCons ta (tCons tb tNil))) (gTup K 2 (gCons (gName i) (gCons (gSub to ti rSetL) gNil))) D σ H :=
  h H (Ex.refl H) _ fun H1 e1 => h2 H1 e1 _ fun H2 e2 => ⟨by show 2 ≤ sizeLine; decide, fun p hp => ⟨p, [x, y], rfl, st_of upd_same, rfl, x, [y], rfl, y, [], rfl,
    ho _ ((e1.trans e2).trans (Ex.new hp)) _ fun H3 e3 => hi H3 (((e1.trans e2).trans (Ex.new hp)).trans e3) _ fun H4 e4 => ⟨l, xs, (j : Int), j, rfl, rfl, ((((e1.trans e2).trans (Ex.new hp)).trans e3).trans e4) l _ hl, ixN_nat hj, rfl, k H4 ((((e1.trans e2).trans (Ex.new hp)).trans e3).trans e4)⟩⟩⟩
def SpU (sp : Sp) (vs : List V) (H : Hp) (xs : List V) : Prop := ∀ H1, Ex H H1 → ∀ Q : VK, (∀ p H2, H1 p = none → Ex H1 H2 → H2 p = some (.tup xs) → Q (.ref p) H2) → ∀ E : XK, sp vs H1 Q E
theorem eu_call {sp : Sp} {dvs vs xs : List V} {E : XK} {ta : TA} (h : EvA ta σ H vs) (hs : SpU sp (vs ++ dvs) H xs) : EvU (tCall sp dvs E ta) σ H xs := fun H1 e Q q =>
  h H1 e _ fun H2 e2 => hs H2 (e.trans e2) Q (fun p H3 hp e3 h3 => q p H3 (fresh_back e2 hp) (e2.trans e3) h3) E
def RetU (xs : List V) (H : Hp) (Q : VK) : Prop := ∀ p H2, H p = none → Ex H H2 → H2 p = some (.tup xs) → Q (.ref p) H2
theorem RetU.go {xs : List V} {Q : VK} (k : RetU xs H Q) (e : Ex H H') {p : Addr} {H2 : Hp} (hp : H' p = none) (e2 : Ex H' H2) (h : H2 p = some (.tup xs)) : Q (.ref p) H2 := k p H2 (fresh_back e hp) (e.trans e2) h
end
end Own
/-! mathematics of digits; core Lean alone -/
namespace Own
def dg (b : Nat) (k : Nat) : List Nat := if h : 1 < b ∧ 0 < k then (k % b) :: dg b (k / b) else []
termination_by k
decreasing_by exact Nat.div_lt_self h.2 h.1
theorem dg_zero (b : Nat) : dg b 0 = [] := by
  rw [dg]
  simp
theorem dg_pos {b k : Nat} (hb : 1 < b) (hk : 0 < k) : dg b k = (k % b) :: dg b (k / b) := by
  rw [dg, dif_pos ⟨hb, hk⟩]
theorem dg_lt {b : Nat} (hb : 1 < b) (k : Nat) : ∀ d ∈ dg b k, d < b := by
  induction k using Nat.strongRecOn with
  | ind k ih =>
    by_cases hk : 0 < k
    · rw [dg_pos hb hk]
      intro d hd
      rcases List.mem_cons.mp hd with rfl | hd
      · exact Nat.mod_lt _ (by omega)
      · exact ih _ (Nat.div_lt_self hk hb) d hd
    · have : k = 0 := by omega
      subst this
      rw [dg_zero]
      intro d hd
      cases hd
theorem dg_len {b : Nat} (hb : 1 < b) : ∀ (n k : Nat), k < 2 ^ n → (dg b k).length ≤ n := by
  intro n
  induction n with
  | zero =>
    intro k h
    have : k = 0 := by
      have : (2 : Nat) ^ 0 = 1 := rfl
      omega
    subst this
    rw [dg_zero]
    exact Nat.le_refl _
  | succ n ih =>
    intro k h
    by_cases hk : 0 < k
    · rw [dg_pos hb hk, List.length_cons]
      have : k / b < 2 ^ n := by
        have h1 : k / b ≤ k / 2 := Nat.div_le_div_left hb (by decide)
        rw [Nat.pow_succ] at h
        omega
      have := ih _ this
      omega
    · have : k = 0 := by omega
      subst this
      rw [dg_zero]
      exact Nat.zero_le _
/-- the integer of a row of digits -/
def od (b : Nat) : List Nat → Nat
  | [] => 0
  | d :: r => d + b * od b r
theorem od_dg {b : Nat} (hb : 1 < b) (k : Nat) : od b (dg b k) = k := by
  induction k using Nat.strongRecOn with
  | ind k ih =>
    by_cases hk : 0 < k
    · rw [dg_pos hb hk, od, ih _ (Nat.div_lt_self hk hb)]
      exact Nat.mod_add_div k b
    · have : k = 0 := by omega
      subst this
      rw [dg_zero]
      rfl
theorem od_zeros (b : Nat) : ∀ n, od b (List.replicate n 0) = 0
  | 0 => rfl
  | n + 1 => by
    rw [List.replicate_succ, od, od_zeros b n]
    omega
theorem od_app (b : Nat) : ∀ (xs : List Nat) (n : Nat), od b (xs ++ List.replicate n 0) = od b xs
  | [], n => by
    rw [List.nil_append, od_zeros]
    rfl
  | d :: r, n => by
    rw [List.cons_append, od, od, od_app b r n]
theorem od_lt {b : Nat} (hb : b ≤ 1000) : ∀ (xs : List Nat), (∀ d ∈ xs, d < b) → od b xs < 2 ^ (10 * xs.length)
  | [], _ => by
    show 0 < 2 ^ 0
    decide
  | d :: r, h => by
    have ih := od_lt hb r fun x hx => h x (List.mem_cons_of_mem _ hx)
    have hd := h d (List.mem_cons_self ..)
    rw [od, List.length_cons, Nat.mul_add, Nat.pow_add]
    have h1 : b * od b r ≤ 1000 * od b r := Nat.mul_le_mul_right _ hb
    have h2 : (2 : Nat) ^ (10 * 1) = 1024 := rfl
    rw [h2]
    omega
/-- the sum of the digits -/
def ds (b k : Nat) : Nat := (dg b k).sum
theorem ds_zero (b : Nat) : ds b 0 = 0 := by
  unfold ds
  rw [dg_zero]
  rfl
theorem ds_pos {b k : Nat} (hb : 1 < b) (hk : 0 < k) : ds b k = k % b + ds b (k / b) := by
  unfold ds
  rw [dg_pos hb hk, List.sum_cons]
theorem ds_eq {b : Nat} (hb : 1 < b) (k : Nat) : ds b k = k % b + ds b (k / b) := by
  by_cases hk : 0 < k
  · exact ds_pos hb hk
  · have : k = 0 := by omega
    subst this
    rw [Nat.zero_mod, Nat.zero_div, ds_zero]
theorem ds_le {b : Nat} (hb : 1 < b) (k : Nat) : ds b k ≤ k := by
  induction k using Nat.strongRecOn with
  | ind k ih =>
    by_cases hk : 0 < k
    · rw [ds_pos hb hk]
      have h1 := ih _ (Nat.div_lt_self hk hb)
      have h2 := Nat.mod_add_div k b
      have h3 : 1 * (k / b) ≤ b * (k / b) := Nat.mul_le_mul_right _ (by omega)
      omega
    · have : k = 0 := by omega
      subst this
      rw [ds_zero]
      exact Nat.le_refl _
/-- carries where a carry comes in; with fuel by the size -/
def cc (b : Nat) (c x y : Nat) : Nat := if h : 1 < b ∧ (0 < x ∨ 0 < y) then
    (if b ≤ x % b + y % b + c then 1 else 0) + cc b (if b ≤ x % b + y % b + c then 1 else 0) (x / b) (y / b) else 0
termination_by x + y
decreasing_by
  rcases h.2 with hx | hy
  · have h1 := Nat.div_lt_self hx h.1
    have h2 := Nat.div_le_self y b
    omega
  · have h1 := Nat.div_lt_self hy h.1
    have h2 := Nat.div_le_self x b
    omega
/-- the rule by sums of digits, with a carry c coming in -/
theorem ds_add {b : Nat} (hb : 1 < b) : ∀ (n x y c : Nat), x + y ≤ n → c ≤ 1 → ds b x + ds b y + c = ds b (x + y + c) + (b - 1) * cc b c x y := by
  intro n
  induction n using Nat.strongRecOn with
  | ind n ih =>
    intro x y c hn hc
    by_cases hxy : 0 < x ∨ 0 < y
    · rw [cc, dif_pos ⟨hb, hxy⟩]
      have hlt : x / b + y / b < n := by
        rcases hxy with hx | hy
        · have h1 := Nat.div_lt_self hx hb
          have h2 := Nat.div_le_self y b
          omega
        · have h1 := Nat.div_lt_self hy hb
          have h2 := Nat.div_le_self x b
          omega
      have hx := Nat.mod_add_div x b
      have hy := Nat.mod_add_div y b
      have mx := Nat.mod_lt x (show 0 < b by omega)
      have my := Nat.mod_lt y (show 0 < b by omega)
      rw [ds_eq hb x, ds_eq hb y, ds_eq hb (x + y + c)]
      have hs : x + y + c = (x % b + y % b + c) + b * (x / b + y / b) := by
        rw [Nat.mul_add]
        omega
      by_cases hcar : b ≤ x % b + y % b + c
      · rw [if_pos hcar]
        have e : x + y + c = (x % b + y % b + c - b) + b * (x / b + y / b + 1) := by
          rw [Nat.mul_add b _ 1]
          omega
        have e1 : (x + y + c) % b = x % b + y % b + c - b := by
          rw [e, Nat.add_mul_mod_self_left, Nat.mod_eq_of_lt (by omega)]
        have e2 : (x + y + c) / b = x / b + y / b + 1 := by
          rw [e, Nat.add_mul_div_left _ _ (by omega), Nat.div_eq_of_lt (by omega)]
          omega
        rw [e1, e2]
        have := ih _ hlt (x / b) (y / b) 1 (Nat.le_refl _) (Nat.le_refl _)
        rw [Nat.mul_add]
        omega
      · rw [if_neg hcar]
        have e1 : (x + y + c) % b = x % b + y % b + c := by
          rw [hs, Nat.add_mul_mod_self_left, Nat.mod_eq_of_lt (by omega)]
        have e2 : (x + y + c) / b = x / b + y / b := by
          rw [hs, Nat.add_mul_div_left _ _ (by omega), Nat.div_eq_of_lt (by omega)]
          omega
        rw [e1, e2]
        have := ih _ hlt (x / b) (y / b) 0 (Nat.le_refl _) (Nat.zero_le _)
        simp only [Nat.add_zero] at this
        rw [Nat.mul_add]
        omega
    · have hx : x = 0 := by omega
      have hy : y = 0 := by omega
      subst hx hy
      rw [cc, dif_neg (by simp), ds_zero]
      have : ds b (0 + 0 + c) = c := by
        rw [Nat.zero_add]
        rcases Nat.le_one_iff_eq_zero_or_eq_one.mp hc with rfl | rfl
        · exact ds_zero b
        · rw [ds_pos hb (by decide), Nat.mod_eq_of_lt hb, Nat.div_eq_of_lt hb, ds_zero]
      omega
theorem ds_plus {b : Nat} (hb : 1 < b) (x y : Nat) : ds b x + ds b y = ds b (x + y) + (b - 1) * cc b 0 x y := by
  have := ds_add hb (x + y) x y 0 (Nat.le_refl _) (Nat.zero_le _)
  simpa using this
/-- place by place: no sum of digits reaches the base -/
def nc (b : Nat) : Nat → List Nat → Bool
  | 0, _ => true
  | n + 1, xs => decide ((xs.map (· % b)).sum < b) && nc b n (xs.map (· / b))
theorem le_sum : ∀ (xs : List Nat) (x : Nat), x ∈ xs → x ≤ xs.sum
  | [], _, h => by cases h
  | a :: r, x, h => by
    rw [List.sum_cons]
    rcases List.mem_cons.mp h with rfl | h
    · omega
    · have := le_sum r x h
      omega
/-- the same by sums of digits -/
theorem sum_split {b : Nat} (hb : 1 < b) : ∀ xs : List Nat, xs.sum = (xs.map (· % b)).sum + b * (xs.map (· / b)).sum
  | [] => rfl
  | x :: r => by
    rw [List.sum_cons, List.map_cons, List.map_cons, List.sum_cons, List.sum_cons, Nat.mul_add, sum_split hb r]
    have := Nat.mod_add_div x b
    omega
theorem sumds_split {b : Nat} (hb : 1 < b) : ∀ xs : List Nat, (xs.map (ds b)).sum = (xs.map (· % b)).sum + ((xs.map (· / b)).map (ds b)).sum
  | [] => rfl
  | x :: r => by
    simp only [List.map_cons, List.sum_cons]
    rw [sumds_split hb r, ds_eq hb x]
    omega
theorem ds_sum_le {b : Nat} (hb : 1 < b) : ∀ xs : List Nat, ds b xs.sum ≤ (xs.map (ds b)).sum
  | [] => by
    rw [List.sum_nil, ds_zero]
    exact Nat.zero_le _
  | x :: r => by
    rw [List.map_cons, List.sum_cons, List.sum_cons]
    have h1 := ds_plus hb x r.sum
    have h2 := ds_sum_le hb r
    omega
theorem ds_add_le {b : Nat} (hb : 1 < b) (x y : Nat) : ds b (x + y) ≤ ds b x + ds b y := by
  have := ds_plus hb x y
  omega
theorem nc_iff {b : Nat} (hb : 1 < b) : ∀ (n : Nat) (xs : List Nat), xs.sum ≤ n → (nc b n xs = true ↔ (xs.map (ds b)).sum = ds b xs.sum) := by
  intro n
  induction n with
  | zero =>
    intro xs h
    have hz : ∀ x ∈ xs, x = 0 := fun x hx => by
      have := le_sum xs x hx
      omega
    have e1 : (xs.map (ds b)).sum = 0 := by
      have : xs.map (ds b) = xs.map (fun _ => 0) := List.map_congr_left fun x hx => by rw [hz x hx, ds_zero]
      rw [this]
      clear this hz h
      induction xs with
      | nil => rfl
      | cons a r ih => simpa using ih
    have e2 : xs.sum = 0 := by omega
    rw [e1, e2, ds_zero]
    exact ⟨fun _ => rfl, fun _ => rfl⟩
  | succ n ih =>
    intro xs h
    unfold nc
    rw [Bool.and_eq_true, decide_eq_true_eq]
    have hs := sum_split hb xs
    have hd := sumds_split hb xs
    generalize hm : (xs.map (· % b)).sum = m at hs hd ⊢
    generalize hq : xs.map (· / b) = q at hs hd ⊢
    have hqn : q.sum ≤ n := by
      by_cases h0 : q.sum = 0
      · omega
      · have : 2 * q.sum ≤ b * q.sum := Nat.mul_le_mul_right _ hb
        omega
    have ihq := ih q hqn
    by_cases hlt : m < b
    · have e1 : xs.sum % b = m := by
        rw [hs, Nat.add_mul_mod_self_left, Nat.mod_eq_of_lt hlt]
      have e2 : xs.sum / b = q.sum := by
        rw [hs, Nat.add_mul_div_left _ _ (by omega), Nat.div_eq_of_lt hlt]
        omega
      rw [hd, ds_eq hb xs.sum, e1, e2, ihq]
      constructor
      · intro ⟨_, h2⟩
        omega
      · intro h2
        exact ⟨hlt, by omega⟩
    · constructor
      · intro ⟨h1, _⟩
        exact absurd h1 hlt
      · intro h2
        exfalso
        -- the sum of digits falls by a carry
        have e1 : ds b xs.sum = ds b (m + b * q.sum) := by rw [← hs]
        have e3 : ds b (m + b * q.sum) = m % b + ds b (m / b + q.sum) := by
          rw [ds_eq hb, Nat.add_mul_mod_self_left, Nat.add_mul_div_left _ _ (by omega)]
        have e4 := ds_add_le hb (m / b) q.sum
        have e5 := ds_sum_le hb q
        have e6 := ds_le hb (m / b)
        have e7 := Nat.mod_add_div m b
        have e8 : 2 * (m / b) ≤ b * (m / b) := Nat.mul_le_mul_right _ hb
        have e9 : 1 ≤ m / b := Nat.div_pos (by omega) (by omega)
        omega
end Own
/-! own words for the laws' dice: a list of three ints that draws change -/
namespace Own
open PySem PySem.Spec PyProof.Rows L2 Evl
abbrev N_ (n : Nat) : V := .int (n : Int)
def Exd (p : Addr) (H H' : Hp) : Prop := ∀ a o, a ≠ p → H a = some o → H' a = some o
def IsDice (H : Hp) (p : Addr) : Prop := ∃ a b c : Int, H p = some (.lst [.int a, .int b, .int c])
section
variable {K : PySem.W.Frag} {H H1 H2 H' : Hp} {p a : Addr} {xs : List V}
theorem Exd.refl : Exd p H H := fun _ _ _ h => h
theorem Exd.of (e : Ex H H') : Exd p H H' := fun a o _ h => e a o h
theorem Exd.trans (x : Exd p H H1) (y : Exd p H1 H2) : Exd p H H2 := fun a o n h => y a o n (x a o n h)
theorem Exd.put {o : HO} : Exd p H (upd H p o) := fun a u n h => by rw [upd_ne n]; exact h
theorem IsDice.ex (d : IsDice H p) (e : Ex H H') : IsDice H' p := by
  obtain ⟨a, b, c, h⟩ := d
  exact ⟨a, b, c, e _ _ h⟩
theorem IsDice.seq (d : IsDice H p) : ∃ a b c : Int, SqL K H p [.int a, .int b, .int c] := by
  obtain ⟨a, b, c, h⟩ := d
  exact ⟨a, b, c, sq_of h⟩
theorem exd_t (d : IsDice H p) (e : Exd p H H') (h : SqT K H a xs) : SqT K H' a xs := by
  obtain ⟨x, y, z, hd⟩ := d
  rcases h with (h | ⟨o, h⟩) | h
  · exact .inl (.inl (e a _ (fun z => by rw [z, hd] at h; cases h) h))
  · exact .inl (.inr ⟨o, e a _ (fun z => by rw [z, hd] at h; cases h) h⟩)
  · exact .inr h
theorem exd_l (n : a ≠ p) (e : Exd p H H') (h : SqL K H a xs) : SqL K H' a xs := by
  rcases h with (h | ⟨o, h⟩) | h
  · exact .inl (.inl (e a _ n h))
  · exact .inl (.inr ⟨o, e a _ n h⟩)
  · exact .inr h
theorem new_ne (n : H a = none) (d : IsDice H p) : a ≠ p := fun z => by
  obtain ⟨x, y, w, h⟩ := d
  rw [z, h] at n
  cases n
theorem Exd.free (e : Exd p H H') (n : H' a = none) (hn : a ≠ p) : H a = none := by
  cases q : H a with
  | none => rfl
  | some o =>
    rw [e a o hn q] at n
    cases n
theorem Exd.newI {H0 : Hp} {l : Addr} {o : HO} (e : Exd p H0 H) (n : H0 l = none) : Exd p H0 (upd H l o) := fun b u hb h => by
  rw [upd_ne (ne_of_none h n)]
  exact e b u hb h
end
theorem mod_lt64 {x m : Int} (h0 : 0 < m) (h : m < 2 ^ 64) : -(2 ^ 64) < x % m ∧ x % m < 2 ^ 64 := by
  have h1 := Int.emod_nonneg x (by omega : m ≠ 0)
  have h2 := Int.emod_lt_of_pos x h0
  omega
theorem mod_abs {x m : Int} {n : Nat} (h0 : 0 < m) (h : m.toNat ≤ 2 ^ n) : (x % m).natAbs < 2 ^ n := by
  have h1 := Int.emod_nonneg x (by omega : m ≠ 0)
  have h2 := Int.emod_lt_of_pos x h0
  omega
end Own
/-! own words: == of tuples and lists of ints -/
namespace Own
open PySem PySem.Spec PyProof.Rows L2 Evl
def pdI (ns : List Int) : List PyData := ns.map PyData.int
theorem dp_ints {K : PySem.W.Frag} {H : Hp} : ∀ ns : List Int, DpAll K H (ns.map V.int) (pdI ns)
  | [] => .nil
  | n :: r => .cons (.int n) (dp_ints r)
theorem canI : ∀ ns : List Int, PyData.canLayAll0 (pdI ns) = true
  | [] => rfl
  | n :: r => by
    show (PyData.canLay0 (.int n) && PyData.canLayAll0 (pdI r)) = true
    rw [canI r]
    rfl
theorem depthI : ∀ ns : List Int, PyData.depthAll (pdI ns) = 0
  | [] => rfl
  | n :: r => by
    show max (PyData.depth (.int n)) (PyData.depthAll (pdI r)) = 0
    rw [depthI r]
    rfl
theorem shapedT (ns : List Int) : SeqAt.shaped (.tuple (pdI ns)) = true := by
  show (PyData.canLayAll0 (pdI ns) && decide (PyData.depthAll (pdI ns) + 1 ≤ 64)) = true
  rw [canI, depthI]
  rfl
theorem shapedL (ns : List Int) : SeqAt.shaped (.list (pdI ns)) = true := by
  show (PyData.canLayAll0 (pdI ns) && decide (PyData.depthAll (pdI ns) + 1 ≤ 64)) = true
  rw [canI, depthI]
  rfl
theorem eqvI : ∀ ns ms : List Int, PyData.eqvAll (pdI ns) (pdI ms) = decide (ns = ms)
  | [], [] => rfl
  | [], m :: s => by
    rw [decide_eq_false (by simp)]
    rfl
  | n :: r, [] => by
    rw [decide_eq_false (by simp)]
    rfl
  | n :: r, m :: s => by
    show (PyData.eqv (.int n) (.int m) && PyData.eqvAll (pdI r) (pdI s)) = _
    rw [eqvI r s]
    show ((n == m) && decide (r = s)) = decide (n :: r = m :: s)
    by_cases h : n = m
    · subst h
      by_cases h2 : r = s
      · subst h2
        rw [decide_eq_true rfl, decide_eq_true rfl]
        simp
      · rw [decide_eq_false h2, decide_eq_false (fun z => h2 (List.cons.inj z).2), Bool.and_false]
    · rw [decide_eq_false (fun z => h (List.cons.inj z).1), show (n == m) = false from beq_eq_false_iff_ne.mpr h, Bool.false_and]
theorem eqvT (ns ms : List Int) : PyData.eqv (.tuple (pdI ns)) (.tuple (pdI ms)) = decide (ns = ms) := eqvI ns ms
theorem eqvL (ns ms : List Int) : PyData.eqv (.list (pdI ns)) (.list (pdI ms)) = decide (ns = ms) := eqvI ns ms
section
variable {K : PySem.W.Frag} {σ : L2.St} {H H' : Hp} {ta tb : TE}
theorem rv_neT {a b : Addr} {ns ms : List Int} (h1 : SqT K H a (ns.map V.int)) (h2 : SqT K H b (ms.map V.int)) : RV (rNeD K) (.ref a) (.ref b) H (.bl (!decide (ns = ms))) := fun H1 e _ q =>
  ⟨_, _, .tup (ex_t e h1) (dp_ints ns), .tup (ex_t e h2) (dp_ints ms), shapedT _, shapedT _, by rw [eqvT]; exact q H1 (Ex.refl H1)⟩
theorem rv_eqT {a b : Addr} {ns ms : List Int} (h1 : SqT K H a (ns.map V.int)) (h2 : SqT K H b (ms.map V.int)) : RV (rEqD K) (.ref a) (.ref b) H (.bl (decide (ns = ms))) := fun H1 e _ q =>
  ⟨_, _, .tup (ex_t e h1) (dp_ints ns), .tup (ex_t e h2) (dp_ints ms), shapedT _, shapedT _, by rw [eqvT]; exact q H1 (Ex.refl H1)⟩
theorem rv_neL {a b : Addr} {ns ms : List Int} (h1 : SqL K H a (ns.map V.int)) (h2 : SqL K H b (ms.map V.int)) : RV (rNeD K) (.ref a) (.ref b) H (.bl (!decide (ns = ms))) := fun H1 e _ q =>
  ⟨_, _, .lst (ex_l e h1) (dp_ints ns), .lst (ex_l e h2) (dp_ints ms), shapedL _, shapedL _, by rw [eqvL]; exact q H1 (Ex.refl H1)⟩
theorem rv_eqL {a b : Addr} {ns ms : List Int} (h1 : SqL K H a (ns.map V.int)) (h2 : SqL K H b (ms.map V.int)) : RV (rEqD K) (.ref a) (.ref b) H (.bl (decide (ns = ms))) := fun H1 e _ q =>
  ⟨_, _, .lst (ex_l e h1) (dp_ints ns), .lst (ex_l e h2) (dp_ints ms), shapedL _, shapedL _, by rw [eqvL]; exact q H1 (Ex.refl H1)⟩
/-- the first operand a new tuple -/
theorem ev_opU1 {r : R2} {xs : List V} {y z : V} (ha : EvU ta σ H xs) (hb : ∀ H1, Ex H H1 → Ev tb σ H1 y) (hr : ∀ p H1, H1 p = some (.tup xs) → Ex H H1 → RV r (.ref p) y H1 z) : Ev (tOp r ta tb) σ H z := fun H1 e Q q =>
  ha H1 e _ fun p H2 _ e2 hp => hb H2 (e.trans e2) H2 (Ex.refl H2) _ fun H3 e3 => hr p H3 (e3 p _ hp) ((e.trans e2).trans e3) H3 (Ex.refl H3) Q fun H4 e4 => q H4 ((e2.trans e3).trans e4)
/-- t + u of tuples, whatever object comes out -/
theorem catA_go {row q : Addr} {xs ys : List V} {Q : VK} (h1 : SqT K H row xs) (h2 : SqT K H q ys) (hl : xs.length + ys.length ≤ 100000) (k : ∀ a H', Ex H H' → SqT K H' a (xs ++ ys) → Q (.ref a) H') : rCatA K (.ref row) (.ref q) H Q :=
  ⟨row, q, xs, ys, rfl, rfl, h1, h2, sz_of hl, fun e => k q H (Ex.refl H) (by rw [e]; exact h2), fun _ e => k row H (Ex.refl H) (by rw [e, List.append_nil]; exact h1), fun _ _ p hp => k p _ (Ex.new hp) (st_of upd_same)⟩
/-- t[1:] of a tuple with an item -/
theorem eu_sl1 {a : Addr} {xs : List V} (h : Ev ta σ H (.ref a)) (hx : SqT K H a xs) (hl : 0 < xs.length) (hcut : cutV xs (some 1) none = xs.drop 1) : EvU (tSl (rSlT K) ta (tPart (tC (.int 1))) tNoPart) σ H (xs.drop 1) := fun H1 e Q q =>
  h H1 e _ fun H2 e2 => ⟨1, rfl, a, xs, rfl, ex_t (e.trans e2) hx, fun z => by
    have h1 := z.1
    rw [show HT.sIx xs.length 0 (some 1) = min 1 xs.length from HT.sIx_nat xs.length 0 1] at h1
    omega, fun p hp => q p _ (fresh_back e2 hp) (e2.trans (Ex.new hp)) (by rw [hcut]; exact upd_same)⟩
theorem ev_sumU {ns : List Int} (h : EvU ta σ H (ns.map V.int)) : Ev (tCB (rSumT K) (tCons ta tNil)) σ H (.int ns.sum) := fun H1 e _ q =>
  h H1 e _ fun p H2 _ e2 h2 => ⟨p, ns, rfl, st_of h2, q H2 e2⟩
/-- [..] * k -/
theorem el_rep {xs : List V} {k : Int} (h : EvL ta σ H xs) (h2 : Ev tb σ H (.int k)) (h0 : 0 ≤ k) (hk : xs.length * k.toNat ≤ 100000) (hk2 : k ≤ 100000) : EvL (tOp rRep ta tb) σ H (List.replicate k.toNat xs).flatten := fun H1 e Q q =>
  h H1 e _ fun p H2 hp e2 hx => h2 H2 (e.trans e2) _ fun H3 e3 => ⟨p, k, xs, rfl, rfl, e3 _ _ hx, by omega, by omega, sz_of hk, fun l hl => q l _ (fresh_back (e2.trans e3) hl) ((e2.trans e3).trans (Ex.new hl)) upd_same⟩
end
end Own
/-! own words: written tables with integer keys; their values integers, tuples of integers, tuples of those -/
namespace Own
open PySem PySem.Spec PyProof.Rows L2 Evl
theorem asInt_eq {v : Value} {i : Int} (h : asInt v = some i) : ∃ t, v = .int i t := by
  cases v <;> simp [asInt] at h
  subst h
  exact ⟨_, rfl⟩
theorem asInts_vals : ∀ {l : List Value} {ns : List Int}, asInts l = some ns → Vals (ns.map V.int) l
  | [], ns, h => by
    cases (Option.some.inj h : [] = ns)
    exact .nil
  | v :: r, ns, h => by
    unfold asInts at h
    split at h
    · rename_i i is h1 h2
      cases (Option.some.inj h : (i :: is) = ns)
      obtain ⟨t, rfl⟩ := asInt_eq h1
      exact .cons ⟨t, rfl⟩ (asInts_vals h2)
    · cases h
theorem asTup_eq {K : Fr_} {v : Value} {l : List Value} (h : asTup K v = some l) : ∃ (a : Addr) (o : Obj) (its : Array Value) (n : Nat), v = .ref a ∧ K.lookup a = some o ∧ o.cls = .type "tuple" ∧ o.data = .seq its n ∧ its.size ≤ 1000 ∧ its.toList = l := by
  unfold asTup at h
  split at h
  · split at h
    · rename_i a _ T dd its n sl e
      split at h
      · rename_i hc
        refine ⟨a, _, its, n, rfl, e, ?_, rfl, hc.2, Option.some.inj h⟩
        rw [hc.1]
      · cases h
    · cases h
  · cases h
theorem asRow_eq {K : Fr_} {v : Value} {ns : List Int} (h : asRow K v = some ns) : ∃ a : Addr, v = .ref a ∧ ∀ H, SqT K H a (ns.map V.int) := by
  unfold asRow at h
  split at h
  · rename_i l e
    obtain ⟨a, o, its, n, rfl, hl, hc, hd, hz, rfl⟩ := asTup_eq e
    exact ⟨a, rfl, fun H => .inr ⟨o, its, n, hl, hc, hd, Nat.le_trans hz (by decide), asInts_vals h⟩⟩
  · cases h
/-- a row of rows -/
def Rws (K : Fr_) (H : Hp) (rs : List Addr) (xss : List (List Int)) : Prop := rs.length = xss.length ∧ ∀ (i : Nat) (r : Addr) (xs : List Int), rs[i]? = some r → xss[i]? = some xs → SqT K H r (xs.map V.int)
theorem asRowsL_eq {K : Fr_} : ∀ {l : List Value} {xss : List (List Int)}, asRowsL K l = some xss → ∃ rs : List Addr, Vals (rs.map V.ref) l ∧ ∀ H, Rws K H rs xss
  | [], xss, h => by
    cases (Option.some.inj h : [] = xss)
    exact ⟨[], .nil, fun H => ⟨rfl, fun i r xs h => by simp at h⟩⟩
  | v :: l, xss, h => by
    unfold asRowsL at h
    split at h
    · rename_i i is h1 h2
      cases (Option.some.inj h : (i :: is) = xss)
      obtain ⟨a, rfl, hs⟩ := asRow_eq h1
      obtain ⟨rs, hv, hr⟩ := asRowsL_eq h2
      refine ⟨a :: rs, .cons rfl hv, fun H => ⟨by rw [List.length_cons, List.length_cons, (hr H).1], fun j r xs e1 e2 => ?_⟩⟩
      cases j with
      | zero =>
        cases (Option.some.inj e1 : a = r)
        cases (Option.some.inj e2 : i = xs)
        exact hs H
      | succ j => exact (hr H).2 j r xs e1 e2
    · cases h
theorem asRows_eq {K : Fr_} {v : Value} {xss : List (List Int)} (h : asRows K v = some xss) : ∃ (a : Addr) (rs : List Addr), v = .ref a ∧ ∀ H, SqT K H a (rs.map V.ref) ∧ Rws K H rs xss := by
  unfold asRows at h
  split at h
  · rename_i l e
    obtain ⟨a, o, its, n, rfl, hl, hc, hd, hz, rfl⟩ := asTup_eq e
    obtain ⟨rs, hv, hr⟩ := asRowsL_eq h
    exact ⟨a, rs, rfl, fun H => ⟨.inr ⟨o, its, n, hl, hc, hd, Nat.le_trans hz (by decide), hv⟩, hr H⟩⟩
  · cases h
theorem entriesI_find : ∀ {es : List DictEntry} {t : List (Int × Value)}, entriesI es = some t → (∀ e ∈ es, ∃ i tk, e.key = .int i tk ∧ e.hash = hashInt i) ∧ ∀ i, (es.find? fun e => Value.isInt i e.key).map (·.val) = t.lookup i
  | [], t, h => by
    cases (Option.some.inj h : [] = t)
    exact ⟨fun e he => (List.not_mem_nil he).elim, fun i => rfl⟩
  | e :: r, t, h => by
    unfold entriesI at h
    split at h
    · rename_i i is h1 h2
      split at h
      · rename_i hh
        cases (Option.some.inj h : ((i, e.val) :: is) = t)
        obtain ⟨tk, hk⟩ := asInt_eq h1
        obtain ⟨a1, a2⟩ := entriesI_find h2
        refine ⟨fun e' he => ?_, fun j => ?_⟩
        · rcases List.mem_cons.mp he with rfl | he
          · exact ⟨i, tk, hk, hh⟩
          · exact a1 e' he
        · rw [List.find?_cons, List.lookup_cons]
          have : Value.isInt j e.key = (i == j) := by rw [hk]; rfl
          rw [this]
          by_cases hij : i = j
          · subst hij
            rw [show (i == i) = true from beq_self_eq_true i]
            rfl
          · rw [show (i == j) = false from beq_eq_false_iff_ne.mpr hij, show (j == i) = false from beq_eq_false_iff_ne.mpr (Ne.symm hij)]
            exact a2 j
      · cases h
    · cases h
section
variable {X : Cx}
/-- d[i] of a written dict -/
def rIxW (K : Fr_) : R2 := fun x y H Q => ∃ (d : Addr) (i : Int) (t : List (Int × Value)) (u0 : Value) (v0 : V), x = .ref d ∧ y = .int i ∧ tabOf K d = some t ∧ t.lookup i = some u0 ∧ RelV v0 u0 ∧ Q v0 H
theorem ix_tab : IxR X (rIxW X.K) := by
  intro value slice pins s σ H x y v u Q I rx ry h hs
  obtain ⟨d, i, t, u0, v0, rfl, rfl, ht, hl, hr, q⟩ := h
  cases rx
  obtain ⟨tk, rfl⟩ := ry
  unfold tabOf at ht
  split at ht
  · rename_i T es n sl hk
    split at ht
    · rename_i hc
      obtain ⟨hT, hsl⟩ := hc
      subst hT hsl
      obtain ⟨a1, a2⟩ := entriesI_find ht
      have hm : s.heap.MapOf (intKind X.prog X.w) d (fun k => findBy Value.isInt es k) :=
        ⟨_, es, n, I.kIn d _ hk, ⟨rfl, rfl, rfl⟩, rfl, fun e he => by
          obtain ⟨j, tk, e1, e2⟩ := a1 e (Array.mem_toList_iff.mpr he)
          exact ⟨j, by rw [e1]; exact intKind_is X.prog X.w j tk, e2⟩, fun _ => rfl⟩
      have hf : (fun k => findBy Value.isInt es k) i = some u0 := by
        show findBy Value.isInt es i = some u0
        unfold findBy
        rw [← Array.find?_toList, a2 i]
        exact hl
      exact tail_any hm.typeIs slot_dict_getitem.lookup (wpAny_getItem_of (intKind_is X.prog X.w i tk) hm hf ⟨v0, H, I.tok _, hr, q⟩) hs
    · cases ht
  · cases ht
end
theorem mapV2_lookup {α β : Type} {f : α → Option β} : ∀ {t : List (Int × α)} {u : List (Int × β)}, mapV2 f t = some u → ∀ i w, u.lookup i = some w → ∃ v, t.lookup i = some v ∧ f v = some w
  | [], u, h, i, w, e => by
    cases (Option.some.inj h : [] = u)
    cases e
  | (j, v) :: r, u, h, i, w, e => by
    unfold mapV2 at h
    split at h
    · rename_i w' is h1 h2
      cases (Option.some.inj h : ((j, w') :: is) = u)
      rw [List.lookup_cons] at e ⊢
      by_cases hij : (i == j) = true
      · rw [hij] at e ⊢
        cases (Option.some.inj e : w' = w)
        exact ⟨v, rfl, h1⟩
      · rw [Bool.not_eq_true] at hij
        rw [hij] at e ⊢
        exact mapV2_lookup h2 i w e
    · cases h
section
variable {K : Fr_} {σ : L2.St} {H H' : Hp} {ta tb : TE}
theorem rv_tab0 {d : Addr} {t : List (Int × Int)} {i w : Int} (h : tab0 K d = some t) (hl : t.lookup i = some w) : RV (rIxW K) (.ref d) (.int i) H (.int w) := fun H1 _ _ q => by
  obtain ⟨t0, h1, h2⟩ := Option.bind_eq_some_iff.mp h
  obtain ⟨v, h3, h4⟩ := mapV2_lookup h2 i w hl
  obtain ⟨tk, rfl⟩ := asInt_eq h4
  exact ⟨d, i, t0, _, .int w, rfl, rfl, h1, h3, ⟨tk, rfl⟩, q H1 (Ex.refl H1)⟩
theorem tab1_get {d : Addr} {t : List (Int × List Int)} {i : Int} {w : List Int} (h : tab1 K d = some t) (hl : t.lookup i = some w) : ∃ a : Addr, (∀ H, SqT K H a (w.map V.int)) ∧ ∀ H, RV (rIxW K) (.ref d) (.int i) H (.ref a) := by
  obtain ⟨t0, h1, h2⟩ := Option.bind_eq_some_iff.mp h
  obtain ⟨v, h3, h4⟩ := mapV2_lookup h2 i w hl
  obtain ⟨a, rfl, hs⟩ := asRow_eq h4
  exact ⟨a, hs, fun H H1 _ _ q => ⟨d, i, t0, _, .ref a, rfl, rfl, h1, h3, rfl, q H1 (Ex.refl H1)⟩⟩
theorem tab2_get {d : Addr} {t : List (Int × List (List Int))} {i : Int} {w : List (List Int)} (h : tab2 K d = some t) (hl : t.lookup i = some w) : ∃ (a : Addr) (rs : List Addr), (∀ H, SqT K H a (rs.map V.ref) ∧ Rws K H rs w) ∧ ∀ H, RV (rIxW K) (.ref d) (.int i) H (.ref a) := by
  obtain ⟨t0, h1, h2⟩ := Option.bind_eq_some_iff.mp h
  obtain ⟨v, h3, h4⟩ := mapV2_lookup h2 i w hl
  obtain ⟨a, rs, rfl, hs⟩ := asRows_eq h4
  exact ⟨a, rs, hs, fun H H1 _ _ q => ⟨d, i, t0, _, .ref a, rfl, rfl, h1, h3, rfl, q H1 (Ex.refl H1)⟩⟩
/-- TAB[i][j], TAB[i][j][k] of written tables -/
theorem ev_tab0 {d : Addr} {t : List (Int × Int)} {i w : Int} (h : tab0 K d = some t) (hl : t.lookup i = some w) (ha : Ev ta σ H (.int i)) : Ev (tOp (rIxW K) (tC (.ref d)) ta) σ H (.int w) := ev_op ev_c ha (rv_tab0 h hl)
theorem ev_tab1 {d : Addr} {t : List (Int × List Int)} {i : Int} {j : Nat} {w : List Int} {x : Int} (h : tab1 K d = some t) (hl : t.lookup i = some w) (hx : w[j]? = some x) (ha : Ev ta σ H (.int i)) (hb : Ev tb σ H (.int (j : Int))) :
    Ev (tOp (rIxT K) (tOp (rIxW K) (tC (.ref d)) ta) tb) σ H (.int x) := by
  obtain ⟨a, hs, hr⟩ := tab1_get h hl
  exact ev_op (ev_op ev_c ha (hr H)) hb (rv_ixT (hs H) (atI_nat (by rw [List.getElem?_map, hx]; rfl)))
theorem ev_tab2 {d : Addr} {t : List (Int × List (List Int))} {i : Int} {j k : Nat} {w : List (List Int)} {xs : List Int} {x : Int} {tc : TE} (h : tab2 K d = some t) (hl : t.lookup i = some w) (hx : w[j]? = some xs) (hy : xs[k]? = some x) (ha : Ev ta σ H (.int i)) (hb : Ev tb σ H (.int (j : Int))) (hc : Ev tc σ H (.int (k : Int))) :
    Ev (tOp (rIxT K) (tOp (rIxT K) (tOp (rIxW K) (tC (.ref d)) ta) tb) tc) σ H (.int x) := by
  obtain ⟨a, rs, hs, hr⟩ := tab2_get h hl
  obtain ⟨h1, h2, h3⟩ := hs H
  have hj : j < rs.length := by rw [h2]; exact (List.getElem?_eq_some_iff.mp hx).1
  exact ev_op (ev_op (ev_op ev_c ha (hr H)) hb (rv_ixT (v := .ref rs[j]) h1 (atI_nat (by rw [List.getElem?_map, List.getElem?_eq_getElem hj]; rfl)))) hc (rv_ixT (h3 j _ xs (List.getElem?_eq_getElem hj) hx) (atI_nat (by rw [List.getElem?_map, hy]; rfl)))
end
end Own
/-! own words: enumerate, ranges by steps and from a place, lists of lists, sorted lists, values that are no integers -/
namespace Own
open PySem PySem.Spec PyProof.Rows L2 Evl
section
variable {K : PySem.W.Frag} {σ : L2.St} {H H' : Hp} {ta tb te : TE} {t : TT} {D : Ends} {tu tz : TS}
theorem for_enum {a : Addr} {xs : List V} {g : TG} {tb : TS} {D : Ends} {σ : L2.St} {H : Hp} (Pv : Nat → L2.St → Hp → Prop) (h0 : Pv 0 σ H) (hl : ∀ i σ H, i ≤ xs.length → Pv i σ H → SqL K H a xs)
    (hs : ∀ i x T σ H, xs[i]? = some x → Pv i σ H → H T = none → g (.ref T) σ (upd H T (.tup [.int (i : Nat), x])) fun σ2 H2 => tb { D with nx := Pv (i + 1), ct := Pv (i + 1), bk := D.nx } σ2 H2) (hd : ∀ σ H, Pv xs.length σ H → D.nx σ H) :
    ∃ W : Nat → Nat → L2.St → Hp → Prop, (∃ m, W 0 m σ H) ∧ ∀ i m σ H, W i m σ H →
      ((Ite K a).stop i H ∧ D.nx σ H) ∨ ((Ite K a).go i H ∧ ∃ N : L2.St → Hp → Prop, (∀ σ' H', N σ' H' → ∃ m', m' < m ∧ W (i + 1) m' σ' H') ∧ ∀ x H', (Ite K a).yld i H x H' → g x σ H' fun σ2 H2 => tb { D with nx := N, ct := N, bk := D.nx } σ2 H2) := by
  refine ⟨fun i m σ H => m = xs.length - i ∧ i ≤ xs.length ∧ Pv i σ H, ⟨xs.length, by simp, Nat.zero_le _, h0⟩, ?_⟩
  rintro i m σ H ⟨rfl, hi, p⟩
  have q := hl i σ H hi p
  by_cases hlt : i < xs.length
  · refine .inr ⟨⟨xs, xs[i], q, by simp [hlt]⟩, Pv (i + 1), fun σ' H' p' => ⟨xs.length - (i + 1), by omega, rfl, hlt, p'⟩, fun x H' y => ?_⟩
    obtain ⟨T, z, rfl, nT, rfl, f⟩ := y
    have hz := f xs q
    exact hs i z T σ H hz p nT
  · exact .inl ⟨⟨xs, q, by omega⟩, by
      have : i = xs.length := by omega
      subst this
      exact hd σ H p⟩
/-- for i, x in enumerate(new list), two names -/
theorem s_forEN {xs : List V} {ta : TE} {i1 i2 : Nat} (h : EvL ta σ H xs) (Pv : Addr → Nat → L2.St → Hp → Prop) (h0 : ∀ p H1, H p = none → Ex H H1 → H1 p = some (.lst xs) → Pv p 0 σ H1) (hl : ∀ p i σ' H', i ≤ xs.length → Pv p i σ' H' → SqL K H' p xs)
    (hs : ∀ p i x σ' H' H2, xs[i]? = some x → Pv p i σ' H' → Ex H' H2 → tu { D with nx := Pv p (i + 1), ct := Pv p (i + 1), bk := D.nx } ((σ'.set i1 (some (.int (i : Nat)))).set i2 (some x)) H2) (hd : ∀ p σ' H', Pv p xs.length σ' H' → D.nx σ' H') :
    tFor (iEnum K (tCons ta tNil)) (gTup K 2 (gCons (gName i1) (gCons (gName i2) gNil))) tu D σ H :=
  h H (Ex.refl H) _ fun p H1 hp e h1 => ⟨p, xs, rfl, sq_of h1, for_enum (xs := xs) (Pv p) (h0 p H1 hp e h1) (hl p) (fun i x T σ' H' hx hp nT => ⟨T, [.int (i : Nat), x], rfl, st_of upd_same, rfl, .int (i : Nat), [x], rfl, x, [], rfl, rfl, hs p i x σ' H' _ hx hp (Ex.new nT)⟩) (hd p)⟩
theorem q_forEN {xs : List V} {ta : TE} {i1 i2 : Nat} (h : EvL ta σ H xs) (Pv : Addr → Nat → L2.St → Hp → Prop) (h0 : ∀ p H1, H p = none → Ex H H1 → H1 p = some (.lst xs) → Pv p 0 σ H1) (hl : ∀ p i σ' H', i ≤ xs.length → Pv p i σ' H' → SqL K H' p xs)
    (hs : ∀ p i x σ' H' H2, xs[i]? = some x → Pv p i σ' H' → Ex H' H2 → tu { D with nx := Pv p (i + 1), ct := Pv p (i + 1), bk := tz D } ((σ'.set i1 (some (.int (i : Nat)))).set i2 (some x)) H2) (hd : ∀ p σ' H', Pv p xs.length σ' H' → tz D σ' H') :
    tSeq (tFor (iEnum K (tCons ta tNil)) (gTup K 2 (gCons (gName i1) (gCons (gName i2) gNil))) tu) tz D σ H := s_forEN (D := { D with nx := tz D }) h Pv h0 hl hs hd
/-- for i in range(a, b, -1) -/
theorem q_forRd {j : Nat} {lo n : Int} {ta : TA} (h : EvA ta σ H [.int lo, .int n, .int (-1)]) (hn : -100000 ≤ lo ∧ lo ≤ 100000 ∧ -100000 ≤ n ∧ n ≤ 100000) (Pv : Nat → L2.St → Hp → Prop) (h0 : ∀ H1, Ex H H1 → Pv 0 σ H1)
    (hs : ∀ (i : Nat) σ' H', (i : Int) < lo - n → Pv i σ' H' → tu { D with nx := Pv (i + 1), ct := Pv (i + 1), bk := tz D } (σ'.set j (some (.int (lo - (i : Int))))) H') (hd : ∀ σ' H', Pv (lo - n).toNat σ' H' → tz D σ' H') : tSeq (tFor (iRng3 ta) (gName j) tu) tz D σ H :=
  h H (Ex.refl H) _ fun H1 e => ⟨lo, n, -1, (lo - n).toNat, rfl, RgC.neg (by omega) (by omega) (by omega) (by omega), for_rangeC (lo := lo) (c := -1) (n := (lo - n).toNat) (D := { D with nx := tz D }) Pv (h0 H1 e) (fun i σ' H' hi p => by
    have e0 : lo + (i : Int) * -1 = lo - (i : Int) := by omega
    show tu { D with nx := Pv (i + 1), ct := Pv (i + 1), bk := tz D } (σ'.set j (some (.int (lo + (i : Int) * -1)))) H'
    rw [e0]
    exact hs i σ' H' (by omega) p) hd⟩
/-- [.. for i in range(lo, n) ..] -/
theorem el_lcR2 {ta : TA} {j : Nat} {vs : List Nat} {lo n : Int} (f : Nat → Bool) (v : Nat → V) (h : EvA ta σ H [.int lo, .int n]) (hn : -100000 ≤ lo ∧ lo ≤ 100000 ∧ n - lo ≤ 40000 ∧ -100000 ≤ n ∧ n ≤ 100000) (hw : ∀ x, wipe ((wipe σ vs).set j (some x)) vs = wipe σ vs)
    (ht : ∀ (i : Nat) H1, Ex H H1 → lo + (i : Int) < n → EvT t ((wipe σ vs).set j (some (.int (lo + (i : Int))))) H1 (f i)) (he : ∀ (i : Nat) H1, Ex H H1 → lo + (i : Int) < n → f i = true → Ev te ((wipe σ vs).set j (some (.int (lo + (i : Int))))) H1 (v i)) :
    EvL (tLc (iRng2 ta) (gName j) t te vs) σ H (given (n - lo).toNat f v) := fun H0 e Q q => h H0 e _ fun H1 e1 => ⟨lo, n, rfl, ⟨by omega, by omega, by omega, by omega⟩, fun Dl hD =>
  lc_range (lo := lo) (n := (n - lo).toNat) (Cw H1 f v Dl) ⟨hD, Ex.new hD, upd_same⟩ (fun i H' hi p => ⟨hw _, cw_turn p (by omega) (ht i H1 (e.trans e1) (by omega)) (fun hf => he i H1 (e.trans e1) (by omega) hf)⟩) (fun H' p => q Dl H' (fresh_back e1 p.1) (e1.trans p.2.1) p.2.2)⟩
/-- a new list of new lists -/
def EvLL (te : TE) (σ : L2.St) (H : Hp) (xss : List (List V)) : Prop := ∀ H1, Ex H H1 → ∀ Q : VK, (∀ (p : Addr) (rs : List Addr) H2, H1 p = none → Ex H1 H2 → H2 p = some (.lst (rs.map V.ref)) → rs.length = xss.length → (∀ (i : Nat) (r : Addr) (xs : List V), rs[i]? = some r → xss[i]? = some xs → H1 r = none ∧ H2 r = some (.lst xs)) → Q (.ref p) H2) → te σ H1 Q
theorem ell_is {xs ys : List (List V)} (h : EvLL te σ H xs) (e : xs = ys) : EvLL te σ H ys := e ▸ h
def LLw (H : Hp) (xss : List (List V)) (Dl : Addr) (i : Nat) (H' : Hp) : Prop := H Dl = none ∧ Ex H H' ∧ ∃ rs : List Addr, rs.length = i ∧ H' Dl = some (.lst (rs.map V.ref)) ∧ ∀ (k : Nat) (r : Addr) (xs : List V), rs[k]? = some r → xss[k]? = some xs → H r = none ∧ H' r = some (.lst xs) ∧ r ≠ Dl
theorem llw_turn {σ2 : L2.St} {xss : List (List V)} {Dl : Addr} {i : Nat} {xs : List V} (p : LLw H xss Dl i H') (hi : i < 50000) (hx : xss[i]? = some xs) (he : EvL te σ2 H xs) :
    tYes σ2 H' fun b H3 => if b = true then te σ2 H3 fun y H4 => ∃ acc, H4 Dl = some (.lst acc) ∧ acc.length < sizeLine ∧ LLw H xss Dl (i + 1) (upd H4 Dl (.lst (acc ++ [y]))) else LLw H xss Dl (i + 1) H3 := by
  obtain ⟨p1, p2, rs, p3, p4, p5⟩ := p
  show (if true = true then _ else LLw H xss Dl (i + 1) H')
  rw [if_pos rfl]
  refine (he H' p2 _ fun q H4 hq e4 h4 => ⟨rs.map V.ref, e4 _ _ p4, by rw [List.length_map]; exact sz_lt (by omega), p1, Ex.mut (p2.trans e4) p1, rs ++ [q], by rw [List.length_append, p3]; rfl, ?_, fun k r xs' hk hxk => ?_⟩)
  · rw [upd_same, List.map_append]
    rfl
  · by_cases hkr : k < rs.length
    · rw [List.getElem?_append_left hkr] at hk
      obtain ⟨a1, a2, a3⟩ := p5 k r xs' hk hxk
      exact ⟨a1, by rw [upd_ne a3]; exact e4 _ _ a2, a3⟩
    · rw [List.getElem?_append_right (by omega)] at hk
      have hk0 : k - rs.length = 0 := by
        have := (List.getElem?_eq_some_iff.mp hk).1
        rw [List.length_singleton] at this
        omega
      rw [hk0] at hk
      cases (Option.some.inj hk : q = r)
      have hki : k = i := by omega
      subst hki
      cases (Option.some.inj (hx.symm.trans hxk) : xs = xs')
      have hqD : q ≠ Dl := fun z => by
        subst z
        rw [hq] at p4
        cases p4
      exact ⟨fresh_back p2 hq, by rw [upd_ne hqD]; exact h4, hqD⟩
theorem ell_lcR1 {ta : TA} {j : Nat} {vs : List Nat} {n : Nat} {xss : List (List V)} (h : EvA ta σ H [.int (n : Int)]) (hn : n ≤ 40000) (hl : xss.length = n) (hw : ∀ x, wipe ((wipe σ vs).set j (some x)) vs = wipe σ vs)
    (he : ∀ (i : Nat) (xs : List V) H1, Ex H H1 → i < n → xss[i]? = some xs → EvL te ((wipe σ vs).set j (some (.int (i : Int)))) H1 xs) :
    EvLL (tLc (iRng1 ta) (gName j) tYes te vs) σ H xss := fun H0 e Q q => h H0 e _ fun H1 e1 => ⟨(n : Int), rfl, by omega, by omega, fun Dl hD => by
  rw [Int.toNat_natCast]
  refine lc_range (lo := 0) (n := n) (LLw H1 xss Dl) ⟨hD, Ex.new hD, [], rfl, upd_same, fun k r xs hk => by simp at hk⟩ (fun i H' hi p => ?_) (fun H' p => ?_)
  · have e0 : (0 : Int) + (i : Int) = (i : Int) := Int.zero_add _
    show wipe ((wipe σ vs).set j (some (.int ((0 : Int) + (i : Int))))) vs = wipe σ vs ∧ tYes ((wipe σ vs).set j (some (.int ((0 : Int) + (i : Int))))) H' fun b H3 => if b = true then te ((wipe σ vs).set j (some (.int ((0 : Int) + (i : Int))))) H3 fun y H4 => ∃ acc, H4 Dl = some (.lst acc) ∧ acc.length < sizeLine ∧ LLw H1 xss Dl (i + 1) (upd H4 Dl (.lst (acc ++ [y]))) else LLw H1 xss Dl (i + 1) H3
    rw [e0]
    have hx : xss[i]? = some xss[i] := List.getElem?_eq_getElem (by omega)
    exact ⟨hw _, llw_turn p (by omega) hx (he i _ H1 (e.trans e1) hi hx)⟩
  · obtain ⟨p1, p2, rs, p3, p4, p5⟩ := p
    exact q Dl rs H' (fresh_back e1 p1) (e1.trans p2) p4 (by omega) fun i r xs hr hx => ⟨fresh_back e1 (p5 i r xs hr hx).1, (p5 i r xs hr hx).2.1⟩⟩
/-- list(range(lo, n)) -/
theorem el_listR1 {n : Nat} (h : Ev ta σ H (.int (n : Int))) (hn : n ≤ 100000) : EvL (tLstRg (tRg1 ta)) σ H (rgV 0 (n : Int)) := fun H1 e Q q =>
  h H1 e _ fun H2 e2 => ⟨(n : Int), rfl, RgOk.of_le (by omega) (by omega) (by omega) (by omega), fun l hl => q l _ (fresh_back e2 hl) (e2.trans (Ex.new hl)) upd_same⟩
theorem el_listR2 {lo n : Nat} (h : Ev ta σ H (.int (lo : Int))) (h2 : Ev tb σ H (.int (n : Int))) (hn : n ≤ 100000) (hlo : lo ≤ 100000) : EvL (tLstRg (tRg2 ta tb)) σ H (rgV (lo : Int) (n : Int)) := fun H1 e Q q =>
  h H1 e _ fun H2 e2 => h2 H2 (e.trans e2) _ fun H3 e3 => ⟨(lo : Int), (n : Int), rfl, rfl, RgOk.of_le (by omega) (by omega) (by omega) (by omega), fun l hl => q l _ (fresh_back (e2.trans e3) hl) ((e2.trans e3).trans (Ex.new hl)) upd_same⟩
/-- sorted(..) of a list whose order is known -/
theorem el_sorted {a : Addr} {ns ts : List Int} (h : Ev ta σ H (.ref a)) (hx : SqL K H a (ns.map V.int)) (hp : ts.Perm ns) (hs : ts.Pairwise (· ≤ ·)) : EvL (tCB (rSortedI K) (tCons ta tNil)) σ H (ts.map V.int) := fun H1 e Q q =>
  h H1 e _ fun H2 e2 => ⟨a, ns, rfl, ex_l (e.trans e2) hx, fun ns' p p1 p2 hp' => by
    have : ns' = ts := PySem.W.ksm_same (p1.trans hp.symm) p2 hs
    subst this
    exact q p _ (fresh_back e2 hp') (e2.trans (Ex.new hp')) upd_same⟩
/-- what isinstance(.., int) and the rest of is_integer say of a value -/
inductive IntB (K : PySem.W.Frag) (H : Hp) : V → Bool → Prop
  | int (i : Int) : IntB K H (.int i) (decide (i.natAbs < 10 ^ 60))
  | bl (b : Bool) : IntB K H (.bl b) false
  | other {v : V} (n : String) (h : TyX K H v (.type n)) (hk : PySem.W.kitOne K (.type n) (.type "int") = some false) : IntB K H v false
theorem IntB.ex {v : V} {b : Bool} (e : Ex H H') (h : IntB K H v b) : IntB K H' v b := by
  cases h with
  | int i => exact .int i
  | bl b => exact .bl b
  | other n h hk => exact .other n (tyx_ex e h) hk
end
end Own
/-! own words that the laws share -/
namespace Own
open PySem PySem.Spec PyProof.Rows L2 Evl
theorem mapN (xs : List Nat) : xs.map N_ = (xs.map Int.ofNat).map V.int := by
  rw [List.map_map]
  rfl
theorem sumN : ∀ (xs : List Nat), (xs.map Int.ofNat).sum = ((xs.sum : Nat) : Int)
  | [] => rfl
  | x :: r => by
    rw [List.map_cons, List.sum_cons, List.sum_cons, sumN r]
    show (x : Int) + _ = _
    omega
theorem divW {x : Nat} {b : Nat} (h0 : 0 < b) (hb : b ≤ 1000) : CDivW (x : Int) (b : Int) := wide_div (b := 10) (by omega) (by show (Int.natAbs (b : Int)) < 1024; omega) (by decide) (by decide)
theorem int_div (x b : Nat) : (x : Int) / (b : Int) = ((x / b : Nat) : Int) := rfl
theorem int_mod (x b : Nat) : (x : Int) % (b : Int) = ((x % b : Nat) : Int) := rfl
def Bs (b : Nat) : Prop := 2 ≤ b ∧ b ≤ 1000
abbrev Gt (n : Nat) : Prop := n < 2 ^ 400
theorem dec_int {x y : Nat} : decide (V.int (x : Int) = V.int (y : Int)) = decide (x = y) := by
  by_cases h : x = y
  · subst h
    rw [decide_eq_true rfl, decide_eq_true rfl]
  · rw [decide_eq_false h, decide_eq_false (fun z => h (by have := V.int.inj z; omega))]
theorem minmax (M : Nat) (hM : 1 ≤ M ∧ M ≤ 60) (L : Nat) : ∃ n : Nat, n ≤ 100 ∧ (if (if (L : Int) < (M : Int) then (L : Int) else (M : Int)) > 1 then (if (L : Int) < (M : Int) then (L : Int) else (M : Int)) else 1) = (n : Int) := by
  have hz : ∀ z : Int, 0 ≤ z → z ≤ 60 → ∃ n : Nat, n ≤ 100 ∧ (if z > 1 then z else 1) = (n : Int) := fun z h0 h6 => by
    by_cases h : z > 1
    · exact ⟨z.toNat, by omega, by rw [if_pos h]; omega⟩
    · exact ⟨1, by omega, by rw [if_neg h]; rfl⟩
  refine hz _ ?_ ?_
  · split <;> omega
  · split <;> omega
theorem exd_lf {K : PySem.W.Frag} {H H' : Hp} {p a : Addr} {xs : List V} (n : H p = none) (e : Exd p H H') (h : SqL K H a xs) : SqL K H' a xs := by
  rcases h with (h | ⟨o, h⟩) | h
  · exact .inl (.inl (e a _ (ne_of_none h n) h))
  · exact .inl (.inr ⟨o, e a _ (ne_of_none h n) h⟩)
  · exact .inr h
theorem rep_zero (c : Nat) : (List.replicate c [V.int 0]).flatten = (List.replicate c 0).map N_ := by
  induction c with
  | zero => rfl
  | succ c ih =>
    rw [List.replicate_succ, List.flatten_cons, ih, List.replicate_succ, List.map_cons]
    rfl
theorem od_drop {b : Nat} {xs : List Nat} {i d : Nat} (hi : i < xs.length) (hd : xs.reverse[i]? = some d) : od b (xs.drop (xs.length - (i + 1))) = d + b * od b (xs.drop (xs.length - i)) := by
  have h1 : xs.reverse[i]? = xs[xs.length - 1 - i]? := List.getElem?_reverse hi
  rw [h1] at hd
  have h2 : xs.length - (i + 1) = xs.length - 1 - i := by omega
  have h3 : xs.length - 1 - i < xs.length := by omega
  rw [h2, List.drop_eq_getElem_cons h3, od]
  rw [List.getElem?_eq_getElem h3] at hd
  rw [Option.some.inj hd, show xs.length - 1 - i + 1 = xs.length - i by omega]
theorem cutTake (xs : List V) (f : Nat) : cutV xs none (some (f : Int)) = xs.take f := by
  unfold cutV
  rw [HT.sIx_none, show HT.sIx xs.length xs.length (some (f : Int)) = min f xs.length from HT.sIx_nat xs.length xs.length f, List.drop_zero, Nat.sub_zero]
  by_cases h : f ≤ xs.length
  · rw [Nat.min_eq_left h]
  · rw [Nat.min_eq_right (by omega), List.take_length, List.take_of_length_le (by omega)]
section
variable {K : PySem.W.Frag} {σ : L2.St} {H H' : Hp} {ta tb te : TE}
theorem el_revN {xs : List V} (h : EvL ta σ H xs) : EvL (tRevL K ta) σ H xs.reverse := fun H1 e Q q =>
  h H1 e _ fun a H2 na e2 h2 => ⟨a, xs, rfl, sq_of h2, fun l hl => q l _ (fresh_back e2 hl) (e2.trans (Ex.new hl)) upd_same⟩
end
theorem small_k {n : Nat} (h : n ≤ 1000) : n < 2 ^ 1000 := Nat.lt_of_le_of_lt h (Nat.lt_of_lt_of_le (show 1000 < 2 ^ 10 by decide) (Nat.pow_le_pow_right (by decide) (by decide : 10 ≤ 1000)))
end Own
/-! mathematics of digits, more: no carries by rests, blocks of digits, shifts; core Lean alone -/
namespace Own
/-- numbers without carries in base b -/
def CF (b : Nat) (xs : List Nat) : Prop := (xs.map (ds b)).sum = ds b xs.sum
def rsum (m : Nat) (xs : List Nat) : Nat := (xs.map (· % m)).sum
theorem mod_split {b : Nat} (hb : 1 < b) (x i : Nat) : x % b ^ (i + 1) = x % b + b * ((x / b) % b ^ i) := by
  rw [Nat.pow_succ, Nat.mul_comm, Nat.mod_mul]
theorem rsum_split {b : Nat} (hb : 1 < b) (i : Nat) : ∀ xs : List Nat, rsum (b ^ (i + 1)) xs = rsum b xs + b * rsum (b ^ i) (xs.map (· / b))
  | [] => rfl
  | x :: r => by
    have ih := rsum_split hb i r
    unfold rsum at ih ⊢
    simp only [List.map_cons, List.sum_cons]
    rw [ih, mod_split hb x i, Nat.mul_add]
    omega
theorem rsum_one (xs : List Nat) : rsum 1 xs = 0 := by
  unfold rsum
  induction xs with
  | nil => rfl
  | cons a r ih => rw [List.map_cons, List.sum_cons, ih, Nat.mod_one]
theorem sum_div_le {b : Nat} (hb : 1 < b) (xs : List Nat) : 2 * (xs.map (· / b)).sum ≤ xs.sum := by
  have h := sum_split hb xs
  have : 2 * (xs.map (· / b)).sum ≤ b * (xs.map (· / b)).sum := Nat.mul_le_mul_right _ hb
  omega
theorem rsum_zero {m : Nat} : ∀ xs : List Nat, xs.sum = 0 → rsum m xs = 0
  | [], _ => rfl
  | x :: r, h => by
    rw [List.sum_cons] at h
    have hx : x = 0 := by omega
    have := rsum_zero (m := m) r (by omega)
    unfold rsum at this ⊢
    rw [List.map_cons, List.sum_cons, this, hx, Nat.zero_mod]
theorem nc_rsum {b : Nat} (hb : 1 < b) : ∀ (n : Nat) (xs : List Nat), xs.sum ≤ n → (nc b n xs = true ↔ ∀ i, rsum (b ^ i) xs < b ^ i)
  | 0, xs, h => by
    refine ⟨fun _ i => ?_, fun _ => rfl⟩
    rw [rsum_zero xs (by omega)]
    exact Nat.pow_pos (by omega)
  | n + 1, xs, h => by
    have hq : (xs.map (· / b)).sum ≤ n := by
      have := sum_div_le hb xs
      omega
    have ih := nc_rsum hb n (xs.map (· / b)) hq
    unfold nc
    rw [Bool.and_eq_true, decide_eq_true_eq, ih]
    constructor
    · intro ⟨h1, h2⟩ i
      cases i with
      | zero =>
        rw [Nat.pow_zero, rsum_one]
        exact Nat.zero_lt_one
      | succ i =>
        rw [rsum_split hb i xs, Nat.pow_succ]
        have h3 := h2 i
        have h4 : b * (rsum (b ^ i) (xs.map (· / b)) + 1) ≤ b * b ^ i := Nat.mul_le_mul_left b h3
        have h5 : rsum b xs < b := h1
        rw [Nat.mul_add] at h4
        rw [Nat.mul_comm (b ^ i) b]
        omega
    · intro h2
      refine ⟨?_, fun i => ?_⟩
      · have := h2 1
        rw [Nat.pow_one] at this
        exact this
      · have h3 := h2 (i + 1)
        rw [rsum_split hb i xs, Nat.pow_succ, Nat.mul_comm (b ^ i) b] at h3
        exact Nat.lt_of_mul_lt_mul_left (show b * rsum (b ^ i) (xs.map (· / b)) < b * b ^ i by omega)
/-- no carries: the rests modulo each power of the base add up to less than this power -/
theorem cf_rsum {b : Nat} (hb : 1 < b) (xs : List Nat) : CF b xs ↔ ∀ i, rsum (b ^ i) xs < b ^ i := (nc_iff hb xs.sum xs (Nat.le_refl _)).symm.trans (nc_rsum hb xs.sum xs (Nat.le_refl _))
/-- blocks of f digits -/
theorem cf_block {p f : Nat} (hp : 1 < p) (hf : 1 ≤ f) {xs : List Nat} (h : CF p xs) : CF (p ^ f) xs := by
  have hq : 1 < p ^ f := Nat.lt_of_lt_of_le hp (by
    have := Nat.pow_le_pow_right (show 0 < p by omega) hf
    rwa [Nat.pow_one] at this)
  refine (cf_rsum hq xs).mpr fun i => ?_
  rw [← Nat.pow_mul]
  exact (cf_rsum hp xs).mp h (f * i)
theorem ds_mulb {b : Nat} (hb : 1 < b) (x : Nat) : ds b (b * x) = ds b x := by
  rw [ds_eq hb (b * x), Nat.mul_mod_right, Nat.mul_div_cancel_left _ (by omega), Nat.zero_add]
theorem ds_mulp {b : Nat} (hb : 1 < b) (x : Nat) : ∀ j, ds b (b ^ j * x) = ds b x
  | 0 => by rw [Nat.pow_zero, Nat.one_mul]
  | j + 1 => by rw [Nat.pow_succ, Nat.mul_comm (b ^ j) b, Nat.mul_assoc, ds_mulb hb, ds_mulp hb x j]
theorem sum_mul (c : Nat) : ∀ xs : List Nat, (xs.map (c * ·)).sum = c * xs.sum
  | [] => rfl
  | x :: r => by rw [List.map_cons, List.sum_cons, List.sum_cons, sum_mul c r, Nat.mul_add]
theorem cf_shift {p : Nat} (hp : 1 < p) (j : Nat) {xs : List Nat} (h : CF p xs) : CF p (xs.map (p ^ j * ·)) := by
  unfold CF at h ⊢
  rw [sum_mul, ds_mulp hp, ← h, List.map_map]
  exact congrArg List.sum (List.map_congr_left fun x _ => ds_mulp hp x j)
/-- shift sums add up -/
theorem ss_add {p f : Nat} (hp : 1 < p) (hf : 1 ≤ f) (j : Nat) {xs : List Nat} (h : CF p xs) : (xs.map fun x => ds (p ^ f) (p ^ j * x)).sum = ds (p ^ f) (p ^ j * xs.sum) := by
  have h1 := cf_block hp hf (cf_shift hp j h)
  unfold CF at h1
  rw [sum_mul, List.map_map] at h1
  exact h1
/-- a sum of digits and its number leave equal rests -/
theorem ds_mod {b : Nat} (hb : 1 < b) (n : Nat) : ds b n % (b - 1) = n % (b - 1) := by
  induction n using Nat.strongRecOn with
  | ind n ih =>
    by_cases hn : 0 < n
    · have h1 := ih _ (Nat.div_lt_self hn hb)
      rw [ds_eq hb n, Nat.add_mod, h1, ← Nat.add_mod]
      have e : n = n % b + n / b + (b - 1) * (n / b) := by
        have h2 := Nat.mod_add_div n b
        have h3 : b * (n / b) = (b - 1) * (n / b) + n / b := by
          have : b = (b - 1) + 1 := by omega
          rw [this, Nat.add_mul, Nat.one_mul, Nat.add_sub_cancel]
        omega
      have h4 : (n % b + n / b + (b - 1) * (n / b)) % (b - 1) = (n % b + n / b) % (b - 1) := Nat.add_mul_mod_self_left _ _ _
      rw [← e] at h4
      exact h4.symm
    · have : n = 0 := by omega
      subst this
      rw [ds_zero]
theorem ds_ne {b : Nat} (hb : 1 < b) {n : Nat} (hn : 0 < n) : 0 < ds b n := by
  induction n using Nat.strongRecOn with
  | ind n ih =>
    rw [ds_eq hb n]
    by_cases h : n % b = 0
    · have h1 := Nat.mod_add_div n b
      have h2 : 0 < n / b := by
        rcases Nat.eq_zero_or_pos (n / b) with h0 | h0
        · rw [h0, h] at h1
          omega
        · exact h0
      have := ih _ (Nat.div_lt_self hn hb) h2
      omega
    · omega
/-- a multiple of b - 1 above 0 has a sum of digits of at least b - 1 -/
theorem ds_ge {b : Nat} (hb : 1 < b) {n : Nat} (hn : 0 < n) (h : n % (b - 1) = 0) : b - 1 ≤ ds b n := by
  have h1 := ds_mod hb n
  rw [h] at h1
  have h2 := ds_ne hb hn
  exact Nat.le_of_dvd h2 (Nat.dvd_of_mod_eq_zero h1)
/-- rows of digits -/
theorem ds_od {b : Nat} (hb : 1 < b) : ∀ es : List Nat, (∀ e ∈ es, e < b) → ds b (od b es) = es.sum
  | [], _ => ds_zero b
  | e :: r, h => by
    have he := h e (List.mem_cons_self ..)
    rw [od, ds_eq hb, Nat.add_mul_mod_self_left, Nat.mod_eq_of_lt he, Nat.add_mul_div_left _ _ (by omega), Nat.div_eq_of_lt he, Nat.zero_add, ds_od hb r fun x hx => h x (List.mem_cons_of_mem _ hx), List.sum_cons]
/-- a row within another one, place by place -/
inductive Le2 : List Nat → List Nat → Prop
  | nil : Le2 [] []
  | cons {e d : Nat} {es ds_ : List Nat} (h : e ≤ d) (r : Le2 es ds_) : Le2 (e :: es) (d :: ds_)
theorem Le2.snoc {e d : Nat} : ∀ {es xs : List Nat}, Le2 es xs → e ≤ d → Le2 (es ++ [e]) (xs ++ [d])
  | _, _, .nil, h => .cons h .nil
  | _, _, .cons h1 r, h => .cons h1 (r.snoc h)
theorem le2_parts {b : Nat} (hb : 1 < b) : ∀ {es xs : List Nat}, Le2 es xs → (∀ d ∈ xs, d < b) → od b es ≤ od b xs ∧ ds b (od b es) + ds b (od b xs - od b es) = ds b (od b xs)
  | _, _, .nil, _ => ⟨Nat.le_refl _, by rw [show od b [] = 0 from rfl, Nat.sub_zero, ds_zero]⟩
  | e :: es, d :: xs, .cons h r, hx => by
    have hd := hx d (List.mem_cons_self ..)
    obtain ⟨h1, h2⟩ := le2_parts hb r fun z hz => hx z (List.mem_cons_of_mem _ hz)
    have h3 : b * od b es ≤ b * od b xs := Nat.mul_le_mul_left b h1
    refine ⟨by rw [od, od]; omega, ?_⟩
    have e1 : od b (d :: xs) - od b (e :: es) = (d - e) + b * (od b xs - od b es) := by
      rw [od, od, Nat.mul_sub]
      omega
    rw [e1, od, od]
    have step : ∀ (u v : Nat), u < b → ds b (u + b * v) = u + ds b v := fun u v hu => by
      rw [ds_eq hb, Nat.add_mul_mod_self_left, Nat.mod_eq_of_lt hu, Nat.add_mul_div_left _ _ (by omega), Nat.div_eq_of_lt hu, Nat.zero_add]
    rw [step e _ (by omega), step (d - e) _ (by omega), step d _ hd]
    omega
/-- the last one of numbers without carries may be parted once more -/
theorem cf_part {b : Nat} (hb : 1 < b) {xs : List Nat} {y z : Nat} (h : CF b (xs ++ [y])) (hz : z ≤ y) (hd : ds b z + ds b (y - z) = ds b y) : CF b (xs ++ [z] ++ [y - z]) := by
  unfold CF at h ⊢
  simp only [List.map_append, List.sum_append, List.map_cons, List.map_nil, List.sum_cons, List.sum_nil, Nat.add_zero] at h ⊢
  rw [show xs.sum + z + (y - z) = xs.sum + y by omega]
  omega
theorem cf_single (b x : Nat) : CF b [x] := by
  unfold CF
  simp
end Own
/-! mathematics of partings: digits at places, taken away from above as far as the shift sums let; core Lean alone -/
namespace Own
abbrev PL := List (Nat × Nat)
/-- the weight of a digit at place a in the shift sum j -/
def wt (p f j a : Nat) : Nat := p ^ ((a + j) % f)
def sj (p f j : Nat) (L : PL) : Nat := (L.map fun x => x.1 * wt p f j x.2).sum
def nl (p : Nat) (L : PL) : Nat := (L.map fun x => x.1 * p ^ x.2).sum
def cl (L : PL) : Nat := (L.map (·.1)).sum
/-- places fall, digits below p -/
inductive Vd (p : Nat) : PL → Prop
  | nil : Vd p []
  | cons {c a : Nat} {L : PL} (h : c < p) (hL : ∀ x ∈ L, x.2 < a) (r : Vd p L) : Vd p ((c, a) :: L)
theorem sj_cons (p f j c a : Nat) (L : PL) : sj p f j ((c, a) :: L) = c * wt p f j a + sj p f j L := by
  unfold sj
  rw [List.map_cons, List.sum_cons]
theorem nl_cons (p c a : Nat) (L : PL) : nl p ((c, a) :: L) = c * p ^ a + nl p L := by
  unfold nl
  rw [List.map_cons, List.sum_cons]
theorem cl_cons (c a : Nat) (L : PL) : cl ((c, a) :: L) = c + cl L := by
  unfold cl
  rw [List.map_cons, List.sum_cons]
theorem nl_lt {p : Nat} (hp : 1 < p) {L : PL} (h : Vd p L) : ∀ m, (∀ x ∈ L, x.2 < m) → nl p L < p ^ m := by
  induction h with
  | nil =>
    intro m _
    show 0 < _
    exact Nat.pow_pos (by omega)
  | @cons c a L hc hL r ih =>
    intro m hm
    have h1 := ih a hL
    have h2 : a < m := hm _ (List.mem_cons_self ..)
    rw [nl_cons]
    have h3 : c * p ^ a + p ^ a ≤ p ^ (a + 1) := by
      rw [Nat.pow_succ, Nat.mul_comm (p ^ a) p, ← Nat.succ_mul]
      exact Nat.mul_le_mul_right _ hc
    have h4 : p ^ (a + 1) ≤ p ^ m := Nat.pow_le_pow_right (by omega) h2
    omega
/-- digits above and below a place -/
theorem ds_high {b : Nat} (hb : 1 < b) (c : Nat) : ∀ (m r : Nat), r < b ^ m → ds b (c * b ^ m + r) = ds b c + ds b r
  | 0, r, h => by
    have : r = 0 := by rw [Nat.pow_zero] at h; omega
    subst this
    rw [Nat.pow_zero, Nat.mul_one, Nat.add_zero, ds_zero, Nat.add_zero]
  | m + 1, r, h => by
    have h1 : r / b < b ^ m := by
      rw [Nat.pow_succ] at h
      exact Nat.div_lt_of_lt_mul (by rw [Nat.mul_comm]; exact h)
    have ih := ds_high hb c m (r / b) h1
    have e : c * b ^ (m + 1) + r = r % b + b * (c * b ^ m + r / b) := by
      have h2 := Nat.mod_add_div r b
      rw [Nat.mul_add, Nat.pow_succ]
      have : c * (b ^ m * b) = b * (c * b ^ m) := by
        rw [← Nat.mul_assoc, Nat.mul_comm]
      omega
    have hm := Nat.mod_lt r (show 0 < b by omega)
    rw [e, ds_eq hb, Nat.add_mul_mod_self_left, Nat.mod_eq_of_lt hm, Nat.add_mul_div_left _ _ (by omega), Nat.div_eq_of_lt hm, Nat.zero_add, ih, ds_eq hb r]
    omega
theorem ds_small {b : Nat} (hb : 1 < b) {x : Nat} (h : x < b) : ds b x = x := by
  rw [ds_eq hb, Nat.mod_eq_of_lt h, Nat.div_eq_of_lt h, ds_zero, Nat.add_zero]
theorem ds_term {b : Nat} (hb : 1 < b) {c : Nat} (h : c < b) (a : Nat) : ds b (c * b ^ a) = c := by
  rw [Nat.mul_comm, ds_mulp hb, ds_small hb h]
theorem ds_nl {p : Nat} (hp : 1 < p) {L : PL} (h : Vd p L) : ds p (nl p L) = cl L := by
  induction h with
  | nil => exact ds_zero p
  | @cons c a L hc hL r ih => rw [nl_cons, cl_cons, ds_high hp c a _ (nl_lt hp r a hL), ih, ds_small hp hc]
theorem cf_two {b x y : Nat} (h : ds b x + ds b y = ds b (x + y)) : CF b [x, y] := by
  unfold CF
  simp only [List.map_cons, List.map_nil, List.sum_cons, List.sum_nil, Nat.add_zero]
  exact h
theorem ss_two {p f : Nat} (hp : 1 < p) (hf : 1 ≤ f) (j : Nat) {x y : Nat} (h : ds p x + ds p y = ds p (x + y)) : ds (p ^ f) (p ^ j * x) + ds (p ^ f) (p ^ j * y) = ds (p ^ f) (p ^ j * (x + y)) := by
  have h1 := ss_add hp hf j (cf_two h)
  simp only [List.map_cons, List.map_nil, List.sum_cons, List.sum_nil, Nat.add_zero] at h1
  exact h1
theorem q_gt {p f : Nat} (hp : 1 < p) (hf : 1 ≤ f) : 1 < p ^ f := Nat.lt_of_lt_of_le hp (by
  have := Nat.pow_le_pow_right (show 0 < p by omega) hf
  rwa [Nat.pow_one] at this)
theorem ds_wt {p f : Nat} (hp : 1 < p) (hf : 1 ≤ f) (j : Nat) {c : Nat} (hc : c < p) (a : Nat) : ds (p ^ f) (p ^ j * (c * p ^ a)) = c * wt p f j a := by
  have hq := q_gt hp hf
  have e : p ^ j * (c * p ^ a) = (p ^ f) ^ ((a + j) / f) * (c * p ^ ((a + j) % f)) := by
    have h1 := Nat.div_add_mod (a + j) f
    have h2 : p ^ j * (c * p ^ a) = c * p ^ (a + j) := by
      rw [Nat.pow_add]
      simp only [Nat.mul_comm, Nat.mul_left_comm]
    rw [h2, ← Nat.pow_mul, Nat.mul_left_comm, ← Nat.pow_add, h1]
  rw [e, ds_mulp hq]
  refine ds_small hq ?_
  have h3 : (a + j) % f < f := Nat.mod_lt _ (by omega)
  have h4 : p ^ ((a + j) % f + 1) ≤ p ^ f := Nat.pow_le_pow_right (by omega) h3
  have h5 : 0 < p ^ ((a + j) % f) := Nat.pow_pos (by omega)
  have h6 : c * p ^ ((a + j) % f) < p * p ^ ((a + j) % f) := Nat.mul_lt_mul_of_pos_right hc h5
  rw [Nat.pow_succ, Nat.mul_comm (p ^ ((a + j) % f)) p] at h4
  omega
/-- the shift sums of a number, by its digits -/
theorem sj_ds {p f : Nat} (hp : 1 < p) (hf : 1 ≤ f) (j : Nat) {L : PL} (h : Vd p L) : sj p f j L = ds (p ^ f) (p ^ j * nl p L) := by
  induction h with
  | nil =>
    show 0 = ds (p ^ f) (p ^ j * 0)
    rw [Nat.mul_zero, ds_zero]
  | @cons c a L hc hL r ih =>
    rw [sj_cons, nl_cons, ← ss_two hp hf j, ds_wt hp hf j hc, ih]
    rw [ds_high hp c a _ (nl_lt hp r a hL), ds_term hp hc, ds_small hp hc]
/-! taking away -/
def minN : List Nat → Nat
  | [] => 0
  | [x] => x
  | x :: y :: r => min x (minN (y :: r))
theorem minN_mem : ∀ xs : List Nat, xs ≠ [] → minN xs ∈ xs
  | [], h => absurd rfl h
  | [x], _ => List.mem_cons_self ..
  | x :: y :: r, _ => by
    have ih := minN_mem (y :: r) (by simp)
    show min x (minN (y :: r)) ∈ x :: y :: r
    rcases Nat.le_total x (minN (y :: r)) with h | h
    · rw [Nat.min_eq_left h]
      exact List.mem_cons_self ..
    · rw [Nat.min_eq_right h]
      exact List.mem_cons_of_mem _ ih
theorem minN_le : ∀ (xs : List Nat) (y : Nat), y ∈ xs → minN xs ≤ y
  | [], y, h => by simp at h
  | [x], y, h => by
    rw [List.mem_singleton.mp h]
    exact Nat.le_refl _
  | x :: z :: r, y, h => by
    show min x (minN (z :: r)) ≤ y
    rcases List.mem_cons.mp h with h | h
    · rw [h]
      exact Nat.min_le_left _ _
    · exact Nat.le_trans (Nat.min_le_right _ _) (minN_le (z :: r) y h)
def wl (p f a : Nat) : List Nat := (List.range f).map fun j => wt p f j a
/-- as much of the digit c at place a as the spare sums let -/
def cutN (p f c a : Nat) (sp : List Nat) : Nat := minN (c :: (List.range f).map fun j => sp.getD j 0 / wt p f j a)
def lessN (p f n a : Nat) (sp : List Nat) : List Nat := (List.range f).map fun j => sp.getD j 0 - n * wt p f j a
structure Lw where
  L : PL
  sp : List Nat
  tk : Nat
  mn : Nat
def chooseN : Nat → Nat → Nat
  | _, 0 => 1
  | 0, _ + 1 => 0
  | n + 1, k + 1 => chooseN n k + chooseN n (k + 1)
def low (p f : Nat) : PL → List Nat → Lw
  | [], sp => ⟨[], sp, 0, 1⟩
  | (c, a) :: L, sp =>
    if minN sp = 0 then ⟨(c, a) :: L, sp, 0, 1⟩ else
      let n := cutN p f c a sp
      let r := low p f L (lessN p f n a sp)
      ⟨if n < c then (c - n, a) :: r.L else r.L, r.sp, n * p ^ a + r.tk, (if n < c then chooseN c n else 1) * r.mn⟩
theorem cut_le (p f c a : Nat) (sp : List Nat) : cutN p f c a sp ≤ c := minN_le _ _ (List.mem_cons_self ..)
theorem wt_pos {p f j a : Nat} (hp : 1 < p) : 0 < wt p f j a := Nat.pow_pos (by omega)
theorem cut_mul {p f c a : Nat} {sp : List Nat} (hp : 1 < p) {j : Nat} (hj : j < f) : cutN p f c a sp * wt p f j a ≤ sp.getD j 0 := by
  have h : cutN p f c a sp ≤ sp.getD j 0 / wt p f j a := minN_le _ _ (List.mem_cons_of_mem _ (List.mem_map.mpr ⟨j, List.mem_range.mpr hj, rfl⟩))
  exact (Nat.le_div_iff_mul_le (wt_pos hp)).mp h
theorem cut_lt {p f c a : Nat} {sp : List Nat} (hp : 1 < p) (h : cutN p f c a sp < c) : ∃ j, j < f ∧ sp.getD j 0 < cutN p f c a sp * wt p f j a + wt p f j a := by
  have hm := minN_mem (c :: (List.range f).map fun j => sp.getD j 0 / wt p f j a) (by simp)
  rcases List.mem_cons.mp hm with e | e
  · have : cutN p f c a sp = c := e
    omega
  · obtain ⟨j, hj, e2⟩ := List.mem_map.mp e
    refine ⟨j, List.mem_range.mp hj, ?_⟩
    have e3 : sp.getD j 0 / wt p f j a = cutN p f c a sp := e2
    have := Nat.lt_div_mul_add (a := sp.getD j 0) (wt_pos (p := p) (f := f) (j := j) (a := a) hp)
    rw [e3] at this
    exact this
theorem less_get {p f n a : Nat} {sp : List Nat} {j : Nat} (hj : j < f) : (lessN p f n a sp).getD j 0 = sp.getD j 0 - n * wt p f j a := by
  unfold lessN
  rw [List.getD_eq_getElem?_getD, List.getElem?_map, List.getElem?_range hj]
  rfl
theorem less_len (p f n a : Nat) (sp : List Nat) : (lessN p f n a sp).length = f := by
  unfold lessN
  rw [List.length_map, List.length_range]
structure LowOk (p f : Nat) (L : PL) (sp : List Nat) (r : Lw) : Prop where
  eq : ∀ j, j < f → sp.getD j 0 + sj p f j r.L = r.sp.getD j 0 + sj p f j L
  nm : nl p L = nl p r.L + r.tk
  dg : cl L = cl r.L + ds p r.tk
  vd : Vd p r.L
  ps : ∀ x ∈ r.L, ∃ y ∈ L, y.2 = x.2
  po : ∀ x ∈ r.L, 0 < x.1
  le : ∀ j, j < f → r.sp.getD j 0 ≤ sp.getD j 0
  ln : r.sp.length = f
  st : minN r.sp = 0 ∨ ∀ x ∈ r.L, ∃ j, j < f ∧ r.sp.getD j 0 < wt p f j x.2
theorem low_ok {p f : Nat} (hp : 1 < p) : ∀ {L : PL} {sp : List Nat}, Vd p L → (∀ x ∈ L, 0 < x.1) → sp.length = f → LowOk p f L sp (low p f L sp)
  | [], sp, _, _, hl => ⟨fun _ _ => rfl, rfl, (by show 0 = 0 + ds p 0; rw [ds_zero]), .nil, (fun x h => nomatch h), (fun x h => nomatch h), fun _ _ => Nat.le_refl _, hl, .inr (fun x h => nomatch h)⟩
  | (c, a) :: L, sp, .cons hc hL r, h0, hl => by
    by_cases hz : minN sp = 0
    · have e : low p f ((c, a) :: L) sp = ⟨(c, a) :: L, sp, 0, 1⟩ := by
        rw [low, if_pos hz]
      rw [e]
      exact ⟨fun _ _ => rfl, rfl, (by show cl ((c, a) :: L) = cl ((c, a) :: L) + ds p 0; rw [ds_zero]; rfl), .cons hc hL r, fun x h => ⟨x, h, rfl⟩, h0, fun _ _ => Nat.le_refl _, hl, .inl hz⟩
    · have ih := low_ok hp (L := L) (sp := lessN p f (cutN p f c a sp) a sp) r (fun x h => h0 x (List.mem_cons_of_mem _ h)) (less_len ..)
      have e : low p f ((c, a) :: L) sp = ⟨if cutN p f c a sp < c then (c - cutN p f c a sp, a) :: (low p f L (lessN p f (cutN p f c a sp) a sp)).L else (low p f L (lessN p f (cutN p f c a sp) a sp)).L, (low p f L (lessN p f (cutN p f c a sp) a sp)).sp, cutN p f c a sp * p ^ a + (low p f L (lessN p f (cutN p f c a sp) a sp)).tk, (if cutN p f c a sp < c then chooseN c (cutN p f c a sp) else 1) * (low p f L (lessN p f (cutN p f c a sp) a sp)).mn⟩ := by
        rw [low, if_neg hz]
      rw [e]
      have hn := cut_le p f c a sp
      have hm : ∀ j, j < f → cutN p f c a sp * wt p f j a ≤ sp.getD j 0 := fun j hj => cut_mul hp hj
      have hlt := fun h => cut_lt (p := p) (f := f) (c := c) (a := a) (sp := sp) hp h
      generalize cutN p f c a sp = n at ih hn hm hlt ⊢
      generalize low p f L (lessN p f n a sp) = R at ih ⊢
      obtain ⟨i1, i2, i3, i4, i5, i6, i7, i8, i9⟩ := ih
      have hRa : ∀ x ∈ R.L, x.2 < a := fun x hx => by
        obtain ⟨y, hy, e⟩ := i5 x hx
        rw [← e]
        exact hL y hy
      have htk : R.tk < p ^ a := Nat.lt_of_le_of_lt (by rw [i2]; exact Nat.le_add_left ..) (nl_lt hp r a hL)
      have hds : ds p (n * p ^ a + R.tk) = n + ds p R.tk := by rw [ds_high hp n a _ htk, ds_small hp (by omega)]
      have hcn : c * p ^ a = (c - n) * p ^ a + n * p ^ a := by rw [← Nat.add_mul, Nat.sub_add_cancel hn]
      by_cases hlt2 : n < c
      · simp only [if_pos hlt2]
        refine ⟨fun j hj => ?_, ?_, ?_, .cons (by omega) hRa i4, fun x hx => ?_, fun x hx => ?_, fun j hj => ?_, i8, ?_⟩
        · have h1 := i1 j hj
          rw [less_get hj] at h1
          have h2 := hm j hj
          have h3 : c * wt p f j a = (c - n) * wt p f j a + n * wt p f j a := by rw [← Nat.add_mul, Nat.sub_add_cancel hn]
          show sp.getD j 0 + sj p f j ((c - n, a) :: R.L) = R.sp.getD j 0 + sj p f j ((c, a) :: L)
          rw [sj_cons, sj_cons]
          omega
        · show nl p ((c, a) :: L) = nl p ((c - n, a) :: R.L) + (n * p ^ a + R.tk)
          rw [nl_cons, nl_cons]
          omega
        · show cl ((c, a) :: L) = cl ((c - n, a) :: R.L) + ds p (n * p ^ a + R.tk)
          rw [cl_cons, cl_cons, hds]
          omega
        · rcases List.mem_cons.mp hx with rfl | hx
          · exact ⟨(c, a), List.mem_cons_self .., rfl⟩
          · obtain ⟨y, hy, e⟩ := i5 x hx
            exact ⟨y, List.mem_cons_of_mem _ hy, e⟩
        · rcases List.mem_cons.mp hx with rfl | hx
          · show 0 < c - n
            omega
          · exact i6 x hx
        · have h1 := i7 j hj
          rw [less_get hj] at h1
          show R.sp.getD j 0 ≤ sp.getD j 0
          omega
        · rcases i9 with h | h
          · exact .inl h
          · refine .inr fun x hx => ?_
            rcases List.mem_cons.mp hx with rfl | hx
            · obtain ⟨j, hj, h1⟩ := hlt hlt2
              refine ⟨j, hj, ?_⟩
              have h2 := i7 j hj
              rw [less_get hj] at h2
              have h3 := hm j hj
              show R.sp.getD j 0 < wt p f j a
              omega
            · exact h x hx
      · simp only [if_neg hlt2]
        have hnc : n = c := by omega
        subst hnc
        refine ⟨fun j hj => ?_, ?_, ?_, i4, fun x hx => ?_, i6, fun j hj => ?_, i8, i9⟩
        · have h1 := i1 j hj
          rw [less_get hj] at h1
          have h2 := hm j hj
          rw [sj_cons]
          show sp.getD j 0 + sj p f j R.L = R.sp.getD j 0 + (n * wt p f j a + sj p f j L)
          omega
        · rw [nl_cons]
          show n * p ^ a + nl p L = nl p R.L + (n * p ^ a + R.tk)
          omega
        · show cl ((n, a) :: L) = cl R.L + ds p (n * p ^ a + R.tk)
          rw [cl_cons, hds]
          omega
        · obtain ⟨y, hy, e⟩ := i5 x hx
          exact ⟨y, List.mem_cons_of_mem _ hy, e⟩
        · have h1 := i7 j hj
          rw [less_get hj] at h1
          show R.sp.getD j 0 ≤ sp.getD j 0
          omega
/-- the digits of one class of places -/
def ac (f t : Nat) (L : PL) : Nat := (L.map fun x => if x.2 % f = t then x.1 else 0).sum
theorem ac_cons (f t c a : Nat) (L : PL) : ac f t ((c, a) :: L) = (if a % f = t then c else 0) + ac f t L := by
  unfold ac
  rw [List.map_cons, List.sum_cons]
theorem ac_mem {f t : Nat} : ∀ {L : PL}, 0 < ac f t L → ∃ x ∈ L, x.2 % f = t
  | [], h => absurd h (by show ¬ 0 < 0; omega)
  | (c, a) :: L, h => by
    by_cases ha : a % f = t
    · exact ⟨(c, a), List.mem_cons_self .., ha⟩
    · rw [ac_cons, if_neg ha, Nat.zero_add] at h
      obtain ⟨x, hx, e⟩ := ac_mem h
      exact ⟨x, List.mem_cons_of_mem _ hx, e⟩
theorem wt_mod (p f j a : Nat) : wt p f j a = p ^ ((a % f + j) % f) := by
  unfold wt
  rw [Nat.mod_add_mod]
theorem sj1 (p : Nat) : ∀ L : PL, sj p 1 0 L = ac 1 0 L
  | [] => rfl
  | (c, a) :: L => by
    rw [sj_cons, ac_cons, sj1 p L, wt_mod, if_pos (Nat.mod_one a), Nat.mod_one, Nat.pow_zero, Nat.mul_one]
theorem sj2 (p : Nat) : ∀ L : PL, sj p 2 0 L = ac 2 0 L + p * ac 2 1 L ∧ sj p 2 1 L = p * ac 2 0 L + ac 2 1 L
  | [] => ⟨rfl, rfl⟩
  | (c, a) :: L => by
    obtain ⟨h0, h1⟩ := sj2 p L
    have hm : a % 2 = 0 ∨ a % 2 = 1 := by omega
    rw [sj_cons, sj_cons, ac_cons, ac_cons, h0, h1, wt_mod, wt_mod]
    rcases hm with e | e <;> rw [e] <;> simp [Nat.mul_add, Nat.mul_comm] <;> omega
theorem sj3 (p : Nat) : ∀ L : PL, sj p 3 0 L = ac 3 0 L + p * ac 3 1 L + p ^ 2 * ac 3 2 L ∧ sj p 3 1 L = p * ac 3 0 L + p ^ 2 * ac 3 1 L + ac 3 2 L ∧ sj p 3 2 L = p ^ 2 * ac 3 0 L + ac 3 1 L + p * ac 3 2 L
  | [] => ⟨rfl, rfl, rfl⟩
  | (c, a) :: L => by
    obtain ⟨h0, h1, h2⟩ := sj3 p L
    have hm : a % 3 = 0 ∨ a % 3 = 1 ∨ a % 3 = 2 := by omega
    rw [sj_cons, sj_cons, sj_cons, ac_cons, ac_cons, ac_cons, h0, h1, h2, wt_mod, wt_mod, wt_mod]
    rcases hm with e | e | e <;> rw [e] <;> simp [Nat.mul_add, Nat.mul_comm] <;> omega
/-- p and f of the seven fields -/
inductive PFq : Nat → Nat → Prop
  | one {p : Nat} (h : 1 < p) : PFq p 1
  | four : PFq 2 2
  | nine : PFq 3 2
  | eight : PFq 2 3
theorem min_pos {sp : List Nat} (h : minN sp ≠ 0) {j : Nat} (hj : j < sp.length) : 0 < sp.getD j 0 := by
  have := minN_le sp (sp.getD j 0) (by rw [List.getD_eq_getElem?_getD, List.getElem?_eq_getElem hj]; exact List.getElem_mem hj)
  omega
/-- what is left stops at 0 -/
theorem low_zero {p f m : Nat} (hpf : PFq p f) {L : PL} {sp : List Nat} (hl : sp.length = f) (hm : 1 ≤ m) (he : ∀ j, j < f → sp.getD j 0 + (p ^ f - 1) * m = sj p f j L) (hs : minN sp = 0 ∨ ∀ x ∈ L, ∃ j, j < f ∧ sp.getD j 0 < wt p f j x.2) : minN sp = 0 := by
  rcases hs with h | hs
  · exact h
  · by_cases h0 : minN sp = 0
    · exact h0
    · exfalso
      have st : ∀ t, 0 < ac f t L → ∃ j, j < f ∧ sp.getD j 0 < p ^ ((t + j) % f) := fun t ht => by
        obtain ⟨x, hx, e⟩ := ac_mem ht
        obtain ⟨j, hj, h1⟩ := hs x hx
        rw [wt_mod, e] at h1
        exact ⟨j, hj, h1⟩
      have pos : ∀ j, j < f → 0 < sp.getD j 0 := fun j hj => min_pos h0 (by omega)
      generalize sp.getD = g at he st pos
      cases hpf with
      | one hp =>
        have e0 := he 0 (by omega)
        have p0 := pos 0 (by omega)
        rw [sj1] at e0
        obtain ⟨j, hj, h1⟩ := st 0 (by omega)
        have : j = 0 := by omega
        subst this
        simp at h1
        omega
      | four =>
        have e0 := he 0 (by omega)
        have e1 := he 1 (by omega)
        have p0 := pos 0 (by omega)
        have p1 := pos 1 (by omega)
        rw [(sj2 2 L).1] at e0
        rw [(sj2 2 L).2] at e1
        have s0 : 0 < ac 2 0 L → g 1 0 < 2 := fun h => by
          obtain ⟨j, hj, h1⟩ := st 0 h
          have : j = 0 ∨ j = 1 := by omega
          rcases this with rfl | rfl <;> simp at h1 <;> omega
        have s1 : 0 < ac 2 1 L → g 0 0 < 2 := fun h => by
          obtain ⟨j, hj, h1⟩ := st 1 h
          have : j = 0 ∨ j = 1 := by omega
          rcases this with rfl | rfl <;> simp at h1 <;> omega
        generalize ac 2 0 L = A at *
        generalize ac 2 1 L = B at *
        omega
      | nine =>
        have e0 := he 0 (by omega)
        have e1 := he 1 (by omega)
        have p0 := pos 0 (by omega)
        have p1 := pos 1 (by omega)
        rw [(sj2 3 L).1] at e0
        rw [(sj2 3 L).2] at e1
        have s0 : 0 < ac 2 0 L → g 1 0 < 3 := fun h => by
          obtain ⟨j, hj, h1⟩ := st 0 h
          have : j = 0 ∨ j = 1 := by omega
          rcases this with rfl | rfl <;> simp at h1 <;> omega
        have s1 : 0 < ac 2 1 L → g 0 0 < 3 := fun h => by
          obtain ⟨j, hj, h1⟩ := st 1 h
          have : j = 0 ∨ j = 1 := by omega
          rcases this with rfl | rfl <;> simp at h1 <;> omega
        generalize ac 2 0 L = A at *
        generalize ac 2 1 L = B at *
        generalize g 0 0 = x at *
        generalize g 1 0 = y at *
        simp only [Nat.reducePow, Nat.reduceSub] at e0 e1
        by_cases hA : A = 0
        · by_cases hB : B = 0
          · omega
          · have : x = 1 ∨ x = 2 := by omega
            rcases this with rfl | rfl <;> omega
        · have hy : y = 1 ∨ y = 2 := by omega
          by_cases hB : B = 0
          · rcases hy with rfl | rfl <;> omega
          · have hx : x = 1 ∨ x = 2 := by omega
            rcases hy with rfl | rfl <;> rcases hx with rfl | rfl <;> omega
      | eight =>
        have e0 := he 0 (by omega)
        have e1 := he 1 (by omega)
        have e2 := he 2 (by omega)
        have p0 := pos 0 (by omega)
        have p1 := pos 1 (by omega)
        have p2 := pos 2 (by omega)
        rw [(sj3 2 L).1] at e0
        rw [(sj3 2 L).2.1] at e1
        rw [(sj3 2 L).2.2] at e2
        have three : ∀ j, j < 3 → j = 0 ∨ j = 1 ∨ j = 2 := fun j h => by omega
        have s0 : 0 < ac 3 0 L → g 1 0 < 2 ∨ g 2 0 < 4 := fun h => by
          obtain ⟨j, hj, h1⟩ := st 0 h
          rcases three j hj with rfl | rfl | rfl <;> simp at h1 <;> omega
        have s1 : 0 < ac 3 1 L → g 0 0 < 2 ∨ g 1 0 < 4 := fun h => by
          obtain ⟨j, hj, h1⟩ := st 1 h
          rcases three j hj with rfl | rfl | rfl <;> simp at h1 <;> omega
        have s2 : 0 < ac 3 2 L → g 0 0 < 4 ∨ g 2 0 < 2 := fun h => by
          obtain ⟨j, hj, h1⟩ := st 2 h
          rcases three j hj with rfl | rfl | rfl <;> simp at h1 <;> omega
        generalize ac 3 0 L = A at *
        generalize ac 3 1 L = B at *
        generalize ac 3 2 L = C at *
        generalize g 0 0 = x at *
        generalize g 1 0 = y at *
        generalize g 2 0 = z at *
        simp only [Nat.reducePow, Nat.reduceSub] at e0 e1 e2
        clear hs he st pos h0
        have hA : A = 0 ∨ y = 1 ∨ z = 1 ∨ z = 2 ∨ z = 3 := by omega
        have hB : B = 0 ∨ x = 1 ∨ y = 1 ∨ y = 2 ∨ y = 3 := by omega
        have hC : C = 0 ∨ z = 1 ∨ x = 1 ∨ x = 2 ∨ x = 3 := by omega
        clear s0 s1 s2
        rcases hA with h | h | h | h | h <;> rcases hB with k | k | k | k | k <;> rcases hC with l | l | l | l | l <;> subst_vars <;> omega
end Own
/-! partings: the chain of least numbers, and its differences; core Lean alone -/
namespace Own
theorem PFq.p {p f : Nat} (h : PFq p f) : 1 < p ∧ 1 ≤ f ∧ f ≤ 3 := by
  cases h with
  | one h => exact ⟨h, by omega, by omega⟩
  | four => exact ⟨by omega, by omega, by omega⟩
  | nine => exact ⟨by omega, by omega, by omega⟩
  | eight => exact ⟨by omega, by omega, by omega⟩
/-- a shift sum that q - 1 divides tells that q - 1 divides the number -/
theorem dvd_ss {p f j n m : Nat} (hp : 1 < p) (hf : 1 ≤ f) (hj : j < f) (h : ds (p ^ f) (p ^ j * n) = (p ^ f - 1) * m) : n % (p ^ f - 1) = 0 := by
  have hq := q_gt hp hf
  have h1 := ds_mod hq (p ^ j * n)
  rw [h, Nat.mul_mod_right] at h1
  have h2 : (p ^ f - 1) ∣ p ^ j * n := Nat.dvd_of_mod_eq_zero h1.symm
  have h3 : (p ^ f - 1) ∣ p ^ (f - j) * (p ^ j * n) := Nat.dvd_mul_left_of_dvd h2 _
  have h4 : p ^ (f - j) * (p ^ j * n) = (p ^ f - 1) * n + n := by
    rw [← Nat.mul_assoc, ← Nat.pow_add, Nat.sub_add_cancel (Nat.le_of_lt hj), ← Nat.succ_mul]
    congr 1
    omega
  rw [h4] at h3
  exact Nat.mod_eq_zero_of_dvd ((Nat.dvd_add_right (Nat.dvd_mul_right _ _)).mp h3)
/-- the least shift sum of b is just m times q - 1 -/
def Mn (p f m b : Nat) : Prop := (∀ j, j < f → (p ^ f - 1) * m ≤ ds (p ^ f) (p ^ j * b)) ∧ ∃ j, j < f ∧ ds (p ^ f) (p ^ j * b) = (p ^ f - 1) * m
/-- b is left of a -/
def Lft (p a b : Nat) : Prop := b ≤ a ∧ ds p a = ds p b + ds p (a - b)
def FI (p f d k : Nat) (xs : List Nat) : Prop := ∀ i, i < xs.length → Lft p ((k :: xs).getD i 0) (xs.getD i 0) ∧ Mn p f (d - i) (xs.getD i 0)
structure Stt (p f : Nat) (m : Nat) (L : PL) (sp : List Nat) (n : Nat) : Prop where
  vd : Vd p L
  po : ∀ x ∈ L, 0 < x.1
  ln : sp.length = f
  nm : nl p L = n
  eq : ∀ j, j < f → sp.getD j 0 + (p ^ f - 1) * m = sj p f j L
def moreN (s : Nat) (sp : List Nat) : List Nat := sp.map (· + s)
theorem more_get {s : Nat} {sp : List Nat} {j : Nat} (h : j < sp.length) : (moreN s sp).getD j 0 = sp.getD j 0 + s := by
  unfold moreN
  rw [List.getD_eq_getElem?_getD, List.getD_eq_getElem?_getD, List.getElem?_map, List.getElem?_eq_getElem h]
  rfl
theorem step_ok {p f m : Nat} (hpf : PFq p f) {L : PL} {sp : List Nat} {n : Nat} (h : Stt p f (m + 1) L sp n) :
    Stt p f m (low p f L sp).L (moreN (p ^ f - 1) (low p f L sp).sp) (nl p (low p f L sp).L) ∧ Lft p n (nl p (low p f L sp).L) ∧ Mn p f (m + 1) (nl p (low p f L sp).L) ∧ n = nl p (low p f L sp).L + (low p f L sp).tk := by
  obtain ⟨hp, hf, hf3⟩ := hpf.p
  have r := low_ok (f := f) hp h.vd h.po h.ln
  generalize low p f L sp = R at r ⊢
  have he : ∀ j, j < f → R.sp.getD j 0 + (p ^ f - 1) * (m + 1) = sj p f j R.L := fun j hj => by
    have h1 := r.eq j hj
    have h2 := h.eq j hj
    omega
  have hz := low_zero hpf (sp := R.sp) (L := R.L) (m := m + 1) r.ln (by omega) he r.st
  have hs : ∀ j, j < f → ds (p ^ f) (p ^ j * nl p R.L) = R.sp.getD j 0 + (p ^ f - 1) * (m + 1) := fun j hj => by rw [← sj_ds hp hf j r.vd, he j hj]
  have hne : R.sp ≠ [] := fun z => by
    have h1 := r.ln
    rw [z] at h1
    have : ([] : List Nat).length = 0 := rfl
    omega
  obtain ⟨j0, hj0, e0⟩ := List.getElem_of_mem (minN_mem R.sp hne)
  have hj0f : j0 < f := by rw [← r.ln]; exact hj0
  have e1 : R.sp.getD j0 0 = 0 := by
    rw [List.getD_eq_getElem?_getD, List.getElem?_eq_getElem hj0, ← hz, ← e0]
    rfl
  have hn := h.nm
  have hnm := r.nm
  refine ⟨⟨r.vd, r.po, by unfold moreN; rw [List.length_map]; exact r.ln, rfl, fun j hj => ?_⟩, ⟨by omega, ?_⟩, ⟨fun j hj => ?_, j0, hj0f, ?_⟩, by omega⟩
  · rw [more_get (by rw [r.ln]; exact hj), ← he j hj, Nat.mul_succ]
    omega
  · have h3 : n - nl p R.L = R.tk := by omega
    rw [h3, ← hn, ds_nl hp h.vd, ds_nl hp r.vd]
    exact r.dg
  · rw [hs j hj]
    omega
  · rw [hs j0 hj0f, e1, Nat.zero_add]
theorem getD_app {xs : List Nat} {x i : Nat} (h : i < xs.length) : (xs ++ [x]).getD i 0 = xs.getD i 0 := by
  rw [List.getD_eq_getElem?_getD, List.getD_eq_getElem?_getD, List.getElem?_append_left h]
theorem getD_last (xs : List Nat) (x : Nat) : (xs ++ [x]).getD xs.length 0 = x := by
  rw [List.getD_eq_getElem?_getD, List.getElem?_append_right (Nat.le_refl _), Nat.sub_self]
  rfl
theorem fi_snoc {p f d k x : Nat} {xs : List Nat} (h : FI p f d k xs) (h1 : Lft p ((k :: xs).getD xs.length 0) x) (h2 : Mn p f (d - xs.length) x) : FI p f d k (xs ++ [x]) := by
  intro i hi
  rw [List.length_append, List.length_singleton] at hi
  by_cases hlt : i < xs.length
  · have h3 := h i hlt
    rw [getD_app hlt]
    have e : (k :: (xs ++ [x])).getD i 0 = (k :: xs).getD i 0 := by
      show ((k :: xs) ++ [x]).getD i 0 = _
      exact getD_app (by rw [List.length_cons]; omega)
    rw [e]
    exact h3
  · have hie : i = xs.length := by omega
    subst hie
    rw [getD_last]
    have e : (k :: (xs ++ [x])).getD xs.length 0 = (k :: xs).getD xs.length 0 := by
      show ((k :: xs) ++ [x]).getD xs.length 0 = _
      exact getD_app (by rw [List.length_cons]; omega)
    rw [e]
    exact ⟨h1, h2⟩
/-- the differences of s 0, s 1, .., s n -/
def difs (s : Nat → Nat) (n : Nat) : List Nat := (List.range n).map fun i => s i - s (i + 1)
theorem difs_succ (s : Nat → Nat) (n : Nat) : difs s (n + 1) = difs s n ++ [s n - s (n + 1)] := by
  unfold difs
  rw [List.range_succ, List.map_append]
  rfl
theorem difs_sum (s : Nat → Nat) : ∀ n, (∀ i, i < n → s (i + 1) ≤ s i) → (difs s n).sum + s n = s 0
  | 0, _ => by
    show 0 + s 0 = s 0
    omega
  | n + 1, h => by
    have h1 := difs_sum s n fun i hi => h i (by omega)
    have h2 := h n (by omega)
    rw [difs_succ, List.sum_append, List.sum_singleton]
    omega
theorem difs_ds {p : Nat} (s : Nat → Nat) : ∀ n, (∀ i, i < n → ds p (s i) = ds p (s (i + 1)) + ds p (s i - s (i + 1))) → ((difs s n).map (ds p)).sum + ds p (s n) = ds p (s 0)
  | 0, _ => by
    show 0 + ds p (s 0) = ds p (s 0)
    omega
  | n + 1, h => by
    have h1 := difs_ds s n fun i hi => h i (by omega)
    have h2 := h n (by omega)
    rw [difs_succ, List.map_append, List.sum_append]
    simp only [List.map_cons, List.map_nil, List.sum_cons, List.sum_nil]
    omega
/-- the parting of a chain -/
def seqN (k : Nat) (xs : List Nat) (i : Nat) : Nat := (k :: xs ++ [0]).getD i 0
def partN (k : Nat) (xs : List Nat) : List Nat := (difs (seqN k xs) (xs.length + 1)).reverse
/-- what a parting is -/
structure Prt (p s d k : Nat) (ms : List Nat) : Prop where
  len : ms.length = d + 1
  sum : ms.sum = k
  dg : (ms.map (ds p)).sum = ds p k
  mul : ∀ i, i < d → 0 < ms.getD i 0 ∧ ms.getD i 0 % s = 0
theorem seq_lo {k : Nat} {xs : List Nat} {i : Nat} (h : i ≤ xs.length) : seqN k xs i = (k :: xs).getD i 0 := by
  unfold seqN
  exact getD_app (xs := k :: xs) (by rw [List.length_cons]; omega)
theorem seq_hi (k : Nat) (xs : List Nat) : seqN k xs (xs.length + 1) = 0 := by
  unfold seqN
  exact getD_last (k :: xs) 0
theorem seq_step {p f d k : Nat} {xs : List Nat} (h : FI p f d k xs) (hl : xs.length = d) : ∀ i, i < d + 1 → seqN k xs (i + 1) ≤ seqN k xs i ∧ ds p (seqN k xs i) = ds p (seqN k xs (i + 1)) + ds p (seqN k xs i - seqN k xs (i + 1)) := by
  intro i hi
  by_cases hid : i < d
  · obtain ⟨⟨h1, h2⟩, _⟩ := h i (by omega)
    rw [seq_lo (i := i) (by omega), seq_lo (i := i + 1) (by omega)]
    have e : (k :: xs).getD (i + 1) 0 = xs.getD i 0 := by simp [List.getD_eq_getElem?_getD]
    rw [e]
    exact ⟨h1, h2⟩
  · have : i = d := by omega
    subst this
    rw [← hl, seq_hi]
    refine ⟨Nat.zero_le _, ?_⟩
    rw [ds_zero, Nat.sub_zero, Nat.zero_add]
theorem mn_mul {p f m b : Nat} (hpf : PFq p f) (h : Mn p f m b) : b % (p ^ f - 1) = 0 := by
  obtain ⟨hp, hf, _⟩ := hpf.p
  obtain ⟨_, j, hj, e⟩ := h
  exact dvd_ss hp hf hj e
theorem prt_of {p f d k : Nat} (hpf : PFq p f) {xs : List Nat} (h : FI p f d k xs) (hl : xs.length = d) : Prt p (p ^ f - 1) d k (partN k xs) := by
  obtain ⟨hp, hf, _⟩ := hpf.p
  have st := seq_step h hl
  have hlen : (difs (seqN k xs) (d + 1)).length = d + 1 := by unfold difs; rw [List.length_map, List.length_range]
  have hp2 : partN k xs = (difs (seqN k xs) (d + 1)).reverse := by unfold partN; rw [hl]
  have hz : seqN k xs (d + 1) = 0 := by rw [← hl]; exact seq_hi k xs
  have h0 : seqN k xs 0 = k := rfl
  refine ⟨by rw [hp2, List.length_reverse, hlen], ?_, ?_, fun i hi => ?_⟩
  · have := difs_sum (seqN k xs) (d + 1) fun i hi => (st i hi).1
    rw [hp2, List.sum_reverse]
    omega
  · have := difs_ds (p := p) (seqN k xs) (d + 1) fun i hi => (st i hi).2
    rw [hz, ds_zero, h0] at this
    rw [hp2, List.map_reverse, List.sum_reverse]
    omega
  · have e : (partN k xs).getD i 0 = seqN k xs (d - i) - seqN k xs (d - i + 1) := by
      rw [hp2, List.getD_eq_getElem?_getD, List.getElem?_reverse (by rw [hlen]; omega), hlen]
      unfold difs
      rw [List.getElem?_map, List.getElem?_range (by omega), show d + 1 - 1 - i = d - i by omega]
      rfl
    rw [e]
    -- s (d - i) is of the chain, and s (d - i + 1) is of the chain or 0
    have g : ∀ t, t < d → seqN k xs (t + 1) = xs.getD t 0 ∧ Mn p f (d - t) (seqN k xs (t + 1)) := fun t ht => by
      have h3 : seqN k xs (t + 1) = xs.getD t 0 := by
        rw [seq_lo (by omega)]
        simp [List.getD_eq_getElem?_getD]
      exact ⟨h3, h3 ▸ (h t (by omega)).2⟩
    obtain ⟨_, ma⟩ := g (d - i - 1) (by omega)
    rw [show d - i - 1 + 1 = d - i by omega, show d - (d - i - 1) = i + 1 by omega] at ma
    have hle := (st (d - i) (by omega)).1
    have da := mn_mul hpf ma
    have hq := q_gt hp hf
    by_cases hi0 : i = 0
    · subst hi0
      rw [Nat.sub_zero, hz, Nat.sub_zero]
      refine ⟨?_, by rw [Nat.sub_zero] at da; exact da⟩
      obtain ⟨_, j, hj, e1⟩ := ma
      rcases Nat.eq_zero_or_pos (seqN k xs d) with z | z
      · exfalso
        rw [Nat.sub_zero, z, Nat.mul_zero, ds_zero, Nat.zero_add, Nat.mul_one] at e1
        omega
      · exact z
    · obtain ⟨_, mb⟩ := g (d - i) (by omega)
      rw [show d - (d - i) = i by omega] at mb
      have db := mn_mul hpf mb
      refine ⟨?_, ?_⟩
      · rcases Nat.eq_zero_or_pos (seqN k xs (d - i) - seqN k xs (d - i + 1)) with z | z
        · exfalso
          have e2 : seqN k xs (d - i) = seqN k xs (d - i + 1) := by omega
          obtain ⟨hb1, _⟩ := ma
          obtain ⟨_, j, hj, e3⟩ := mb
          have h5 := hb1 j hj
          rw [e2, e3, Nat.mul_succ] at h5
          omega
        · exact z
      · exact Nat.sub_mod_eq_zero_of_mod_eq (by rw [da, db])
end Own
/-! own rules: zip of a list and a tuple -/
namespace Own
open PySem PySem.Spec PyProof.Rows L2 Evl
/-- what zip asks of a thing that it walks: its iterator at turn i, its items -/
structure Kd where
  St : Heap → Addr → Addr → Nat → Prop
  Sq : Heap → Addr → Array Value → Prop
structure KdOk (κ : Kd) : Prop where
  stay : ∀ {h h' : Heap} {a l : Addr} {i : Nat}, κ.St h a l i → (∀ o, h.get? a = some o → h'.get? a = some o) → κ.St h' a l i
  seq : ∀ {h h' : Heap} {l : Addr} {xs : Array Value}, κ.Sq h l xs → (∀ o, h.get? l = some o → h'.get? l = some o) → κ.Sq h' l xs
  here : ∀ {h : Heap} {a l : Addr} {i : Nat}, κ.St h a l i → ∃ o, h.get? a = some o ∧ ∀ v, o.data ≠ .cell v
  nxt : ∀ {P : Program} {w : World} {A : Around} {E : Value → Shared → Prop} {s : Shared} {a l : Addr} {i : Nat} {xs : Array Value} {x : Value} {Q : Value → Shared → Prop}, κ.St s.heap a l i → κ.Sq s.heap l xs → xs[i]? = some x →
    (∀ h', κ.St h' a l (i + 1) → Heap.SameBut a s.heap h' → Q x { s with heap := h' }) → wpAny (model P w) A (Builtin.SmallTypes.nextOf (.ref a)) Q E s
  out : ∀ {P : Program} {w : World} {A : Around} {E : Value → Shared → Prop} {s : Shared} {a l : Addr} {i : Nat} {xs : Array Value} {Q : Value → Shared → Prop}, A.handled = none → κ.St s.heap a l i → κ.Sq s.heap l xs → xs[i]? = none →
    (∀ h' e, Heap.ExtBut a s.heap h' → (∃ o, h'.get? e = some o ∧ o.cls = .type "StopIteration") → E (.ref e) { s with heap := h' }) → wpAny (model P w) A (Builtin.SmallTypes.nextOf (.ref a)) Q E s
def kL : Kd := ⟨fun h a l i => h.IsListIter a l i, fun h l xs => h.IsList l xs⟩
def kT : Kd := ⟨fun h a l i => h.IsTupleIter a l i, fun h l xs => h.IsTuple l xs⟩
theorem kL_ok : KdOk kL where
  stay := fun x e => x.at e
  seq := fun ⟨o, ho, r⟩ e => ⟨o, e _ ho, r⟩
  here := fun ⟨o, ho, _, hd⟩ => ⟨o, ho, fun v z => by rw [hd] at z; cases z⟩
  nxt := fun h1 h2 h3 q => wpAny_nextOf_list_item h1 h2 h3 q
  out := fun h0 h1 h2 h3 q => wpAny_nextOf_list_end h0 h1 h2 h3 q
theorem kT_ok : KdOk kT where
  stay := fun x e => x.at e
  seq := fun ⟨o, ho, r⟩ e => ⟨o, e _ ho, r⟩
  here := fun ⟨o, ho, _, hd⟩ => ⟨o, ho, fun v z => by rw [hd] at z; cases z⟩
  nxt := fun h1 h2 h3 q => RZ.nextOf_tuple_item h1 h2 h3 q
  out := fun h0 h1 h2 h3 q => RZ.nextOf_tuple_end h0 h1 h2 h3 q
section
variable {prog : Program} {w : World} {A : Around} {E : Value → Shared → Prop} {s : Shared} {κ μ : Kd} {z TI TO a1 a2 l1 l2 : Addr} {n m : Nat} {xs ys : Array Value}
theorem zk_item {x y a b : Value} {Q : Value → Shared → Prop} (kκ : KdOk κ) (kμ : KdOk μ) (D : ZipApart z TI TO a1 a2 l1 l2) (Z : IsZip s.heap z TI TO .none) (hI : IsPair s.heap TI (.ref a1) (.ref a2)) (hO : IsPair s.heap TO a b) (u1 : κ.St s.heap a1 l1 n) (u2 : μ.St s.heap a2 l2 m) (v1 : κ.Sq s.heap l1 xs) (v2 : μ.Sq s.heap l2 ys) (hx : xs[n]? = some x) (hy : ys[m]? = some y)
    (fin : ∀ h', IsZip h' z TI TO (rawInt s.heap.objs.size) → IsPair h' TO x y → κ.St h' a1 l1 (n + 1) → μ.St h' a2 l2 (m + 1) → IsPair h' s.heap.objs.size x y → h'.objs.size = s.heap.objs.size + 1 → (∀ c o, c ≠ z → c ≠ TO → c ≠ a1 → c ≠ a2 → s.heap.get? c = some o → h'.get? c = some o) → Q (.ref s.heap.objs.size) { s with heap := h' }) :
    wpAny (model prog w) A (Builtin.«zip.__next__» ⟨[.ref z], []⟩) (fun r s' => ∃ v, r = .done (.ret v) ∧ Q v s') E s := by
  show wpAny _ _ (field (.ref z) 2 >>= _) _ _ _
  refine wpAny_bind (wpAny_field Z rfl (x := .bool false) rfl ?_); show wpAny _ _ (field (.ref z) 3 >>= _) _ _ _
  refine wpAny_bind (wpAny_field Z rfl (x := .ref TI) rfl (wpAny_bind (wpAny_seqItems hI rfl ?_)))
  show wpAny _ _ (Builtin.SmallTypes.ownedTupleIsFree (.ref z) >>= _) _ _ _
  refine wpAny_bind ?_; unfold Builtin.SmallTypes.ownedTupleIsFree
  refine wpAny_bind (wpAny_field Z rfl (x := .none) rfl (wpAny_pure ?_)); simp only [if_true]
  refine wpAny_bind (wpAny_rule (wpAny_bind (wpAny_field Z rfl (x := .ref TO) rfl (wpAny_bind (wpAny_setField_rec Z (by simp) fun hA ZA sA => ?_)))))
  replace ZA : IsZip hA z TI TO .ellipsis := ZA
  refine wpAny_bind ?_; simp only [List.zipIdx_cons, List.zipIdx_nil, List.forIn_cons, List.forIn_nil]
  refine wpAny_bind (wpAny_bind (wpAny_onRaise ?_)); show wpAny _ _ (Builtin.SmallTypes.nextOf (.ref a1) >>= _) _ _ _
  refine wpAny_bind (kκ.nxt (kκ.stay u1 fun o e => sA.extBut _ _ D.i1z e) (kκ.seq v1 fun o e => sA.extBut _ _ D.l1z e) hx fun hB uB sB => wpAny_pure ?_)
  have OB : IsPair hB TO a b := sB.extBut _ _ D.TOi1 (sA.extBut _ _ D.TOz hO)
  refine wpAny_bind (wpAny_seqItems OB rfl (wpAny_bind (wpAny_updateSeq_pair OB fun hC OC sC => ?_)))
  replace OC : IsPair hC TO x b := OC
  refine wpAny_bind (wpAny_letGo (wpAny_pure ?_)); refine wpAny_bind (wpAny_bind (wpAny_onRaise ?_)); show wpAny _ _ (Builtin.SmallTypes.nextOf (.ref a2) >>= _) _ _ _
  refine wpAny_bind (kμ.nxt (kμ.stay u2 fun o e => sC.extBut _ _ D.TOi2.symm (sB.extBut _ _ D.i12.symm (sA.extBut _ _ D.i2z e))) (kμ.seq v2 fun o e => sC.extBut _ _ D.l2TO (sB.extBut _ _ D.l2i1 (sA.extBut _ _ D.l2z e))) hy fun hD uD sD => wpAny_pure ?_)
  have OD : IsPair hD TO x b := sD.extBut _ _ D.TOi2 OC
  refine wpAny_bind (wpAny_seqItems OD rfl (wpAny_bind (wpAny_updateSeq_pair OD fun hF OF sF => ?_)))
  replace OF : IsPair hF TO x y := OF
  refine wpAny_bind (wpAny_letGo (wpAny_pure (wpAny_pure (wpAny_bind (wpAny_seqItems OF rfl (wpAny_bind (wpAny_newTuple ?_)))))))
  have many : hF.objs.size = s.heap.objs.size := by rw [sF.1, sD.1, sC.1, sB.1, sA.1]
  have ZF : IsZip hF z TI TO .ellipsis := sF.extBut _ _ D.TOz.symm (sD.extBut _ _ D.i2z.symm (sC.extBut _ _ D.TOz.symm (sB.extBut _ _ D.i1z.symm ZA)))
  have old : ∀ c o, c ≠ z → c ≠ TO → c ≠ a1 → c ≠ a2 → s.heap.get? c = some o → hF.get? c = some o := fun c o n1 n2 n3 n4 e => sF.extBut _ _ n2 (sD.extBut _ _ n4 (sC.extBut _ _ n2 (sB.extBut _ _ n3 (sA.extBut _ _ n1 e))))
  have wA : κ.St hF a1 l1 (n + 1) := kκ.stay uB fun o e => sF.extBut _ _ D.TOi1.symm (sD.extBut _ _ D.i12 (sC.extBut _ _ D.TOi1.symm e))
  have wB : μ.St hF a2 l2 (m + 1) := kμ.stay uD fun o e => sF.extBut _ _ D.TOi2.symm e
  have zl : z < hF.objs.size := Heap.lt_size ZF
  show wpAny _ _ (Builtin.SmallTypes.ownedTupleHandOut (.ref z) (.ref hF.objs.size) >>= _) _ _ _
  refine wpAny_bind ?_; unfold Builtin.SmallTypes.ownedTupleHandOut
  have ZG : IsZip (hF.push { cls := .type "tuple", data := .seq #[x, y] }) z TI TO .ellipsis := Heap.get?_push_of_some _ ZF
  refine wpAny_bind (wpAny_setField_rec ZG (by simp) fun hG' ZG' sG' => ?_)
  replace ZG' : IsZip hG' z TI TO (rawInt hF.objs.size) := ZG'
  refine wpAny_setField_rec ZG' (by simp) fun hK ZK sK => ?_
  replace ZK : IsZip hK z TI TO (rawInt hF.objs.size) := ZK
  have lift : ∀ c o, c ≠ z → hF.get? c = some o → hK.get? c = some o := fun c o n1 e => sK.extBut _ _ n1 (sG'.extBut _ _ n1 (Heap.get?_push_of_some _ e))
  have TK : IsPair hK hF.objs.size x y := sK.extBut _ _ (Nat.ne_of_gt zl) (sG'.extBut _ _ (Nat.ne_of_gt zl) (Heap.get?_push_size _ rfl))
  have nK : hK.objs.size = hF.objs.size + 1 := by rw [sK.1, sG'.1, Heap.size_push]
  have ne1 : a1 ≠ z := D.i1z
  rw [many] at ZK TK nK
  refine wpAny_pure ⟨_, rfl, ?_⟩; show Q (.ref hF.objs.size) _; rw [many]
  exact fin hK ZK (lift _ _ D.TOz OF) (kκ.stay wA fun o e => lift _ o D.i1z e) (kμ.stay wB fun o e => lift _ o D.i2z e) TK nK fun c o n1 n2 n3 n4 e => lift c o n1 (old c o n1 n2 n3 n4 e)
theorem zk_end {a b : Value} {Q : Fin → Shared → Prop} (kκ : KdOk κ) (kμ : KdOk μ) (hh : A.handled = none) (D : ZipApart z TI TO a1 a2 l1 l2) (Z : IsZip s.heap z TI TO .none) (hI : IsPair s.heap TI (.ref a1) (.ref a2)) (hO : IsPair s.heap TO a b) (u1 : κ.St s.heap a1 l1 n) (u2 : μ.St s.heap a2 l2 m) (v1 : κ.Sq s.heap l1 xs) (v2 : μ.Sq s.heap l2 ys) (hend : xs[n]? = none ∨ ys[m]? = none)
    (hE : ∀ h' e, (∀ c o, c ≠ z → c ≠ TO → c ≠ a1 → c ≠ a2 → s.heap.get? c = some o → h'.get? c = some o) → (∃ o, h'.get? e = some o ∧ o.cls = .type "StopIteration") → E (.ref e) { s with heap := h' }) : wpAny (model prog w) A (Builtin.«zip.__next__» ⟨[.ref z], []⟩) Q E s := by
  show wpAny _ _ (field (.ref z) 2 >>= _) _ _ _
  refine wpAny_bind (wpAny_field Z rfl (x := .bool false) rfl ?_); show wpAny _ _ (field (.ref z) 3 >>= _) _ _ _
  refine wpAny_bind (wpAny_field Z rfl (x := .ref TI) rfl (wpAny_bind (wpAny_seqItems hI rfl ?_)))
  show wpAny _ _ (Builtin.SmallTypes.ownedTupleIsFree (.ref z) >>= _) _ _ _
  refine wpAny_bind ?_; unfold Builtin.SmallTypes.ownedTupleIsFree
  refine wpAny_bind (wpAny_field Z rfl (x := .none) rfl (wpAny_pure ?_)); simp only [if_true]
  refine wpAny_bind (wpAny_rule (wpAny_bind (wpAny_field Z rfl (x := .ref TO) rfl (wpAny_bind (wpAny_setField_rec Z (by simp) fun hA ZA sA => ?_)))))
  replace ZA : IsZip hA z TI TO .ellipsis := ZA
  refine wpAny_bind ?_; simp only [List.zipIdx_cons, List.zipIdx_nil, List.forIn_cons, List.forIn_nil]
  refine wpAny_bind (wpAny_bind (wpAny_onRaise ?_)); show wpAny _ _ (Builtin.SmallTypes.nextOf (.ref a1) >>= _) _ _ _
  by_cases hx : xs[n]? = none
  · refine wpAny_bind (kκ.out hh (kκ.stay u1 fun o e => sA.extBut _ _ D.i1z e) (kκ.seq v1 fun o e => sA.extBut _ _ D.l1z e) hx fun hB e sB he => ?_)
    obtain ⟨oe, g1, g2⟩ := he
    have ZB : IsZip hB z TI TO .ellipsis := sB _ _ D.i1z.symm ZA
    have hez : e ≠ z := fun q => by rw [q, ZB] at g1; cases g1; simp at g2
    exact wpAny_setField_rec ZB (by simp) fun hC _ sC => hE hC e (fun c o n1 _ n3 _ q => sC.extBut _ _ n1 (sB _ _ n3 (sA.extBut _ _ n1 q))) ⟨oe, sC.extBut _ _ hez g1, g2⟩
  · obtain ⟨x, hx'⟩ := Option.ne_none_iff_exists'.mp hx
    have hy : ys[m]? = none := hend.resolve_left hx
    refine wpAny_bind (kκ.nxt (kκ.stay u1 fun o e => sA.extBut _ _ D.i1z e) (kκ.seq v1 fun o e => sA.extBut _ _ D.l1z e) hx' fun hB uB sB => wpAny_pure ?_)
    have OB : IsPair hB TO a b := sB.extBut _ _ D.TOi1 (sA.extBut _ _ D.TOz hO)
    refine wpAny_bind (wpAny_seqItems OB rfl (wpAny_bind (wpAny_updateSeq_pair OB fun hC OC sC => ?_)))
    refine wpAny_bind (wpAny_letGo (wpAny_pure ?_)); refine wpAny_bind (wpAny_bind (wpAny_onRaise ?_)); show wpAny _ _ (Builtin.SmallTypes.nextOf (.ref a2) >>= _) _ _ _
    refine wpAny_bind (kμ.out hh (kμ.stay u2 fun o e => sC.extBut _ _ D.TOi2.symm (sB.extBut _ _ D.i12.symm (sA.extBut _ _ D.i2z e))) (kμ.seq v2 fun o e => sC.extBut _ _ D.l2TO (sB.extBut _ _ D.l2i1 (sA.extBut _ _ D.l2z e))) hy fun hD e sD he => ?_)
    obtain ⟨oe, g1, g2⟩ := he
    have ZD : IsZip hD z TI TO .ellipsis := sD _ _ D.i2z.symm (sC.extBut _ _ D.TOz.symm (sB.extBut _ _ D.i1z.symm ZA))
    have hez : e ≠ z := fun q => by rw [q, ZD] at g1; cases g1; simp at g2
    exact wpAny_setField_rec ZD (by simp) fun hF _ sF => hE hF e (fun c o n1 n2 n3 n4 q => sF.extBut _ _ n1 (sD _ _ n4 (sC.extBut _ _ n2 (sB.extBut _ _ n3 (sA.extBut _ _ n1 q))))) ⟨oe, sF.extBut _ _ hez g1, g2⟩
theorem zk_nextI {x y a b : Value} {Q : Option Value → Shared → Prop} (kκ : KdOk κ) (kμ : KdOk μ) (D : ZipApart z TI TO a1 a2 l1 l2) (Z : IsZip s.heap z TI TO .none) (hI : IsPair s.heap TI (.ref a1) (.ref a2)) (hO : IsPair s.heap TO a b) (u1 : κ.St s.heap a1 l1 n) (u2 : μ.St s.heap a2 l2 m) (v1 : κ.Sq s.heap l1 xs) (v2 : μ.Sq s.heap l2 ys) (hx : xs[n]? = some x) (hy : ys[m]? = some y)
    (fin : ∀ h', IsZip h' z TI TO (rawInt s.heap.objs.size) → IsPair h' TO x y → κ.St h' a1 l1 (n + 1) → μ.St h' a2 l2 (m + 1) → IsPair h' s.heap.objs.size x y → h'.objs.size = s.heap.objs.size + 1 → (∀ c o, c ≠ z → c ≠ TO → c ≠ a1 → c ≠ a2 → s.heap.get? c = some o → h'.get? c = some o) → Q (some (.ref s.heap.objs.size)) { s with heap := h' }) :
    wpAny (model prog w) A (pyNext (.ref z)) Q E s := by
  have T : s.TypeIs (.ref z) "zip" := ⟨_, Z, rfl⟩
  unfold pyNext
  exact wpAny_bind (wpAny_attempt (wpAny_callSpecial?_slot (name := Str.ofString "__next__") T F.slot_zip_next (wpAny_call_entry F.slot_zip_next T F.entry_zip_next
    (zk_item kκ kμ D Z hI hO u1 u2 v1 v2 hx hy fun h' b1 b2 b3 b4 b5 b6 b7 => wpAny_pure (fin h' b1 b2 b3 b4 b5 b6 b7)) (F.args_zip_next_1 _))))
theorem zk_nextE {a b : Value} {Q : Option Value → Shared → Prop} (kκ : KdOk κ) (kμ : KdOk μ) (hh : A.handled = none) (D : ZipApart z TI TO a1 a2 l1 l2) (Z : IsZip s.heap z TI TO .none) (hI : IsPair s.heap TI (.ref a1) (.ref a2)) (hO : IsPair s.heap TO a b) (u1 : κ.St s.heap a1 l1 n) (u2 : μ.St s.heap a2 l2 m) (v1 : κ.Sq s.heap l1 xs) (v2 : μ.Sq s.heap l2 ys) (hend : xs[n]? = none ∨ ys[m]? = none)
    (fin : ∀ h', (∀ c o, c ≠ z → c ≠ TO → c ≠ a1 → c ≠ a2 → s.heap.get? c = some o → h'.get? c = some o) → Q none { s with heap := h' }) : wpAny (model prog w) A (pyNext (.ref z)) Q E s := by
  have T : s.TypeIs (.ref z) "zip" := ⟨_, Z, rfl⟩
  unfold pyNext
  refine wpAny_bind (wpAny_attempt (wpAny_callSpecial?_slot (name := Str.ofString "__next__") T F.slot_zip_next (wpAny_call_entry F.slot_zip_next T F.entry_zip_next (zk_end kκ kμ hh D Z hI hO u1 u2 v1 v2 hend fun h' e hk he => ?_) (F.args_zip_next_1 _))))
  obtain ⟨o, ho, hc⟩ := he
  exact wpAny_bind (wpAny_isInstance (T := "StopIteration") (b := true) ⟨o, ho, hc⟩ isSubtype_stop (wpAny_pure (fin _ hk)))
end
abbrev zmA (h : Heap) (l : Addr) : Heap := h.push { cls := .type "list_iterator", data := .fields #[.ref l, .int 0 0] }
abbrev zmB (h : Heap) (l t : Addr) : Heap := (zmA h l).push { cls := .type "tuple_iterator", data := .fields #[.ref t, .int 0 0] }
abbrev zmC (h : Heap) (l t : Addr) : Heap := (zmB h l t).push { cls := .type "tuple", data := .seq #[.ref h.objs.size, .ref (zmA h l).objs.size] }
abbrev zmD (h : Heap) (l t : Addr) : Heap := (zmC h l t).push { cls := .type "tuple", data := .seq #[.none, .none] }
abbrev zmE (h : Heap) (l t : Addr) : Heap := (zmD h l t).push { cls := .type "zip", data := .fields #[.none, .bool false, .bool false, .ref (zmB h l t).objs.size, .ref (zmC h l t).objs.size] }
theorem zm_new (l t : Addr) (xs ys : Array Value) : Meets (Builtin.«zip.__new__» ⟨[.type "zip", .ref l, .ref t], []⟩) (fun _ R s => s.heap.IsList l xs ∧ s.heap.IsTuple t ys ∧ R (.ok (.ret (.ref (zmD s.heap l t).objs.size))) { s with heap := zmE s.heap l t }) :=
  .of_wp fun prog w A R s h => by
    obtain ⟨hp, g, d, tk, os⟩ := s
    obtain ⟨v1, v2, h⟩ := h
    have sub := PySem.sub_zip
    have V1 : Heap.IsList (Shared.heap ⟨hp, g, d, tk, os⟩) l xs := v1
    have V2 : Heap.IsTuple (Shared.heap ⟨hp.push { cls := .type "list_iterator", data := .fields #[.ref l, .int 0 0] }, g, d, tk, os⟩) t ys := Heap.IsTuple.push v2 _
    wp_walk using wpAny_pyIter_list V1, wpAny_pyIter_tuple V2
    exact ⟨_, rfl, h⟩
section
variable {prog : Program} {w : World} {A : Around} {E : Value → Shared → Prop} {s : Shared}
theorem call_zm {l t : Addr} {xs ys : Array Value} {Q : Value → Shared → Prop} (v1 : s.heap.IsList l xs) (v2 : s.heap.IsTuple t ys)
    (fin : ∀ h', IsZip h' (s.heap.objs.size + 4) (s.heap.objs.size + 2) (s.heap.objs.size + 3) .none → IsPair h' (s.heap.objs.size + 2) (.ref s.heap.objs.size) (.ref (s.heap.objs.size + 1)) → IsPair h' (s.heap.objs.size + 3) .none .none → h'.IsListIter s.heap.objs.size l 0 → h'.IsTupleIter (s.heap.objs.size + 1) t 0 →
      (∀ c o, s.heap.get? c = some o → h'.get? c = some o) → Q (.ref (s.heap.objs.size + 4)) { s with heap := h' }) :
    wpAny (model prog w) A (call (.type "zip") [.ref l, .ref t]) Q E s := by
  refine callType_new F.called_zip (by decide) (F.typeCall_zip_2 _ _) (F.newCall_zip_2 _ _) (fun ob => F.args_object_init_3 ob _ _) F.entry_zip_new (zm_new l t xs ys) ⟨v1, v2, ?_⟩
  have n1 : (zmA s.heap l).objs.size = s.heap.objs.size + 1 := Heap.size_push ..
  have n2 : (zmB s.heap l t).objs.size = s.heap.objs.size + 2 := by rw [Heap.size_push, n1]
  have n3 : (zmC s.heap l t).objs.size = s.heap.objs.size + 3 := by rw [Heap.size_push, n2]
  have n4 : (zmD s.heap l t).objs.size = s.heap.objs.size + 4 := by rw [Heap.size_push, n3]
  have up : ∀ {h : Heap} {o : Obj} {c : Addr} {u : Obj}, h.get? c = some u → (h.push o).get? c = some u := fun e => Heap.get?_push_of_some _ e
  have o5 : (zmE s.heap l t).get? (zmD s.heap l t).objs.size = some _ := Heap.get?_push_size _ rfl
  have o4 : (zmE s.heap l t).get? (zmC s.heap l t).objs.size = some _ := up (Heap.get?_push_size _ rfl)
  have o3 : (zmE s.heap l t).get? (zmB s.heap l t).objs.size = some _ := up (up (Heap.get?_push_size _ rfl))
  have o2 : (zmE s.heap l t).get? (zmA s.heap l).objs.size = some _ := up (up (up (Heap.get?_push_size _ rfl)))
  have o1 : (zmE s.heap l t).get? s.heap.objs.size = some _ := up (up (up (up (Heap.get?_push_size _ rfl))))
  rw [n2, n3, n4] at o5; rw [n1, n2] at o3; rw [n3] at o4; rw [n1] at o2
  show _ ∧ _
  rw [n4]
  exact ⟨⟨_, o5, rfl⟩, fin _ o5 o3 o4 ⟨_, o1, rfl, rfl⟩ ⟨_, o2, rfl, rfl⟩ fun c o x => up (up (up (up (up x))))⟩
end
/-- the list at a and the tuple at b, their items in new pairs -/
def Itm (K : PySem.W.Frag) (a b : Addr) : It :=
  ⟨fun i H => ∃ (xs ys : List V) (x y : V), SqL K H a xs ∧ SqT K H b ys ∧ xs[i]? = some x ∧ ys[i]? = some y, fun i H v H' => ∃ T x y, v = .ref T ∧ H T = none ∧ H' = upd H T (.tup [x, y]) ∧ (∀ xs, SqL K H a xs → xs[i]? = some x) ∧ ∀ ys, SqT K H b ys → ys[i]? = some y,
    fun i H => ∃ xs ys : List V, SqL K H a xs ∧ SqT K H b ys ∧ (xs.length ≤ i ∨ ys.length ≤ i)⟩
theorem mem5 {α : Type} {c z a b d e : α} (h : c ∈ [z, a, b, d, e]) : c = z ∨ c = a ∨ c = b ∨ c = d ∨ c = e := by simpa using h
theorem turn_zm {P : Program} {w : World} {K : PySem.W.Frag} {elts : List Expr} {kk : Nat} {tpos : Pos} {a b z TI TO i1 i2 : Addr} (D : ZipApart z TI TO i1 i2 a b) :
    Turn P w K (.Tuple elts kk tpos) (Itm K a b) [z, TI, TO, i1, i2] z (fun i h => IsZip h z TI TO .none ∧ IsPair h TI (.ref i1) (.ref i2) ∧ (∃ x y, IsPair h TO x y) ∧ kL.St h i1 a i ∧ kT.St h i2 b i) where
  mem := by simp
  obj := fun i h st c hc => by
    obtain ⟨Z, hI, ⟨x, y, hO⟩, u1, u2⟩ := st
    rcases mem5 hc with q | q | q | q | q <;> rw [q]
    · exact ⟨_, Z, fun v q => nomatch q⟩
    · exact ⟨_, hI, fun v q => nomatch q⟩
    · exact ⟨_, hO, fun v q => nomatch q⟩
    · exact kL_ok.here u1
    · exact kT_ok.here u2
  keep := fun i h h' st k => by
    obtain ⟨Z, hI, ⟨x, y, hO⟩, u1, u2⟩ := st
    exact ⟨k z (by simp) _ Z, k TI (by simp) _ hI, ⟨x, y, k TO (by simp) _ hO⟩, kL_ok.stay u1 fun o q => k i1 (by simp) o q, kT_ok.stay u2 fun o q => k i2 (by simp) o q⟩
  item := by
    intro X hP hw hK hc i pins s σ H E I hf st hg
    subst hP hw hK
    obtain ⟨Z, hI, ⟨x0, y0, hO⟩, u1, u2⟩ := st
    obtain ⟨xs, ys, x, y, qx, qy, hx, hy⟩ := hg
    obtain ⟨its, rv, p, _⟩ := I.list qx
    obtain ⟨jts, rw', p2, _⟩ := I.tuple qy
    obtain ⟨u, hu, ru⟩ := rv.get hx
    obtain ⟨v, hv, rv'⟩ := rw'.get hy
    have zl : z < s.heap.objs.size := Heap.lt_size Z
    refine zk_nextI kL_ok kT_ok D Z hI hO u1 u2 p.isList p2 (x := u) (y := v) (by simpa using hu) (by simpa using hv) fun h' Z' O' u1' u2' T' _ old => ?_
    refine ⟨_, rfl, wpAny_letOwnedTupleGo_zip (s := { s with heap := h' }) Z' fun g Z2 sb => ?_⟩
    have T2 : g.get? s.heap.objs.size = some { cls := .type "tuple", data := .seq #[u, v] } := (sb.2 _ (Nat.ne_of_gt zl)).trans T'
    have nw : ObjOk X.prog X.w (upd H s.heap.objs.size (.tup [x, y])) g s.heap.objs.size (.tup [x, y]) := ⟨by show 2 ≤ sizeLine; decide, [u, v], .cons ru (.cons rv' .nil), ⟨_, T2, rfl, _, rfl⟩⟩
    have I1 : Inv X pins σ (upd H s.heap.objs.size (.tup [x, y])) { s with heap := g } :=
      I.turnedNew (t' := s.toks) (ch := [z, TI, TO, i1, i2]) (fun c o hb q => (sb.2 c fun e => hb (by simp [e])).trans (old c o (fun e => hb (by simp [e])) (fun e => hb (by simp [e])) (fun e => hb (by simp [e])) (fun e => hb (by simp [e])) q)) hf (Nat.le_refl _) nw
    refine ⟨.ref s.heap.objs.size, _, I1, rfl, ⟨_, x, y, rfl, I.hok.fresh (Nat.le_refl _), rfl, fun l hl => (I.list_inj hl qx).symm ▸ hx, fun l hl => (I.tuple_inj hl qy).symm ▸ hy⟩, ⟨Z2, ?_, ⟨u, v, ?_⟩, kL_ok.stay u1' fun o q => (sb.2 _ D.i1z).trans q, kT_ok.stay u2' fun o q => (sb.2 _ D.i2z).trans q⟩, fun c hcm => ?_⟩
    · exact (sb.2 _ D.TIz).trans (old _ _ D.TIz D.TITO D.TIi1 D.TIi2 hI)
    · exact (sb.2 _ D.TOz).trans O'
    · have lt : c < s.heap.objs.size := by
        rcases mem5 hcm with q | q | q | q | q <;> rw [q]
        · exact zl
        · exact Heap.lt_size hI
        · exact Heap.lt_size hO
        · exact Heap.lt_size (kL_ok.here u1).choose_spec.1
        · exact Heap.lt_size (kT_ok.here u2).choose_spec.1
      rw [upd_ne (Nat.ne_of_lt lt)]
      exact (hf c hcm).1
  done := by
    intro X hP hw hK hc i pins s σ H E I hf st hg
    subst hP hw hK
    obtain ⟨Z, hI, ⟨x0, y0, hO⟩, u1, u2⟩ := st
    obtain ⟨xs, ys, qx, qy, hend⟩ := hg
    obtain ⟨its, rv, p, _⟩ := I.list qx
    obtain ⟨jts, rw', p2, _⟩ := I.tuple qy
    have e1 := rv.length
    have e2 := rw'.length
    have he : its.toArray[i]? = none ∨ jts.toArray[i]? = none := hend.elim (fun q => .inl (by simp; omega)) fun q => .inr (by simp; omega)
    exact zk_nextE kL_ok kT_ok (I.ok.hd hc) D Z hI hO u1 u2 p.isList p2 he fun h' old => ⟨rfl, I.turnedL (t' := s.toks) (ch := [z, TI, TO, i1, i2]) (fun c o hb q => old c o (fun e => hb (by simp [e])) (fun e => hb (by simp [e])) (fun e => hb (by simp [e])) (fun e => hb (by simp [e])) q) hf⟩
  self := fun A i s Q E st h => wpAny_pyIter_zip st.1 h
def iZipM (K : PySem.W.Frag) (ta : TA) : TI := fun σ H R => ta σ H fun vs H1 => ∃ a b xs ys, vs = [.ref a, .ref b] ∧ SqL K H1 a xs ∧ SqT K H1 b ys ∧ R (Itm K a b) H1
theorem pi_zipM {X : Cx} {e e2 : Expr} {ta : TA} {p pos tpos : Pos} {elts : List Expr} {kk : Nat} (hg : Gl X "zip") (hm : X.mg "zip" = none) (ha : PA X [e, e2] ta) (hs : starEach [e, e2] X.env = (false, eval e X.env) :: starEach [e2] X.env := by rfl) (hpl : (backTo pos (starEach [e2] X.env)).any (·.1) = false := by rfl) :
    PI X (.Tuple elts kk tpos) (.Call (.Name "zip" p) [e, e2] [] pos) (iZipM X.K ta) := by
  refine ⟨fun pins s σ H R I h => Call_ (ld_blt I hg hm PyProof.Rows.boot_zip (PyProof.Rows.callWith_type1 (thn (ha.run pos pins s σ H _ I h) fun us s1 ⟨vs, H1, I1, r1, q1⟩ => ?_) hs hpl))⟩
  obtain ⟨a, b, xs, ys, ex, qx, qy, q⟩ := q1
  subst ex
  obtain _ | ⟨r, rr⟩ := r1
  obtain _ | ⟨r', rr⟩ := rr
  cases rr
  cases r
  cases r'
  obtain ⟨its, rv, p1, _⟩ := I1.list qx
  obtain ⟨jts, rw', p2, _⟩ := I1.tuple qy
  have lb : b < s1.heap.objs.size := by
    obtain ⟨o, ho, _⟩ := id p2
    exact Heap.lt_size ho
  refine call_zm p1.isList p2 fun h' Z hI hO u1 u2 hk => wpAny_pyIter_zip Z ?_
  refine ⟨s1.heap.objs.size + 4, [s1.heap.objs.size + 4, s1.heap.objs.size + 2, s1.heap.objs.size + 3, s1.heap.objs.size, s1.heap.objs.size + 1], _, _, H1, rfl, I1.kept (t' := s1.toks) hk, turn_zm (PySem.W.ktu_apart s1.heap.objs.size a b p1.lt lb), ⟨Z, hI, ⟨_, _, hO⟩, u1, u2⟩, fun c hcm => ?_, q⟩
  have le : s1.heap.objs.size ≤ c := by rcases mem5 hcm with z | z | z | z | z <;> rw [z] <;> omega
  exact I1.fpOk le (I1.hok.fresh le)
section
variable {K : PySem.W.Frag} {σ : L2.St} {H H' : Hp} {ta tb te : TE} {t : TT}
theorem walk_zm {a b : Addr} {xs ys : List V} {n : Nat} (hn : n = min xs.length ys.length) : Walk (Itm K a b) n (fun H => SqL K H a xs ∧ SqT K H b ys) (YPair (fun i => xs[i]?) (fun i => ys[i]?)) := by
  subst hn
  refine ⟨fun i _ hi q => ?_, fun _ q => ⟨xs, ys, q.1, q.2, by omega⟩, fun i H v H' _ q ⟨T, x, y, h1, h2, h3, h4, h5⟩ => ⟨T, x, y, h1, h2, h3, h4 xs q.1, h5 ys q.2⟩⟩
  have h1 : i < xs.length := by omega
  have h2 : i < ys.length := by omega
  exact ⟨xs, ys, xs[i], ys[i], q.1, q.2, by simp [h1], by simp [h2]⟩
/-- a comprehension over zip(list, tuple), its two names in the slots i1, i2 -/
theorem el_lcZM {a b : Addr} {xs ys : List V} {tl : TA} {i1 i2 : Nat} {vs : List Nat} (f : Nat → Bool) (v : Nat → V) (h : EvA tl σ H [.ref a, .ref b]) (hx : SqL K H a xs) (hy : SqT K H b ys) (hz : xs.length ≤ 40000) (hw : ∀ x y, wipe (((wipe σ vs).set i1 (some x)).set i2 (some y)) vs = wipe σ vs)
    (ht : ∀ (i : Nat) (x y : V) H1, Ex H H1 → xs[i]? = some x → ys[i]? = some y → EvT t (((wipe σ vs).set i1 (some x)).set i2 (some y)) H1 (f i)) (he : ∀ (i : Nat) (x y : V) H1, Ex H H1 → xs[i]? = some x → ys[i]? = some y → f i = true → Ev te (((wipe σ vs).set i1 (some x)).set i2 (some y)) H1 (v i)) :
    EvL (tLc (iZipM K tl) (gTup K 2 (gCons (gName i1) (gCons (gName i2) gNil))) t te vs) σ H (given (min xs.length ys.length) f v) := fun H0 e Q q => h H0 e _ fun H1 e1 => ⟨a, b, xs, ys, rfl, ex_l (e.trans e1) hx, ex_t (e.trans e1) hy, fun Dl hD =>
  lc_it (walk_zm (xs := xs) (ys := ys) rfl) (Cw H1 f v Dl) ⟨hD, Ex.new hD, upd_same⟩ (fun i H' _ p => ⟨ex_l ((e.trans e1).trans p.2.1) hx, ex_t ((e.trans e1).trans p.2.1) hy⟩) (fun i x H' H'' hi p y => by
    obtain ⟨T, u, u', rfl, nT, rfl, g1, g2⟩ := y
    obtain ⟨p1, p2, p3⟩ := p
    have p' : Cw H1 f v Dl i (upd H' T (.tup [u, u'])) := ⟨p1, p2.trans (Ex.new nT), (Ex.new nT) _ _ p3⟩
    exact ⟨T, [u, u'], rfl, st_of upd_same, rfl, u, [u'], rfl, u', [], rfl, rfl, hw _ _, cw_turn p' (by omega) (ht i u u' H1 (e.trans e1) g1 g2) (fun hf => he i u u' H1 (e.trans e1) g1 g2 hf)⟩)
    (fun H' p => q Dl H' (fresh_back e1 p.1) (e1.trans p.2.1) p.2.2)⟩
end
end Own
/-! own rules: xs[lo::s] of a list; min and max with default=; math.comb; >= of tuples -/
namespace Own
open PySem PySem.Spec PyProof.Rows L2 Evl
/-- the items at lo, lo + s, .. -/
def pickL {α : Type} (xs : List α) (lo s : Nat) : List α := (sliceRange ((min lo xs.length : Nat) : Int) (xs.length : Int) (s : Int)).filterMap (xs[·]?)
theorem vals_pick {xs : List V} {us : List Value} (r : Vals xs us) : ∀ is : List Nat, Vals (is.filterMap (xs[·]?)) (is.filterMap (us[·]?))
  | [] => .nil
  | i :: is => by
    have ih := vals_pick r is
    rw [List.filterMap_cons, List.filterMap_cons]
    cases h : xs[i]? with
    | none =>
      rw [r.none_of h]
      exact ih
    | some x =>
      obtain ⟨u, hu, ru⟩ := r.get h
      rw [hu]
      exact .cons ru ih
theorem bounds_step (lo s n : Nat) (hs : 0 < s) : sliceBounds (some (lo : Int)) none (some (s : Int)) n = (((min lo n : Nat) : Int), (n : Int), (s : Int)) := by
  have h1 : (s : Int) > 0 := by omega
  have h2 : ¬ ((lo : Int) < 0) := by omega
  simp only [sliceBounds, Option.getD_some, h1, h2, if_true, if_false, Prod.mk.injEq, and_true]
  omega
theorem slice_step (its : List Value) (lo s : Nat) (hs : 0 < s) : slicePick its.toArray (some (lo : Int)) none (some (s : Int)) = (pickL its lo s).toArray := by
  unfold slicePick pickL
  rw [List.size_toArray, bounds_step lo s _ hs]
  simp
def tSlS (K : PySem.W.Frag) (te : TE) (tl ts : TO) : TE := fun σ H Q => te σ H fun x H1 => tl σ H1 fun l H2 => ts σ H2 fun st H3 => ∃ (a : Addr) (xs : List V) (lo s : Nat), x = .ref a ∧ l = some (lo : Int) ∧ st = some (s : Int) ∧ 0 < s ∧ SqL K H3 a xs ∧ ∀ p, H3 p = none → Q (.ref p) (upd H3 p (.lst (pickL xs lo s)))
theorem pickL_len {α : Type} (xs : List α) (lo s : Nat) (hs : 0 < s) : (pickL xs lo s).length ≤ xs.length := by
  unfold pickL
  exact Nat.le_trans (List.length_filterMap_le _ _) (sliceRange_length_le _ _ _ _ (fun _ => ⟨by omega, by omega⟩) fun h => absurd (show (s : Int) > 0 by omega) h)
section
variable {X : Cx}
theorem pe_sliceS {e lo st : Expr} {te : TE} {tl ts : TO} {p3 pos : Pos} (he : PE X e te) (hl : PO X (some lo) tl) (hst : PO X (some st) ts) : PE X (.Subscript e (.Slice (some lo) none (some st) p3) pos) (tSlS X.K te tl ts) := by
  refine ⟨fun pins s σ H Q I h => Subscript_ (thn (he.run pins s σ H _ I h) fun v s1 ⟨x, H1, I1, r1, q1⟩ => ?_)⟩
  refine wpAny_Slice (thn (hl.run pins s1 σ H1 _ I1 q1) fun vl s2 ⟨l, H2, I2, pl, q2⟩ => ?_)
  refine thn (po_none.run pins s2 σ H2 (fun o H3 => o = none ∧ H3 = H2) I2 ⟨rfl, rfl⟩) fun vu s3 ⟨u, H3, I3, pu, eu, e3⟩ => ?_
  subst eu e3
  refine thn (hst.run pins s3 σ H3 _ I3 q2) fun vs s4 ⟨o, H4, I4, ps, q4⟩ => ?_
  obtain ⟨a, xs, n, k, ex, el, eo, hk, hx, q⟩ := q4
  subst ex el eo
  cases r1
  have I5 : Inv X pins σ H4 { s4 with heap := s4.heap.push { cls := .type "slice", data := .fields #[vl, vu, vs] } } := I4.kept (t' := s4.toks) fun b ob q => Heap.get?_push_of_some _ q
  obtain ⟨its, r, ht, hz⟩ := I5.list hx
  have hlen := r.length
  show wpAny (model X.prog X.w) X.A (subscriptTail e (.Slice (some lo) none (some st) p3) (.ref a) (.ref s4.heap.objs.size)) (EP X pins σ Q) X.xe { s4 with heap := s4.heap.push { cls := .type "slice", data := .fields #[vl, vu, vs] } }
  refine tail_any (ops := [.ref a, .ref s4.heap.objs.size]) ht.isList.typeIs slot_list_getitem.lookup ?_ (by with_unfolding_all rfl)
  refine wpAny_getItem_list_slice ht.isList (Heap.IsSliceOf.new _ vl vu vs) pl pu ps (fun z => by have := Option.some.inj z; omega) ?_ (by rw [List.size_toArray]; omega)
  rw [slice_step _ _ _ hk]
  refine ⟨.ref _, _, I5.laid (t' := s4.toks) (o := .lst (pickL xs n k)) (fun b ob q => Heap.get?_push_of_some _ q) (Nat.le_refl _) ?_, rfl, q _ (I5.hok.fresh (Nat.le_refl _))⟩
  refine ⟨Nat.le_trans (pickL_len xs n k hk) hz, _, 0, ?_, Heap.get?_push_size _ rfl⟩
  unfold pickL
  rw [hlen]
  exact vals_pick r _
end
section
variable {K : PySem.W.Frag} {σ : L2.St} {H H' : Hp} {ta tb te : TE} {tl ts : TO}
theorem el_slS {a : Addr} {xs : List V} {lo s : Nat} (h : Ev te σ H (.ref a)) (h1 : EvO tl σ H (some (lo : Int))) (h2 : EvO ts σ H (some (s : Int))) (hs : 0 < s) (hx : SqL K H a xs) : EvL (tSlS K te tl ts) σ H (pickL xs lo s) := fun H1 e Q q =>
  h H1 e _ fun H2 e2 => h1 H2 (e.trans e2) _ fun H3 e3 => h2 H3 ((e.trans e2).trans e3) _ fun H4 e4 => ⟨a, xs, lo, s, rfl, rfl, rfl, hs, ex_l (((e.trans e2).trans e3).trans e4) hx, fun p hp => q p _ (fresh_back ((e2.trans e3).trans e4) hp) (((e2.trans e3).trans e4).trans (Ex.new hp)) upd_same⟩
end
/-! the items of one class -/
def strd (f : Nat) : Nat → List Nat → List Nat
  | _, [] => []
  | 0, x :: r => x :: strd f (f - 1) r
  | t + 1, _ :: r => strd f t r
theorem pick_nil {α : Type} (lo s : Nat) : pickL ([] : List α) lo s = [] := by
  unfold pickL
  simp
theorem range_cons (lo n s : Nat) (hs : 0 < s) (h : lo < n) : sliceRange (lo : Int) (n : Int) (s : Int) = lo :: sliceRange ((lo + s : Nat) : Int) (n : Int) (s : Int) := by
  have hc : (s : Int) > 0 := by omega
  unfold sliceRange
  simp only [hc, if_true]
  rw [if_pos (show (lo : Int) < n by omega)]
  have e1 : ((n : Int) - (lo : Int) + s - 1) / s = ((n - lo + s - 1) / s : Nat) := by
    rw [show ((n : Int) - (lo : Int) + s - 1) = ((n - lo + s - 1 : Nat) : Int) by omega]
    rfl
  rw [e1, Int.toNat_natCast]
  have e2 : (if ((lo + s : Nat) : Int) < n then ((n : Int) - ((lo + s : Nat) : Int) + s - 1) / s else 0).toNat + 1 = (n - lo + s - 1) / s := by
    by_cases h2 : lo + s < n
    · rw [if_pos (by omega), show ((n : Int) - ((lo + s : Nat) : Int) + s - 1) = ((n - (lo + s) + s - 1 : Nat) : Int) by omega]
      show ((((n - (lo + s) + s - 1) / s : Nat) : Int)).toNat + 1 = _
      rw [Int.toNat_natCast, show n - lo + s - 1 = (n - (lo + s) + s - 1) + s by omega, Nat.add_div_right _ hs]
    · rw [if_neg (by omega)]
      show 0 + 1 = _
      have h3 : (n - lo + s - 1) / s = 1 := by
        rw [show n - lo + s - 1 = (n - lo - 1) + s by omega, Nat.add_div_right _ hs, Nat.div_eq_of_lt (by omega)]
      rw [h3]
  rw [← e2, List.range_succ_eq_map, List.map_cons, List.map_map]
  refine congr (congrArg List.cons ?_) ?_
  · show ((lo : Int) + s * ((0 : Nat) : Int)).toNat = lo
    rw [Int.natCast_zero, Int.mul_zero]
    omega
  · refine List.map_congr_left fun k _ => ?_
    show ((lo : Int) + s * ((k + 1 : Nat) : Int)).toNat = ((((lo + s : Nat) : Int)) + s * (k : Int)).toNat
    rw [Int.natCast_add k 1, Int.mul_add]
    congr 1
    omega
theorem range_nil (lo n s : Nat) (hs : 0 < s) (h : n ≤ lo) : sliceRange (lo : Int) (n : Int) (s : Int) = [] := by
  have hc : (s : Int) > 0 := by omega
  unfold sliceRange
  simp only [hc, if_true]
  rw [if_neg (show ¬ (lo : Int) < n by omega)]
  rfl
theorem range_shift (s : Nat) (hs : 0 < s) : ∀ (m lo n : Nat), n ≤ lo + m → sliceRange ((lo + 1 : Nat) : Int) ((n + 1 : Nat) : Int) (s : Int) = (sliceRange (lo : Int) (n : Int) (s : Int)).map (· + 1)
  | 0, lo, n, h => by
    rw [range_nil _ _ _ hs (by omega), range_nil _ _ _ hs (by omega)]
    rfl
  | m + 1, lo, n, h => by
    by_cases h2 : lo < n
    · rw [range_cons _ _ _ hs (show lo + 1 < n + 1 by omega), range_cons _ _ _ hs h2, List.map_cons, show lo + 1 + s = lo + s + 1 by omega, range_shift s hs m (lo + s) n (by omega)]
    · rw [range_nil _ _ _ hs (by omega), range_nil _ _ _ hs (by omega)]
      rfl
theorem pick_go (f : Nat) (hf : 0 < f) : ∀ (xs : List Nat) (lo : Nat), (sliceRange (lo : Int) (xs.length : Int) (f : Int)).filterMap (xs[·]?) = strd f lo xs
  | [], lo => by
    show (sliceRange (lo : Int) ((0 : Nat) : Int) (f : Int)).filterMap _ = _
    rw [range_nil _ _ _ hf (Nat.zero_le _)]
    cases lo <;> rfl
  | x :: r, 0 => by
    rw [List.length_cons, range_cons 0 _ _ hf (by omega), List.filterMap_cons]
    show x :: (sliceRange ((0 + f : Nat) : Int) ((r.length + 1 : Nat) : Int) (f : Int)).filterMap ((x :: r)[·]?) = x :: strd f (f - 1) r
    rw [show 0 + f = (f - 1) + 1 by omega, range_shift f hf r.length (f - 1) r.length (by omega), List.filterMap_map, ← pick_go f hf r (f - 1)]
    rfl
  | x :: r, lo + 1 => by
    rw [List.length_cons, range_shift f hf r.length lo r.length (by omega), List.filterMap_map]
    show _ = strd f lo r
    rw [← pick_go f hf r lo]
    rfl
theorem pick_strd (f : Nat) (hf : 0 < f) (xs : List Nat) (lo : Nat) : pickL xs lo f = strd f lo xs := by
  unfold pickL
  by_cases h : lo ≤ xs.length
  · rw [Nat.min_eq_left h]
    exact pick_go f hf xs lo
  · rw [Nat.min_eq_right (by omega), range_nil _ _ _ hf (Nat.le_refl _), ← pick_go f hf xs lo, range_nil _ _ _ hf (by omega)]
theorem pick_map {α β : Type} (g : α → β) (xs : List α) (lo s : Nat) : pickL (xs.map g) lo s = (pickL xs lo s).map g := by
  unfold pickL
  rw [List.length_map, List.map_filterMap]
  congr 1
  funext i
  rw [List.getElem?_map]
end Own
/-! own rules: min and max with default= -/
namespace Own
open PySem PySem.Spec PyProof.Rows L2 Evl
theorem kw_tree {prog : Program} {w : World} {A : Around} {E : Value → Shared → Prop} {s : Shared} {id : String} {b : Builtin} {us : List Value} {kw : List (Str × Value)} {Q : Value → Shared → Prop} (hk : builtinKind id = none) (hp : plainId id = true) (hb : entryFor table id = some b) (ha : argsOk id ⟨us, kw⟩)
    (hc : wpAny (model prog w) A.in1 (b ⟨us, kw⟩) (fun r s' => match r with
      | .done g => (match (Except.ok g : Result) with
        | .ok (.ret v) => Q v s'
        | .ok _ => False
        | .error e => E e s')
      | .again c' => c'.quiet = true ∧ codeAny (model prog w) A c' (fun r s' => match r with
        | .ok (.ret v) => Q v s'
        | .ok _ => False
        | .error e => E e s') s') E s) : wpAny (model prog w) A (call (.builtin id) us kw) Q E s := by
  refine wpAny_call (codeAny_call_builtin hp hb ?_); simp only [checkBuiltinCall, hk]
  cases z : Manifest.signature? id with
  | none => exact wpAny_pure hc
  | some sg =>
    simp only [argsOk, z] at ha
    show wpAny _ A.in1 (Bind.checkArgs id sg ⟨us, kw⟩) _ _ s
    rw [show Bind.checkArgs id sg ⟨us, kw⟩ = pure () from ha]
    exact wpAny_pure hc
section
variable {prog : Program} {w : World} {A : Around} {R : Result → Shared → Prop} {I : Addr} {fp wr : List Addr} {n : Nat} {P : Nat → Value → Prop} {St : Nat → Heap → Prop}
theorem minD_turn (dv : Value) (W : Walks prog w A.in1 I fp wr n P St) (bt : Nat → Nat → Bool) (cmp : CmpOf prog w A.in1 .Lt P bt) (B : Addr) (hB : B ∉ fp) : ∀ (k j : Nat) (s : Shared) (vb : Value) (c : Nat), n - (j + 1) = k → j + 1 ≤ n → St (j + 1) s.heap → P (argBest bt j) vb → s.heap.get? B = some { cls := .type "list", dict := none, data := .seq #[vb, vb] c, slots := #[] } →
    (∀ v h' tk, P (argBest bt (n - 1)) v → (∀ b o, b ∉ wr → b ≠ B → s.heap.get? b = some o → h'.get? b = some o) → R (.ok (.ret v)) { s with heap := h', toks := tk }) → codeAny (model prog w) A (.builtin "min.loop" ⟨[.ref I, .none, .ref B], [("default", dv)]⟩) R s := by
  have Bw : B ∉ wr := fun h => hB (W.sub _ h)
  have nm : (toString "min" ++ toString ".loop" : String) = "min.loop" := by decide
  intro k
  induction k with
  | zero =>
    intro j s vb c hk hj st hp hs fin
    have jn : j + 1 = n := by omega
    refine codeAny_builtin F.entry_min_loop ?_; rw [Around.under_plainId F.plain_min_loop _]
    show wpAny _ A.in1 (seqItems? (.ref B) >>= _) _ _ s
    refine wpAny_bind (wpAny_seqItems hs rfl ?_); show wpAny _ A.in1 (tryCatch (pyNext (.ref I)) _ >>= _) _ _ s
    refine wpAny_bind (wpAny_tryCatch (W.done s _ _ (jn ▸ st) fun h1 t1 k1 => ?_))
    show wpAny _ A.in1 (updateSeq B (fun _ => #[]) >>= _) _ _ _
    refine wpAny_bind (wpAny_updateSeq (k1 B _ Bw hs) rfl (wpAny_bind (wpAny_letGo (wpAny_pure ?_))))
    exact fin vb _ t1 (by rw [← jn]; exact hp) fun b o nb nB e => (Heap.get?_update_other _ _ (Ne.symm nB)).trans (k1 b o nb e)
  | succ k ih =>
    intro j s vb c hk hj st hp hs fin
    have lt : j + 1 < n := by omega
    refine codeAny_builtin F.entry_min_loop ?_; rw [Around.under_plainId F.plain_min_loop _]
    show wpAny _ A.in1 (seqItems? (.ref B) >>= _) _ _ s
    refine wpAny_bind (wpAny_seqItems hs rfl ?_); show wpAny _ A.in1 (tryCatch (pyNext (.ref I)) _ >>= _) _ _ s
    refine wpAny_bind (wpAny_tryCatch (W.item (j + 1) s _ _ lt st fun v h1 t1 p1 st1 k1 => ?_))
    have hs1 := k1 B _ Bw hs
    show wpAny _ A.in1 (tryCatch (holding [v, v] (richCompare .Lt v vb >>= _)) _ >>= _) _ _ _
    refine wpAny_bind (wpAny_tryCatch (wpAny_holding (wpAny_bind (cmp (j + 1) (argBest bt j) v vb _ _ _ p1 hp ?_))))
    refine wpAny_bind (wpAny_holding (wpAny_truthy_bool ?_)); refine wpAny_bind (wpAny_letGo (wpAny_pure ?_))
    cases yes : bt (j + 1) (argBest bt j) with
    | true =>
      simp only [if_true]
      refine wpAny_bind (wpAny_updateSeq hs1 rfl (wpAny_bind (wpAny_letGo ?_))); rw [nm]
      refine wpAny_pure ⟨plainId_quiet F.plain_min_loop _, ih (j + 1) _ v _ (by omega) lt (W.frame _ _ _ st1 fun b hb o e => ?_) (by simp only [argBest, yes, if_true]; exact p1) (Heap.get?_update_self _ hs1 rfl) fun v2 h2 t2 p2 k2 => ?_⟩
      · exact (Heap.get?_update_other _ _ fun h : B = b => hB (h ▸ hb)).trans e
      · exact fin v2 h2 t2 p2 fun b o nb nB e => k2 b o nb nB ((Heap.get?_update_other _ _ (Ne.symm nB)).trans (k1 b o nb e))
    | false =>
      simp only [Bool.false_eq_true, if_false]
      refine wpAny_bind (wpAny_letGo ?_); rw [nm]
      refine wpAny_pure ⟨plainId_quiet F.plain_min_loop _, ih (j + 1) _ vb _ (by omega) lt st1 (by simp only [argBest, yes, Bool.false_eq_true, if_false]; exact hp) hs1 fun v2 h2 t2 p2 k2 => ?_⟩
      exact fin v2 h2 t2 p2 fun b o nb nB e => k2 b o nb nB (k1 b o nb e)
theorem minD_first (dv : Value) (W : Walks prog w A.in1 I fp wr n P St) (bt : Nat → Nat → Bool) (cmp : CmpOf prog w A.in1 .Lt P bt) (B : Addr) (hB : B ∉ fp) {s : Shared} {c : Nat} (st : St 0 s.heap) (hs : s.heap.get? B = some { cls := .type "list", dict := none, data := .seq #[] c, slots := #[] })
    (fin : ∀ v h' tk, (0 < n → P (argBest bt (n - 1)) v) → (n = 0 → v = dv) → (∀ b o, b ∉ wr → b ≠ B → s.heap.get? b = some o → h'.get? b = some o) → R (.ok (.ret v)) { s with heap := h', toks := tk }) : codeAny (model prog w) A (.builtin "min.loop" ⟨[.ref I, .none, .ref B], [("default", dv)]⟩) R s := by
  have Bw : B ∉ wr := fun h => hB (W.sub _ h)
  have nm : (toString "min" ++ toString ".loop" : String) = "min.loop" := by decide
  refine codeAny_builtin F.entry_min_loop ?_; rw [Around.under_plainId F.plain_min_loop _]
  show wpAny _ A.in1 (seqItems? (.ref B) >>= _) _ _ s
  refine wpAny_bind (wpAny_seqItems hs rfl ?_); show wpAny _ A.in1 (tryCatch (pyNext (.ref I)) _ >>= _) _ _ s
  by_cases hn : n = 0
  · refine wpAny_bind (wpAny_tryCatch (W.done s _ _ (hn ▸ st) fun h1 t1 k1 => wpAny_bind (wpAny_rule (wpAny_pure ?_))))
    exact fin dv h1 t1 (fun z => absurd z (by omega)) (fun _ => rfl) fun b o nb _ e => k1 b o nb e
  · refine wpAny_bind (wpAny_tryCatch (W.item 0 s _ _ (by omega) st fun v h1 t1 p1 st1 k1 => ?_))
    have hs1 := k1 B _ Bw hs
    show wpAny _ A.in1 (updateSeq B (fun _ => #[v, v]) >>= _) _ _ _
    refine wpAny_bind (wpAny_updateSeq hs1 rfl ?_); rw [nm]
    refine wpAny_pure ⟨plainId_quiet F.plain_min_loop _, minD_turn dv W bt cmp B hB _ 0 _ v _ rfl (by omega) (W.frame _ _ _ st1 fun b hb o e => ?_) p1 (Heap.get?_update_self _ hs1 rfl) fun v2 h2 t2 p2 k2 => ?_⟩
    · exact (Heap.get?_update_other _ _ fun h : B = b => hB (h ▸ hb)).trans e
    · exact fin v2 h2 t2 (fun _ => p2) (fun z => absurd z hn) fun b o nb nB e => k2 b o nb nB ((Heap.get?_update_other _ _ (Ne.symm nB)).trans (k1 b o nb e))
end
theorem minD_args (a d : Value) : argsOk "min" ⟨[a], [(Str.ofString "default", d)]⟩ := by unfold argsOk; kernel_rfl
section
variable {prog : Program} {w : World} {A : Around} {E : Value → Shared → Prop} {s : Shared} {l : Addr} {its : List Value} {ns : List Int} {Q : Value → Shared → Prop}
theorem minD_ints {xs : Array (Int × Tok)} (dv : Value) (hh : A.handled = none) (hl : s.heap.IsList l (intItems xs))
    (fin : ∀ v h' tk, (0 < xs.size → (intItems xs)[argBest (fun i j => decide (numAt xs i < numAt xs j)) (xs.size - 1)]? = some v) → (xs.size = 0 → v = dv) → (∀ b o, s.heap.get? b = some o → h'.get? b = some o) → Q v { s with heap := h', toks := tk }) :
    wpAny (model prog w) A (call (.builtin "min") [.ref l] [(Str.ofString "default", dv)]) Q E s := by
  have nm : (toString "min" ++ toString ".loop" : String) = "min.loop" := by decide
  refine kw_tree F.kind_min F.plain_min F.entry_min (minD_args _ _) ?_
  show wpAny _ A.in1 (Builtin.Builtins.bindParams "min" ["key", "default"] 0 ⟨[], [(Str.ofString "default", dv)]⟩ >>= _) _ _ s
  refine wpAny_bind (wpAny_of_eq (show Builtin.Builtins.bindParams "min" ["key", "default"] 0 ⟨[], [(Str.ofString "default", dv)]⟩ = pure [none, some dv] from by first | rfl | kernel_rfl) (wpAny_bind (wpAny_pure (wpAny_bind ?_))))
  refine iter_intList hl fun s2 e st hfp hlI => ?_
  subst e
  refine wpAny_bind (wpAny_newObj_type ?_)
  rw [nm]
  refine wpAny_pure ⟨plainId_quiet F.plain_min_loop _, ?_⟩
  have W := Walks.list (prog := prog) (w := w) (A := A.in1) hh s.heap.objs.size l hlI (intItems xs)
  refine minD_first (A := A) (n := (intItems xs).size) (c := 0) dv W _ (CmpOf.ints_lt (numAt xs) (fun _ _ => intItems_at)) _ ?_ ?_ ?_ fun v h' tk p0 d0 hk => ?_
  · exact fun hm => Nat.lt_irrefl _ (hfp _ hm)
  · exact W.frame _ _ _ st fun b _ o e => Heap.get?_push_of_some _ e
  · exact Heap.get?_push_size _ rfl
  have sz : (intItems xs).size = xs.size := by simp [intItems]
  rw [sz] at p0 d0
  exact fin v h' tk p0 d0 (old_kept fun b o nb e => hk b o (by simpa using nb) (Nat.ne_of_lt (Heap.lt_size e)) (Heap.get?_push_of_some _ e))
theorem minD_raw (dv : Value) (hh : A.handled = none) (hl : s.heap.IsList l its.toArray) (hi : IntsAre its ns)
    (h : ∀ h' tk, (∀ b o, s.heap.get? b = some o → h'.get? b = some o) → (ns = [] → Q dv { s with heap := h', toks := tk }) ∧ ∀ M t', M ∈ ns → (∀ a, a ∈ ns → M ≤ a) → Q (.int M t') { s with heap := h', toks := tk }) : wpAny (model prog w) A (call (.builtin "min") [.ref l] [(Str.ofString "default", dv)]) Q E s := by
  obtain ⟨xs, e⟩ := hi.allInts.items
  have hn : numsOf (intItems xs).toList = ns := by rw [← e]; exact hi.numsOf
  rw [nums_intItems] at hn
  subst hn
  rw [e] at hl
  refine minD_ints dv hh hl fun v h' tk hv hd hk => ?_
  obtain ⟨q0, q1⟩ := h h' tk hk
  by_cases hz : xs.size = 0
  · rw [hd hz]
    exact q0 (List.eq_nil_of_length_eq_zero (by rw [List.length_map, Array.length_toList]; exact hz))
  · obtain ⟨t, rfl⟩ := intItems_at (hv (by omega))
    obtain ⟨h1, h2⟩ := argBest_lt (numAt xs) (xs.size - 1)
    refine q1 _ t ?_ fun a ha => ?_
    · rw [numAt_eq]; exact PySem.getD_mem (by rw [List.length_map, Array.length_toList]; omega)
    · obtain ⟨j, hj, rfl⟩ := mem_getD ha
      rw [List.length_map, Array.length_toList] at hj
      rw [← numAt_eq]
      exact h2 j (by omega)
end
def rMinD (K : PySem.W.Frag) (d : V) : List V → List V → Hp → VK → Prop := fun vs zs H Q => ∃ (a : Addr) (ns : List Int), vs = [V.ref a] ∧ zs = [d] ∧ SqL K H a (ns.map V.int) ∧ (ns = [] → Q d H) ∧ ∀ M, M ∈ ns → (∀ a, a ∈ ns → M ≤ a) → Q (.int M) H
theorem cr_minD {X : Cx} {d : V} (hc : X.calm = true) : CallRK X (.builtin "min") [Str.ofString "default"] (rMinD X.K d) := by
  intro pins s σ H vs zs us ws Q I r rz h
  obtain ⟨a, ns, rfl, rfl, hs, q0, q1⟩ := h
  obtain rfl := Vals.ref1 r
  obtain ⟨w1, rfl, e1⟩ := vals1 rz
  obtain ⟨its, rv, hl, _⟩ := I.list hs
  exact minD_raw w1 (I.ok.hd hc) hl.isList rv.ints fun h' tk hk => ⟨fun hz => ⟨d, H, I.kept hk, e1, q0 hz⟩, fun M t' h1 h2 => ⟨.int M, H, I.kept hk, ⟨_, rfl⟩, q1 M h1 h2⟩⟩
section
variable {K : PySem.W.Frag} {σ : L2.St} {H : Hp} {ta td : TE}
theorem ev_minD {ns : List Int} {d r : V} (h : EvL ta σ H (ns.map V.int)) (hd : Ev td σ H d) (h0 : ns = [] → r = d) (h1 : ∀ M, M ∈ ns → (∀ a, a ∈ ns → M ≤ a) → r = .int M) : Ev (tCKw (rMinD K d) (tCons ta tNil) (tCons td tNil)) σ H r := fun H1 e Q q =>
  h H1 e _ fun p H2 _ e2 h2 => hd H2 (e.trans e2) _ fun H3 e3 => ⟨p, ns, rfl, rfl, sq_of (e3 _ _ h2), (fun z => h0 z ▸ q H3 (e2.trans e3)), fun M a b => h1 M a b ▸ q H3 (e2.trans e3)⟩
theorem ev_minDV {a : Addr} {ns : List Int} {d r : V} (h : Ev ta σ H (.ref a)) (hx : SqL K H a (ns.map V.int)) (hd : Ev td σ H d) (h0 : ns = [] → r = d) (h1 : ∀ M, M ∈ ns → (∀ a, a ∈ ns → M ≤ a) → r = .int M) : Ev (tCKw (rMinD K d) (tCons ta tNil) (tCons td tNil)) σ H r := fun H1 e Q q =>
  h H1 e _ fun H2 e2 => hd H2 (e.trans e2) _ fun H3 e3 => ⟨a, ns, rfl, rfl, ex_l ((e.trans e2).trans e3) hx, (fun z => h0 z ▸ q H3 (e2.trans e3)), fun M a b => h1 M a b ▸ q H3 (e2.trans e3)⟩
end
section
variable {prog : Program} {w : World} {A : Around} {R : Result → Shared → Prop} {I : Addr} {fp wr : List Addr} {n : Nat} {P : Nat → Value → Prop} {St : Nat → Heap → Prop}
theorem maxD_turn (dv : Value) (W : Walks prog w A.in1 I fp wr n P St) (bt : Nat → Nat → Bool) (cmp : CmpOf prog w A.in1 .Gt P bt) (B : Addr) (hB : B ∉ fp) : ∀ (k j : Nat) (s : Shared) (vb : Value) (c : Nat), n - (j + 1) = k → j + 1 ≤ n → St (j + 1) s.heap → P (argBest bt j) vb → s.heap.get? B = some { cls := .type "list", dict := none, data := .seq #[vb, vb] c, slots := #[] } →
    (∀ v h' tk, P (argBest bt (n - 1)) v → (∀ b o, b ∉ wr → b ≠ B → s.heap.get? b = some o → h'.get? b = some o) → R (.ok (.ret v)) { s with heap := h', toks := tk }) → codeAny (model prog w) A (.builtin "max.loop" ⟨[.ref I, .none, .ref B], [("default", dv)]⟩) R s := by
  have Bw : B ∉ wr := fun h => hB (W.sub _ h)
  have nm : (toString "max" ++ toString ".loop" : String) = "max.loop" := by decide
  intro k
  induction k with
  | zero =>
    intro j s vb c hk hj st hp hs fin
    have jn : j + 1 = n := by omega
    refine codeAny_builtin F.entry_max_loop ?_; rw [Around.under_plainId F.plain_max_loop _]
    show wpAny _ A.in1 (seqItems? (.ref B) >>= _) _ _ s
    refine wpAny_bind (wpAny_seqItems hs rfl ?_); show wpAny _ A.in1 (tryCatch (pyNext (.ref I)) _ >>= _) _ _ s
    refine wpAny_bind (wpAny_tryCatch (W.done s _ _ (jn ▸ st) fun h1 t1 k1 => ?_))
    show wpAny _ A.in1 (updateSeq B (fun _ => #[]) >>= _) _ _ _
    refine wpAny_bind (wpAny_updateSeq (k1 B _ Bw hs) rfl (wpAny_bind (wpAny_letGo (wpAny_pure ?_))))
    exact fin vb _ t1 (by rw [← jn]; exact hp) fun b o nb nB e => (Heap.get?_update_other _ _ (Ne.symm nB)).trans (k1 b o nb e)
  | succ k ih =>
    intro j s vb c hk hj st hp hs fin
    have lt : j + 1 < n := by omega
    refine codeAny_builtin F.entry_max_loop ?_; rw [Around.under_plainId F.plain_max_loop _]
    show wpAny _ A.in1 (seqItems? (.ref B) >>= _) _ _ s
    refine wpAny_bind (wpAny_seqItems hs rfl ?_); show wpAny _ A.in1 (tryCatch (pyNext (.ref I)) _ >>= _) _ _ s
    refine wpAny_bind (wpAny_tryCatch (W.item (j + 1) s _ _ lt st fun v h1 t1 p1 st1 k1 => ?_))
    have hs1 := k1 B _ Bw hs
    show wpAny _ A.in1 (tryCatch (holding [v, v] (richCompare .Gt v vb >>= _)) _ >>= _) _ _ _
    refine wpAny_bind (wpAny_tryCatch (wpAny_holding (wpAny_bind (cmp (j + 1) (argBest bt j) v vb _ _ _ p1 hp ?_))))
    refine wpAny_bind (wpAny_holding (wpAny_truthy_bool ?_)); refine wpAny_bind (wpAny_letGo (wpAny_pure ?_))
    cases yes : bt (j + 1) (argBest bt j) with
    | true =>
      simp only [if_true]
      refine wpAny_bind (wpAny_updateSeq hs1 rfl (wpAny_bind (wpAny_letGo ?_))); rw [nm]
      refine wpAny_pure ⟨plainId_quiet F.plain_max_loop _, ih (j + 1) _ v _ (by omega) lt (W.frame _ _ _ st1 fun b hb o e => ?_) (by simp only [argBest, yes, if_true]; exact p1) (Heap.get?_update_self _ hs1 rfl) fun v2 h2 t2 p2 k2 => ?_⟩
      · exact (Heap.get?_update_other _ _ fun h : B = b => hB (h ▸ hb)).trans e
      · exact fin v2 h2 t2 p2 fun b o nb nB e => k2 b o nb nB ((Heap.get?_update_other _ _ (Ne.symm nB)).trans (k1 b o nb e))
    | false =>
      simp only [Bool.false_eq_true, if_false]
      refine wpAny_bind (wpAny_letGo ?_); rw [nm]
      refine wpAny_pure ⟨plainId_quiet F.plain_max_loop _, ih (j + 1) _ vb _ (by omega) lt st1 (by simp only [argBest, yes, Bool.false_eq_true, if_false]; exact hp) hs1 fun v2 h2 t2 p2 k2 => ?_⟩
      exact fin v2 h2 t2 p2 fun b o nb nB e => k2 b o nb nB (k1 b o nb e)
theorem maxD_first (dv : Value) (W : Walks prog w A.in1 I fp wr n P St) (bt : Nat → Nat → Bool) (cmp : CmpOf prog w A.in1 .Gt P bt) (B : Addr) (hB : B ∉ fp) {s : Shared} {c : Nat} (st : St 0 s.heap) (hs : s.heap.get? B = some { cls := .type "list", dict := none, data := .seq #[] c, slots := #[] })
    (fin : ∀ v h' tk, (0 < n → P (argBest bt (n - 1)) v) → (n = 0 → v = dv) → (∀ b o, b ∉ wr → b ≠ B → s.heap.get? b = some o → h'.get? b = some o) → R (.ok (.ret v)) { s with heap := h', toks := tk }) : codeAny (model prog w) A (.builtin "max.loop" ⟨[.ref I, .none, .ref B], [("default", dv)]⟩) R s := by
  have Bw : B ∉ wr := fun h => hB (W.sub _ h)
  have nm : (toString "max" ++ toString ".loop" : String) = "max.loop" := by decide
  refine codeAny_builtin F.entry_max_loop ?_; rw [Around.under_plainId F.plain_max_loop _]
  show wpAny _ A.in1 (seqItems? (.ref B) >>= _) _ _ s
  refine wpAny_bind (wpAny_seqItems hs rfl ?_); show wpAny _ A.in1 (tryCatch (pyNext (.ref I)) _ >>= _) _ _ s
  by_cases hn : n = 0
  · refine wpAny_bind (wpAny_tryCatch (W.done s _ _ (hn ▸ st) fun h1 t1 k1 => wpAny_bind (wpAny_rule (wpAny_pure ?_))))
    exact fin dv h1 t1 (fun z => absurd z (by omega)) (fun _ => rfl) fun b o nb _ e => k1 b o nb e
  · refine wpAny_bind (wpAny_tryCatch (W.item 0 s _ _ (by omega) st fun v h1 t1 p1 st1 k1 => ?_))
    have hs1 := k1 B _ Bw hs
    show wpAny _ A.in1 (updateSeq B (fun _ => #[v, v]) >>= _) _ _ _
    refine wpAny_bind (wpAny_updateSeq hs1 rfl ?_); rw [nm]
    refine wpAny_pure ⟨plainId_quiet F.plain_max_loop _, maxD_turn dv W bt cmp B hB _ 0 _ v _ rfl (by omega) (W.frame _ _ _ st1 fun b hb o e => ?_) p1 (Heap.get?_update_self _ hs1 rfl) fun v2 h2 t2 p2 k2 => ?_⟩
    · exact (Heap.get?_update_other _ _ fun h : B = b => hB (h ▸ hb)).trans e
    · exact fin v2 h2 t2 (fun _ => p2) (fun z => absurd z hn) fun b o nb nB e => k2 b o nb nB ((Heap.get?_update_other _ _ (Ne.symm nB)).trans (k1 b o nb e))
end
theorem maxD_args (a d : Value) : argsOk "max" ⟨[a], [(Str.ofString "default", d)]⟩ := by unfold argsOk; kernel_rfl
section
variable {prog : Program} {w : World} {A : Around} {E : Value → Shared → Prop} {s : Shared} {l : Addr} {its : List Value} {ns : List Int} {Q : Value → Shared → Prop}
theorem maxD_ints {xs : Array (Int × Tok)} (dv : Value) (hh : A.handled = none) (hl : s.heap.IsList l (intItems xs))
    (fin : ∀ v h' tk, (0 < xs.size → (intItems xs)[argBest (fun i j => decide (numAt xs i > numAt xs j)) (xs.size - 1)]? = some v) → (xs.size = 0 → v = dv) → (∀ b o, s.heap.get? b = some o → h'.get? b = some o) → Q v { s with heap := h', toks := tk }) :
    wpAny (model prog w) A (call (.builtin "max") [.ref l] [(Str.ofString "default", dv)]) Q E s := by
  have nm : (toString "max" ++ toString ".loop" : String) = "max.loop" := by decide
  refine kw_tree F.kind_max F.plain_max F.entry_max (maxD_args _ _) ?_
  show wpAny _ A.in1 (Builtin.Builtins.bindParams "max" ["key", "default"] 0 ⟨[], [(Str.ofString "default", dv)]⟩ >>= _) _ _ s
  refine wpAny_bind (wpAny_of_eq (show Builtin.Builtins.bindParams "max" ["key", "default"] 0 ⟨[], [(Str.ofString "default", dv)]⟩ = pure [none, some dv] from by first | rfl | kernel_rfl) (wpAny_bind (wpAny_pure (wpAny_bind ?_))))
  refine iter_intList hl fun s2 e st hfp hlI => ?_
  subst e
  refine wpAny_bind (wpAny_newObj_type ?_)
  rw [nm]
  refine wpAny_pure ⟨plainId_quiet F.plain_max_loop _, ?_⟩
  have W := Walks.list (prog := prog) (w := w) (A := A.in1) hh s.heap.objs.size l hlI (intItems xs)
  refine maxD_first (A := A) (n := (intItems xs).size) (c := 0) dv W _ (CmpOf.ints_gt (numAt xs) (fun _ _ => intItems_at)) _ ?_ ?_ ?_ fun v h' tk p0 d0 hk => ?_
  · exact fun hm => Nat.lt_irrefl _ (hfp _ hm)
  · exact W.frame _ _ _ st fun b _ o e => Heap.get?_push_of_some _ e
  · exact Heap.get?_push_size _ rfl
  have sz : (intItems xs).size = xs.size := by simp [intItems]
  rw [sz] at p0 d0
  exact fin v h' tk p0 d0 (old_kept fun b o nb e => hk b o (by simpa using nb) (Nat.ne_of_lt (Heap.lt_size e)) (Heap.get?_push_of_some _ e))
theorem maxD_raw (dv : Value) (hh : A.handled = none) (hl : s.heap.IsList l its.toArray) (hi : IntsAre its ns)
    (h : ∀ h' tk, (∀ b o, s.heap.get? b = some o → h'.get? b = some o) → (ns = [] → Q dv { s with heap := h', toks := tk }) ∧ ∀ M t', M ∈ ns → (∀ a, a ∈ ns → a ≤ M) → Q (.int M t') { s with heap := h', toks := tk }) : wpAny (model prog w) A (call (.builtin "max") [.ref l] [(Str.ofString "default", dv)]) Q E s := by
  obtain ⟨xs, e⟩ := hi.allInts.items
  have hn : numsOf (intItems xs).toList = ns := by rw [← e]; exact hi.numsOf
  rw [nums_intItems] at hn
  subst hn
  rw [e] at hl
  refine maxD_ints dv hh hl fun v h' tk hv hd hk => ?_
  obtain ⟨q0, q1⟩ := h h' tk hk
  by_cases hz : xs.size = 0
  · rw [hd hz]
    exact q0 (List.eq_nil_of_length_eq_zero (by rw [List.length_map, Array.length_toList]; exact hz))
  · obtain ⟨t, rfl⟩ := intItems_at (hv (by omega))
    obtain ⟨h1, h2⟩ := argBest_gt (numAt xs) (xs.size - 1)
    refine q1 _ t ?_ fun a ha => ?_
    · rw [numAt_eq]; exact PySem.getD_mem (by rw [List.length_map, Array.length_toList]; omega)
    · obtain ⟨j, hj, rfl⟩ := mem_getD ha
      rw [List.length_map, Array.length_toList] at hj
      rw [← numAt_eq]
      exact h2 j (by omega)
end
def rMaxD (K : PySem.W.Frag) (d : V) : List V → List V → Hp → VK → Prop := fun vs zs H Q => ∃ (a : Addr) (ns : List Int), vs = [V.ref a] ∧ zs = [d] ∧ SqL K H a (ns.map V.int) ∧ (ns = [] → Q d H) ∧ ∀ M, M ∈ ns → (∀ a, a ∈ ns → a ≤ M) → Q (.int M) H
theorem cr_maxD {X : Cx} {d : V} (hc : X.calm = true) : CallRK X (.builtin "max") [Str.ofString "default"] (rMaxD X.K d) := by
  intro pins s σ H vs zs us ws Q I r rz h
  obtain ⟨a, ns, rfl, rfl, hs, q0, q1⟩ := h
  obtain rfl := Vals.ref1 r
  obtain ⟨w1, rfl, e1⟩ := vals1 rz
  obtain ⟨its, rv, hl, _⟩ := I.list hs
  exact maxD_raw w1 (I.ok.hd hc) hl.isList rv.ints fun h' tk hk => ⟨fun hz => ⟨d, H, I.kept hk, e1, q0 hz⟩, fun M t' h1 h2 => ⟨.int M, H, I.kept hk, ⟨_, rfl⟩, q1 M h1 h2⟩⟩
section
variable {K : PySem.W.Frag} {σ : L2.St} {H : Hp} {ta td : TE}
theorem ev_maxD {ns : List Int} {d r : V} (h : EvL ta σ H (ns.map V.int)) (hd : Ev td σ H d) (h0 : ns = [] → r = d) (h1 : ∀ M, M ∈ ns → (∀ a, a ∈ ns → a ≤ M) → r = .int M) : Ev (tCKw (rMaxD K d) (tCons ta tNil) (tCons td tNil)) σ H r := fun H1 e Q q =>
  h H1 e _ fun p H2 _ e2 h2 => hd H2 (e.trans e2) _ fun H3 e3 => ⟨p, ns, rfl, rfl, sq_of (e3 _ _ h2), (fun z => h0 z ▸ q H3 (e2.trans e3)), fun M a b => h1 M a b ▸ q H3 (e2.trans e3)⟩
theorem ev_maxDV {a : Addr} {ns : List Int} {d r : V} (h : Ev ta σ H (.ref a)) (hx : SqL K H a (ns.map V.int)) (hd : Ev td σ H d) (h0 : ns = [] → r = d) (h1 : ∀ M, M ∈ ns → (∀ a, a ∈ ns → a ≤ M) → r = .int M) : Ev (tCKw (rMaxD K d) (tCons ta tNil) (tCons td tNil)) σ H r := fun H1 e Q q =>
  h H1 e _ fun H2 e2 => hd H2 (e.trans e2) _ fun H3 e3 => ⟨a, ns, rfl, rfl, ex_l ((e.trans e2).trans e3) hx, (fun z => h0 z ▸ q H3 (e2.trans e3)), fun M a b => h1 M a b ▸ q H3 (e2.trans e3)⟩
end
end Own
/-! own rules: math.comb of small numbers; orders of tuples; None -/
namespace Own
open PySem PySem.Spec PyProof.Rows L2 Evl PySem.Calls
namespace Cmb
theorem entry : entryFor table "math.comb" = some Builtin.«math.comb» := entryFor_of_tree (by kernel_rfl)
theorem kind : builtinKind "math.comb" = none := by kernel_rfl
theorem plain : plainId "math.comb" = true := by decide +kernel
theorem args (a b : Value) : argsOk "math.comb" ⟨[a, b], []⟩ := by unfold argsOk; kernel_rfl
end Cmb
theorem run_comb (a : Int) (t : Tok) (b : Int) (u : Tok) (h0 : ¬ a < 0) (h1 : ¬ b < 0) (h2 : ¬ b > a) (h3 : ¬ min b (a - b) > Builtin.Math.maxSsize) (h4 : ¬ min b (a - b) > Builtin.Math.manyFactors) (h5 : ¬ min b (a - b) > 9000)
    (hsz : (Builtin.Math.fallingProduct a (min b (a - b)).toNat / Builtin.Math.fallingProduct (min b (a - b)) (min b (a - b)).toNat).natAbs.log2 < bitsLine) :
    Gives (Builtin.«math.comb» ⟨[.int a t, .int b u], []⟩) (.int (Builtin.Math.fallingProduct a (min b (a - b)).toNat / Builtin.Math.fallingProduct (min b (a - b)) (min b (a - b)).toNat)) :=
  .of_wp fun M A E s Q h => by
    obtain ⟨hp, g, d, tk, os⟩ := s
    wp_walk
    (try (refine wpAny_ite_false (decide_eq_false (Nat.not_le.mpr hsz)) ?_; wp_walk))
    exact ⟨_, rfl, h⟩
theorem comb_small : ((List.range 7).all fun a => (List.range (a + 1)).all fun b => decide (Builtin.Math.fallingProduct (a : Int) (min (b : Int) ((a : Int) - b)).toNat / Builtin.Math.fallingProduct (min (b : Int) ((a : Int) - b)) (min (b : Int) ((a : Int) - b)).toNat = ((chooseN a b : Nat) : Int)) && decide (chooseN a b ≤ 20)) = true := by decide +kernel
def rComb : List V → Hp → VK → Prop := fun vs H Q => ∃ a b : Nat, vs = [N_ a, N_ b] ∧ a < 7 ∧ b ≤ a ∧ Q (N_ (chooseN a b)) H
theorem comb_eq {a b : Nat} (ha : a < 7) (hb : b ≤ a) : Builtin.Math.fallingProduct (a : Int) (min (b : Int) ((a : Int) - b)).toNat / Builtin.Math.fallingProduct (min (b : Int) ((a : Int) - b)) (min (b : Int) ((a : Int) - b)).toNat = ((chooseN a b : Nat) : Int) ∧ chooseN a b ≤ 20 := by
  have h := List.all_eq_true.mp (List.all_eq_true.mp comb_small a (List.mem_range.mpr ha)) b (List.mem_range.mpr (by omega))
  simp only [Bool.and_eq_true, decide_eq_true_eq] at h
  exact h
theorem cr_comb {X : Cx} : CallR X (.builtin "math.comb") rComb := by
  intro pins s σ H vs us Q I r h
  obtain ⟨a, b, rfl, ha, hb, q⟩ := h
  obtain ⟨t, u, rfl⟩ := Vals.int2 r
  obtain ⟨e, hl⟩ := comb_eq ha hb
  have m1 : Builtin.Math.maxSsize = 9223372036854775807 := rfl
  have m2 : Builtin.Math.manyFactors = 20000 := rfl
  refine call_function_meets Cmb.kind Cmb.plain Cmb.entry (Cmb.args _ _) (run_comb (a : Int) t (b : Int) u (by omega) (by omega) (by omega) (by omega) (by omega) (by omega) ?_).meets ?_
  · rw [e]
    refine Nat.lt_of_le_of_lt (m := 5) ?_ (by decide)
    show (chooseN a b).log2 ≤ 5
    by_cases h0 : chooseN a b = 0
    · rw [h0]
      decide
    · exact Nat.le_of_lt_succ ((Nat.log2_lt h0).mpr (by show _ < 64; omega))
  · rw [e]
    exact ⟨N_ (chooseN a b), H, I.tok _, ⟨_, rfl⟩, q⟩
theorem rc_comb {H : Hp} {a b : Nat} (ha : a < 7) (hb : b ≤ a) : RC rComb [N_ a, N_ b] H (N_ (chooseN a b)) := fun H1 _ _ q => ⟨a, b, rfl, ha, hb, q H1 (Ex.refl H1)⟩
/-- t >= u of tuples of the same integers -/
def rGeS (K : PySem.W.Frag) : R2 := fun x y H Q => ∃ (a b : Addr) (ns : List Int), x = .ref a ∧ y = .ref b ∧ SqT K H a (ns.map V.int) ∧ SqT K H b (ns.map V.int) ∧ Q (.bl true) H
theorem lex_same : ∀ (k i : Nat), Ob.lexAt (fun _ => true) (fun _ => true) true i k = true
  | 0, _ => rfl
  | k + 1, i => by
    rw [Ob.lexAt_succ, if_pos rfl]
    exact lex_same k (i + 1)
theorem op_geS {X : Cx} (hu : X.A.units < cLine) : OpR X (compareOp .GtE) (rGeS X.K) := by
  intro pins s σ H x y v u Q I rx ry h
  obtain ⟨a, b, ns, rfl, rfl, ha, hb, q⟩ := h
  cases rx
  cases ry
  obtain ⟨its, r1, p1, _⟩ := I.tuple ha
  obtain ⟨jts, r2, p2, _⟩ := I.tuple hb
  have i1 : IntsAre its ns := Vals.ints r1
  have i2 : IntsAre jts ns := Vals.ints r2
  have l1 : its.toArray.size = ns.length := by rw [List.size_toArray]; exact i1.length
  have l2 : jts.toArray.size = ns.length := by rw [List.size_toArray]; exact i2.length
  have it1 : ∀ j (h : j < its.toArray.size), ∃ t, its.toArray[j] = .int (ns.getD j 0) t := fun j h => PyProof.Rows.IntsAre.int_at i1 _ _ (by simp at h; simp [h])
  have it2 : ∀ j (h : j < jts.toArray.size), ∃ t, jts.toArray[j] = .int (ns.getD j 0) t := fun j h => PyProof.Rows.IntsAre.int_at i2 _ _ (by simp at h; simp [h])
  have R := Ob.RcOp.tuples_ge (A := X.A) (s := s) (e := fun _ => true) (r := fun _ => true) p1 p2 hu (fun j g1 g2 => by
    obtain ⟨t, et⟩ := it1 j g1
    obtain ⟨t', et'⟩ := it2 j g2
    rw [et, et']
    have z := SeqAt.EqAt.int_int (A := X.A.in1) (s := s) (ns.getD j 0) t (ns.getD j 0) t'
    rw [show (ns.getD j 0 == ns.getD j 0) = true from beq_self_eq_true _] at z
    exact z) (fun j g1 g2 _ => by
    obtain ⟨t, et⟩ := it1 j g1
    obtain ⟨t', et'⟩ := it2 j g2
    rw [et, et']
    have z := Ob.RcOp.ge_int (A := X.A.in1) (s := s) (ns.getD j 0) (ns.getD j 0) t t'
    rw [decide_eq_true (Int.le_refl _)] at z
    exact z)
  rw [l1, l2, decide_eq_true (Nat.le_refl _), lex_same] at R
  have z : wpAny (model X.prog X.w) X.A (compareOp .GtE (.ref a) (.ref b)) (EP X pins σ Q) X.xe s := R X.prog X.w X.xe (EP X pins σ Q) ⟨.bl _, H, I, rfl, q⟩
  exact z
theorem rv_geS {K : PySem.W.Frag} {H : Hp} {a b : Addr} {ns : List Int} (h1 : SqT K H a (ns.map V.int)) (h2 : SqT K H b (ns.map V.int)) : RV (rGeS K) (.ref a) (.ref b) H (.bl true) := fun H1 e _ q => ⟨a, b, ns, rfl, rfl, ex_t e h1, ex_t e h2, q H1 (Ex.refl H1)⟩
theorem pe_sliceSK {X : Cx} {K : PySem.W.Frag} (hK : X.K = K) {e lo st : Expr} {te : TE} {tl ts : TO} {p3 pos : Pos} (he : PE X e te) (hl : PO X (some lo) tl) (hst : PO X (some st) ts) : PE X (.Subscript e (.Slice (some lo) none (some st) p3) pos) (tSlS K te tl ts) := by
  subst hK
  exact pe_sliceS he hl hst
theorem pi_zipMK {X : Cx} {K : PySem.W.Frag} (hK : X.K = K) {e e2 : Expr} {ta : TA} {p pos tpos : Pos} {elts : List Expr} {kk : Nat} (hg : Gl X "zip") (hm : X.mg "zip" = none) (ha : PA X [e, e2] ta) (hs : starEach [e, e2] X.env = (false, eval e X.env) :: starEach [e2] X.env := by rfl) (hpl : (backTo pos (starEach [e2] X.env)).any (·.1) = false := by rfl) :
    PI X (.Tuple elts kk tpos) (.Call (.Name "zip" p) [e, e2] [] pos) (iZipM K ta) := by
  subst hK
  exact pi_zipM hg hm ha hs hpl
end Own
/-! the digits of a number as digits at places, from above; shift sums by classes of places -/
namespace Own
def hdR (xs : List Nat) : Nat → PL
  | 0 => []
  | i + 1 => if 0 < xs.getD i 0 then (xs.getD i 0, i) :: hdR xs i else hdR xs i
theorem hdR_lt (xs : List Nat) : ∀ i, ∀ x ∈ hdR xs i, x.2 < i ∧ 0 < x.1 ∧ x.1 = xs.getD x.2 0
  | 0, x, h => by cases h
  | i + 1, x, h => by
    unfold hdR at h
    split at h
    · rename_i hp
      rcases List.mem_cons.mp h with rfl | h
      · exact ⟨Nat.lt_succ_self i, hp, rfl⟩
      · obtain ⟨h1, h2⟩ := hdR_lt xs i x h
        exact ⟨by omega, h2⟩
    · obtain ⟨h1, h2⟩ := hdR_lt xs i x h
      exact ⟨by omega, h2⟩
theorem hdR_vd {p : Nat} {xs : List Nat} (h : ∀ d ∈ xs, d < p) (h0 : 0 < p) : ∀ i, Vd p (hdR xs i)
  | 0 => .nil
  | i + 1 => by
    unfold hdR
    split
    · refine .cons ?_ (fun x hx => (hdR_lt xs i x hx).1) (hdR_vd h h0 i)
      by_cases hi : i < xs.length
      · rw [List.getD_eq_getElem?_getD, List.getElem?_eq_getElem hi]
        exact h _ (List.getElem_mem hi)
      · rw [List.getD_eq_getElem?_getD, List.getElem?_eq_none (by omega)]
        exact h0
    · exact hdR_vd h h0 i
theorem hdR_len (xs : List Nat) : ∀ i, (hdR xs i).length ≤ i
  | 0 => Nat.le_refl _
  | i + 1 => by
    have := hdR_len xs i
    unfold hdR
    split
    · rw [List.length_cons]; omega
    · omega
theorem od_snoc (b : Nat) : ∀ (xs : List Nat) (x : Nat), od b (xs ++ [x]) = od b xs + x * b ^ xs.length
  | [], x => by
    show x + b * 0 = 0 + x * b ^ 0
    rw [Nat.pow_zero]
    omega
  | y :: r, x => by
    rw [List.cons_append, od, od_snoc b r x, od, List.length_cons, Nat.pow_succ, Nat.mul_add]
    have : b * (x * b ^ r.length) = x * (b ^ r.length * b) := by
      rw [Nat.mul_left_comm, Nat.mul_comm b]
    omega
theorem getD_get {xs : List Nat} {i : Nat} (h : i < xs.length) : xs[i]? = some (xs.getD i 0) := by
  rw [List.getElem?_eq_getElem h, List.getD_eq_getElem?_getD, List.getElem?_eq_getElem h]
  rfl
theorem take_succ {xs : List Nat} {i : Nat} (h : i < xs.length) : xs.take (i + 1) = xs.take i ++ [xs.getD i 0] := by
  rw [List.take_add_one, getD_get h]
  rfl
theorem nl_hdR {p : Nat} (xs : List Nat) : ∀ i, i ≤ xs.length → nl p (hdR xs i) = od p (xs.take i)
  | 0, _ => rfl
  | i + 1, h => by
    have ih := nl_hdR (p := p) xs i (by omega)
    rw [take_succ (by omega), od_snoc, List.length_take, Nat.min_eq_left (by omega), ← ih]
    rw [show hdR xs (i + 1) = if 0 < xs.getD i 0 then (xs.getD i 0, i) :: hdR xs i else hdR xs i from rfl]
    split
    · rw [nl_cons]
      omega
    · have : xs.getD i 0 = 0 := by omega
      rw [this, Nat.zero_mul]
      omega
/-- the sum by places -/
def gsum (p f j : Nat) : Nat → List Nat → Nat
  | _, [] => 0
  | a, x :: r => x * wt p f j a + gsum p f j (a + 1) r
theorem gsum_snoc (p f j : Nat) : ∀ (xs : List Nat) (a x : Nat), gsum p f j a (xs ++ [x]) = gsum p f j a xs + x * wt p f j (a + xs.length)
  | [], a, x => by
    show x * wt p f j a + 0 = 0 + x * wt p f j (a + 0)
    rw [Nat.add_zero, Nat.zero_add]
    rfl
  | y :: r, a, x => by
    rw [List.cons_append, gsum, gsum_snoc p f j r (a + 1) x, gsum, List.length_cons, show a + 1 + r.length = a + (r.length + 1) by omega]
    omega
theorem sj_hdR {p f j : Nat} (xs : List Nat) : ∀ i, i ≤ xs.length → sj p f j (hdR xs i) = gsum p f j 0 (xs.take i)
  | 0, _ => rfl
  | i + 1, h => by
    have ih := sj_hdR (p := p) (f := f) (j := j) xs i (by omega)
    rw [take_succ (by omega), gsum_snoc, List.length_take, Nat.min_eq_left (by omega), Nat.zero_add, ← ih]
    rw [show hdR xs (i + 1) = if 0 < xs.getD i 0 then (xs.getD i 0, i) :: hdR xs i else hdR xs i from rfl]
    split
    · rw [sj_cons]
      omega
    · have : xs.getD i 0 = 0 := by omega
      rw [this, Nat.zero_mul]
      omega
def tsum (F : Nat → Nat) : Nat → Nat
  | 0 => 0
  | n + 1 => tsum F n + F n
theorem tsum_succ (F : Nat → Nat) : ∀ n, tsum F (n + 1) = F 0 + tsum (fun t => F (t + 1)) n
  | 0 => by
    show 0 + F 0 = F 0 + 0
    omega
  | n + 1 => by
    show tsum F (n + 1) + F (n + 1) = F 0 + (tsum (fun t => F (t + 1)) n + F (n + 1))
    rw [tsum_succ F n]
    omega
theorem tsum_congr {F G : Nat → Nat} : ∀ n, (∀ t, t < n → F t = G t) → tsum F n = tsum G n
  | 0, _ => rfl
  | n + 1, h => by
    show tsum F n + F n = tsum G n + G n
    rw [tsum_congr n fun t ht => h t (by omega), h n (by omega)]
theorem tsum_range (F : Nat → Nat) : ∀ n, ((List.range n).map F).sum = tsum F n
  | 0 => rfl
  | n + 1 => by
    rw [List.range_succ, List.map_append, List.sum_append, tsum_range F n]
    show tsum F n + (F n + 0) = tsum F n + F n
    omega
theorem wt_per (p f j a : Nat) : wt p f j (a + f) = wt p f j a := by
  unfold wt
  rw [show a + f + j = a + j + f by omega, Nat.add_mod_right]
theorem strd_nil (f t : Nat) : strd f t [] = [] := by cases t <;> rfl
/-- by classes -/
theorem cls_sum (p g j : Nat) : ∀ (xs : List Nat) (a : Nat), tsum (fun t => (strd (g + 1) t xs).sum * wt p (g + 1) j (a + t)) (g + 1) = gsum p (g + 1) j a xs
  | [], a => by
    have : ∀ n, tsum (fun t => (strd (g + 1) t []).sum * wt p (g + 1) j (a + t)) n = 0 := by
      intro n
      induction n with
      | zero => rfl
      | succ n ih =>
        show tsum (fun t => (strd (g + 1) t []).sum * wt p (g + 1) j (a + t)) n + (strd (g + 1) n []).sum * wt p (g + 1) j (a + n) = 0
        rw [ih, strd_nil, List.sum_nil, Nat.zero_mul]
    exact this _
  | x :: r, a => by
    have ih := cls_sum p g j r (a + 1)
    rw [tsum_succ, gsum]
    show (x + (strd (g + 1) g r).sum) * wt p (g + 1) j (a + 0) + tsum (fun t => (strd (g + 1) t r).sum * wt p (g + 1) j (a + (t + 1))) g = _
    rw [← ih]
    show _ = x * wt p (g + 1) j a + (tsum (fun t => (strd (g + 1) t r).sum * wt p (g + 1) j (a + 1 + t)) g + (strd (g + 1) g r).sum * wt p (g + 1) j (a + 1 + g))
    rw [show wt p (g + 1) j (a + 1 + g) = wt p (g + 1) j a from by rw [show a + 1 + g = a + (g + 1) by omega]; exact wt_per p (g + 1) j a, show wt p (g + 1) j (a + 0) = wt p (g + 1) j a from rfl, Nat.add_mul]
    have : tsum (fun t => (strd (g + 1) t r).sum * wt p (g + 1) j (a + (t + 1))) g = tsum (fun t => (strd (g + 1) t r).sum * wt p (g + 1) j (a + 1 + t)) g := tsum_congr g fun t _ => by rw [show a + (t + 1) = a + 1 + t by omega]
    rw [this]
    omega
theorem spare_eq {p f j : Nat} (hf : 1 ≤ f) (xs : List Nat) : ((List.range f).map fun t => (strd f t xs).sum * wt p f j t).sum = sj p f j (hdR xs xs.length) := by
  rw [tsum_range, sj_hdR xs xs.length (Nat.le_refl _), List.take_length]
  obtain ⟨g, rfl⟩ : ∃ g, f = g + 1 := ⟨f - 1, by omega⟩
  rw [← cls_sum p g j xs 0]
  exact tsum_congr _ fun t _ => by rw [Nat.zero_add]
/-- the places of k -/
def topL (p k : Nat) : PL := hdR (dg p k) (dg p k).length
structure TopOk (p f k : Nat) : Prop where
  vd : Vd p (topL p k)
  po : ∀ x ∈ topL p k, 0 < x.1
  nm : nl p (topL p k) = k
  ss : ∀ j, sj p f j (topL p k) = ds (p ^ f) (p ^ j * k)
theorem top_ok {p f : Nat} (hp : 1 < p) (hf : 1 ≤ f) (k : Nat) : TopOk p f k := by
  have v : Vd p (topL p k) := hdR_vd (fun d hd => dg_lt hp k d hd) (by omega) _
  have n : nl p (topL p k) = k := by
    unfold topL
    rw [nl_hdR _ _ (Nat.le_refl _), List.take_length, od_dg hp]
  exact ⟨v, fun x hx => (hdR_lt _ _ x hx).2.1, n, fun j => by rw [sj_ds hp hf j v, n]⟩
end Own
/-! choices and lots modulo a prime, by digits -/
namespace Own
/-- digit by digit within -/
def wiB (b : Nat) (i j : Nat) : Bool := if h : 1 < b ∧ 0 < i then decide (i % b ≤ j % b) && wiB b (i / b) (j / b) else true
termination_by i
decreasing_by exact Nat.div_lt_self h.2 h.1
theorem wi_zero (b j : Nat) : wiB b 0 j = true := by
  rw [wiB, dif_neg (by simp)]
theorem wi_pos {b i : Nat} (hb : 1 < b) (hi : 0 < i) (j : Nat) : wiB b i j = (decide (i % b ≤ j % b) && wiB b (i / b) (j / b)) := by
  rw [wiB, dif_pos ⟨hb, hi⟩]
theorem wi_eq {b : Nat} (hb : 1 < b) (i j : Nat) : wiB b i j = (decide (i % b ≤ j % b) && wiB b (i / b) (j / b)) := by
  by_cases hi : 0 < i
  · exact wi_pos hb hi j
  · have : i = 0 := by omega
    subst this
    rw [Nat.zero_mod, Nat.zero_div, wi_zero, wi_zero]
    simp
def inW (b i j : Nat) : Prop := i ≤ j ∧ ds b i + ds b (j - i) = ds b j
theorem wi_iff {b : Nat} (hb : 1 < b) : ∀ i j : Nat, wiB b i j = true ↔ inW b i j := by
  intro i
  induction i using Nat.strongRecOn with
  | ind i ih =>
    intro j
    by_cases hi : 0 < i
    · rw [wi_pos hb hi, Bool.and_eq_true, decide_eq_true_eq, ih _ (Nat.div_lt_self hi hb)]
      unfold inW
      have ei := Nat.mod_add_div i b
      have ej := Nat.mod_add_div j b
      have li := Nat.mod_lt i (show 0 < b by omega)
      have lj := Nat.mod_lt j (show 0 < b by omega)
      have step : ∀ u v : Nat, u < b → ds b (u + b * v) = u + ds b v := fun u v hu => by
        rw [ds_eq hb, Nat.add_mul_mod_self_left, Nat.mod_eq_of_lt hu, Nat.add_mul_div_left _ _ (by omega), Nat.div_eq_of_lt hu, Nat.zero_add]
      rw [ds_eq hb i, ds_eq hb j]
      by_cases hle : i % b ≤ j % b
      · have hm : i ≤ j ↔ i / b ≤ j / b := by
          constructor
          · intro h
            exact Nat.div_le_div_right h
          · intro h
            have : b * (i / b) ≤ b * (j / b) := Nat.mul_le_mul_left b h
            omega
        rw [hm]
        constructor
        · intro ⟨_, h1, h2⟩
          have h3 : b * (i / b) ≤ b * (j / b) := Nat.mul_le_mul_left b h1
          have e : j - i = (j % b - i % b) + b * (j / b - i / b) := by
            rw [Nat.mul_sub]
            omega
          refine ⟨h1, ?_⟩
          rw [e, step _ _ (by omega)]
          omega
        · intro ⟨h1, h2⟩
          have h3 : b * (i / b) ≤ b * (j / b) := Nat.mul_le_mul_left b h1
          have e : j - i = (j % b - i % b) + b * (j / b - i / b) := by
            rw [Nat.mul_sub]
            omega
          rw [e, step _ _ (by omega)] at h2
          exact ⟨hle, h1, by omega⟩
      · constructor
        · intro ⟨h, _⟩
          exact absurd h hle
        · intro ⟨h1, h2⟩
          exfalso
          have h4 : i / b < j / b := by
            rcases Nat.lt_or_ge (i / b) (j / b) with h | h
            · exact h
            · have : b * (j / b) ≤ b * (i / b) := Nat.mul_le_mul_left b h
              omega
          have h5 : b * (i / b + 1) ≤ b * (j / b) := Nat.mul_le_mul_left b h4
          rw [Nat.mul_add] at h5
          have e : j - i = (b + j % b - i % b) + b * (j / b - i / b - 1) := by
            rw [Nat.mul_sub, Nat.mul_sub]
            omega
          rw [e, step _ _ (by omega)] at h2
          clear ih e
          generalize i / b = I at *
          generalize j / b = J at *
          have h6 := ds_add_le hb I (J - I - 1)
          rw [show I + (J - I - 1) = J - 1 by omega] at h6
          have h7 := ds_add_le hb (J - 1) 1
          rw [show J - 1 + 1 = J by omega, ds_small hb hb] at h7
          omega
    · have : i = 0 := by omega
      subst this
      rw [wi_zero]
      unfold inW
      rw [ds_zero, Nat.sub_zero]
      simp
/-- choices, as a product of numbers below 21 -/
def luN (p n k : Nat) : Nat := if h : 1 < p ∧ 0 < k then chooseN (n % p) (k % p) * luN p (n / p) (k / p) else 1
termination_by k
decreasing_by exact Nat.div_lt_self h.2 h.1
theorem lu_zero (p n : Nat) : luN p n 0 = 1 := by
  rw [luN, dif_neg (by simp)]
theorem choose_zero (n : Nat) : chooseN n 0 = 1 := by cases n <;> rfl
theorem lu_eq {p : Nat} (hp : 1 < p) (n k : Nat) : luN p n k = chooseN (n % p) (k % p) * luN p (n / p) (k / p) := by
  by_cases hk : 0 < k
  · rw [luN, dif_pos ⟨hp, hk⟩]
  · have : k = 0 := by omega
    subst this
    rw [Nat.zero_mod, Nat.zero_div, lu_zero, lu_zero, choose_zero]
def lucR (p : Nat) : List Nat → List Nat → Nat → Nat
  | x :: r, y :: s, m => lucR p r s (m * chooseN x y % p)
  | _, _, m => m
theorem lucR_eq {p : Nat} (hp : 1 < p) : ∀ (k n m : Nat), k ≤ n → m < p → lucR p (dg p n) (dg p k) m = m * luN p n k % p := by
  intro k
  induction k using Nat.strongRecOn with
  | ind k ih =>
    intro n m hkn hm
    by_cases hk : 0 < k
    · rw [dg_pos hp hk, dg_pos hp (show 0 < n by omega), lucR, ih _ (Nat.div_lt_self hk hp) _ _ (Nat.div_le_div_right hkn) (Nat.mod_lt _ (by omega)), lu_eq hp n k, Nat.mod_mul_mod, Nat.mul_assoc]
    · have : k = 0 := by omega
      subst this
      rw [dg_zero, lu_zero, Nat.mul_one, Nat.mod_eq_of_lt hm]
      cases dg p n <;> rfl
/-- the rest of the number of choices -/
def chR (p n k : Nat) : Nat := if wiB p k n = true then luN p n k % p else 0
/-- numbers one after the other: w the sum of those ahead -/
def FN (p : Nat) : Nat → List Nat → Nat
  | _, [] => 1
  | w, x :: r => luN p (w + x) x * FN p (w + x) r
/-- one place: t the sum of the digits ahead -/
def plM : Nat → List Nat → Nat
  | _, [] => 1
  | t, x :: r => chooseN (t + x) x * plM (t + x) r
theorem fn_zero (p : Nat) : ∀ (xs : List Nat) (w : Nat), xs.sum = 0 → FN p w xs = 1
  | [], _, _ => rfl
  | x :: r, w, h => by
    rw [List.sum_cons] at h
    have hx : x = 0 := by omega
    subst hx
    rw [FN, lu_zero, fn_zero p r _ (by omega)]
theorem mod_add_lt {p x y : Nat} (h : x % p + y % p < p) : (x + y) % p = x % p + y % p ∧ (x + y) / p = x / p + y / p := by
  have h0 : 0 < p := by omega
  have e : x + y = (x % p + y % p) + p * (x / p + y / p) := by
    have h1 := Nat.mod_add_div x p
    have h2 := Nat.mod_add_div y p
    rw [Nat.mul_add]
    omega
  constructor
  · rw [e, Nat.add_mul_mod_self_left, Nat.mod_eq_of_lt h]
  · rw [e, Nat.add_mul_div_left _ _ h0, Nat.div_eq_of_lt h, Nat.zero_add]
theorem fn_split {p : Nat} (hp : 1 < p) : ∀ (xs : List Nat) (w : Nat), w % p + (xs.map (· % p)).sum < p → FN p w xs = plM (w % p) (xs.map (· % p)) * FN p (w / p) (xs.map (· / p))
  | [], _, _ => rfl
  | x :: r, w, h => by
    rw [List.map_cons, List.sum_cons] at h
    obtain ⟨e1, e2⟩ := mod_add_lt (x := w) (y := x) (p := p) (by omega)
    have ih := fn_split hp r (w + x) (by rw [e1]; omega)
    rw [FN, ih, lu_eq hp (w + x) x, e1, e2, List.map_cons, List.map_cons, plM, FN]
    simp only [Nat.mul_assoc, Nat.mul_comm, Nat.mul_left_comm]
theorem fn_snoc (p x : Nat) : ∀ (xs : List Nat) (w : Nat), FN p w (xs ++ [x]) = FN p w xs * luN p (w + xs.sum + x) x
  | [], w => by
    show luN p (w + x) x * 1 = 1 * luN p (w + 0 + x) x
    rw [Nat.mul_one, Nat.one_mul, Nat.add_zero]
  | y :: r, w => by
    rw [List.cons_append, FN, fn_snoc p x r (w + y), FN, List.sum_cons, Nat.mul_assoc, show w + (y + r.sum) + x = w + y + r.sum + x by omega]
theorem cf_step {b : Nat} (hb : 1 < b) (xs : List Nat) : CF b xs ↔ (xs.map (· % b)).sum < b ∧ CF b (xs.map (· / b)) := by
  have h1 := nc_iff hb (xs.sum + 1) xs (by omega)
  have h2 := nc_iff hb xs.sum (xs.map (· / b)) (by have := sum_div_le hb xs; omega)
  unfold CF
  rw [← h1, ← h2, nc, Bool.and_eq_true, decide_eq_true_eq]
theorem cf_nil (b : Nat) : CF b [] := by
  unfold CF
  rw [List.map_nil, List.sum_nil, ds_zero]
theorem cf_zeros {b : Nat} : ∀ {xs : List Nat}, xs.sum = 0 → CF b xs
  | [], _ => cf_nil b
  | x :: r, h => by
    rw [List.sum_cons] at h
    have hx : x = 0 := by omega
    have ih := cf_zeros (b := b) (xs := r) (by omega)
    unfold CF at ih ⊢
    rw [List.map_cons, List.sum_cons, List.sum_cons, hx, ih, ds_zero, Nat.zero_add, Nat.zero_add]
/-! the law's own choices -/
def bkL (p s : Nat) : List Nat := ((List.range (p - 1)).map (· + 1)).filter fun o => decide (o * s % p = 1)
def bkN (p s : Nat) : Nat := (bkL p s).getD 0 0
def stF (p t f : Nat) : Nat → Nat
  | 0 => f
  | s + 1 => stF p t f s * (t + (s + 1)) * bkN p (s + 1) % p
def plC (p : Nat) : Nat → Nat → List Nat → Nat
  | _, f, [] => f
  | t, f, r :: rs => plC p (t + r) (stF p t f r) rs
def P4 : List Nat := [2, 3, 5, 7]
theorem chk_st : P4.all (fun p => (List.range p).all fun f => (List.range p).all fun t => (List.range p).all fun r => if t + r < p then decide (stF p t f r = f * chooseN (t + r) r % p) else decide (stF p t f r = 0)) = true := by decide +kernel
theorem chk_bk : P4.all (fun p => (List.range p).all fun s => s == 0 || decide ((bkL p s).length ≠ 0 ∧ bkN p s < p)) = true := by decide +kernel
theorem p4_2 {p : Nat} (hp : p ∈ P4) : 1 < p ∧ p ≤ 7 := by
  unfold P4 at hp
  simp only [List.mem_cons, List.not_mem_nil, or_false] at hp
  omega
theorem st_get {p f t r : Nat} (hp : p ∈ P4) (hf : f < p) (ht : t < p) (hr : r < p) : (t + r < p → stF p t f r = f * chooseN (t + r) r % p) ∧ (p ≤ t + r → stF p t f r = 0) := by
  have h := List.all_eq_true.mp (List.all_eq_true.mp (List.all_eq_true.mp (List.all_eq_true.mp chk_st p hp) f (List.mem_range.mpr hf)) t (List.mem_range.mpr ht)) r (List.mem_range.mpr hr)
  constructor
  · intro h1
    rw [if_pos h1] at h
    exact of_decide_eq_true h
  · intro h1
    rw [if_neg (by omega)] at h
    exact of_decide_eq_true h
theorem st_zero (p t : Nat) : ∀ r, stF p t 0 r = 0
  | 0 => rfl
  | r + 1 => by
    rw [stF, st_zero p t r, Nat.zero_mul, Nat.zero_mul, Nat.zero_mod]
theorem st_lt {p t f : Nat} (hp : 0 < p) (hf : f < p) : ∀ r, stF p t f r < p
  | 0 => hf
  | r + 1 => Nat.mod_lt _ hp
theorem pl_zero (p : Nat) : ∀ (rs : List Nat) (t : Nat), plC p t 0 rs = 0
  | [], _ => rfl
  | r :: rs, t => by rw [plC, st_zero, pl_zero p rs]
theorem pl_get {p : Nat} (hp : p ∈ P4) : ∀ (rs : List Nat) (t f : Nat), (∀ r ∈ rs, r < p) → f < p → t < p → plC p t f rs = if t + rs.sum < p then f * plM t rs % p else 0
  | [], t, f, _, hf, ht => by
    rw [plC, plM, List.sum_nil, if_pos (by omega), Nat.mul_one, Nat.mod_eq_of_lt hf]
  | r :: rs, t, f, hr, hf, ht => by
    obtain ⟨h1, h2⟩ := st_get hp hf ht (hr r (List.mem_cons_self ..))
    rw [plC, List.sum_cons]
    by_cases hlt : t + r < p
    · rw [pl_get hp rs (t + r) _ (fun x hx => hr x (List.mem_cons_of_mem _ hx)) (st_lt (by omega) hf r) hlt, h1 hlt, plM, show t + (r + rs.sum) = t + r + rs.sum by omega]
      split
      · rw [Nat.mod_mul_mod, Nat.mul_assoc]
      · rfl
    · rw [h2 (by omega), pl_zero, if_neg (by omega)]
/-- the value of the law's choices -/
noncomputable def chV (p : Nat) (xs : List Nat) : Nat := open Classical in if CF p xs then FN p 0 xs % p else 0
theorem chV_yes {p : Nat} {xs : List Nat} (h : CF p xs) : chV p xs = FN p 0 xs % p := by
  unfold chV
  rw [if_pos h]
theorem chV_no {p : Nat} {xs : List Nat} (h : ¬ CF p xs) : chV p xs = 0 := by
  unfold chV
  rw [if_neg h]
noncomputable def chF (p f : Nat) (xs : List Nat) : Nat := f * chV p xs % p
theorem chF_step {p : Nat} (hp : p ∈ P4) {f : Nat} (hf : f < p) (xs : List Nat) : chF p (plC p 0 f (xs.map (· % p))) (xs.map (· / p)) = chF p f xs := by
  obtain ⟨h1, h7⟩ := p4_2 hp
  have hm : ∀ r ∈ xs.map (· % p), r < p := fun r hr => by
    obtain ⟨x, _, rfl⟩ := List.mem_map.mp hr
    exact Nat.mod_lt _ (by omega)
  have hs := cf_step h1 xs
  rw [pl_get hp _ 0 f hm hf (by omega), Nat.zero_add]
  unfold chF
  by_cases hlt : (xs.map (· % p)).sum < p
  · rw [if_pos hlt]
    by_cases hc : CF p (xs.map (· / p))
    · have hx : CF p xs := hs.mpr ⟨hlt, hc⟩
      have h2 := fn_split h1 xs 0 (by rw [Nat.zero_mod]; omega)
      rw [Nat.zero_mod, Nat.zero_div] at h2
      rw [chV_yes hc, chV_yes hx, h2, Nat.mod_mul_mod, Nat.mul_mod_mod, Nat.mul_mod_mod, Nat.mul_assoc]
    · have hx : ¬ CF p xs := fun z => hc (hs.mp z).2
      rw [chV_no hc, chV_no hx, Nat.mul_zero, Nat.mul_zero]
  · have hx : ¬ CF p xs := fun z => hlt (hs.mp z).1
    rw [if_neg hlt, chV_no hx, Nat.zero_mul, Nat.mul_zero]
theorem chF_end {p : Nat} (hp : 1 < p) {f : Nat} (hf : f < p) {xs : List Nat} (h : xs.sum = 0) : chF p f xs = f := by
  unfold chF
  rw [chV_yes (cf_zeros h), fn_zero p xs 0 h, Nat.mod_eq_of_lt hp, Nat.mul_one, Nat.mod_eq_of_lt hf]
theorem chV_lt {p : Nat} (hp : 1 < p) (xs : List Nat) : chV p xs < p := by
  unfold chV
  split
  · exact Nat.mod_lt _ (by omega)
  · omega
/-! digits at a place -/
def dt (p n t : Nat) : Nat := n / p ^ t % p
theorem dt_zero (p n : Nat) : dt p n 0 = n % p := by
  unfold dt
  rw [Nat.pow_zero, Nat.div_one]
theorem dt_succ (p n t : Nat) : dt p n (t + 1) = dt p (n / p) t := by
  unfold dt
  rw [Nat.pow_succ, Nat.mul_comm, Nat.div_div_eq_div_mul]
theorem dg_get {p : Nat} (hp : 1 < p) : ∀ (t n : Nat), (dg p n).getD t 0 = dt p n t
  | 0, n => by
    rw [dt_zero]
    by_cases h : 0 < n
    · rw [dg_pos hp h]
      rfl
    · have : n = 0 := by omega
      subst this
      rw [dg_zero, Nat.zero_mod]
      rfl
  | t + 1, n => by
    rw [dt_succ, ← dg_get hp t (n / p)]
    by_cases h : 0 < n
    · rw [dg_pos hp h]
      simp [List.getD_eq_getElem?_getD]
    · have : n = 0 := by omega
      subst this
      rw [dg_zero, Nat.zero_div, dg_zero]
      simp [List.getD_eq_getElem?_getD]
/-- a carry at a place -/
theorem carry_no {p : Nat} (hp : 1 < p) {pre post : List Nat} {x t : Nat} (h : p ≤ dt p pre.sum t + dt p x t) : ¬ CF p (pre ++ x :: post) := fun z => by
  have h1 := (cf_rsum hp _).mp z (t + 1)
  have h2 : rsum (p ^ (t + 1)) (pre ++ x :: post) = rsum (p ^ (t + 1)) pre + x % p ^ (t + 1) + rsum (p ^ (t + 1)) post := by
    unfold rsum
    rw [List.map_append, List.sum_append, List.map_cons, List.sum_cons]
    omega
  have h3 : ∀ (m : Nat) (ys : List Nat), ys.sum % m ≤ rsum m ys := by
    intro m ys
    induction ys with
    | nil =>
      show 0 % m ≤ 0
      rw [Nat.zero_mod]
      exact Nat.le_refl _
    | cons y r ih =>
      have e1 : (y + r.sum) % m ≤ y % m + r.sum % m := by
        rw [Nat.add_mod]
        exact Nat.mod_le _ _
      unfold rsum at ih ⊢
      rw [List.map_cons, List.sum_cons, List.sum_cons]
      omega
  have h4 : ∀ n, dt p n t * p ^ t ≤ n % p ^ (t + 1) := fun n => by
    unfold dt
    rw [Nat.pow_succ, Nat.mod_mul, Nat.mul_comm]
    exact Nat.le_add_left _ _
  have h5 := h4 pre.sum
  have h6 := h4 x
  have h7 := h3 (p ^ (t + 1)) pre
  have h8 : p * p ^ t ≤ (dt p pre.sum t + dt p x t) * p ^ t := Nat.mul_le_mul_right _ h
  rw [Nat.add_mul] at h8
  rw [Nat.pow_succ, Nat.mul_comm (p ^ t) p] at h1
  rw [Nat.pow_succ, Nat.mul_comm (p ^ t) p] at h2 h5 h6 h7
  omega
theorem add_digits {p : Nat} (hp : 1 < p) : ∀ (m w x : Nat), w + x ≤ m → (∀ t, dt p w t + dt p x t < p) → (∀ t, dt p (w + x) t = dt p w t + dt p x t) ∧ ds p (w + x) = ds p w + ds p x := by
  intro m
  induction m using Nat.strongRecOn with
  | ind m ih =>
    intro w x hm h
    have h0 := h 0
    rw [dt_zero, dt_zero] at h0
    obtain ⟨e1, e2⟩ := mod_add_lt h0
    by_cases hz : w + x = 0
    · have hw : w = 0 := by omega
      have hx : x = 0 := by omega
      subst hw hx
      refine ⟨fun t => ?_, by rw [ds_zero]⟩
      unfold dt
      rw [Nat.zero_div, Nat.zero_mod]
    · have hlt : w / p + x / p < m := by
        rw [← e2]
        exact Nat.lt_of_lt_of_le (Nat.div_lt_self (by omega) hp) hm
      obtain ⟨i1, i2⟩ := ih _ hlt (w / p) (x / p) (Nat.le_refl _) fun t => by
        have := h (t + 1)
        rw [dt_succ, dt_succ] at this
        exact this
      refine ⟨fun t => ?_, ?_⟩
      · cases t with
        | zero => rw [dt_zero, dt_zero, dt_zero, e1]
        | succ t => rw [dt_succ, dt_succ, dt_succ, e2, i1 t]
      · rw [ds_eq hp (w + x), e1, e2, i2, ds_eq hp w, ds_eq hp x]
        omega
theorem cf_more {p : Nat} {pre : List Nat} {x : Nat} (h : CF p pre) (hx : ds p (pre.sum + x) = ds p pre.sum + ds p x) : CF p (pre ++ [x]) := by
  unfold CF at h ⊢
  rw [List.map_append, List.sum_append, List.sum_append]
  simp only [List.map_cons, List.map_nil, List.sum_cons, List.sum_nil, Nat.add_zero]
  omega
/-- the product over places below i -/
def pcN (p w x : Nat) : Nat → Nat
  | 0 => 1
  | i + 1 => pcN p w x i * chooseN (dt p w i + dt p x i) (dt p x i)
theorem pc_shift (p w x : Nat) : ∀ i, pcN p w x (i + 1) = chooseN (dt p w 0 + dt p x 0) (dt p x 0) * pcN p (w / p) (x / p) i
  | 0 => by
    show 1 * _ = _ * 1
    rw [Nat.one_mul, Nat.mul_one]
  | i + 1 => by
    rw [pcN, pc_shift p w x i, pcN, dt_succ, dt_succ, Nat.mul_assoc]
theorem pc_lu {p : Nat} (hp : 1 < p) : ∀ (i w x : Nat), (dg p x).length ≤ i → (∀ t, dt p w t + dt p x t < p) → pcN p w x i = luN p (w + x) x
  | 0, w, x, h, _ => by
    have hx : x = 0 := by
      by_cases z : 0 < x
      · rw [dg_pos hp z, List.length_cons] at h
        omega
      · omega
    subst hx
    rw [lu_zero]
    rfl
  | i + 1, w, x, h, hd => by
    have h0 := hd 0
    rw [dt_zero, dt_zero] at h0
    obtain ⟨e1, e2⟩ := mod_add_lt h0
    have hl : (dg p (x / p)).length ≤ i := by
      by_cases z : 0 < x
      · rw [dg_pos hp z, List.length_cons] at h
        omega
      · have : x = 0 := by omega
        subst this
        rw [Nat.zero_div, dg_zero]
        exact Nat.zero_le _
    rw [pc_shift, pc_lu hp i (w / p) (x / p) hl (fun t => by
      have := hd (t + 1)
      rw [dt_succ, dt_succ] at this
      exact this), lu_eq hp (w + x) x, e1, e2, dt_zero, dt_zero]
end Own
/-! own rules: zip of a tuple, a list and a tuple -/
namespace Own
open PySem PySem.Spec PyProof.Rows L2 Evl
abbrev IsTrip (h : Heap) (T : Addr) (a b c : Value) : Prop := h.get? T = some { cls := .type "tuple", data := .seq #[a, b, c] }
structure Z3A (z TI TO i1 i2 i3 l1 l2 l3 : Addr) : Prop where
  TIz : TI ≠ z
  TOz : TO ≠ z
  i1z : i1 ≠ z
  i2z : i2 ≠ z
  i3z : i3 ≠ z
  TITO : TI ≠ TO
  TIi1 : TI ≠ i1
  TIi2 : TI ≠ i2
  TIi3 : TI ≠ i3
  TOi1 : TO ≠ i1
  TOi2 : TO ≠ i2
  TOi3 : TO ≠ i3
  i12 : i1 ≠ i2
  i13 : i1 ≠ i3
  i23 : i2 ≠ i3
  l1z : l1 ≠ z
  l2z : l2 ≠ z
  l2TO : l2 ≠ TO
  l2i1 : l2 ≠ i1
  l3z : l3 ≠ z
  l3TO : l3 ≠ TO
  l3i1 : l3 ≠ i1
  l3i2 : l3 ≠ i2
theorem z3_neN {a b : Nat} (h : a ≠ b) : (a : Addr) ≠ b := h
theorem z3_apart (I l1 l2 l3 : Nat) (h1 : l1 < I) (h2 : l2 < I) (h3 : l3 < I) : Z3A (I + 5) (I + 3) (I + 4) I (I + 1) (I + 2) l1 l2 l3 := by
  constructor <;> (refine z3_neN ?_; omega)
section
variable {prog : Program} {w : World} {A : Around} {E : Value → Shared → Prop} {s : Shared} {κ μ ν : Kd} {z TI TO a1 a2 a3 l1 l2 l3 : Addr} {n m k : Nat} {xs ys ws : Array Value}
theorem upd_trip {T : Addr} {a b c x : Value} {k : Nat} {Q : Unit → Shared → Prop} (hT : IsTrip s.heap T a b c)
    (h : ∀ h', h'.get? T = some { cls := .type "tuple", data := .seq ((#[a, b, c] : Array Value).setIfInBounds k x) } → Heap.SameBut T s.heap h' → Q () { s with heap := h' }) :
    wpAny (model prog w) A (updateSeq T (·.setIfInBounds k x)) Q E s := by
  refine wpAny_updateSeq hT rfl (h _ ?_ (Heap.SameBut.update ..))
  rw [Heap.get?_update_self _ hT rfl]
  simp [Obj.mapSeq]
theorem z3_item {x y v a b c : Value} {Q : Value → Shared → Prop} (kκ : KdOk κ) (kμ : KdOk μ) (kν : KdOk ν) (D : Z3A z TI TO a1 a2 a3 l1 l2 l3) (Z : IsZip s.heap z TI TO .none) (hI : IsTrip s.heap TI (.ref a1) (.ref a2) (.ref a3)) (hO : IsTrip s.heap TO a b c) (u1 : κ.St s.heap a1 l1 n) (u2 : μ.St s.heap a2 l2 m) (u3 : ν.St s.heap a3 l3 k) (v1 : κ.Sq s.heap l1 xs) (v2 : μ.Sq s.heap l2 ys) (v3 : ν.Sq s.heap l3 ws) (hx : xs[n]? = some x) (hy : ys[m]? = some y) (hv : ws[k]? = some v)
    (fin : ∀ h', IsZip h' z TI TO (rawInt s.heap.objs.size) → IsTrip h' TO x y v → κ.St h' a1 l1 (n + 1) → μ.St h' a2 l2 (m + 1) → ν.St h' a3 l3 (k + 1) → IsTrip h' s.heap.objs.size x y v → h'.objs.size = s.heap.objs.size + 1 → (∀ c o, c ≠ z → c ≠ TO → c ≠ a1 → c ≠ a2 → c ≠ a3 → s.heap.get? c = some o → h'.get? c = some o) → Q (.ref s.heap.objs.size) { s with heap := h' }) :
    wpAny (model prog w) A (Builtin.«zip.__next__» ⟨[.ref z], []⟩) (fun r s' => ∃ v, r = .done (.ret v) ∧ Q v s') E s := by
  show wpAny _ _ (field (.ref z) 2 >>= _) _ _ _
  refine wpAny_bind (wpAny_field Z rfl (x := .bool false) rfl ?_); show wpAny _ _ (field (.ref z) 3 >>= _) _ _ _
  refine wpAny_bind (wpAny_field Z rfl (x := .ref TI) rfl (wpAny_bind (wpAny_seqItems hI rfl ?_)))
  show wpAny _ _ (Builtin.SmallTypes.ownedTupleIsFree (.ref z) >>= _) _ _ _
  refine wpAny_bind ?_; unfold Builtin.SmallTypes.ownedTupleIsFree
  refine wpAny_bind (wpAny_field Z rfl (x := .none) rfl (wpAny_pure ?_)); simp only [if_true]
  refine wpAny_bind (wpAny_rule (wpAny_bind (wpAny_field Z rfl (x := .ref TO) rfl (wpAny_bind (wpAny_setField_rec Z (by simp) fun hA ZA sA => ?_)))))
  replace ZA : IsZip hA z TI TO .ellipsis := ZA
  refine wpAny_bind ?_; simp only [List.zipIdx_cons, List.zipIdx_nil, List.forIn_cons, List.forIn_nil]
  refine wpAny_bind (wpAny_bind (wpAny_onRaise ?_)); show wpAny _ _ (Builtin.SmallTypes.nextOf (.ref a1) >>= _) _ _ _
  refine wpAny_bind (kκ.nxt (kκ.stay u1 fun o e => sA.extBut _ _ D.i1z e) (kκ.seq v1 fun o e => sA.extBut _ _ D.l1z e) hx fun hB uB sB => wpAny_pure ?_)
  have OB : IsTrip hB TO a b c := sB.extBut _ _ D.TOi1 (sA.extBut _ _ D.TOz hO)
  refine wpAny_bind (wpAny_seqItems OB rfl (wpAny_bind (upd_trip OB fun hC OC sC => ?_)))
  replace OC : IsTrip hC TO x b c := OC
  refine wpAny_bind (wpAny_letGo (wpAny_pure ?_)); refine wpAny_bind (wpAny_bind (wpAny_onRaise ?_)); show wpAny _ _ (Builtin.SmallTypes.nextOf (.ref a2) >>= _) _ _ _
  refine wpAny_bind (kμ.nxt (kμ.stay u2 fun o e => sC.extBut _ _ D.TOi2.symm (sB.extBut _ _ D.i12.symm (sA.extBut _ _ D.i2z e))) (kμ.seq v2 fun o e => sC.extBut _ _ D.l2TO (sB.extBut _ _ D.l2i1 (sA.extBut _ _ D.l2z e))) hy fun hD uD sD => wpAny_pure ?_)
  have OD : IsTrip hD TO x b c := sD.extBut _ _ D.TOi2 OC
  refine wpAny_bind (wpAny_seqItems OD rfl (wpAny_bind (upd_trip OD fun hF OF sF => ?_)))
  replace OF : IsTrip hF TO x y c := OF
  refine wpAny_bind (wpAny_letGo (wpAny_pure ?_)); refine wpAny_bind (wpAny_bind (wpAny_onRaise ?_)); show wpAny _ _ (Builtin.SmallTypes.nextOf (.ref a3) >>= _) _ _ _
  refine wpAny_bind (kν.nxt (kν.stay u3 fun o e => sF.extBut _ _ D.TOi3.symm (sD.extBut _ _ D.i23.symm (sC.extBut _ _ D.TOi3.symm (sB.extBut _ _ D.i13.symm (sA.extBut _ _ D.i3z e))))) (kν.seq v3 fun o e => sF.extBut _ _ D.l3TO (sD.extBut _ _ D.l3i2 (sC.extBut _ _ D.l3TO (sB.extBut _ _ D.l3i1 (sA.extBut _ _ D.l3z e))))) hv fun hU uU sU => wpAny_pure ?_)
  have OU : IsTrip hU TO x y c := sU.extBut _ _ D.TOi3 OF
  refine wpAny_bind (wpAny_seqItems OU rfl (wpAny_bind (upd_trip OU fun hW OW sW => ?_)))
  replace OW : IsTrip hW TO x y v := OW
  refine wpAny_bind (wpAny_letGo (wpAny_pure (wpAny_pure (wpAny_bind (wpAny_seqItems OW rfl (wpAny_bind (wpAny_newTuple ?_)))))))
  have many : hW.objs.size = s.heap.objs.size := by rw [sW.1, sU.1, sF.1, sD.1, sC.1, sB.1, sA.1]
  have ZW : IsZip hW z TI TO .ellipsis := sW.extBut _ _ D.TOz.symm (sU.extBut _ _ D.i3z.symm (sF.extBut _ _ D.TOz.symm (sD.extBut _ _ D.i2z.symm (sC.extBut _ _ D.TOz.symm (sB.extBut _ _ D.i1z.symm ZA)))))
  have old : ∀ c o, c ≠ z → c ≠ TO → c ≠ a1 → c ≠ a2 → c ≠ a3 → s.heap.get? c = some o → hW.get? c = some o := fun c o n1 n2 n3 n4 n5 e => sW.extBut _ _ n2 (sU.extBut _ _ n5 (sF.extBut _ _ n2 (sD.extBut _ _ n4 (sC.extBut _ _ n2 (sB.extBut _ _ n3 (sA.extBut _ _ n1 e))))))
  have wA : κ.St hW a1 l1 (n + 1) := kκ.stay uB fun o e => sW.extBut _ _ D.TOi1.symm (sU.extBut _ _ D.i13 (sF.extBut _ _ D.TOi1.symm (sD.extBut _ _ D.i12 (sC.extBut _ _ D.TOi1.symm e))))
  have wB : μ.St hW a2 l2 (m + 1) := kμ.stay uD fun o e => sW.extBut _ _ D.TOi2.symm (sU.extBut _ _ D.i23 (sF.extBut _ _ D.TOi2.symm e))
  have wC : ν.St hW a3 l3 (k + 1) := kν.stay uU fun o e => sW.extBut _ _ D.TOi3.symm e
  have zl : z < hW.objs.size := Heap.lt_size ZW
  show wpAny _ _ (Builtin.SmallTypes.ownedTupleHandOut (.ref z) (.ref hW.objs.size) >>= _) _ _ _
  refine wpAny_bind ?_; unfold Builtin.SmallTypes.ownedTupleHandOut
  have ZG : IsZip (hW.push { cls := .type "tuple", data := .seq #[x, y, v] }) z TI TO .ellipsis := Heap.get?_push_of_some _ ZW
  refine wpAny_bind (wpAny_setField_rec ZG (by simp) fun hG' ZG' sG' => ?_)
  replace ZG' : IsZip hG' z TI TO (rawInt hW.objs.size) := ZG'
  refine wpAny_setField_rec ZG' (by simp) fun hK ZK sK => ?_
  replace ZK : IsZip hK z TI TO (rawInt hW.objs.size) := ZK
  have lift : ∀ c o, c ≠ z → hW.get? c = some o → hK.get? c = some o := fun c o n1 e => sK.extBut _ _ n1 (sG'.extBut _ _ n1 (Heap.get?_push_of_some _ e))
  have TK : IsTrip hK hW.objs.size x y v := sK.extBut _ _ (Nat.ne_of_gt zl) (sG'.extBut _ _ (Nat.ne_of_gt zl) (Heap.get?_push_size _ rfl))
  have nK : hK.objs.size = hW.objs.size + 1 := by rw [sK.1, sG'.1, Heap.size_push]
  rw [many] at ZK TK nK
  refine wpAny_pure ⟨_, rfl, ?_⟩; show Q (.ref hW.objs.size) _; rw [many]
  exact fin hK ZK (lift _ _ D.TOz OW) (kκ.stay wA fun o e => lift _ o D.i1z e) (kμ.stay wB fun o e => lift _ o D.i2z e) (kν.stay wC fun o e => lift _ o D.i3z e) TK nK fun c o n1 n2 n3 n4 n5 e => lift c o n1 (old c o n1 n2 n3 n4 n5 e)
theorem z3_end {a b c : Value} {Q : Fin → Shared → Prop} (kκ : KdOk κ) (kμ : KdOk μ) (kν : KdOk ν) (hh : A.handled = none) (D : Z3A z TI TO a1 a2 a3 l1 l2 l3) (Z : IsZip s.heap z TI TO .none) (hI : IsTrip s.heap TI (.ref a1) (.ref a2) (.ref a3)) (hO : IsTrip s.heap TO a b c) (u1 : κ.St s.heap a1 l1 n) (u2 : μ.St s.heap a2 l2 m) (u3 : ν.St s.heap a3 l3 k) (v1 : κ.Sq s.heap l1 xs) (v2 : μ.Sq s.heap l2 ys) (v3 : ν.Sq s.heap l3 ws) (hend : xs[n]? = none ∨ ys[m]? = none ∨ ws[k]? = none)
    (hE : ∀ h' e, (∀ c o, c ≠ z → c ≠ TO → c ≠ a1 → c ≠ a2 → c ≠ a3 → s.heap.get? c = some o → h'.get? c = some o) → (∃ o, h'.get? e = some o ∧ o.cls = .type "StopIteration") → E (.ref e) { s with heap := h' }) : wpAny (model prog w) A (Builtin.«zip.__next__» ⟨[.ref z], []⟩) Q E s := by
  show wpAny _ _ (field (.ref z) 2 >>= _) _ _ _
  refine wpAny_bind (wpAny_field Z rfl (x := .bool false) rfl ?_); show wpAny _ _ (field (.ref z) 3 >>= _) _ _ _
  refine wpAny_bind (wpAny_field Z rfl (x := .ref TI) rfl (wpAny_bind (wpAny_seqItems hI rfl ?_)))
  show wpAny _ _ (Builtin.SmallTypes.ownedTupleIsFree (.ref z) >>= _) _ _ _
  refine wpAny_bind ?_; unfold Builtin.SmallTypes.ownedTupleIsFree
  refine wpAny_bind (wpAny_field Z rfl (x := .none) rfl (wpAny_pure ?_)); simp only [if_true]
  refine wpAny_bind (wpAny_rule (wpAny_bind (wpAny_field Z rfl (x := .ref TO) rfl (wpAny_bind (wpAny_setField_rec Z (by simp) fun hA ZA sA => ?_)))))
  replace ZA : IsZip hA z TI TO .ellipsis := ZA
  refine wpAny_bind ?_; simp only [List.zipIdx_cons, List.zipIdx_nil, List.forIn_cons, List.forIn_nil]
  refine wpAny_bind (wpAny_bind (wpAny_onRaise ?_)); show wpAny _ _ (Builtin.SmallTypes.nextOf (.ref a1) >>= _) _ _ _
  by_cases hx : xs[n]? = none
  · refine wpAny_bind (kκ.out hh (kκ.stay u1 fun o e => sA.extBut _ _ D.i1z e) (kκ.seq v1 fun o e => sA.extBut _ _ D.l1z e) hx fun hB e sB he => ?_)
    obtain ⟨oe, g1, g2⟩ := he
    have ZB : IsZip hB z TI TO .ellipsis := sB _ _ D.i1z.symm ZA
    have hez : e ≠ z := fun q => by rw [q, ZB] at g1; cases g1; simp at g2
    exact wpAny_setField_rec ZB (by simp) fun hC _ sC => hE hC e (fun c o n1 _ n3 _ _ q => sC.extBut _ _ n1 (sB _ _ n3 (sA.extBut _ _ n1 q))) ⟨oe, sC.extBut _ _ hez g1, g2⟩
  · obtain ⟨x, hx'⟩ := Option.ne_none_iff_exists'.mp hx
    refine wpAny_bind (kκ.nxt (kκ.stay u1 fun o e => sA.extBut _ _ D.i1z e) (kκ.seq v1 fun o e => sA.extBut _ _ D.l1z e) hx' fun hB uB sB => wpAny_pure ?_)
    have OB : IsTrip hB TO a b c := sB.extBut _ _ D.TOi1 (sA.extBut _ _ D.TOz hO)
    refine wpAny_bind (wpAny_seqItems OB rfl (wpAny_bind (upd_trip OB fun hC OC sC => ?_)))
    replace OC : IsTrip hC TO x b c := OC
    refine wpAny_bind (wpAny_letGo (wpAny_pure ?_)); refine wpAny_bind (wpAny_bind (wpAny_onRaise ?_)); show wpAny _ _ (Builtin.SmallTypes.nextOf (.ref a2) >>= _) _ _ _
    have s2 : μ.St hC a2 l2 m := kμ.stay u2 fun o e => sC.extBut _ _ D.TOi2.symm (sB.extBut _ _ D.i12.symm (sA.extBut _ _ D.i2z e))
    have q2 : μ.Sq hC l2 ys := kμ.seq v2 fun o e => sC.extBut _ _ D.l2TO (sB.extBut _ _ D.l2i1 (sA.extBut _ _ D.l2z e))
    by_cases hy : ys[m]? = none
    · refine wpAny_bind (kμ.out hh s2 q2 hy fun hD e sD he => ?_)
      obtain ⟨oe, g1, g2⟩ := he
      have ZD : IsZip hD z TI TO .ellipsis := sD _ _ D.i2z.symm (sC.extBut _ _ D.TOz.symm (sB.extBut _ _ D.i1z.symm ZA))
      have hez : e ≠ z := fun q => by rw [q, ZD] at g1; cases g1; simp at g2
      exact wpAny_setField_rec ZD (by simp) fun hF _ sF => hE hF e (fun c o n1 n2 n3 n4 _ q => sF.extBut _ _ n1 (sD _ _ n4 (sC.extBut _ _ n2 (sB.extBut _ _ n3 (sA.extBut _ _ n1 q))))) ⟨oe, sF.extBut _ _ hez g1, g2⟩
    · obtain ⟨y, hy'⟩ := Option.ne_none_iff_exists'.mp hy
      have hv : ws[k]? = none := (hend.resolve_left hx).resolve_left hy
      refine wpAny_bind (kμ.nxt s2 q2 hy' fun hD uD sD => wpAny_pure ?_)
      have OD : IsTrip hD TO x b c := sD.extBut _ _ D.TOi2 OC
      refine wpAny_bind (wpAny_seqItems OD rfl (wpAny_bind (upd_trip OD fun hF OF sF => ?_)))
      refine wpAny_bind (wpAny_letGo (wpAny_pure ?_)); refine wpAny_bind (wpAny_bind (wpAny_onRaise ?_)); show wpAny _ _ (Builtin.SmallTypes.nextOf (.ref a3) >>= _) _ _ _
      refine wpAny_bind (kν.out hh (kν.stay u3 fun o e => sF.extBut _ _ D.TOi3.symm (sD.extBut _ _ D.i23.symm (sC.extBut _ _ D.TOi3.symm (sB.extBut _ _ D.i13.symm (sA.extBut _ _ D.i3z e))))) (kν.seq v3 fun o e => sF.extBut _ _ D.l3TO (sD.extBut _ _ D.l3i2 (sC.extBut _ _ D.l3TO (sB.extBut _ _ D.l3i1 (sA.extBut _ _ D.l3z e))))) hv fun hU e sU he => ?_)
      obtain ⟨oe, g1, g2⟩ := he
      have ZU : IsZip hU z TI TO .ellipsis := sU _ _ D.i3z.symm (sF.extBut _ _ D.TOz.symm (sD.extBut _ _ D.i2z.symm (sC.extBut _ _ D.TOz.symm (sB.extBut _ _ D.i1z.symm ZA))))
      have hez : e ≠ z := fun q => by rw [q, ZU] at g1; cases g1; simp at g2
      exact wpAny_setField_rec ZU (by simp) fun hW _ sW => hE hW e (fun c o n1 n2 n3 n4 n5 q => sW.extBut _ _ n1 (sU _ _ n5 (sF.extBut _ _ n2 (sD.extBut _ _ n4 (sC.extBut _ _ n2 (sB.extBut _ _ n3 (sA.extBut _ _ n1 q))))))) ⟨oe, sW.extBut _ _ hez g1, g2⟩
theorem z3_nextI {x y v a b c : Value} {Q : Option Value → Shared → Prop} (kκ : KdOk κ) (kμ : KdOk μ) (kν : KdOk ν) (D : Z3A z TI TO a1 a2 a3 l1 l2 l3) (Z : IsZip s.heap z TI TO .none) (hI : IsTrip s.heap TI (.ref a1) (.ref a2) (.ref a3)) (hO : IsTrip s.heap TO a b c) (u1 : κ.St s.heap a1 l1 n) (u2 : μ.St s.heap a2 l2 m) (u3 : ν.St s.heap a3 l3 k) (v1 : κ.Sq s.heap l1 xs) (v2 : μ.Sq s.heap l2 ys) (v3 : ν.Sq s.heap l3 ws) (hx : xs[n]? = some x) (hy : ys[m]? = some y) (hv : ws[k]? = some v)
    (fin : ∀ h', IsZip h' z TI TO (rawInt s.heap.objs.size) → IsTrip h' TO x y v → κ.St h' a1 l1 (n + 1) → μ.St h' a2 l2 (m + 1) → ν.St h' a3 l3 (k + 1) → IsTrip h' s.heap.objs.size x y v → h'.objs.size = s.heap.objs.size + 1 → (∀ c o, c ≠ z → c ≠ TO → c ≠ a1 → c ≠ a2 → c ≠ a3 → s.heap.get? c = some o → h'.get? c = some o) → Q (some (.ref s.heap.objs.size)) { s with heap := h' }) :
    wpAny (model prog w) A (pyNext (.ref z)) Q E s := by
  have T : s.TypeIs (.ref z) "zip" := ⟨_, Z, rfl⟩
  unfold pyNext
  exact wpAny_bind (wpAny_attempt (wpAny_callSpecial?_slot (name := Str.ofString "__next__") T F.slot_zip_next (wpAny_call_entry F.slot_zip_next T F.entry_zip_next
    (z3_item kκ kμ kν D Z hI hO u1 u2 u3 v1 v2 v3 hx hy hv fun h' b1 b2 b3 b4 b5 b6 b7 b8 => wpAny_pure (fin h' b1 b2 b3 b4 b5 b6 b7 b8)) (F.args_zip_next_1 _))))
theorem z3_nextE {a b c : Value} {Q : Option Value → Shared → Prop} (kκ : KdOk κ) (kμ : KdOk μ) (kν : KdOk ν) (hh : A.handled = none) (D : Z3A z TI TO a1 a2 a3 l1 l2 l3) (Z : IsZip s.heap z TI TO .none) (hI : IsTrip s.heap TI (.ref a1) (.ref a2) (.ref a3)) (hO : IsTrip s.heap TO a b c) (u1 : κ.St s.heap a1 l1 n) (u2 : μ.St s.heap a2 l2 m) (u3 : ν.St s.heap a3 l3 k) (v1 : κ.Sq s.heap l1 xs) (v2 : μ.Sq s.heap l2 ys) (v3 : ν.Sq s.heap l3 ws) (hend : xs[n]? = none ∨ ys[m]? = none ∨ ws[k]? = none)
    (fin : ∀ h', (∀ c o, c ≠ z → c ≠ TO → c ≠ a1 → c ≠ a2 → c ≠ a3 → s.heap.get? c = some o → h'.get? c = some o) → Q none { s with heap := h' }) : wpAny (model prog w) A (pyNext (.ref z)) Q E s := by
  have T : s.TypeIs (.ref z) "zip" := ⟨_, Z, rfl⟩
  unfold pyNext
  refine wpAny_bind (wpAny_attempt (wpAny_callSpecial?_slot (name := Str.ofString "__next__") T F.slot_zip_next (wpAny_call_entry F.slot_zip_next T F.entry_zip_next (z3_end kκ kμ kν hh D Z hI hO u1 u2 u3 v1 v2 v3 hend fun h' e hk he => ?_) (F.args_zip_next_1 _))))
  obtain ⟨o, ho, hc⟩ := he
  exact wpAny_bind (wpAny_isInstance (T := "StopIteration") (b := true) ⟨o, ho, hc⟩ isSubtype_stop (wpAny_pure (fin _ hk)))
end
abbrev z3a (h : Heap) (t : Addr) : Heap := h.push { cls := .type "tuple_iterator", data := .fields #[.ref t, .int 0 0] }
abbrev z3b (h : Heap) (t l : Addr) : Heap := (z3a h t).push { cls := .type "list_iterator", data := .fields #[.ref l, .int 0 0] }
abbrev z3c (h : Heap) (t l u : Addr) : Heap := (z3b h t l).push { cls := .type "tuple_iterator", data := .fields #[.ref u, .int 0 0] }
abbrev z3d (h : Heap) (t l u : Addr) : Heap := (z3c h t l u).push { cls := .type "tuple", data := .seq #[.ref h.objs.size, .ref (z3a h t).objs.size, .ref (z3b h t l).objs.size] }
abbrev z3e (h : Heap) (t l u : Addr) : Heap := (z3d h t l u).push { cls := .type "tuple", data := .seq #[.none, .none, .none] }
abbrev z3f (h : Heap) (t l u : Addr) : Heap := (z3e h t l u).push { cls := .type "zip", data := .fields #[.none, .bool false, .bool false, .ref (z3c h t l u).objs.size, .ref (z3d h t l u).objs.size] }
theorem z3_new (t l u : Addr) (xs ys ws : Array Value) : Meets (Builtin.«zip.__new__» ⟨[.type "zip", .ref t, .ref l, .ref u], []⟩) (fun _ R s => s.heap.IsTuple t xs ∧ s.heap.IsList l ys ∧ s.heap.IsTuple u ws ∧ R (.ok (.ret (.ref (z3e s.heap t l u).objs.size))) { s with heap := z3f s.heap t l u }) :=
  .of_wp fun prog w A R s h => by
    obtain ⟨hp, g, d, tk, os⟩ := s
    obtain ⟨v1, v2, v3, h⟩ := h
    have sub := PySem.sub_zip
    have V1 : Heap.IsTuple (Shared.heap ⟨hp, g, d, tk, os⟩) t xs := v1
    have V2 : Heap.IsList (Shared.heap ⟨z3a hp t, g, d, tk, os⟩) l ys := Heap.IsList.push v2 _
    have V3 : Heap.IsTuple (Shared.heap ⟨z3b hp t l, g, d, tk, os⟩) u ws := Heap.IsTuple.push (Heap.IsTuple.push v3 _) _
    wp_walk using wpAny_pyIter_tuple V1, wpAny_pyIter_list V2, wpAny_pyIter_tuple V3
    exact ⟨_, rfl, h⟩
namespace Z3F
theorem typeCall (a b c : Value) : checkTypeCall "zip" ⟨[a, b, c], []⟩ = pure () := by kernel_rfl
theorem newCall (a b c : Value) : checkBuiltinCall "zip.__new__" ⟨[.type "zip", a, b, c], []⟩ = pure () := by kernel_rfl
theorem init4 (a b c d : Value) : argsOk "object.__init__" ⟨[a, b, c, d], []⟩ := by
  unfold argsOk; rw [signature?_of (id := "object.__init__") (n := ['_', '_', 't', 'i', 'n', 'i', '_', '_']) (o := ['t', 'c', 'e', 'j', 'b', 'o']) (by kernel_rfl) F.owner_object]; kernel_rfl
end Z3F
section
variable {prog : Program} {w : World} {A : Around} {E : Value → Shared → Prop} {s : Shared}
theorem call_z3 {t l u : Addr} {xs ys ws : Array Value} {Q : Value → Shared → Prop} (v1 : s.heap.IsTuple t xs) (v2 : s.heap.IsList l ys) (v3 : s.heap.IsTuple u ws)
    (fin : ∀ h', IsZip h' (s.heap.objs.size + 5) (s.heap.objs.size + 3) (s.heap.objs.size + 4) .none → IsTrip h' (s.heap.objs.size + 3) (.ref s.heap.objs.size) (.ref (s.heap.objs.size + 1)) (.ref (s.heap.objs.size + 2)) → IsTrip h' (s.heap.objs.size + 4) .none .none .none → h'.IsTupleIter s.heap.objs.size t 0 → h'.IsListIter (s.heap.objs.size + 1) l 0 → h'.IsTupleIter (s.heap.objs.size + 2) u 0 →
      (∀ c o, s.heap.get? c = some o → h'.get? c = some o) → Q (.ref (s.heap.objs.size + 5)) { s with heap := h' }) :
    wpAny (model prog w) A (call (.type "zip") [.ref t, .ref l, .ref u]) Q E s := by
  refine callType_new F.called_zip (by decide) (Z3F.typeCall _ _ _) (Z3F.newCall _ _ _) (fun ob => Z3F.init4 ob _ _ _) F.entry_zip_new (z3_new t l u xs ys ws) ⟨v1, v2, v3, ?_⟩
  have n1 : (z3a s.heap t).objs.size = s.heap.objs.size + 1 := Heap.size_push ..
  have n2 : (z3b s.heap t l).objs.size = s.heap.objs.size + 2 := by rw [Heap.size_push, n1]
  have n3 : (z3c s.heap t l u).objs.size = s.heap.objs.size + 3 := by rw [Heap.size_push, n2]
  have n4 : (z3d s.heap t l u).objs.size = s.heap.objs.size + 4 := by rw [Heap.size_push, n3]
  have n5 : (z3e s.heap t l u).objs.size = s.heap.objs.size + 5 := by rw [Heap.size_push, n4]
  have up : ∀ {h : Heap} {o : Obj} {c : Addr} {u : Obj}, h.get? c = some u → (h.push o).get? c = some u := fun e => Heap.get?_push_of_some _ e
  have o6 : (z3f s.heap t l u).get? (z3e s.heap t l u).objs.size = some _ := Heap.get?_push_size _ rfl
  have o5 : (z3f s.heap t l u).get? (z3d s.heap t l u).objs.size = some _ := up (Heap.get?_push_size _ rfl)
  have o4 : (z3f s.heap t l u).get? (z3c s.heap t l u).objs.size = some _ := up (up (Heap.get?_push_size _ rfl))
  have o3 : (z3f s.heap t l u).get? (z3b s.heap t l).objs.size = some _ := up (up (up (Heap.get?_push_size _ rfl)))
  have o2 : (z3f s.heap t l u).get? (z3a s.heap t).objs.size = some _ := up (up (up (up (Heap.get?_push_size _ rfl))))
  have o1 : (z3f s.heap t l u).get? s.heap.objs.size = some _ := up (up (up (up (up (Heap.get?_push_size _ rfl)))))
  rw [n3, n4, n5] at o6; rw [n4] at o5; rw [n1, n2, n3] at o4; rw [n2] at o3; rw [n1] at o2
  show _ ∧ _
  rw [n5]
  exact ⟨⟨_, o6, rfl⟩, fin _ o6 o4 o5 ⟨_, o1, rfl, rfl⟩ ⟨_, o2, rfl, rfl⟩ ⟨_, o3, rfl, rfl⟩ fun c o x => up (up (up (up (up (up x)))))⟩
end
/-- the tuple at a, the list at b, the tuple at c, their items in new triples -/
def It3 (K : PySem.W.Frag) (a b c : Addr) : It :=
  ⟨fun i H => ∃ (xs ys ws : List V) (x y v : V), SqT K H a xs ∧ SqL K H b ys ∧ SqT K H c ws ∧ xs[i]? = some x ∧ ys[i]? = some y ∧ ws[i]? = some v,
    fun i H r H' => ∃ T x y v, r = .ref T ∧ H T = none ∧ H' = upd H T (.tup [x, y, v]) ∧ (∀ xs, SqT K H a xs → xs[i]? = some x) ∧ (∀ ys, SqL K H b ys → ys[i]? = some y) ∧ ∀ ws, SqT K H c ws → ws[i]? = some v,
    fun i H => ∃ xs ys ws : List V, SqT K H a xs ∧ SqL K H b ys ∧ SqT K H c ws ∧ (xs.length ≤ i ∨ ys.length ≤ i ∨ ws.length ≤ i)⟩
theorem mem6 {α : Type} {c z a b d e f : α} (h : c ∈ [z, a, b, d, e, f]) : c = z ∨ c = a ∨ c = b ∨ c = d ∨ c = e ∨ c = f := by simpa using h
theorem turn_z3 {P : Program} {w : World} {K : PySem.W.Frag} {elts : List Expr} {kk : Nat} {tpos : Pos} {a b c z TI TO i1 i2 i3 : Addr} (D : Z3A z TI TO i1 i2 i3 a b c) :
    Turn P w K (.Tuple elts kk tpos) (It3 K a b c) [z, TI, TO, i1, i2, i3] z (fun i h => IsZip h z TI TO .none ∧ IsTrip h TI (.ref i1) (.ref i2) (.ref i3) ∧ (∃ x y v, IsTrip h TO x y v) ∧ kT.St h i1 a i ∧ kL.St h i2 b i ∧ kT.St h i3 c i) where
  mem := by simp
  obj := fun i h st d hd => by
    obtain ⟨Z, hI, ⟨x, y, v, hO⟩, u1, u2, u3⟩ := st
    rcases mem6 hd with q | q | q | q | q | q <;> rw [q]
    · exact ⟨_, Z, fun v q => nomatch q⟩
    · exact ⟨_, hI, fun v q => nomatch q⟩
    · exact ⟨_, hO, fun v q => nomatch q⟩
    · exact kT_ok.here u1
    · exact kL_ok.here u2
    · exact kT_ok.here u3
  keep := fun i h h' st k => by
    obtain ⟨Z, hI, ⟨x, y, v, hO⟩, u1, u2, u3⟩ := st
    exact ⟨k z (by simp) _ Z, k TI (by simp) _ hI, ⟨x, y, v, k TO (by simp) _ hO⟩, kT_ok.stay u1 fun o q => k i1 (by simp) o q, kL_ok.stay u2 fun o q => k i2 (by simp) o q, kT_ok.stay u3 fun o q => k i3 (by simp) o q⟩
  item := by
    intro X hP hw hK hc i pins s σ H E I hf st hg
    subst hP hw hK
    obtain ⟨Z, hI, ⟨x0, y0, v0, hO⟩, u1, u2, u3⟩ := st
    obtain ⟨xs, ys, ws, x, y, r, qx, qy, qw, hx, hy, hr⟩ := hg
    obtain ⟨its, rv, p, _⟩ := I.tuple qx
    obtain ⟨jts, rw', p2, _⟩ := I.list qy
    obtain ⟨kts, rw3, p3, _⟩ := I.tuple qw
    obtain ⟨u, hu, ru⟩ := rv.get hx
    obtain ⟨v, hv, rv'⟩ := rw'.get hy
    obtain ⟨v3, hv3, rv3⟩ := rw3.get hr
    have zl : z < s.heap.objs.size := Heap.lt_size Z
    refine z3_nextI kT_ok kL_ok kT_ok D Z hI hO u1 u2 u3 p p2.isList p3 (x := u) (y := v) (v := v3) (by simpa using hu) (by simpa using hv) (by simpa using hv3) fun h' Z' O' u1' u2' u3' T' _ old => ?_
    refine ⟨_, rfl, wpAny_letOwnedTupleGo_zip (s := { s with heap := h' }) Z' fun g Z2 sb => ?_⟩
    have T2 : g.get? s.heap.objs.size = some { cls := .type "tuple", data := .seq #[u, v, v3] } := (sb.2 _ (Nat.ne_of_gt zl)).trans T'
    have nw : ObjOk X.prog X.w (upd H s.heap.objs.size (.tup [x, y, r])) g s.heap.objs.size (.tup [x, y, r]) := ⟨by show 3 ≤ sizeLine; decide, [u, v, v3], .cons ru (.cons rv' (.cons rv3 .nil)), ⟨_, T2, rfl, _, rfl⟩⟩
    have I1 : Inv X pins σ (upd H s.heap.objs.size (.tup [x, y, r])) { s with heap := g } :=
      I.turnedNew (t' := s.toks) (ch := [z, TI, TO, i1, i2, i3]) (fun c o hb q => (sb.2 c fun e => hb (by simp [e])).trans (old c o (fun e => hb (by simp [e])) (fun e => hb (by simp [e])) (fun e => hb (by simp [e])) (fun e => hb (by simp [e])) (fun e => hb (by simp [e])) q)) hf (Nat.le_refl _) nw
    refine ⟨.ref s.heap.objs.size, _, I1, rfl, ⟨_, x, y, r, rfl, I.hok.fresh (Nat.le_refl _), rfl, fun l hl => (I.tuple_inj hl qx).symm ▸ hx, fun l hl => (I.list_inj hl qy).symm ▸ hy, fun l hl => (I.tuple_inj hl qw).symm ▸ hr⟩, ⟨Z2, ?_, ⟨u, v, v3, ?_⟩, kT_ok.stay u1' fun o q => (sb.2 _ D.i1z).trans q, kL_ok.stay u2' fun o q => (sb.2 _ D.i2z).trans q, kT_ok.stay u3' fun o q => (sb.2 _ D.i3z).trans q⟩, fun c hcm => ?_⟩
    · exact (sb.2 _ D.TIz).trans (old _ _ D.TIz D.TITO D.TIi1 D.TIi2 D.TIi3 hI)
    · exact (sb.2 _ D.TOz).trans O'
    · have lt : c < s.heap.objs.size := by
        rcases mem6 hcm with q | q | q | q | q | q <;> rw [q]
        · exact zl
        · exact Heap.lt_size hI
        · exact Heap.lt_size hO
        · exact Heap.lt_size (kT_ok.here u1).choose_spec.1
        · exact Heap.lt_size (kL_ok.here u2).choose_spec.1
        · exact Heap.lt_size (kT_ok.here u3).choose_spec.1
      rw [upd_ne (Nat.ne_of_lt lt)]
      exact (hf c hcm).1
  done := by
    intro X hP hw hK hc i pins s σ H E I hf st hg
    subst hP hw hK
    obtain ⟨Z, hI, ⟨x0, y0, v0, hO⟩, u1, u2, u3⟩ := st
    obtain ⟨xs, ys, ws, qx, qy, qw, hend⟩ := hg
    obtain ⟨its, rv, p, _⟩ := I.tuple qx
    obtain ⟨jts, rw', p2, _⟩ := I.list qy
    obtain ⟨kts, rw3, p3, _⟩ := I.tuple qw
    have e1 := rv.length
    have e2 := rw'.length
    have e3 := rw3.length
    have he : its.toArray[i]? = none ∨ jts.toArray[i]? = none ∨ kts.toArray[i]? = none := hend.elim (fun q => .inl (by simp; omega)) fun q => q.elim (fun q => .inr (.inl (by simp; omega))) fun q => .inr (.inr (by simp; omega))
    exact z3_nextE kT_ok kL_ok kT_ok (I.ok.hd hc) D Z hI hO u1 u2 u3 p p2.isList p3 he fun h' old => ⟨rfl, I.turnedL (t' := s.toks) (ch := [z, TI, TO, i1, i2, i3]) (fun c o hb q => old c o (fun e => hb (by simp [e])) (fun e => hb (by simp [e])) (fun e => hb (by simp [e])) (fun e => hb (by simp [e])) (fun e => hb (by simp [e])) q) hf⟩
  self := fun A i s Q E st h => wpAny_pyIter_zip st.1 h
def iZip3 (K : PySem.W.Frag) (ta : TA) : TI := fun σ H R => ta σ H fun vs H1 => ∃ a b c xs ys ws, vs = [.ref a, .ref b, .ref c] ∧ SqT K H1 a xs ∧ SqL K H1 b ys ∧ SqT K H1 c ws ∧ R (It3 K a b c) H1
theorem pi_zip3 {X : Cx} {e e2 e3 : Expr} {ta : TA} {p pos tpos : Pos} {elts : List Expr} {kk : Nat} (hg : Gl X "zip") (hm : X.mg "zip" = none) (ha : PA X [e, e2, e3] ta) (hs : starEach [e, e2, e3] X.env = (false, eval e X.env) :: starEach [e2, e3] X.env := by rfl) (hpl : (backTo pos (starEach [e2, e3] X.env)).any (·.1) = false := by rfl) :
    PI X (.Tuple elts kk tpos) (.Call (.Name "zip" p) [e, e2, e3] [] pos) (iZip3 X.K ta) := by
  refine ⟨fun pins s σ H R I h => Call_ (ld_blt I hg hm PyProof.Rows.boot_zip (PyProof.Rows.callWith_type1 (thn (ha.run pos pins s σ H _ I h) fun us s1 ⟨vs, H1, I1, r1, q1⟩ => ?_) hs hpl))⟩
  obtain ⟨a, b, c, xs, ys, ws, ex, qx, qy, qw, q⟩ := q1
  subst ex
  obtain _ | ⟨r, rr⟩ := r1
  obtain _ | ⟨r', rr⟩ := rr
  obtain _ | ⟨r'', rr⟩ := rr
  cases rr
  cases r
  cases r'
  cases r''
  obtain ⟨its, rv, p1, _⟩ := I1.tuple qx
  obtain ⟨jts, rw', p2, _⟩ := I1.list qy
  obtain ⟨kts, rw3, p3, _⟩ := I1.tuple qw
  have la : a < s1.heap.objs.size := by
    obtain ⟨o, ho, _⟩ := id p1
    exact Heap.lt_size ho
  have lc : c < s1.heap.objs.size := by
    obtain ⟨o, ho, _⟩ := id p3
    exact Heap.lt_size ho
  refine call_z3 p1 p2.isList p3 fun h' Z hI hO u1 u2 u3 hk => wpAny_pyIter_zip Z ?_
  refine ⟨s1.heap.objs.size + 5, [s1.heap.objs.size + 5, s1.heap.objs.size + 3, s1.heap.objs.size + 4, s1.heap.objs.size, s1.heap.objs.size + 1, s1.heap.objs.size + 2], _, _, H1, rfl, I1.kept (t' := s1.toks) hk, turn_z3 (z3_apart s1.heap.objs.size a b c la p2.lt lc), ⟨Z, hI, ⟨_, _, _, hO⟩, u1, u2, u3⟩, fun c hcm => ?_, q⟩
  have le : s1.heap.objs.size ≤ c := by rcases mem6 hcm with z | z | z | z | z | z <;> rw [z] <;> omega
  exact I1.fpOk le (I1.hok.fresh le)
end Own
/-! own words: a written dict of tuples of tuples of tuples -/
namespace Own
open PySem PySem.Spec PyProof.Rows L2 Evl
def Rws3 (K : Fr_) (H : Hp) (rs : List Addr) (xss : List (List (List Int))) : Prop := rs.length = xss.length ∧ ∀ (i : Nat) (r : Addr) (xs : List (List Int)), rs[i]? = some r → xss[i]? = some xs → ∃ ss : List Addr, ∀ H, SqT K H r (ss.map V.ref) ∧ Rws K H ss xs
theorem asRows3L_eq {K : Fr_} : ∀ {l : List Value} {xss : List (List (List Int))}, asRows3L K l = some xss → ∃ rs : List Addr, Vals (rs.map V.ref) l ∧ ∀ H, Rws3 K H rs xss
  | [], xss, h => by
    cases (Option.some.inj h : [] = xss)
    exact ⟨[], .nil, fun H => ⟨rfl, fun i r xs h => by simp at h⟩⟩
  | v :: l, xss, h => by
    unfold asRows3L at h
    split at h
    · rename_i i is h1 h2
      cases (Option.some.inj h : (i :: is) = xss)
      obtain ⟨a, ss, rfl, hs⟩ := asRows_eq h1
      obtain ⟨rs, hv, hr⟩ := asRows3L_eq h2
      refine ⟨a :: rs, .cons rfl hv, fun H => ⟨by rw [List.length_cons, List.length_cons, (hr H).1], fun j r xs e1 e2 => ?_⟩⟩
      cases j with
      | zero =>
        cases (Option.some.inj e1 : a = r)
        cases (Option.some.inj e2 : i = xs)
        exact ⟨ss, hs⟩
      | succ j => exact (hr H).2 j r xs e1 e2
    · cases h
theorem asRows3_eq {K : Fr_} {v : Value} {xss : List (List (List Int))} (h : asRows3 K v = some xss) : ∃ (a : Addr) (rs : List Addr), v = .ref a ∧ ∀ H, SqT K H a (rs.map V.ref) ∧ Rws3 K H rs xss := by
  unfold asRows3 at h
  split at h
  · rename_i l e
    obtain ⟨a, o, its, n, rfl, hl, hc, hd, hz, rfl⟩ := asTup_eq e
    obtain ⟨rs, hv, hr⟩ := asRows3L_eq h
    exact ⟨a, rs, rfl, fun H => ⟨.inr ⟨o, its, n, hl, hc, hd, Nat.le_trans hz (by decide), hv⟩, hr H⟩⟩
  · cases h
theorem tab3_get {K : Fr_} {d : Addr} {t : List (Int × List (List (List Int)))} {i : Int} {w : List (List (List Int))} (h : tab3 K d = some t) (hl : t.lookup i = some w) : ∃ (a : Addr) (rs : List Addr), (∀ H, SqT K H a (rs.map V.ref) ∧ Rws3 K H rs w) ∧ ∀ H, RV (rIxW K) (.ref d) (.int i) H (.ref a) := by
  obtain ⟨t0, h1, h2⟩ := Option.bind_eq_some_iff.mp h
  obtain ⟨v, h3, h4⟩ := mapV2_lookup h2 i w hl
  obtain ⟨a, rs, rfl, hs⟩ := asRows3_eq h4
  exact ⟨a, rs, hs, fun H H1 _ _ q => ⟨d, i, t0, _, .ref a, rfl, rfl, h1, h3, rfl, q H1 (Ex.refl H1)⟩⟩
/-- for a, b, c in zip(tuple, list, tuple) -/
theorem walk_z3 {K : PySem.W.Frag} {a b c : Addr} {xs ys ws : List V} {n : Nat} (hn : n = min xs.length (min ys.length ws.length)) : Walk (It3 K a b c) n (fun H => SqT K H a xs ∧ SqL K H b ys ∧ SqT K H c ws) (fun i H v H' => ∃ T x y u, v = .ref T ∧ H T = none ∧ H' = upd H T (.tup [x, y, u]) ∧ xs[i]? = some x ∧ ys[i]? = some y ∧ ws[i]? = some u) := by
  subst hn
  refine ⟨fun i _ hi q => ?_, fun _ q => ⟨xs, ys, ws, q.1, q.2.1, q.2.2, by omega⟩, fun i H v H' _ q ⟨T, x, y, u, h1, h2, h3, h4, h5, h6⟩ => ⟨T, x, y, u, h1, h2, h3, h4 xs q.1, h5 ys q.2.1, h6 ws q.2.2⟩⟩
  have h1 : i < xs.length := by omega
  have h2 : i < ys.length := by omega
  have h3 : i < ws.length := by omega
  exact ⟨xs, ys, ws, xs[i], ys[i], ws[i], q.1, q.2.1, q.2.2, by simp [h1], by simp [h2], by simp [h3]⟩
section
variable {K : PySem.W.Frag} {σ : L2.St} {H H' : Hp} {ta tb te : TE} {t : TT} {D : Ends} {tu tz : TS}
theorem q_forZ3 {tl : TA} {a b c : Addr} {xs ys ws : List V} {i1 i2 i3 : Nat} (h : EvA tl σ H [.ref a, .ref b, .ref c]) (hx : SqT K H a xs) (hy : SqL K H b ys) (hw : SqT K H c ws) (Pv : Nat → L2.St → Hp → Prop) (h0 : ∀ H1, Ex H H1 → Pv 0 σ H1) (hl : ∀ i σ' H', Pv i σ' H' → Ex H H')
    (hs : ∀ i x y u σ' H' H2, xs[i]? = some x → ys[i]? = some y → ws[i]? = some u → Pv i σ' H' → Ex H' H2 → tu { D with nx := Pv (i + 1), ct := Pv (i + 1), bk := tz D } (((σ'.set i1 (some x)).set i2 (some y)).set i3 (some u)) H2) (hd : ∀ σ' H', Pv (min xs.length (min ys.length ws.length)) σ' H' → tz D σ' H') :
    tSeq (tFor (iZip3 K tl) (gTup K 3 (gCons (gName i1) (gCons (gName i2) (gCons (gName i3) gNil)))) tu) tz D σ H :=
  h H (Ex.refl H) _ fun H1 e1 => ⟨a, b, c, xs, ys, ws, rfl, ex_t e1 hx, ex_l e1 hy, ex_t e1 hw, for_it (walk_z3 (xs := xs) (ys := ys) (ws := ws) rfl) (D := { D with nx := tz D }) Pv (h0 H1 e1) (fun i σ' H' _ pv => ⟨ex_t (hl i σ' H' pv) hx, ex_l (hl i σ' H' pv) hy, ex_t (hl i σ' H' pv) hw⟩) (fun i x σ' H' H'' hi pv y => by
    obtain ⟨T, u1, u2, u3, rfl, nT, rfl, f1, f2, f3⟩ := y
    exact ⟨T, [u1, u2, u3], rfl, st_of upd_same, rfl, u1, [u2, u3], rfl, u2, [u3], rfl, u3, [], rfl, rfl, hs i u1 u2 u3 σ' H' _ f1 f2 f3 pv (Ex.new nT)⟩) hd⟩
end
end Own
/-! the listing of all partings of small numbers, as plain functions, and what a kernel check says of it -/
namespace Own
open PySem PySem.Spec PyProof.Rows L2 Evl
def dgf2 : Nat → Nat → Nat → List Nat
  | 0, _, _ => []
  | f + 1, b, n => if n = 0 then [] else n % b :: dgf2 f b (n / b)
theorem dgf2_eq {b : Nat} (hb : 1 < b) : ∀ (f n : Nat), n < 2 ^ f → dgf2 f b n = dg b n
  | 0, n, h => by
    rw [show n = 0 by omega, dg_zero]
    rfl
  | f + 1, n, h => by
    rw [dgf2]
    by_cases h0 : n = 0
    · rw [if_pos h0, h0, dg_zero]
    · have hn : 0 < n := by omega
      rw [if_neg h0, dg_pos hb hn, dgf2_eq hb f (n / b) (by
        have h2 : n / b ≤ n / 2 := Nat.div_le_div_left hb (by decide)
        rw [Nat.pow_succ] at h
        omega)]
def ndT : Nat → List (List (List Nat))
  | 2 => [[[1]]]
  | 3 => [[[2]], [[1]]]
  | 4 => [[[0, 3], [1, 1], [3, 0]], [[0, 2], [1, 0]], [[0, 1], [2, 0]]]
  | 5 => [[[4]], [[1]], [[2]], [[3]]]
  | 7 => [[[6]], [[1]], [[2]], [[3]], [[4]], [[5]]]
  | 8 => [[[0, 0, 7], [0, 1, 3], [0, 3, 2], [0, 5, 1], [0, 7, 0], [1, 0, 5], [1, 1, 1], [1, 3, 0], [2, 0, 3], [3, 0, 1], [3, 2, 0], [5, 1, 0], [7, 0, 0]], [[0, 0, 2], [0, 2, 1], [0, 4, 0], [1, 0, 0]], [[0, 0, 4], [0, 1, 0], [1, 0, 2], [2, 0, 0]], [[0, 0, 6], [0, 1, 2], [0, 3, 1], [0, 5, 0], [1, 0, 4], [1, 1, 0], [2, 0, 2], [3, 0, 0]], [[0, 0, 1], [0, 2, 0], [2, 1, 0], [4, 0, 0]], [[0, 0, 3], [0, 2, 2], [0, 4, 1], [0, 6, 0], [1, 0, 1], [1, 2, 0], [3, 1, 0], [5, 0, 0]], [[0, 0, 5], [0, 1, 1], [0, 3, 0], [1, 0, 3], [2, 0, 1], [2, 2, 0], [4, 1, 0], [6, 0, 0]]]
  | 9 => [[[0, 8], [1, 5], [2, 2], [5, 1], [8, 0]], [[0, 3], [1, 0]], [[0, 6], [1, 3], [2, 0]], [[0, 1], [3, 0]], [[0, 4], [1, 1], [4, 0]], [[0, 7], [1, 4], [2, 1], [5, 0]], [[0, 2], [3, 1], [6, 0]], [[0, 5], [1, 2], [4, 1], [7, 0]]]
  | _ => []
def pfT : Nat → Nat × Nat
  | 4 => (2, 2)
  | 8 => (2, 3)
  | 9 => (3, 2)
  | q => (q, 1)
def lessI (is : List Int) (ws : List Nat) (m : Nat) : List Int := List.zipWith (fun (a : Int) (w : Nat) => a - (m : Int) * (w : Int)) is ws
def geI (is : List Int) : Bool := is.all fun z => decide (0 ≤ z)
def fitI (P F : Nat) : Nat → List Nat → List Nat → List Int → Bool
  | t, m :: ms, r :: rs, sp => if r < m then false else fitI P F (t + 1) ms rs (lessI sp (wl P F t) m)
  | _, _, _, sp => geI sp
def goI (q P F head : Nat) (room : List Nat) (sp : List Int) : Bool :=
  if 0 < head ∧ (q - 1 - head % (q - 1)) % (q - 1) = 0 then geI sp else ((ndT q).getD ((q - 1 - head % (q - 1)) % (q - 1)) []).any fun need => fitI P F 0 need room sp
def oneI (q P F at_ : Nat) (room : List Nat) (hs : Nat × List Int) (m : Nat) : Option (Nat × List Int) :=
  if goI q P F (hs.1 + m * P ^ at_) room (lessI hs.2 (wl P F at_) m) then some (hs.1 + m * P ^ at_, lessI hs.2 (wl P F at_) m) else none
def longI (q P F at_ digit : Nat) (room : List Nat) (heads : List (Nat × List Int)) : List (Nat × List Int) :=
  (heads.map fun hs => (List.range (digit + 1)).filterMap (oneI q P F at_ room hs)).flatten
def spI (q P F : Nat) (row : List Nat) (many : Nat) : List Int :=
  (List.range F).map fun j => ((((List.range F).map fun t => (strd F t row).sum * wt P F j t).sum : Nat) : Int) - ((q - 1 : Nat) : Int) * (many : Int)
def lessR (room : List Nat) (c d : Nat) : List Nat := room.set c (room.getD c 0 - d)
def walkI (q P F : Nat) (row : List Nat) : Nat → List Nat → List (Nat × List Int) → List (Nat × List Int)
  | 0, _, heads => heads
  | a + 1, room, heads =>
    if row.getD a 0 = 0 then walkI q P F row a room heads else
      walkI q P F row a (lessR room (a % F) (row.getD a 0)) (longI q P F a (row.getD a 0) (lessR room (a % F) (row.getD a 0)) heads)
def smI (heads : List (Nat × List Int)) : Bool := decide (heads.length ≤ 2000) && heads.all fun h => decide (h.1 ≤ 100000) && h.2.all fun z => decide (-100000 ≤ z ∧ z ≤ 100000)
def okWalk (q P F : Nat) (row : List Nat) : Nat → List Nat → List (Nat × List Int) → Bool
  | 0, _, heads => smI heads
  | a + 1, room, heads => smI heads &&
    if row.getD a 0 = 0 then okWalk q P F row a room heads else
      decide (row.getD a 0 ≤ room.getD (a % F) 0) && okWalk q P F row a (lessR room (a % F) (row.getD a 0)) (longI q P F a (row.getD a 0) (lessR room (a % F) (row.getD a 0)) heads)
def roomI (F : Nat) (row : List Nat) : List Nat := (List.range F).map fun t => (strd F t row).sum
def firstR (q P F : Nat) (row : List Nat) (after : Nat) : List Nat := (walkI q P F row row.length (roomI F row) [(0, spI q P F row after)]).map (·.1)
def okFirstR (q P F : Nat) (row : List Nat) (after : Nat) : Bool := geI (spI q P F row after) && okWalk q P F row row.length (roomI F row) [(0, spI q P F row after)]
def nextI (q P F after : Nat) (begun : List (List Nat × Nat)) : List (List Nat × Nat) := (begun.map fun b => (firstR q P F (dgf2 10 P b.2) after).map fun m => (b.1 ++ [m], b.2 - m)).flatten
def okNext (q P F after : Nat) (begun : List (List Nat × Nat)) : Bool := (begun.all fun b => decide (b.2 < 1024) && okFirstR q P F (dgf2 10 P b.2) after && (firstR q P F (dgf2 10 P b.2) after).all fun m => decide (m ≤ b.2)) && decide ((nextI q P F after begun).length ≤ 2000)
def listI (q P F : Nat) : Nat → List (List Nat × Nat) → List (List Nat × Nat)
  | 0, begun => begun
  | d + 1, begun => listI q P F d (nextI q P F d begun)
def okList (q P F : Nat) : Nat → List (List Nat × Nat) → Bool
  | 0, _ => true
  | d + 1, begun => okNext q P F d begun && okList q P F d (nextI q P F d begun)
def outI (bs : List (List Nat × Nat)) : List (List Nat) := bs.map fun b => b.1 ++ [b.2]
def bndI (q P F d k : Nat) : Bool := (spI q P F (dgf2 10 P k) d).all fun z => decide (0 ≤ z)
def allI (q P F d k : Nat) : List (List Nat) := if bndI q P F d k then outI (listI q P F d [([], k)]) else []
def chkQ (q : Nat) : Bool := (List.range 4).all fun d => (List.range 31).all fun k => decide (allI q (pfT q).1 (pfT q).2 d ((pfT q).1 * k) = (allI q (pfT q).1 (pfT q).2 d k).map (List.map ((pfT q).1 * ·))) && (!bndI q (pfT q).1 (pfT q).2 d k || okList q (pfT q).1 (pfT q).2 d [([], k)]) && (!bndI q (pfT q).1 (pfT q).2 d ((pfT q).1 * k) || okList q (pfT q).1 (pfT q).2 d [([], (pfT q).1 * k)])
theorem chk2 : chkQ 2 = true := by decide +kernel
theorem chk3 : chkQ 3 = true := by decide +kernel
theorem chk4 : chkQ 4 = true := by decide +kernel
theorem chk5 : chkQ 5 = true := by decide +kernel
theorem chk7 : chkQ 7 = true := by decide +kernel
theorem chk8 : chkQ 8 = true := by decide +kernel
theorem chk9 : chkQ 9 = true := by decide +kernel
end Own
/-! own rules: sorted of a list of tuples of ints, all of one length, of any number -/
namespace Own
open PySem PySem.Spec PyProof.Rows L2 Evl
/-- x before y, both of one length -/
def lexI : List Int → List Int → Bool
  | x :: xs, y :: ys => if x = y then lexI xs ys else decide (x < y)
  | _, _ => false
theorem lexI_asym : ∀ xs ys : List Int, xs.length = ys.length → lexI xs ys = true → lexI ys xs = false
  | [], [], _, h => by cases h
  | x :: xs, y :: ys, hl, h => by
    unfold lexI at h ⊢
    by_cases e : x = y
    · rw [if_pos e] at h
      rw [if_pos e.symm]
      exact lexI_asym xs ys (by simpa using hl) h
    · rw [if_neg e, decide_eq_true_eq] at h
      rw [if_neg (Ne.symm e)]
      exact decide_eq_false (by omega)
  | [], _ :: _, hl, _ => by simp at hl
  | _ :: _, [], hl, _ => by simp at hl
theorem lexI_tr : ∀ xs ys zs : List Int, xs.length = ys.length → ys.length = zs.length → lexI xs ys = false → lexI ys zs = false → lexI xs zs = false
  | [], _, _, _, _, _, _ => by unfold lexI; rfl
  | x :: xs, [], _, hl, _, _, _ => by simp at hl
  | x :: xs, y :: ys, [], _, hl, _, _ => by simp at hl
  | x :: xs, y :: ys, z :: zs, h1, h2, h3, h4 => by
    unfold lexI at h3 h4 ⊢
    by_cases e1 : x = y
    · rw [if_pos e1] at h3
      by_cases e2 : y = z
      · rw [if_pos e2] at h4
        rw [if_pos (e1.trans e2)]
        exact lexI_tr xs ys zs (by simpa using h1) (by simpa using h2) h3 h4
      · rw [if_neg e2] at h4
        rw [e1, if_neg e2]
        exact h4
    · rw [if_neg e1, decide_eq_false_iff_not] at h3
      by_cases e2 : y = z
      · rw [if_neg (by rw [← e2]; exact e1)]
        exact decide_eq_false (by omega)
      · rw [if_neg e2, decide_eq_false_iff_not] at h4
        rw [if_neg (by omega)]
        exact decide_eq_false (by omega)
def intOf : Value → Int
  | .int i _ => i
  | _ => 0
theorem intOf_vals : ∀ {xs : List Int} {its : List Value}, Vals (xs.map V.int) its → its.map intOf = xs ∧ IntsAre its xs := fun {xs its} h => by
  refine ⟨?_, h.ints⟩
  induction xs generalizing its with
  | nil => cases h; rfl
  | cons x xs ih =>
    cases h with
    | cons r t =>
      obtain ⟨tk, rfl⟩ := r
      rw [List.map_cons, ih t]
      rfl
def rowOf (h : Heap) : Value → List Int
  | .ref a => match h.get? a with
    | some o => match o.data with
      | .seq its _ => its.toList.map intOf
      | _ => []
    | none => []
  | _ => []
def TupV (h : Heap) (v : Value) (ns : List Int) : Prop := ∃ (a : Addr) (o : Obj) (its : List Value) (n : Nat), v = .ref a ∧ h.get? a = some o ∧ o.cls = .type "tuple" ∧ o.data = .seq its.toArray n ∧ Vals (ns.map V.int) its
theorem TupV.keeps {h h' : Heap} {v : Value} {ns : List Int} (p : TupV h v ns) (k : ∀ b o, h.get? b = some o → o.cls = .type "tuple" → h'.get? b = some o) : TupV h' v ns := by
  obtain ⟨a, o, its, n, e, ho, hc, hd, r⟩ := p
  exact ⟨a, o, its, n, e, k _ _ ho hc, hc, hd, r⟩
theorem TupV.row {h : Heap} {v : Value} {ns : List Int} (p : TupV h v ns) : rowOf h v = ns := by
  obtain ⟨a, o, its, n, e, ho, hc, hd, r⟩ := p
  subst e
  unfold rowOf
  simp only [ho, hd]
  exact (intOf_vals r).1
section
variable {prog : Program} {w : World} {A : Around} {s : Shared} {Q : Bool → Shared → Prop}
theorem kat_ints : ∀ {xs ys : List Int} {us vs : List Value} (i : Nat), Vals (xs.map V.int) us → Vals (ys.map V.int) vs → xs.length = ys.length → Q (lexI xs ys) s → PySem.W.KatLex prog w A true false Q (us.zip vs) i s
  | [], [], us, vs, i, h1, h2, _, h => by
    cases h1
    cases h2
    exact PySem.W.kat_nil h
  | x :: xs, y :: ys, us, vs, i, h1, h2, hl, h => by
    cases h1 with
    | cons r1 t1 =>
      cases h2 with
      | cons r2 t2 =>
        obtain ⟨tk1, rfl⟩ := r1
        obtain ⟨tk2, rfl⟩ := r2
        unfold lexI at h
        refine PySem.W.kat_cons (SeqAt.EqAt.int_int x tk1 y tk2 prog w _ _ ?_)
        refine PySem.W.kat_go (fun e1 => ?_) (fun e1 => ?_)
        · have ex : x = y := by simpa using e1
          rw [if_pos ex] at h
          exact PySem.W.kat_yes (kat_ints (i + 1) t1 t2 (by simpa using hl) h)
        · have ex : ¬ x = y := by simpa using e1
          rw [if_neg ex] at h
          refine PySem.W.kat_no ?_
          by_cases hi : (i == 0) = true
          · rw [hi]
            exact PyProof.Rows.oneLt_int h
          · rw [show (i == 0) = false from by simpa using hi]
            exact PySem.W.kat_one _ _ (PyProof.Rows.lt_int h)
  | [], _ :: _, _, _, _, _, _, hl, _ => by simp at hl
  | _ :: _, [], _, _, _, _, _, hl, _ => by simp at hl
theorem tupv_cmp {vs : List Value} {k : Value → List Int} {n : Nat} (hp : ∀ v ∈ vs, TupV s.heap v (k v) ∧ (k v).length = n) : SrtO.Cmp prog w A s (tuples' true) (fun p => p.1 ∈ vs) (SrtO.lt2 fun v u => lexI (k v) (k u)) := by
  intro p q hm hm'
  obtain ⟨h1, l1⟩ := hp _ hm
  obtain ⟨h2, l2⟩ := hp _ hm'
  show wpAny (model prog w) A (keyLt' (tuples' true) p.1 q.1) (fun r s' => s' = s ∧ r = lexI (k p.1) (k q.1)) (fun _ _ => False) s
  generalize k p.1 = x at h1 l1 ⊢
  generalize k q.1 = y at h2 l2 ⊢
  obtain ⟨a, o, its, m, e, ho, hc, hd, r⟩ := h1
  obtain ⟨a', o', its', m', e', ho', hc', hd', r'⟩ := h2
  rw [e, e']
  refine PySem.W.kat_lt ho hd ho' hd' ?_
  have z1 : its.length = n := by rw [← r.length, List.length_map]; exact l1
  have z2 : its'.length = n := by rw [← r'.length, List.length_map]; exact l2
  have hsz : decide (its.toArray.size < its'.toArray.size) = false := decide_eq_false (by simp; omega)
  rw [hsz]
  have := kat_ints (prog := prog) (w := w) (A := A) (s := s) (Q := fun r s' => s' = s ∧ r = lexI x y) 0 r r' (by omega) ⟨rfl, rfl⟩
  simpa using this
theorem tupv_firsts {h : Heap} {k : Value → List Int} {n : Nat} : ∀ {vs : List Value}, (∀ v ∈ vs, TupV h v (k v) ∧ (k v).length = n + 1) → ∃ fs : List Value, PySem.W.KatTups h vs fs ∧ fs.length = vs.length ∧ ∀ f ∈ fs, ∃ x t, f = Value.int x t
  | [], _ => ⟨[], PySem.W.KatTups.nil, rfl, fun _ hm => by simp at hm⟩
  | v :: vs, hp => by
    obtain ⟨fs, h1, h2, h3⟩ := tupv_firsts (vs := vs) fun v' hm => hp v' (List.mem_cons_of_mem _ hm)
    obtain ⟨⟨a, o, its, m, e, ho, hc, hd, r⟩, hl⟩ := hp v (List.mem_cons_self ..)
    subst e
    cases hk : k (.ref a) with
    | nil => rw [hk] at hl; simp at hl
    | cons x xs =>
      rw [hk] at r
      cases r with
      | @cons _ u _ us r0 t =>
        obtain ⟨tk, rfl⟩ := r0
        refine ⟨.int x tk :: fs, PySem.W.KatTups.cons ho hc hd (by simp) h1, by rw [List.length_cons, List.length_cons, h2], fun f hm => ?_⟩
        rcases List.mem_cons.mp hm with rfl | hm
        · exact ⟨x, tk, rfl⟩
        · exact h3 f hm
theorem tupv_sortable {a : Addr} {vs : List Value} {k : Value → List Int} {n : Nat} (h0 : 0 < vs.length) (hp : ∀ v ∈ vs, TupV s.heap v (k v) ∧ (k v).length = n + 1) (ha : ∀ o, s.heap.get? a = some o → o.cls ≠ .type "tuple") : SrtO.SortableO prog w A s a vs fun v u => lexI (k v) (k u) := by
  intro h' keep
  have hp' : ∀ v ∈ vs, TupV h' v (k v) ∧ (k v).length = n + 1 := fun v hm => ⟨(hp v hm).1.keeps fun b o e c => keep b o (fun z => by subst z; exact ha o e c) e, (hp v hm).2⟩
  obtain ⟨fs, h1, h2, h3⟩ := tupv_firsts hp'
  refine ⟨tuples' true, fun Q E hq => ?_, tupv_cmp (s := { s with heap := h' }) hp'⟩
  refine PySem.W.kat_kind (T := .type "int") h1 (by omega) (fun f hm => ?_) (by rfl) ?_
  · obtain ⟨x, t, rfl⟩ := h3 f hm
    exact PySem.W.Looks.now
  · have e : (Value.type "int" != Value.type "tuple") = true := by first | decide +kernel | rfl | decide
    rw [e]
    exact hq
/-- the order of all values: by rows of length n, others first -/
def keyN (n : Nat) (k : Value → List Int) (v : Value) : List Int := if (k v).length = n then k v else List.replicate n 0
theorem keyN_len (n : Nat) (k : Value → List Int) (v : Value) : (keyN n k v).length = n := by
  unfold keyN
  split
  · assumption
  · exact List.length_replicate ..
theorem swoN (n : Nat) (k : Value → List Int) : SrtO.Swo fun v u => lexI (keyN n k v) (keyN n k u) :=
  ⟨fun x y h => lexI_asym _ _ (by rw [keyN_len, keyN_len]) h, fun x y z h1 h2 => lexI_tr _ _ _ (by rw [keyN_len, keyN_len]) (by rw [keyN_len, keyN_len]) h2 h1⟩
theorem sorted_tupsN {l : Addr} {vs : List Value} {k : Value → List Int} {n : Nat} {E : Value → Shared → Prop} {Q : Value → Shared → Prop} (hl : s.heap.IsList l vs.toArray) (hz : vs.length ≤ sizeLine) (hp : ∀ v ∈ vs, TupV s.heap v (k v) ∧ (k v).length = n + 1)
    (h : ∀ (h' : Heap) (d : Addr) (out : List Value), out.Pairwise (fun v u => lexI (k u) (k v) = false) → out.Perm vs → (∀ b o, s.heap.get? b = some o → h'.get? b = some o) → s.heap.objs.size ≤ d → (∃ n, h'.get? d = some (seqObj "list" out.toArray n)) → Q (.ref d) { s with heap := h' }) :
    wpAny (model prog w) A (call (.builtin "sorted") [.ref l]) Q E s := by
  have hk : ∀ v ∈ vs, keyN (n + 1) k v = k v := fun v hv => by
    unfold keyN
    rw [if_pos (hp v hv).2]
  refine SrtO.sorted_ord (swoN (n + 1) k) hl hz (fun h2 h₁ a ha kk => ?_) fun out hs hb => ?_
  · refine tupv_sortable (s := { s with heap := h₁ }) (k := keyN (n + 1) k) (n := n) (by omega) (fun v hm => ⟨?_, keyN_len ..⟩) fun o e => ?_
    · rw [hk v hm]
      exact (hp v hm).1.keeps fun b o e _ => (kk b o e).2
    · have e' : some o = some (seqObj "list" vs.toArray 0) := e.symm.trans ha
      cases e'
      intro c
      exact absurd (Value.type.inj c) (by decide)
  · refine h _ _ out ?_ hb.perm (fun b o e => sortedAll_old e) (Nat.le_succ _) (sortedAll_at s.heap vs out.toArray)
    refine List.Pairwise.imp_of_mem (fun {x y} hx hy hxy => ?_) hs
    rw [← hk x (hb.perm.mem_iff.mp hx), ← hk y (hb.perm.mem_iff.mp hy)]
    exact hxy
end
/-- tuples of numbers at the addresses rs -/
def TpI (K : PySem.W.Frag) (H : Hp) (rs : List Addr) (xss : List (List Int)) : Prop := rs.length = xss.length ∧ ∀ (i : Nat) (r : Addr) (xs : List Int), rs[i]? = some r → xss[i]? = some xs → SqT K H r (xs.map V.int)
def rSortedTn (K : PySem.W.Frag) : List V → Hp → VK → Prop := fun vs H Q => ∃ (a : Addr) (rs : List Addr) (xss : List (List Int)) (n : Nat), vs = [V.ref a] ∧ SqL K H a (rs.map V.ref) ∧ TpI K H rs xss ∧ (∀ xs ∈ xss, xs.length = n + 1) ∧
  ∀ (ss : List Addr) (yss : List (List Int)) (p : Addr), yss.Perm xss → yss.Pairwise (fun x y => lexI y x = false) → TpI K H ss yss → H p = none → Q (.ref p) (upd H p (.lst (ss.map V.ref)))
def addrOf : Value → Addr
  | .ref a => a
  | _ => 0
section
variable {X : Cx}
theorem cr_sortedTn : CallR X (.builtin "sorted") (rSortedTn X.K) := by
  intro pins s σ H vs us Q I r h
  obtain ⟨a, rs, xss, n, rfl, hs, ⟨hlen, ht⟩, hn, q⟩ := h
  obtain ⟨its, rv, hl, hz⟩ := I.list hs
  obtain ⟨u, rfl, ru⟩ := vals1 r
  obtain rfl : u = Value.ref a := ru
  have hits : its = rs.map Value.ref := by
    have : ∀ (rs : List Addr) (its : List Value), Vals (rs.map V.ref) its → its = rs.map Value.ref := by
      intro rs
      induction rs with
      | nil => intro its h; cases h; rfl
      | cons r rs ih =>
        intro its h
        cases h with
        | cons r0 t =>
          rw [List.map_cons, ← ih _ t]
          congr 1
    exact this _ _ rv
  have key : ∀ (i : Nat) (r : Addr) (xs : List Int), rs[i]? = some r → xss[i]? = some xs → TupV s.heap (.ref r) xs := fun i r xs h1 h2 => by
    obtain ⟨js, rj, ⟨o, ho, hc, m, hd⟩, _⟩ := I.tuple (ht i r xs h1 h2)
    exact ⟨r, o, js, m, rfl, ho, hc, hd, rj⟩
  have at_ : ∀ r ∈ rs, ∃ i xs, rs[i]? = some r ∧ xss[i]? = some xs := fun r hr => by
    obtain ⟨i, hi⟩ := List.mem_iff_getElem?.mp hr
    have hlt : i < xss.length := by rw [← hlen]; exact (List.getElem?_eq_some_iff.mp hi).1
    exact ⟨i, xss[i], hi, List.getElem?_eq_getElem hlt⟩
  have hp : ∀ v ∈ its, TupV s.heap v (rowOf s.heap v) ∧ (rowOf s.heap v).length = n + 1 := fun v hv => by
    rw [hits] at hv
    obtain ⟨r, hr, rfl⟩ := List.mem_map.mp hv
    obtain ⟨i, xs, h1, h2⟩ := at_ r hr
    have h3 := key i r xs h1 h2
    rw [h3.row]
    exact ⟨h3, hn xs (List.mem_of_getElem? h2)⟩
  refine sorted_tupsN hl.isList (by rw [← rv.length]; exact hz) hp fun h' d out h1 h2 kp hd ⟨m, hm⟩ => ?_
  have hout : ∀ v ∈ out, ∃ r ∈ rs, v = .ref r := fun v hv => by
    have := h2.mem_iff.mp hv
    rw [hits] at this
    obtain ⟨r, hr, e⟩ := List.mem_map.mp this
    exact ⟨r, hr, e.symm⟩
  have ho : out = (out.map addrOf).map Value.ref := by
    rw [List.map_map]
    exact ((List.map_congr_left fun v hv => by
      obtain ⟨r, _, rfl⟩ := hout v hv
      rfl).trans (List.map_id out)).symm
  have hrow : its.map (rowOf s.heap) = xss := by
    rw [hits, List.map_map]
    refine List.ext_getElem? fun i => ?_
    rw [List.getElem?_map]
    cases e : rs[i]? with
    | none =>
      have : rs.length ≤ i := List.getElem?_eq_none_iff.mp e
      rw [List.getElem?_eq_none (by omega)]
      rfl
    | some r =>
      have hlt : i < xss.length := by rw [← hlen]; exact (List.getElem?_eq_some_iff.mp e).1
      have h3 := key i r xss[i] e (List.getElem?_eq_getElem hlt)
      rw [List.getElem?_eq_getElem hlt]
      exact congrArg some h3.row
  have hvals : Vals ((out.map addrOf).map V.ref) out := by
    have : ∀ rs : List Addr, Vals (rs.map V.ref) (rs.map Value.ref) := by
      intro rs
      induction rs with
      | nil => exact .nil
      | cons r rs ih => exact .cons rfl ih
    have h3 := this (out.map addrOf)
    rwa [← ho] at h3
  have hnone := I.hok.fresh hd
  refine ⟨.ref d, upd H d (.lst ((out.map addrOf).map V.ref)), I.laid (t' := s.toks) kp hd ⟨?_, out, m, hvals, hm⟩, rfl, q (out.map addrOf) (out.map (rowOf s.heap)) d ?_ ?_ ⟨by rw [List.length_map, List.length_map], fun i r xs e1 e2 => ?_⟩ hnone⟩
  · rw [List.length_map, List.length_map, h2.length_eq, ← rv.length]
    exact hz
  · have := h2.map (rowOf s.heap)
    rwa [hrow] at this
  · exact List.pairwise_map.mpr h1
  · rw [List.getElem?_map] at e1 e2
    obtain ⟨v, hv, rfl⟩ := Option.map_eq_some_iff.mp e1
    rw [hv] at e2
    cases e2
    obtain ⟨r, hr, rfl⟩ := hout v (List.mem_of_getElem? hv)
    obtain ⟨j, xs, h3, h4⟩ := at_ r hr
    rw [(key j r xs h3 h4).row]
    exact ht j r xs h3 h4
end
end Own
/-! unit by unit, as far as something is left that can be done: the law's own search of the least rest; core Lean alone -/
namespace Own
def totN (p f j : Nat) (N : Nat → Nat) : Nat := tsum (fun c => p ^ ((c + j) % f) * N c) f
theorem tot_mono {p f j : Nat} {N M : Nat → Nat} (h : ∀ c, c < f → N c ≤ M c) : totN p f j N ≤ totN p f j M := by
  unfold totN
  have : ∀ n, n ≤ f → tsum (fun c => p ^ ((c + j) % f) * N c) n ≤ tsum (fun c => p ^ ((c + j) % f) * M c) n := by
    intro n
    induction n with
    | zero => intro _; exact Nat.le_refl _
    | succ n ih =>
      intro hn
      have h1 := ih (by omega)
      have h2 := Nat.mul_le_mul_left (p ^ ((n + j) % f)) (h n (by omega))
      show tsum _ n + _ ≤ tsum _ n + _
      exact Nat.add_le_add h1 h2
  exact this f (Nat.le_refl _)
theorem tot_ac {p f : Nat} (hpf : PFq p f) (L : PL) {j : Nat} (hj : j < f) : totN p f j (fun c => ac f c L) = sj p f j L := by
  cases hpf with
  | one h =>
    have : j = 0 := by omega
    subst this
    rw [sj1]
    simp [totN, tsum]
  | four =>
    obtain ⟨a, b⟩ := sj2 2 L
    have : j = 0 ∨ j = 1 := by omega
    rcases this with rfl | rfl
    · rw [a]; simp [totN, tsum]
    · rw [b]; simp [totN, tsum]
  | nine =>
    obtain ⟨a, b⟩ := sj2 3 L
    have : j = 0 ∨ j = 1 := by omega
    rcases this with rfl | rfl
    · rw [a]; simp [totN, tsum]
    · rw [b]; simp [totN, tsum]
  | eight =>
    obtain ⟨a, b, c⟩ := sj3 2 L
    have : j = 0 ∨ j = 1 ∨ j = 2 := by omega
    rcases this with rfl | rfl | rfl
    · rw [a]; simp [totN, tsum]
    · rw [b]; simp [totN, tsum]
    · rw [c]; simp [totN, tsum]
theorem tsum_add (F G : Nat → Nat) : ∀ n, tsum (fun t => F t + G t) n = tsum F n + tsum G n
  | 0 => rfl
  | n + 1 => by
    show tsum _ n + (F n + G n) = (tsum F n + F n) + (tsum G n + G n)
    rw [tsum_add F G n]
    omega
theorem tot_add (p f j : Nat) (N M : Nat → Nat) : totN p f j (fun c => N c + M c) = totN p f j N + totN p f j M := by
  unfold totN
  rw [← tsum_add]
  exact tsum_congr f fun t _ => Nat.mul_add ..
theorem tot_one {p f j i : Nat} (hi : i < f) (x : Nat) : totN p f j (fun c => if c = i then x else 0) = p ^ ((i + j) % f) * x := by
  unfold totN
  have h0 : ∀ n, n ≤ i → tsum (fun c => p ^ ((c + j) % f) * (if c = i then x else 0)) n = 0 := by
    intro n
    induction n with
    | zero => intro _; rfl
    | succ n ih =>
      intro hn
      show tsum _ n + p ^ ((n + j) % f) * (if n = i then x else 0) = 0
      rw [ih (by omega), if_neg (by omega)]
      rfl
  have h1 : ∀ n, i < n → tsum (fun c => p ^ ((c + j) % f) * (if c = i then x else 0)) n = p ^ ((i + j) % f) * x := by
    intro n
    induction n with
    | zero => intro h; omega
    | succ n ih =>
      intro hn
      show tsum _ n + p ^ ((n + j) % f) * (if n = i then x else 0) = _
      by_cases e : n = i
      · subst e
        rw [h0 n (Nat.le_refl _), if_pos rfl, Nat.zero_add]
      · rw [ih (by omega), if_neg e]
        rfl
  exact h1 f hi
theorem wt_i (p f j a : Nat) : p ^ ((a % f + j) % f) = wt p f j a := by
  unfold wt
  rw [Nat.mod_add_mod]
/-- what can be done -/
def canP (p f n : Nat) (hv fr : Nat → Nat) : Prop := ∃ out : Nat → Nat, (∀ c, c < f → out c ≤ fr c ∧ out c < p ^ f - 1) ∧ totN p f 0 (fun c => hv c + fr c - out c) % (p ^ f - 1) = 0 ∧ ∀ j, j < f → (p ^ f - 1) * n ≤ totN p f j fun c => hv c + fr c - out c
theorem can_no {p f n : Nat} {hv fr : Nat → Nat} (h : canP p f n hv fr) : ∀ j, j < f → (p ^ f - 1) * n ≤ totN p f j fun c => hv c + fr c := by
  obtain ⟨out, _, _, h3⟩ := h
  exact fun j hj => Nat.le_trans (h3 j hj) (tot_mono fun c _ => Nat.sub_le _ _)
theorem ac_low {p f t : Nat} : ∀ (L : PL) (sp : List Nat), ac f t (low p f L sp).L ≤ ac f t L
  | [], sp => Nat.le_refl _
  | (c, a) :: L, sp => by
    rw [low]
    split
    · exact Nat.le_refl _
    · have ih := ac_low (p := p) (f := f) (t := t) L (lessN p f (cutN p f c a sp) a sp)
      simp only
      rw [ac_cons]
      split
      · rw [ac_cons]
        split <;> omega
      · omega
theorem sj_app (p f j : Nat) (L M : PL) : sj p f j (L ++ M) = sj p f j L + sj p f j M := by
  unfold sj
  rw [List.map_append, List.sum_append]
theorem ac_app (f t : Nat) (L M : PL) : ac f t (L ++ M) = ac f t L + ac f t M := by
  unfold ac
  rw [List.map_append, List.sum_append]
theorem nl_app (p : Nat) (L M : PL) : nl p (L ++ M) = nl p L + nl p M := by
  unfold nl
  rw [List.map_append, List.sum_append]
/-- kept digits K, digits L that are still to be looked at, spare sums sp -/
structure LR (p f n : Nat) (K L : PL) (sp : List Nat) : Prop where
  vd : Vd p L
  po : ∀ x ∈ L, 0 < x.1
  ln : sp.length = f
  eq : ∀ j, j < f → sp.getD j 0 + (p ^ f - 1) * n = sj p f j K + sj p f j L
  kp : ∀ x ∈ K, ∃ j, j < f ∧ sp.getD j 0 < wt p f j x.2
theorem can_yes {p f n : Nat} (hpf : PFq p f) {K L : PL} {sp : List Nat} (hn : 1 ≤ n) (h : LR p f n K L sp) : canP p f n (fun c => ac f c K) (fun c => ac f c L) := by
  obtain ⟨hp, hf, _⟩ := hpf.p
  have r := low_ok (f := f) hp h.vd h.po h.ln
  have hac : ∀ t, ac f t (low p f L sp).L ≤ ac f t L := fun t => ac_low L sp
  generalize low p f L sp = R at r hac
  have he : ∀ j, j < f → R.sp.getD j 0 + (p ^ f - 1) * n = sj p f j (K ++ R.L) := fun j hj => by
    rw [sj_app]
    have h1 := r.eq j hj
    have h2 := h.eq j hj
    omega
  have hz := low_zero hpf (sp := R.sp) (L := K ++ R.L) (m := n) r.ln hn he (by
    rcases r.st with z | z
    · exact .inl z
    · refine .inr fun x hx => ?_
      rcases List.mem_append.mp hx with hx | hx
      · obtain ⟨j, hj, hlt⟩ := h.kp x hx
        exact ⟨j, hj, Nat.lt_of_le_of_lt (r.le j hj) hlt⟩
      · exact z x hx)
  have hne : R.sp ≠ [] := fun z => by
    have h1 := r.ln
    rw [z] at h1
    have : ([] : List Nat).length = 0 := rfl
    omega
  obtain ⟨j0, hj0, e0⟩ := List.getElem_of_mem (minN_mem R.sp hne)
  have hj0f : j0 < f := by rw [← r.ln]; exact hj0
  have e1 : R.sp.getD j0 0 = 0 := by
    rw [List.getD_eq_getElem?_getD, List.getElem?_eq_getElem hj0, ← hz, ← e0]
    rfl
  have hs0 := he j0 hj0f
  rw [e1, Nat.zero_add, sj_app] at hs0
  have hall : ∀ j, j < f → (p ^ f - 1) * n ≤ sj p f j K + sj p f j R.L := fun j hj => by
    have := he j hj
    rw [sj_app] at this
    omega
  refine ⟨fun c => (ac f c L - ac f c R.L) % (p ^ f - 1), fun c hc => ⟨Nat.le_trans (Nat.mod_le _ _) (Nat.sub_le _ _), Nat.mod_lt _ (by have := q_gt hp hf; omega)⟩, ?_⟩
  have hN : ∀ c, ∃ t, ac f c K + ac f c L - (ac f c L - ac f c R.L) % (p ^ f - 1) = ac f c K + ac f c R.L + (p ^ f - 1) * t := fun c => by
    refine ⟨(ac f c L - ac f c R.L) / (p ^ f - 1), ?_⟩
    have h1 := Nat.mod_add_div (ac f c L - ac f c R.L) (p ^ f - 1)
    have h2 := hac c
    omega
  cases hpf with
  | one h1 =>
    have : j0 = 0 := by omega
    subst this
    rw [sj1, sj1] at hs0
    obtain ⟨t, ht⟩ := hN 0
    simp only [totN, tsum, Nat.zero_add, Nat.pow_zero, Nat.one_mul, Nat.mod_one]
    rw [ht, ← hs0, ← Nat.mul_add, Nat.mul_mod_right]
    refine ⟨rfl, fun j hj => ?_⟩
    exact Nat.mul_le_mul_left _ (Nat.le_add_right _ _)
  | four =>
    obtain ⟨a1, b1⟩ := sj2 2 K
    obtain ⟨a2, b2⟩ := sj2 2 R.L
    obtain ⟨t0, h0⟩ := hN 0
    obtain ⟨t1, h1⟩ := hN 1
    have g0 := hall 0 (by omega)
    have g1 := hall 1 (by omega)
    rw [a1, a2] at g0
    rw [b1, b2] at g1
    have hj : j0 = 0 ∨ j0 = 1 := by omega
    have hd : (ac 2 0 K + ac 2 0 R.L + 2 * (ac 2 1 K + ac 2 1 R.L)) % 3 = 0 := by
      rcases hj with rfl | rfl
      · rw [a1, a2] at hs0; omega
      · rw [b1, b2] at hs0; omega
    refine ⟨?_, fun j hj => ?_⟩
    · simp only [totN, tsum]
      rw [h0, h1]
      simp only [show (2 : Nat) ^ 2 - 1 = 3 from rfl, show (2 : Nat) ^ ((0 + 0) % 2) = 1 from rfl, show (2 : Nat) ^ ((1 + 0) % 2) = 2 from rfl]
      omega
    · have : j = 0 ∨ j = 1 := by omega
      rcases this with rfl | rfl
      · simp only [totN, tsum]
        rw [h0, h1]
        simp only [show (2 : Nat) ^ 2 - 1 = 3 from rfl, show (2 : Nat) ^ ((0 + 0) % 2) = 1 from rfl, show (2 : Nat) ^ ((1 + 0) % 2) = 2 from rfl] at g0 ⊢
        omega
      · simp only [totN, tsum]
        rw [h0, h1]
        simp only [show (2 : Nat) ^ 2 - 1 = 3 from rfl, show (2 : Nat) ^ ((0 + 1) % 2) = 2 from rfl, show (2 : Nat) ^ ((1 + 1) % 2) = 1 from rfl] at g1 ⊢
        omega
  | nine =>
    obtain ⟨a1, b1⟩ := sj2 3 K
    obtain ⟨a2, b2⟩ := sj2 3 R.L
    obtain ⟨t0, h0⟩ := hN 0
    obtain ⟨t1, h1⟩ := hN 1
    have g0 := hall 0 (by omega)
    have g1 := hall 1 (by omega)
    rw [a1, a2] at g0
    rw [b1, b2] at g1
    have hj : j0 = 0 ∨ j0 = 1 := by omega
    have hd : (ac 2 0 K + ac 2 0 R.L + 3 * (ac 2 1 K + ac 2 1 R.L)) % 8 = 0 := by
      rcases hj with rfl | rfl
      · rw [a1, a2] at hs0; omega
      · rw [b1, b2] at hs0; omega
    refine ⟨?_, fun j hj => ?_⟩
    · simp only [totN, tsum]
      rw [h0, h1]
      simp only [show (3 : Nat) ^ 2 - 1 = 8 from rfl, show (3 : Nat) ^ ((0 + 0) % 2) = 1 from rfl, show (3 : Nat) ^ ((1 + 0) % 2) = 3 from rfl]
      omega
    · have : j = 0 ∨ j = 1 := by omega
      rcases this with rfl | rfl
      · simp only [totN, tsum]
        rw [h0, h1]
        simp only [show (3 : Nat) ^ 2 - 1 = 8 from rfl, show (3 : Nat) ^ ((0 + 0) % 2) = 1 from rfl, show (3 : Nat) ^ ((1 + 0) % 2) = 3 from rfl] at g0 ⊢
        omega
      · simp only [totN, tsum]
        rw [h0, h1]
        simp only [show (3 : Nat) ^ 2 - 1 = 8 from rfl, show (3 : Nat) ^ ((0 + 1) % 2) = 3 from rfl, show (3 : Nat) ^ ((1 + 1) % 2) = 1 from rfl] at g1 ⊢
        omega
  | eight =>
    obtain ⟨a1, b1, c1⟩ := sj3 2 K
    obtain ⟨a2, b2, c2⟩ := sj3 2 R.L
    obtain ⟨t0, h0⟩ := hN 0
    obtain ⟨t1, h1⟩ := hN 1
    obtain ⟨t2, h2⟩ := hN 2
    have g0 := hall 0 (by omega)
    have g1 := hall 1 (by omega)
    have g2 := hall 2 (by omega)
    rw [a1, a2] at g0
    rw [b1, b2] at g1
    rw [c1, c2] at g2
    have hj : j0 = 0 ∨ j0 = 1 ∨ j0 = 2 := by omega
    have hd : (ac 3 0 K + ac 3 0 R.L + 2 * (ac 3 1 K + ac 3 1 R.L) + 4 * (ac 3 2 K + ac 3 2 R.L)) % 7 = 0 := by
      rcases hj with rfl | rfl | rfl
      · rw [a1, a2] at hs0; omega
      · rw [b1, b2] at hs0; omega
      · rw [c1, c2] at hs0; omega
    refine ⟨?_, fun j hj => ?_⟩
    · simp only [totN, tsum]
      rw [h0, h1, h2]
      simp only [show (2 : Nat) ^ 3 - 1 = 7 from rfl, show (2 : Nat) ^ ((0 + 0) % 3) = 1 from rfl, show (2 : Nat) ^ ((1 + 0) % 3) = 2 from rfl, show (2 : Nat) ^ ((2 + 0) % 3) = 4 from rfl]
      omega
    · have : j = 0 ∨ j = 1 ∨ j = 2 := by omega
      rcases this with rfl | rfl | rfl
      · simp only [totN, tsum]
        rw [h0, h1, h2]
        simp only [show (2 : Nat) ^ 3 - 1 = 7 from rfl, show (2 : Nat) ^ ((0 + 0) % 3) = 1 from rfl, show (2 : Nat) ^ ((1 + 0) % 3) = 2 from rfl, show (2 : Nat) ^ ((2 + 0) % 3) = 4 from rfl] at g0 ⊢
        omega
      · simp only [totN, tsum]
        rw [h0, h1, h2]
        simp only [show (2 : Nat) ^ 3 - 1 = 7 from rfl, show (2 : Nat) ^ ((0 + 1) % 3) = 2 from rfl, show (2 : Nat) ^ ((1 + 1) % 3) = 4 from rfl, show (2 : Nat) ^ ((2 + 1) % 3) = 1 from rfl] at g1 ⊢
        omega
      · simp only [totN, tsum]
        rw [h0, h1, h2]
        simp only [show (2 : Nat) ^ 3 - 1 = 7 from rfl, show (2 : Nat) ^ ((0 + 2) % 3) = 4 from rfl, show (2 : Nat) ^ ((1 + 2) % 3) = 1 from rfl, show (2 : Nat) ^ ((2 + 2) % 3) = 2 from rfl] at g2 ⊢
        omega
/-- the next digit -/
theorem LR.next {p f n c a : Nat} {K L : PL} {sp : List Nat} (hp : 1 < p) (h : LR p f n K ((c, a) :: L) sp) :
    LR p f n (if cutN p f c a sp < c then K ++ [(c - cutN p f c a sp, a)] else K) L (lessN p f (cutN p f c a sp) a sp) := by
  have hn := cut_le p f c a sp
  have hm : ∀ j, j < f → cutN p f c a sp * wt p f j a ≤ sp.getD j 0 := fun j hj => cut_mul hp hj
  have hlt := fun h => cut_lt (p := p) (f := f) (c := c) (a := a) (sp := sp) hp h
  generalize cutN p f c a sp = n1 at hn hm hlt ⊢
  have hvd := h.vd
  cases hvd with
  | cons hc hL r =>
  refine ⟨r, fun x hx => h.po x (List.mem_cons_of_mem _ hx), less_len .., fun j hj => ?_, fun x hx => ?_⟩
  · have h1 := h.eq j hj
    have h2 := hm j hj
    rw [sj_cons] at h1
    rw [less_get hj]
    split
    · rename_i hlt1
      rw [sj_app]
      have h3 : sj p f j [(c - n1, a)] = (c - n1) * wt p f j a := by
        rw [sj_cons]
        rfl
      have h4 : (c - n1) * wt p f j a + n1 * wt p f j a = c * wt p f j a := by
        rw [← Nat.add_mul]
        congr 1
        omega
      omega
    · have : n1 = c := by omega
      subst this
      omega
  · have old : ∀ x ∈ K, ∃ j, j < f ∧ (lessN p f n1 a sp).getD j 0 < wt p f j x.2 := fun x hx => by
      obtain ⟨j, hj, h1⟩ := h.kp x hx
      refine ⟨j, hj, ?_⟩
      rw [less_get hj]
      omega
    split at hx
    · rename_i hc1
      rcases List.mem_append.mp hx with hx | hx
      · exact old x hx
      · have : x = (c - n1, a) := by simpa using hx
        subst this
        obtain ⟨j, hj, h1⟩ := hlt hc1
        refine ⟨j, hj, ?_⟩
        rw [less_get hj]
        have := hm j hj
        show _ < wt p f j a
        omega
    · exact old x hx
theorem low_nl {p f c a : Nat} {L : PL} {sp : List Nat} (hp : 1 < p) (hl : sp.length = f) (hf : 1 ≤ f) : nl p (low p f ((c, a) :: L) sp).L = (c - cutN p f c a sp) * p ^ a + nl p (low p f L (lessN p f (cutN p f c a sp) a sp)).L := by
  have hn := cut_le p f c a sp
  rw [low]
  by_cases hz : minN sp = 0
  · rw [if_pos hz]
    have hc0 : cutN p f c a sp = 0 := by
      have hne : sp ≠ [] := fun z => by
        rw [z] at hl
        have : ([] : List Nat).length = 0 := rfl
        omega
      obtain ⟨j0, hj0, e0⟩ := List.getElem_of_mem (minN_mem sp hne)
      have e1 : sp.getD j0 0 = 0 := by
        rw [List.getD_eq_getElem?_getD, List.getElem?_eq_getElem hj0, ← hz, ← e0]
        rfl
      have h1 := cut_mul (p := p) (f := f) (c := c) (a := a) (sp := sp) hp (j := j0) (by omega)
      rw [e1] at h1
      have h2 := wt_pos (p := p) (f := f) (j := j0) (a := a) hp
      rcases Nat.eq_zero_or_pos (cutN p f c a sp) with h3 | h3
      · exact h3
      · have := Nat.mul_pos h3 h2
        omega
    rw [hc0]
    have hz2 : minN (lessN p f 0 a sp) = 0 := by
      have : lessN p f 0 a sp = sp := by
        refine List.ext_getElem? fun i => ?_
        unfold lessN
        rw [List.getElem?_map]
        by_cases hi : i < f
        · rw [List.getElem?_range hi, List.getElem?_eq_getElem (by omega)]
          show some (sp.getD i 0 - 0 * _) = _
          rw [Nat.zero_mul, Nat.sub_zero, List.getD_eq_getElem?_getD, List.getElem?_eq_getElem (by omega)]
          rfl
        · rw [List.getElem?_eq_none (by rw [List.length_range]; omega), List.getElem?_eq_none (by omega)]
          rfl
      rw [this, hz]
    have h3 : (low p f L (lessN p f 0 a sp)).L = L := by
      cases L with
      | nil => rfl
      | cons x L =>
        obtain ⟨c', a'⟩ := x
        rw [low, if_pos hz2]
    rw [h3, nl_cons, Nat.sub_zero]
  · rw [if_neg hz]
    simp only
    split
    · rw [nl_cons]
    · have : cutN p f c a sp = c := by omega
      rw [this, Nat.sub_self, Nat.zero_mul, Nat.zero_add]
/-- one unit of a digit is looked at: it can be left out as long as the program leaves it out -/
theorem unit_yes {p f n c a u : Nat} (hpf : PFq p f) {K L : PL} {sp : List Nat} (hn : 1 ≤ n) (h : LR p f n K ((c, a) :: L) sp) (hu : u < cutN p f c a sp) :
    canP p f n (fun t => ac f t K) (fun t => ac f t ((c, a) :: L) - (if t = a % f then u + 1 else 0)) := by
  obtain ⟨hp, hf, _⟩ := hpf.p
  have hc := cut_le p f c a sp
  have hm : ∀ j, j < f → (u + 1) * wt p f j a ≤ sp.getD j 0 := fun j hj => Nat.le_trans (Nat.mul_le_mul_right _ hu) (cut_mul hp hj)
  have hvd := h.vd
  cases hvd with
  | cons hcp hL r =>
  have hbase : LR p f n K (if u + 1 < c then (c - (u + 1), a) :: L else L) (lessN p f (u + 1) a sp) := by
    refine ⟨?_, fun x hx => ?_, less_len .., fun j hj => ?_, fun x hx => ?_⟩
    · split
      · exact .cons (by omega) hL r
      · exact r
    · split at hx
      · rcases List.mem_cons.mp hx with rfl | hx
        · show 0 < c - (u + 1)
          omega
        · exact h.po x (List.mem_cons_of_mem _ hx)
      · exact h.po x (List.mem_cons_of_mem _ hx)
    · have h1 := h.eq j hj
      have h2 := hm j hj
      rw [sj_cons] at h1
      rw [less_get hj]
      split
      · rw [sj_cons]
        have h4 : (c - (u + 1)) * wt p f j a + (u + 1) * wt p f j a = c * wt p f j a := by
          rw [← Nat.add_mul]
          congr 1
          omega
        omega
      · have : u + 1 = c := by omega
        rw [this] at h2 ⊢
        omega
    · obtain ⟨j, hj, h1⟩ := h.kp x hx
      refine ⟨j, hj, ?_⟩
      rw [less_get hj]
      omega
  have := can_yes hpf hn hbase
  have e : (fun t => ac f t (if u + 1 < c then (c - (u + 1), a) :: L else L)) = (fun t => ac f t ((c, a) :: L) - (if t = a % f then u + 1 else 0)) := funext fun t => by
    rw [ac_cons]
    split
    · rw [ac_cons]
      by_cases ht : a % f = t
      · rw [if_pos ht, if_pos ht, if_pos ht.symm]
        omega
      · rw [if_neg ht, if_neg ht, if_neg (Ne.symm ht)]
        omega
    · have : u + 1 = c := by omega
      by_cases ht : a % f = t
      · rw [if_pos ht, if_pos ht.symm]
        omega
      · rw [if_neg ht, if_neg (Ne.symm ht)]
        omega
  rw [e] at this
  exact this
theorem unit_no {p f n c a u : Nat} (hpf : PFq p f) {K L : PL} {sp : List Nat} (h : LR p f n K ((c, a) :: L) sp) (h1 : cutN p f c a sp ≤ u) (h2 : u < c) :
    ¬ canP p f n (fun t => ac f t K + (if t = a % f then u - cutN p f c a sp else 0)) (fun t => ac f t ((c, a) :: L) - (if t = a % f then u + 1 else 0)) := by
  obtain ⟨hp, hf, _⟩ := hpf.p
  intro hcan
  obtain ⟨j, hj, hlt⟩ := cut_lt (p := p) (f := f) (c := c) (a := a) (sp := sp) hp (by omega)
  have h3 := can_no hcan j hj
  have h4 := h.eq j hj
  have hi : a % f < f := Nat.mod_lt _ (by omega)
  have e : totN p f j (fun t => ac f t K + (if t = a % f then u - cutN p f c a sp else 0) + (ac f t ((c, a) :: L) - (if t = a % f then u + 1 else 0))) + totN p f j (fun t => if t = a % f then cutN p f c a sp + 1 else 0) = totN p f j (fun t => ac f t K) + totN p f j (fun t => ac f t ((c, a) :: L)) := by
    rw [← tot_add, ← tot_add]
    congr 1
    funext t
    have : t = a % f → u + 1 ≤ ac f t ((c, a) :: L) := fun e => by
      rw [ac_cons, if_pos e.symm]
      omega
    by_cases ht : t = a % f
    · have := this ht
      simp only [if_pos ht]
      omega
    · simp only [if_neg ht]
      omega
  rw [tot_one hi, tot_ac hpf _ hj, tot_ac hpf _ hj, wt_i] at e
  rw [Nat.mul_add, Nat.mul_one, Nat.mul_comm] at e
  omega
/-- digits at places are told by their number -/
theorem vd_uniq {p : Nat} (hp : 1 < p) : ∀ {L M : PL}, Vd p L → Vd p M → (∀ x ∈ L, 0 < x.1) → (∀ x ∈ M, 0 < x.1) → nl p L = nl p M → L = M
  | [], [], _, _, _, _, _ => rfl
  | [], (d, b) :: M, _, _, _, pm, h => by
    rw [nl_cons] at h
    have h1 := pm _ (List.mem_cons_self ..)
    have := Nat.mul_pos (show 0 < d from h1) (Nat.pow_pos (n := b) (show 0 < p by omega))
    have h0 : nl p [] = 0 := rfl
    omega
  | (c, a) :: L, [], _, _, pl, _, h => by
    rw [nl_cons] at h
    have h1 := pl _ (List.mem_cons_self ..)
    have := Nat.mul_pos (show 0 < c from h1) (Nat.pow_pos (n := a) (show 0 < p by omega))
    have h0 : nl p [] = 0 := rfl
    omega
  | (c, a) :: L, (d, b) :: M, vl, vm, pl, pm, h => by
    have hl1 := nl_lt hp vl (a + 1) (fun x hx => by
      cases vl with
      | cons _ hL _ =>
        rcases List.mem_cons.mp hx with rfl | hx
        · exact Nat.lt_succ_self _
        · have := hL x hx; omega)
    have hm1 := nl_lt hp vm (b + 1) (fun x hx => by
      cases vm with
      | cons _ hL _ =>
        rcases List.mem_cons.mp hx with rfl | hx
        · exact Nat.lt_succ_self _
        · have := hL x hx; omega)
    cases vl with
    | cons hc hL rl =>
    cases vm with
    | cons hd hM rm =>
    have hc0 : 0 < c := pl _ (List.mem_cons_self ..)
    have hd0 : 0 < d := pm _ (List.mem_cons_self ..)
    have ll := nl_lt hp rl a hL
    have lm := nl_lt hp rm b hM
    have hca : p ^ a ≤ c * p ^ a := Nat.le_mul_of_pos_left _ hc0
    have hdb : p ^ b ≤ d * p ^ b := Nat.le_mul_of_pos_left _ hd0
    have hab : a = b := by
      rw [nl_cons] at hl1 hm1
      rw [nl_cons, nl_cons] at h
      rcases Nat.lt_trichotomy a b with z | z | z
      · have := Nat.pow_le_pow_right (show 0 < p by omega) (show a + 1 ≤ b from z)
        omega
      · exact z
      · have := Nat.pow_le_pow_right (show 0 < p by omega) (show b + 1 ≤ a from z)
        omega
    subst hab
    rw [nl_cons, nl_cons] at h
    have hcd : c = d := by
      have h1 : (c * p ^ a + nl p L) / p ^ a = c := by
        rw [Nat.add_comm, Nat.add_mul_div_right _ _ (Nat.pow_pos (by omega)), Nat.div_eq_of_lt ll, Nat.zero_add]
      have h2 : (d * p ^ a + nl p M) / p ^ a = d := by
        rw [Nat.add_comm, Nat.add_mul_div_right _ _ (Nat.pow_pos (by omega)), Nat.div_eq_of_lt lm, Nat.zero_add]
      rw [← h1, ← h2, h]
    subst hcd
    rw [vd_uniq hp rl rm (fun x hx => pl x (List.mem_cons_of_mem _ hx)) (fun x hx => pm x (List.mem_cons_of_mem _ hx)) (by omega)]
end Own
/-! own rules: comprehensions whose items are new objects; extend by such a one -/
namespace Own
open PySem PySem.Spec PyProof.Rows L2 Evl
/-- what is told of an item stays, also where a list is written -/
structure Kp (P : Nat → Addr → Hp → Prop) : Prop where
  ex : ∀ i r H H', P i r H → Ex H H' → P i r H'
  put : ∀ i r H H' p ys, H p = some (.lst ys) → Exd p H H' → P i r H → P i r H'
def Cwr (H : Hp) (P : Nat → Addr → Hp → Prop) (Dl : Addr) (i : Nat) (H' : Hp) : Prop := H Dl = none ∧ Ex H H' ∧ ∃ rs : List Addr, rs.length = i ∧ H' Dl = some (.lst (rs.map V.ref)) ∧ ∀ (j : Nat) (r : Addr), rs[j]? = some r → P j r H'
def EvLR (te : TE) (σ : L2.St) (H : Hp) (n : Nat) (P : Nat → Addr → Hp → Prop) : Prop := ∀ H1, Ex H H1 → ∀ Q : VK, (∀ (p : Addr) (rs : List Addr) H2, H1 p = none → Ex H1 H2 → H2 p = some (.lst (rs.map V.ref)) → rs.length = n → (∀ (j : Nat) (r : Addr), rs[j]? = some r → P j r H2) → Q (.ref p) H2) → te σ H1 Q
/-- the item is a new object -/
def EvR (te : TE) (σ : L2.St) (H : Hp) (P : Addr → Hp → Prop) : Prop := ∀ H1, Ex H H1 → ∀ Q : VK, (∀ r H2, Ex H1 H2 → P r H2 → Q (.ref r) H2) → te σ H1 Q
section
variable {K : PySem.W.Frag} {σ : L2.St} {H H' : Hp} {t : TT} {te ta tb tl : TE} {x y v : V} {D : Ends} {tu tz : TS} {P : Nat → Addr → Hp → Prop}
theorem cwr_turn {Dl : Addr} {i : Nat} {σ2 : L2.St} (kp : Kp P) (p : Cwr H P Dl i H') (hi : i < 50000) (he : EvR te σ2 H (P i)) :
    tYes σ2 H' fun b H3 => if b = true then te σ2 H3 fun y H4 => ∃ acc, H4 Dl = some (.lst acc) ∧ acc.length < sizeLine ∧ Cwr H P Dl (i + 1) (upd H4 Dl (.lst (acc ++ [y]))) else Cwr H P Dl (i + 1) H3 := by
  obtain ⟨p1, p2, rs, p3, p4, p5⟩ := p
  show (if true = true then te σ2 H' (fun y H4 => ∃ acc, H4 Dl = some (.lst acc) ∧ acc.length < sizeLine ∧ Cwr H P Dl (i + 1) (upd H4 Dl (.lst (acc ++ [y])))) else Cwr H P Dl (i + 1) H')
  rw [if_pos rfl]
  refine he H' p2 _ fun r H4 e4 q => ?_
  have hD := e4 _ _ p4
  have x5 : Exd Dl H4 (upd H4 Dl (.lst (rs.map V.ref ++ [.ref r]))) := Exd.put
  refine ⟨rs.map V.ref, hD, by rw [List.length_map, p3]; exact Nat.lt_of_lt_of_le (show i < 50001 by omega) (by decide), p1, (p2.trans e4).mut p1, rs ++ [r], by rw [List.length_append, p3]; rfl, by rw [upd_same, List.map_append]; rfl, fun j r' e6 => ?_⟩
  by_cases hj : j < rs.length
  · rw [List.getElem?_append_left hj] at e6
    exact kp.put _ _ _ _ _ _ hD x5 (kp.ex _ _ _ _ (p5 j r' e6) e4)
  · rw [List.getElem?_append_right (by omega)] at e6
    have hj2 : j - rs.length = 0 := by
      have := (List.getElem?_eq_some_iff.mp e6).1
      rw [List.length_singleton] at this
      omega
    rw [hj2] at e6
    cases e6
    have hji : j = i := by omega
    rw [hji]
    exact kp.put _ _ _ _ _ _ hD x5 q
theorem lr_lcR1 {ta : TA} {j : Nat} {vs : List Nat} {n : Nat} (kp : Kp P) (h : EvA ta σ H [.int (n : Int)]) (hn : n ≤ 40000) (hw : ∀ x, wipe ((wipe σ vs).set j (some x)) vs = wipe σ vs)
    (he : ∀ (i : Nat) H1, Ex H H1 → i < n → EvR te ((wipe σ vs).set j (some (.int (i : Int)))) H1 (P i)) : EvLR (tLc (iRng1 ta) (gName j) tYes te vs) σ H n P := fun H0 e Q q => h H0 e _ fun H1 e1 => ⟨(n : Int), rfl, by omega, by omega, fun Dl hD => by
  rw [Int.toNat_natCast]
  exact lc_range (lo := 0) (n := n) (Cwr H1 P Dl) ⟨hD, Ex.new hD, [], rfl, upd_same, fun j r e => by simp at e⟩ (fun i H' hi p => by
    have e0 : (0 : Int) + (i : Int) = (i : Int) := Int.zero_add _
    show wipe ((wipe σ vs).set j (some (.int ((0 : Int) + (i : Int))))) vs = wipe σ vs ∧ tYes ((wipe σ vs).set j (some (.int ((0 : Int) + (i : Int))))) H' fun b H3 => if b = true then te ((wipe σ vs).set j (some (.int ((0 : Int) + (i : Int))))) H3 fun y H4 => ∃ acc, H4 Dl = some (.lst acc) ∧ acc.length < sizeLine ∧ Cwr H1 P Dl (i + 1) (upd H4 Dl (.lst (acc ++ [y]))) else Cwr H1 P Dl (i + 1) H3
    rw [e0]
    exact ⟨hw _, cwr_turn kp p (by omega) (he i H1 (e.trans e1) hi)⟩) (fun H' p => by
      obtain ⟨p1, p2, rs, p3, p4, p5⟩ := p
      exact q Dl rs H' (fresh_back e1 p1) (e1.trans p2) p4 p3 p5)⟩
theorem lr_lcL {a : Addr} {xs : List V} {j : Nat} {vs : List Nat} (kp : Kp P) (h : Ev tl σ H (.ref a)) (hx : SqL K H a xs) (hz : xs.length ≤ 40000) (hw : ∀ x, wipe ((wipe σ vs).set j (some x)) vs = wipe σ vs)
    (he : ∀ (i : Nat) (x : V) H1, Ex H H1 → xs[i]? = some x → EvR te ((wipe σ vs).set j (some x)) H1 (P i)) : EvLR (tLc (iList K tl) (gName j) tYes te vs) σ H xs.length P := fun H0 e Q q => h H0 e _ fun H1 e1 => ⟨a, rfl, ⟨xs, ex_l (e.trans e1) hx⟩, fun Dl hD =>
  lc_list (xs := xs) (Cwr H1 P Dl) ⟨hD, Ex.new hD, [], rfl, upd_same, fun j r e => by simp at e⟩ (fun i H' _ p => ex_l ((e.trans e1).trans p.2.1) hx) (fun i x H' hi p => ⟨hw x, cwr_turn kp p (by have := (List.getElem?_eq_some_iff.mp hi).1; omega) (he i x H1 (e.trans e1) hi)⟩)
    (fun H' p => by
      obtain ⟨p1, p2, rs, p3, p4, p5⟩ := p
      exact q Dl rs H' (fresh_back e1 p1) (e1.trans p2) p4 p3 p5)⟩
theorem s_extR {l : Addr} {xs : List V} {n : Nat} (hl : H l = some (.lst xs)) (ha : Ev ta σ H (.ref l)) (h : EvLR te σ H n P) (hz : xs.length + n ≤ 100000) (k : ∀ (rs : List Addr) H1, Ex H H1 → rs.length = n → (∀ (j : Nat) (r : Addr), rs[j]? = some r → P j r H1) → D.nx σ (upd H1 l (.lst (xs ++ rs.map V.ref)))) : tDrop (tBM K "list" rExtend ta (tCons te tNil)) D σ H := ha H (Ex.refl H) _ fun H1 e1 =>
  ⟨Or.inl ⟨rfl, xs, sq_of (e1 l _ hl)⟩, h H1 e1 _ fun p rs H2 hp e2 h2 hn hP => ⟨l, p, xs, rs.map V.ref, rfl, rfl, e2 l _ (e1 l _ hl), h2, sz_of (by rw [List.length_map]; omega), k rs H2 (e1.trans e2) hn hP⟩⟩
theorem s_asgLR {i : Nat} {n : Nat} (h : EvLR te σ H n P) (k : ∀ (p : Addr) (rs : List Addr) H1, H p = none → Ex H H1 → H1 p = some (.lst (rs.map V.ref)) → rs.length = n → (∀ (j : Nat) (r : Addr), rs[j]? = some r → P j r H1) → D.nx (σ.set i (some (.ref p))) H1) : tAsg te (gName i) D σ H := h H (Ex.refl H) _ fun p rs H1 np e1 h1 hn hP => k p rs H1 np e1 h1 hn hP
end
/-- rows of numbers -/
def PRow (K : PySem.W.Frag) (f : Nat → List Nat) (i : Nat) (r : Addr) (H : Hp) : Prop := SqT K H r ((f i).map N_)
theorem sqt_put {K : PySem.W.Frag} {H H' : Hp} {p m : Addr} {ys xs : List V} (hp : H p = some (.lst ys)) (e : Exd p H H') (h : SqT K H m xs) : SqT K H' m xs := by
  rcases h with (h | ⟨o, h⟩) | h
  · exact .inl (.inl (e m _ (fun z => by rw [z, hp] at h; cases h) h))
  · exact .inl (.inr ⟨o, e m _ (fun z => by rw [z, hp] at h; cases h) h⟩)
  · exact .inr h
theorem kp_row (K : PySem.W.Frag) (f : Nat → List Nat) : Kp (PRow K f) := ⟨fun i r H H' h e => ex_t e h, fun i r H H' p ys hp e h => sqt_put hp e h⟩
/-- pairs of a row and a number -/
def PPair (K : PySem.W.Frag) (f : Nat → List Nat × Nat) (i : Nat) (r : Addr) (H : Hp) : Prop := ∃ m, H r = some (.tup [.ref m, N_ (f i).2]) ∧ SqT K H m ((f i).1.map N_)
theorem kp_pair (K : PySem.W.Frag) (f : Nat → List Nat × Nat) : Kp (PPair K f) := ⟨fun i r H H' ⟨m, h1, h2⟩ e => ⟨m, e _ _ h1, ex_t e h2⟩, fun i r H H' p ys hp e ⟨m, h1, h2⟩ => ⟨m, e _ _ (fun z => by rw [z, hp] at h1; cases h1) h1, sqt_put hp e h2⟩⟩
/-- tuples of natural numbers that stand in the heap -/
def Tps (K : PySem.W.Frag) (H : Hp) (rs : List Addr) (xss : List (List Nat)) : Prop := rs.length = xss.length ∧ ∀ (i : Nat) (r : Addr) (xs : List Nat), rs[i]? = some r → xss[i]? = some xs → SqT K H r (xs.map N_)
theorem Tps.ex {K : PySem.W.Frag} {H H' : Hp} {rs : List Addr} {xss : List (List Nat)} (h : Tps K H rs xss) (e : Ex H H') : Tps K H' rs xss := ⟨h.1, fun i r xs e1 e2 => ex_t e (h.2 i r xs e1 e2)⟩
theorem Tps.put {K : PySem.W.Frag} {H H' : Hp} {rs : List Addr} {xss : List (List Nat)} {p : Addr} {ys : List V} (h : Tps K H rs xss) (hp : H p = some (.lst ys)) (e : Exd p H H') : Tps K H' rs xss := ⟨h.1, fun i r xs e1 e2 => sqt_put hp e (h.2 i r xs e1 e2)⟩
/-- the pairs that stand in the heap -/
def Prs (K : PySem.W.Frag) (H : Hp) (ts : List Addr) (bs : List (List Nat × Nat)) : Prop := ts.length = bs.length ∧ ∀ (i : Nat) (t : Addr) (x : List Nat × Nat), ts[i]? = some t → bs[i]? = some x → ∃ m, H t = some (.tup [.ref m, N_ x.2]) ∧ SqT K H m (x.1.map N_)
theorem Prs.nil (K : PySem.W.Frag) (H : Hp) : Prs K H [] [] := ⟨rfl, fun i t x h => by simp at h⟩
theorem Prs.ex {K : PySem.W.Frag} {H H' : Hp} {ts : List Addr} {bs : List (List Nat × Nat)} (h : Prs K H ts bs) (e : Ex H H') : Prs K H' ts bs := ⟨h.1, fun i t x e1 e2 => by
  obtain ⟨m, h1, h2⟩ := h.2 i t x e1 e2
  exact ⟨m, e _ _ h1, ex_t e h2⟩⟩
theorem Prs.put {K : PySem.W.Frag} {H H' : Hp} {ts : List Addr} {bs : List (List Nat × Nat)} {p : Addr} {ys : List V} (h : Prs K H ts bs) (hp : H p = some (.lst ys)) (e : Exd p H H') : Prs K H' ts bs := ⟨h.1, fun i t x e1 e2 => by
  obtain ⟨m, h1, h2⟩ := h.2 i t x e1 e2
  exact ⟨m, e _ _ (fun z => by rw [z, hp] at h1; cases h1) h1, sqt_put hp e h2⟩⟩
theorem Prs.app {K : PySem.W.Frag} {H : Hp} {ts us : List Addr} {bs cs : List (List Nat × Nat)} (h : Prs K H ts bs) (k : Prs K H us cs) : Prs K H (ts ++ us) (bs ++ cs) := by
  refine ⟨by rw [List.length_append, List.length_append, h.1, k.1], fun i t x e1 e2 => ?_⟩
  by_cases hi : i < ts.length
  · rw [List.getElem?_append_left hi] at e1
    rw [List.getElem?_append_left (by rw [← h.1]; exact hi)] at e2
    exact h.2 i t x e1 e2
  · rw [List.getElem?_append_right (by omega)] at e1
    rw [List.getElem?_append_right (by rw [← h.1]; omega), ← h.1] at e2
    exact k.2 _ t x e1 e2
theorem Tps.nil (K : PySem.W.Frag) (H : Hp) : Tps K H [] [] := ⟨rfl, fun i t x h => by simp at h⟩
theorem Tps.app {K : PySem.W.Frag} {H : Hp} {ts us : List Addr} {bs cs : List (List Nat)} (h : Tps K H ts bs) (k : Tps K H us cs) : Tps K H (ts ++ us) (bs ++ cs) := by
  refine ⟨by rw [List.length_append, List.length_append, h.1, k.1], fun i t x e1 e2 => ?_⟩
  by_cases hi : i < ts.length
  · rw [List.getElem?_append_left hi] at e1
    rw [List.getElem?_append_left (by rw [← h.1]; exact hi)] at e2
    exact h.2 i t x e1 e2
  · rw [List.getElem?_append_right (by omega)] at e1
    rw [List.getElem?_append_right (by rw [← h.1]; omega), ← h.1] at e2
    exact k.2 _ t x e1 e2
theorem prs_of {K : PySem.W.Frag} {H : Hp} {rs : List Addr} {bs : List (List Nat × Nat)} (hl : rs.length = bs.length) (h : ∀ (j : Nat) (r : Addr), rs[j]? = some r → PPair K (fun i => bs.getD i ([], 0)) j r H) : Prs K H rs bs := ⟨hl, fun i t x e1 e2 => by
  have this : ∃ m, H t = some (.tup [.ref m, N_ (bs.getD i ([], 0)).2]) ∧ SqT K H m ((bs.getD i ([], 0)).1.map N_) := h i t e1
  rw [List.getD_eq_getElem?_getD, e2] at this
  exact this⟩
theorem tps_of {K : PySem.W.Frag} {H : Hp} {rs : List Addr} {bs : List (List Nat)} (hl : rs.length = bs.length) (h : ∀ (j : Nat) (r : Addr), rs[j]? = some r → PRow K (fun i => bs.getD i []) j r H) : Tps K H rs bs := ⟨hl, fun i t x e1 e2 => by
  have this : SqT K H t ((bs.getD i []).map N_) := h i t e1
  rw [List.getD_eq_getElem?_getD, e2] at this
  exact this⟩
section
variable {K : PySem.W.Frag} {σ : L2.St} {H H' : Hp} {t : TT} {te ta tb tc tl : TE} {P : Nat → Addr → Hp → Prop}
/-- over pairs -/
theorem lr_lcP {a : Addr} {ts : List Addr} {bs : List (List Nat × Nat)} {i1 i2 : Nat} {vs : List Nat} (kp : Kp P) (h : Ev tl σ H (.ref a)) (hx : SqL K H a (ts.map V.ref)) (hb : Prs K H ts bs) (hz : ts.length ≤ 40000) (hw : ∀ x y, wipe (((wipe σ vs).set i1 (some x)).set i2 (some y)) vs = wipe σ vs)
    (he : ∀ (i : Nat) (b : List Nat × Nat) (m : Addr) H1, Ex H H1 → bs[i]? = some b → SqT K H1 m (b.1.map N_) → EvR te (((wipe σ vs).set i1 (some (.ref m))).set i2 (some (N_ b.2))) H1 (P i)) : EvLR (tLc (iList K tl) (gTup K 2 (gCons (gName i1) (gCons (gName i2) gNil))) tYes te vs) σ H ts.length P := fun H0 e Q q => h H0 e _ fun H1 e1 => ⟨a, rfl, ⟨ts.map V.ref, ex_l (e.trans e1) hx⟩, fun Dl hD =>
  lc_list (xs := ts.map V.ref) (Cwr H1 P Dl) ⟨hD, Ex.new hD, [], rfl, upd_same, fun j r e => by simp at e⟩ (fun i H' _ p => ex_l ((e.trans e1).trans p.2.1) hx) (fun i x H' hi p => by
    rw [List.getElem?_map] at hi
    obtain ⟨t, ht, rfl⟩ := Option.map_eq_some_iff.mp hi
    have hil : i < ts.length := (List.getElem?_eq_some_iff.mp ht).1
    have hjl : i < bs.length := by rw [← hb.1]; exact hil
    have hxi : bs[i]? = some bs[i] := List.getElem?_eq_getElem hjl
    generalize bs[i] = b at hxi
    obtain ⟨m, g1, g2⟩ := hb.2 i t b ht hxi
    have e0 := (e.trans e1).trans p.2.1
    exact ⟨t, [.ref m, N_ b.2], rfl, st_of (e0 _ _ g1), rfl, .ref m, [N_ b.2], rfl, N_ b.2, [], rfl, rfl, hw _ _, cwr_turn kp p (by omega) (he i b m H1 (e.trans e1) hxi (ex_t (e.trans e1) g2))⟩)
    (fun H' p => by
      obtain ⟨p1, p2, rs, p3, p4, p5⟩ := p
      rw [List.length_map] at p3
      exact q Dl rs H' (fresh_back e1 p1) (e1.trans p2) p4 p3 p5)⟩
/-- t + (x,) -/
theorem er_snoc {m : Addr} {ms : List Nat} {n : Nat} {P : Addr → Hp → Prop} (h1 : Ev ta σ H (.ref m)) (hm : SqT K H m (ms.map N_)) (hl : ms.length ≤ 300) (h2 : Ev tb σ H (N_ n)) (hP : ∀ r H1, SqT K H1 r ((ms ++ [n]).map N_) → P r H1) : EvR (tOp (rCatA K) ta (tTup (tCons tb tNil))) σ H P := fun H1 e Q q =>
  h1 H1 e _ fun H2 e2 => h2 H2 (e.trans e2) _ fun H3 e3 => ⟨by show 1 ≤ sizeLine; decide, fun t1 n1 => catA_go (K := K) (xs := ms.map N_) (ys := [N_ n]) (ex_t ((e.trans e2).trans (e3.trans (Ex.new n1))) hm) (st_of upd_same) (by rw [List.length_map]; show _ + 1 ≤ _; omega) fun a H4 e4 sa => q a H4 ((e2.trans e3).trans ((Ex.new n1).trans e4)) (hP a H4 (by rw [List.map_append]; exact sa))⟩
/-- (t + (x,), z) -/
theorem er_pair {m : Addr} {ms : List Nat} {n z : Nat} {P : Addr → Hp → Prop} (h1 : Ev ta σ H (.ref m)) (hm : SqT K H m (ms.map N_)) (hl : ms.length ≤ 300) (h2 : Ev tb σ H (N_ n)) (h3 : Ev tc σ H (N_ z)) (hP : ∀ r H1, (∃ m, H1 r = some (.tup [.ref m, N_ z]) ∧ SqT K H1 m ((ms ++ [n]).map N_)) → P r H1) : EvR (tTup (tCons (tOp (rCatA K) ta (tTup (tCons tb tNil))) (tCons tc tNil))) σ H P := fun H1 e Q q =>
  h1 H1 e _ fun H2 e2 => h2 H2 (e.trans e2) _ fun H3 e3 => ⟨by show 1 ≤ sizeLine; decide, fun t1 n1 => catA_go (K := K) (xs := ms.map N_) (ys := [N_ n]) (ex_t ((e.trans e2).trans (e3.trans (Ex.new n1))) hm) (st_of upd_same) (by rw [List.length_map]; show _ + 1 ≤ _; omega) fun a H4 e4 sa => h3 H4 (((e.trans e2).trans (e3.trans (Ex.new n1))).trans e4) _ fun H5 e5 => ⟨by show 2 ≤ sizeLine; decide, fun t2 n2 => q t2 _ ((((e2.trans e3).trans (Ex.new n1)).trans (e4.trans e5)).trans (Ex.new n2)) (hP t2 _ ⟨a, upd_same, ex_t (e5.trans (Ex.new n2)) (by rw [List.map_append]; exact sa)⟩)⟩⟩
/-- sorted of new rows -/
theorem er_revT {m : Addr} {ms : List Nat} {P : Addr → Hp → Prop} (h1 : Ev ta σ H (.ref m)) (hm : SqT K H m (ms.map N_)) (hP : ∀ r H1, SqT K H1 r (ms.reverse.map N_) → P r H1) : EvR (tRevT K ta) σ H P := fun H1 e Q q => (eu_is (eu_revT (K := K) h1 hm) (List.map_reverse).symm) H1 e _ fun p H2 np e2 h2 => q p H2 e2 (hP p H2 (st_of h2))
end
/-- the order of rows of numbers -/
def lexN (x y : List Nat) : Bool := lexI (x.map Int.ofNat) (y.map Int.ofNat)
def RetSorted (K : PySem.W.Frag) (xss : List (List Nat)) (H : Hp) (Q : VK) : Prop := ∀ (p : Addr) (rs : List Addr) (yss : List (List Nat)) (H' : Hp), H p = none → Ex H H' → yss.Perm xss → yss.Pairwise (fun x y => lexN y x = false) → H' p = some (.lst (rs.map V.ref)) → Tps K H' rs yss → Q (.ref p) H'
theorem perm_nat {xss : List (List Nat)} {yss : List (List Int)} (h : yss.Perm (xss.map (·.map Int.ofNat))) : ∃ zss : List (List Nat), yss = zss.map (·.map Int.ofNat) ∧ zss.Perm xss := by
  have hback : ∀ xs : List Nat, (xs.map Int.ofNat).map Int.toNat = xs := fun xs => by
    rw [List.map_map]
    exact (List.map_congr_left fun x _ => rfl).trans (List.map_id xs)
  refine ⟨yss.map (·.map Int.toNat), ?_, ?_⟩
  · rw [List.map_map]
    refine ((List.map_congr_left fun y hy => ?_).trans (List.map_id yss)).symm
    have := h.mem_iff.mp hy
    obtain ⟨x, _, rfl⟩ := List.mem_map.mp this
    show ((x.map Int.ofNat).map Int.toNat).map Int.ofNat = _
    rw [hback]
    rfl
  · have := h.map (·.map Int.toNat)
    rw [List.map_map] at this
    refine this.trans (List.Perm.of_eq ?_)
    exact (List.map_congr_left fun x _ => hback x).trans (List.map_id xss)
section
variable {K : PySem.W.Frag} {σ : L2.St} {H : Hp} {te : TE}
theorem sorted_go {n m : Nat} {xss : List (List Nat)} (h : EvLR te σ H m (PRow K (fun i => xss.getD i []))) (hm : m = xss.length) (hn : ∀ xs ∈ xss, xs.length = n + 1) {H0 : Hp} (e0 : Ex H H0) {Q : VK} (q : RetSorted K xss H0 Q) : tCB (rSortedTn K) (tCons te tNil) σ H0 Q := h H0 e0 _ fun p rs H1 np e1 h1 hl hP => by
  have ht := tps_of (K := K) (by rw [hl, hm]) hP
  refine ⟨p, rs, xss.map (·.map Int.ofNat), n, rfl, sq_of h1, ⟨by rw [List.length_map]; exact ht.1, fun i r xs a b => ?_⟩, fun xs hx => ?_, fun ss yss p2 hperm hpw htp np2 => ?_⟩
  · rw [List.getElem?_map] at b
    obtain ⟨x, hx, rfl⟩ := Option.map_eq_some_iff.mp b
    have := ht.2 i r x a hx
    rw [List.map_map]
    exact this
  · obtain ⟨x, hx2, rfl⟩ := List.mem_map.mp hx
    rw [List.length_map]
    exact hn x hx2
  · obtain ⟨zss, rfl, hz⟩ := perm_nat hperm
    refine q p2 ss zss _ (fresh_back e1 np2) (e1.trans (Ex.new np2)) hz (List.pairwise_map.mp hpw) upd_same ⟨by rw [htp.1, List.length_map], fun i r xs a b => ?_⟩
    have := htp.2 i r (xs.map Int.ofNat) a (by rw [List.getElem?_map, b]; rfl)
    rw [List.map_map] at this
    exact ex_t (Ex.new np2) this
end
end Own
/-! own rules: enumerate of a tuple -/
namespace Own
open PySem PySem.Spec PyProof.Rows L2 Evl
open AutoSeq1 (wpAny_loadPart')
theorem en_newT (l : Addr) (items : Array Value) (n : Nat) (dct : Option Addr) (sl : Array (Option Value)) :
    Meets (Builtin.«enumerate.__new__» ⟨[.type "enumerate", .ref l], []⟩) (fun _ R s => s.heap.get? l = some { cls := .type "tuple", dict := dct, data := .seq items n, slots := sl } ∧
      R (.ok (.ret (.ref (s.heap.push { cls := .type "tuple_iterator", data := .fields #[.ref l, .int 0 0] }).objs.size)))
        { s with heap := (s.heap.push { cls := .type "tuple_iterator", data := .fields #[.ref l, .int 0 0] }).push { cls := .type "enumerate", data := .fields #[.none, .bool false, .ref s.heap.objs.size, rawInt 0, .none, .none] } }) :=
  .of_wp fun prog w A R s h => by
    obtain ⟨hp, g, d, tk, os⟩ := s; obtain ⟨hl, h⟩ := h
    have hsub := sub_enumerate
    have hL : Heap.IsTuple (Shared.heap ⟨hp, g, d, tk, os⟩) l items := ⟨_, hl, rfl, n, rfl⟩
    wp_walk using wpAny_loadPart' hl
    refine wpAny_stack_any fun st => wpAny_pure ?_
    split
    · rename_i c _ _ _ _ _
      cases (c == Value.type "enumerate")
      · wp_walk using wpAny_loadPart' hl, wpAny_pyIter_tuple hL
        exact ⟨_, rfl, h⟩
      · wp_walk using wpAny_loadPart' hl, wpAny_pyIter_tuple hL
        exact ⟨_, rfl, h⟩
    · wp_walk using wpAny_loadPart' hl, wpAny_pyIter_tuple hL
      exact ⟨_, rfl, h⟩
section
variable {prog : Program} {w : World} {A : Around} {E : Value → Shared → Prop} {s : Shared}
theorem call_en_tuple {l : Addr} {items : Array Value} {Q : Value → Shared → Prop} (hL : s.heap.IsTuple l items)
    (h : ∀ h', IsEnum h' (s.heap.objs.size + 1) s.heap.objs.size 0 .none → h'.IsTupleIter s.heap.objs.size l 0 → h'.objs.size = s.heap.objs.size + 2 →
      (∀ b o, s.heap.get? b = some o → h'.get? b = some o) → Q (.ref (s.heap.objs.size + 1)) { s with heap := h' }) :
    wpAny (model prog w) A (call (.type "enumerate") [.ref l]) Q E s := by
  obtain ⟨⟨c, dct, dt, sl⟩, hl, hc, n, hd⟩ := hL
  replace hc : c = .type "tuple" := hc
  replace hd : dt = .seq items n := hd
  subst hc hd
  refine callType_new F.called_enumerate (by decide) (F.typeCall_enumerate_1 _) (F.newCall_enumerate_1 _) (fun obj => F.args_object_init_2 obj _) F.entry_enumerate_new
    (en_newT l items n dct sl) ⟨hl, ?_⟩
  have hz : (s.heap.push { cls := .type "tuple_iterator", data := .fields #[.ref l, .int 0 0] }).objs.size = s.heap.objs.size + 1 := Heap.size_push ..
  show _ ∧ _
  rw [hz]
  have he : IsEnum ((s.heap.push { cls := .type "tuple_iterator", data := .fields #[.ref l, .int 0 0] }).push
      { cls := .type "enumerate", data := .fields #[.none, .bool false, .ref s.heap.objs.size, rawInt 0, .none, .none] }) (s.heap.objs.size + 1) s.heap.objs.size 0 .none := by
    have := Heap.get?_push_size (s.heap.push { cls := .type "tuple_iterator", data := .fields #[.ref l, .int 0 0] })
      (o := { cls := .type "enumerate", data := .fields #[.none, .bool false, .ref s.heap.objs.size, rawInt 0, .none, .none] }) rfl
    rw [hz] at this; exact this
  refine ⟨⟨_, he, rfl⟩, h _ he ⟨_, Heap.get?_push_of_some _ (Heap.get?_push_size _ rfl), rfl, rfl⟩ (by rw [Heap.size_push, hz]) fun b o x => Heap.get?_push_of_some _ (Heap.get?_push_of_some _ x)⟩
theorem ent_item {e it l : Addr} {i : Nat} {items : Array Value} {x old : Value} {Q : Value → Shared → Prop}
    (he : IsEnum s.heap e it i old) (hit : kT.St s.heap it l i) (hl : kT.Sq s.heap l items) (hx : items[i]? = some x) (hne : e ≠ it)
    (hQ : ∀ h', IsEnumOut h' e it ((i : Int) + 1) x s.heap.objs.size → kT.St h' it l (i + 1) →
      h'.get? s.heap.objs.size = some { cls := .type "tuple", data := .seq #[.int i s.toks, x] } → h'.objs.size = s.heap.objs.size + 1 →
      (∀ b o, b ≠ e → b ≠ it → s.heap.get? b = some o → h'.get? b = some o) → Q (.ref s.heap.objs.size) { s with heap := h', toks := s.toks + 1 }) :
    wpAny (model prog w) A (Builtin.«enumerate.__next__» ⟨[.ref e], []⟩) (fun fin s' => ∃ v, fin = .done (.ret v) ∧ Q v s') E s := by
  obtain ⟨hp, g, d, tk, os⟩ := s
  show wpAny _ _ (field (.ref e) 2 >>= _) _ _ _
  refine wpAny_bind (wpAny_field he rfl (x := .ref it) rfl ?_)
  refine wpAny_bind (kT_ok.nxt hit hl hx fun h₁ hit₁ hs₁ => ?_)
  replace hs₁ : Heap.SameBut it hp h₁ := hs₁
  have he₁ : IsEnum h₁ e it i old := (hs₁.2 e hne).trans he
  show wpAny _ _ (field (.ref e) 3 >>= _) _ _ ⟨h₁, g, d, tk, os⟩
  refine wpAny_bind (wpAny_field he₁ rfl (x := rawInt i) rfl ?_)
  show wpAny _ _ (field (.ref e) 4 >>= _) _ _ ⟨h₁, g, d, tk, os⟩
  refine wpAny_bind (wpAny_field he₁ rfl (x := .none) rfl ?_)
  show wpAny _ _ (mkInt i >>= _) _ _ ⟨h₁, g, d, tk, os⟩
  refine wpAny_bind (wpAny_mkInt ?_)
  show wpAny _ _ (setField (.ref e) 3 (rawInt ((i : Int) + 1)) >>= _) _ _ ⟨h₁, g, d, tk + 1, os⟩
  refine wpAny_bind (wpAny_setField_rec he₁ (by simp) fun h₂ he₂ hs₂ => ?_)
  replace hs₂ : Heap.SameBut e h₁ h₂ := hs₂
  replace he₂ : IsEnum h₂ e it ((i : Int) + 1) old := he₂
  show wpAny _ _ (setField (.ref e) 4 .none >>= _) _ _ ⟨h₂, g, d, tk + 1, os⟩
  refine wpAny_bind (wpAny_setField_rec he₂ (by simp) fun h₃ he₃ hs₃ => ?_)
  replace hs₃ : Heap.SameBut e h₂ h₃ := hs₃
  replace he₃ : IsEnum h₃ e it ((i : Int) + 1) old := he₃
  show wpAny _ _ (newTuple [.int i tk, x] >>= _) _ _ ⟨h₃, g, d, tk + 1, os⟩
  refine wpAny_bind (wpAny_newTuple ?_)
  have he₄ : IsEnum (h₃.push { cls := .type "tuple", data := .seq #[.int i tk, x] }) e it ((i : Int) + 1) old := Heap.get?_push_of_some _ he₃
  generalize hh₄ : h₃.push { cls := .type "tuple", data := .seq #[.int i tk, x] } = h₄ at he₄
  have hsz : h₃.objs.size = hp.objs.size := by rw [hs₃.1, hs₂.1, hs₁.1]
  have hel : e < hp.objs.size := Heap.lt_size he
  have ht₄ : h₄.get? hp.objs.size = some { cls := .type "tuple", data := .seq #[.int i tk, x] } := by rw [← hh₄, ← hsz]; exact Heap.get?_push_size _ rfl
  have hz₄ : h₄.objs.size = hp.objs.size + 1 := by rw [← hh₄, Heap.size_push, hsz]
  have hk₄ : ∀ b o, b ≠ e → b ≠ it → hp.get? b = some o → h₄.get? b = some o := fun b o hbe hbi hb => by
    rw [← hh₄]; exact Heap.get?_push_of_some _ (hs₃.extBut b o hbe (hs₂.extBut b o hbe (hs₁.extBut b o hbi hb)))
  have hit₄ : kT.St h₄ it l (i + 1) := by
    rw [← hh₄]
    exact kT_ok.stay (kT_ok.stay (kT_ok.stay hit₁ fun o ho => (hs₂.2 it (Ne.symm hne)).trans ho) fun o ho => (hs₃.2 it (Ne.symm hne)).trans ho) fun o ho => Heap.get?_push_of_some _ ho
  show wpAny _ _ (Builtin.SmallTypes.ownedTupleIsFree (.ref e) >>= _) _ _ ⟨h₄, g, d, tk + 1, os⟩
  rw [hsz]
  clear hh₄ he₃ hs₃ he₂ hs₂ he₁ hs₁ hit₁ hsz h₃ h₂ h₁
  refine wpAny_bind ?_
  · unfold Builtin.SmallTypes.ownedTupleIsFree
    refine wpAny_bind (wpAny_field he₄ rfl (x := .none) rfl (wpAny_pure ?_))
    simp only [if_true]
    refine wpAny_bind (wpAny_rule ?_)
    refine wpAny_bind (wpAny_field he₄ rfl (x := old) rfl ?_)
    refine wpAny_bind (wpAny_setField_rec he₄ (by simp) fun h₅ he₅ hs₅ => ?_)
    replace hs₅ : Heap.SameBut e h₄ h₅ := hs₅
    replace he₅ : IsEnum h₅ e it ((i : Int) + 1) x := he₅
    show wpAny _ _ (Builtin.SmallTypes.ownedTupleHandOut (.ref e) (.ref hp.objs.size) >>= _) _ _ ⟨h₅, g, d, tk + 1, os⟩
    refine wpAny_bind ?_
    · unfold Builtin.SmallTypes.ownedTupleHandOut
      refine wpAny_bind (wpAny_setField_rec he₅ (by simp) fun h₆ he₆ hs₆ => ?_)
      replace hs₆ : Heap.SameBut e h₅ h₆ := hs₆
      replace he₆ : IsEnumOut h₆ e it ((i : Int) + 1) x hp.objs.size := he₆
      refine wpAny_setField_rec he₆ (by simp) fun h₇ he₇ hs₇ => ?_
      replace hs₇ : Heap.SameBut e h₆ h₇ := hs₇
      replace he₇ : IsEnumOut h₇ e it ((i : Int) + 1) x hp.objs.size := he₇
      refine wpAny_bind (wpAny_letGo (wpAny_pure ⟨_, rfl, hQ h₇ he₇ ?_ ?_ ?_ ?_⟩))
      · exact kT_ok.stay (kT_ok.stay (kT_ok.stay hit₄ fun o ho => (hs₅.2 it (Ne.symm hne)).trans ho) fun o ho => (hs₆.2 it (Ne.symm hne)).trans ho) fun o ho => (hs₇.2 it (Ne.symm hne)).trans ho
      · exact hs₇.extBut _ _ (Nat.ne_of_gt hel) (hs₆.extBut _ _ (Nat.ne_of_gt hel) (hs₅.extBut _ _ (Nat.ne_of_gt hel) ht₄))
      · rw [hs₇.1, hs₆.1, hs₅.1, hz₄]
      · exact fun b o hbe hbi hb => hs₇.extBut b o hbe (hs₆.extBut b o hbe (hs₅.extBut b o hbe (hk₄ b o hbe hbi hb)))
theorem ent_nextI {e it l : Addr} {i : Nat} {items : Array Value} {x old : Value} {Q : Option Value → Shared → Prop}
    (he : IsEnum s.heap e it i old) (hit : kT.St s.heap it l i) (hl : kT.Sq s.heap l items) (hx : items[i]? = some x) (hne : e ≠ it)
    (hQ : ∀ h', IsEnumOut h' e it ((i : Int) + 1) x s.heap.objs.size → kT.St h' it l (i + 1) →
      h'.get? s.heap.objs.size = some { cls := .type "tuple", data := .seq #[.int i s.toks, x] } → h'.objs.size = s.heap.objs.size + 1 →
      (∀ b o, b ≠ e → b ≠ it → s.heap.get? b = some o → h'.get? b = some o) → Q (some (.ref s.heap.objs.size)) { s with heap := h', toks := s.toks + 1 }) :
    wpAny (model prog w) A (pyNext (.ref e)) Q E s := by
  have hT : s.TypeIs (.ref e) "enumerate" := ⟨_, he, rfl⟩
  unfold pyNext
  exact wpAny_bind (wpAny_attempt (wpAny_callSpecial?_slot (name := Str.ofString "__next__") hT F.slot_enumerate_next
    (wpAny_call_entry F.slot_enumerate_next hT F.entry_enumerate_next
      (ent_item he hit hl hx hne fun h' a b c d k => wpAny_pure (hQ h' a b c d k)) (F.args_enumerate_next_1 _))))
theorem ent_nextE {e it l : Addr} {i : Nat} {items : Array Value} {old : Value} {Q : Option Value → Shared → Prop} (hh : A.handled = none)
    (he : IsEnum s.heap e it i old) (hit : kT.St s.heap it l i) (hl : kT.Sq s.heap l items) (hx : items[i]? = none)
    (hQ : ∀ h', Heap.ExtBut it s.heap h' → Q none { s with heap := h' }) : wpAny (model prog w) A (pyNext (.ref e)) Q E s := by
  have hT : s.TypeIs (.ref e) "enumerate" := ⟨_, he, rfl⟩
  unfold pyNext
  refine wpAny_bind (wpAny_attempt (wpAny_callSpecial?_slot (name := Str.ofString "__next__") hT F.slot_enumerate_next
    (wpAny_call_entry F.slot_enumerate_next hT F.entry_enumerate_next ?_ (F.args_enumerate_next_1 _))))
  show wpAny _ _ (field (.ref e) 2 >>= _) _ _ _
  refine wpAny_bind (wpAny_field he rfl (x := .ref it) rfl ?_)
  refine wpAny_bind (kT_ok.out hh hit hl hx fun h' x he' hx' => ?_)
  obtain ⟨o, ho, hc⟩ := hx'
  refine wpAny_bind (wpAny_isInstance (T := "StopIteration") (b := true) ⟨o, ho, hc⟩ isSubtype_stop ?_)
  exact wpAny_pure (hQ _ he')
end
/-- the tuple at a, each item in a new pair -/
def Itet (K : PySem.W.Frag) (a : Addr) : It :=
  ⟨fun i H => ∃ (xs : List V) (x : V), SqT K H a xs ∧ xs[i]? = some x, fun i H v H' => ∃ T x, v = .ref T ∧ H T = none ∧ H' = upd H T (.tup [.int (i : Nat), x]) ∧ ∀ xs, SqT K H a xs → xs[i]? = some x, fun i H => ∃ xs : List V, SqT K H a xs ∧ xs.length ≤ i⟩
theorem turn_ent {P : Program} {w : World} {K : PySem.W.Frag} {elts : List Expr} {kk : Nat} {tpos : Pos} (a e it : Addr) :
    Turn P w K (.Tuple elts kk tpos) (Itet K a) [e, it] e (fun i h => (∃ old, IsEnum h e it ((i : Nat) : Int) old) ∧ kT.St h it a i ∧ e ≠ it) where
  mem := by simp
  obj := fun i h st b hb => by
    obtain ⟨⟨old, he⟩, hit, _⟩ := st
    have e' : b = e ∨ b = it := by simpa using hb
    rcases e' with z | z
    · rw [z]; exact ⟨_, he, fun v q => nomatch q⟩
    · rw [z]; exact kT_ok.here hit
  keep := fun i h h' st k => let ⟨⟨old, he⟩, hi, hne⟩ := st; ⟨⟨old, k e (by simp) _ he⟩, kT_ok.stay hi fun o q => k it (by simp) o q, hne⟩
  item := by
    intro X hP hw hK hc i pins s σ H E I hf st hg
    subst hP hw hK
    obtain ⟨⟨old, he⟩, hit, hne⟩ := st
    obtain ⟨xs, x, hq, hx⟩ := hg
    obtain ⟨its, rv, p, hz⟩ := I.tuple hq
    obtain ⟨u, hu, ru⟩ := rv.get hx
    have hel : e < s.heap.objs.size := Heap.lt_size he
    have hil : it < s.heap.objs.size := by obtain ⟨_, q, _⟩ := kT_ok.here hit; exact Heap.lt_size q
    refine ent_nextI he hit p (x := u) (by simpa using hu) hne fun h' ho hit' hT hsz hk => ?_
    refine ⟨_, rfl, wpAny_letOwnedTupleGo_enum (s := { s with heap := h', toks := s.toks + 1 }) ho fun h'' he' sb => ?_⟩
    have hT2 : h''.get? s.heap.objs.size = some { cls := .type "tuple", data := .seq #[.int i s.toks, u] } := (sb.2 _ (Nat.ne_of_gt hel)).trans hT
    have new : ObjOk X.prog X.w (upd H s.heap.objs.size (.tup [.int (i : Nat), x])) h'' s.heap.objs.size (.tup [.int (i : Nat), x]) :=
      ⟨by show 2 ≤ sizeLine; decide, [.int i s.toks, u], .cons ⟨_, rfl⟩ (.cons ru .nil), ⟨_, hT2, rfl, _, rfl⟩⟩
    have I1 : Inv X pins σ (upd H s.heap.objs.size (.tup [.int (i : Nat), x])) { s with heap := h'', toks := s.toks + 1 } :=
      I.turnedNew (ch := [e, it]) (fun b ob hb q => (sb.2 b (fun z => hb (by simp [z]))).trans (hk b ob (fun z => hb (by simp [z])) (fun z => hb (by simp [z])) q)) hf (Nat.le_refl _) new
    have inj : ∀ ys, SqT X.K H a ys → ys[i]? = some x := fun ys hy => by
      obtain ⟨its2, rv2, p2, _⟩ := I.tuple hy
      have := I.tuple_inj hy hq
      rw [this]
      exact hx
    refine ⟨.ref s.heap.objs.size, _, I1, rfl, ⟨_, x, rfl, I.hok.fresh (Nat.le_refl _), rfl, inj⟩, ⟨⟨u, ?_⟩, kT_ok.stay hit' fun o q => (sb.2 it (Ne.symm hne)).trans q, hne⟩, fun b hb => ?_⟩
    · have e1 : ((i + 1 : Nat) : Int) = (i : Int) + 1 := by omega
      rw [e1]; exact he'
    · have hb' : b < s.heap.objs.size := by
        have e' : b = e ∨ b = it := by simpa using hb
        rcases e' with z | z
        · rw [z]; exact hel
        · rw [z]; exact hil
      rw [upd_ne (Nat.ne_of_lt hb')]
      exact (hf b hb).1
  done := by
    intro X hP hw hK hc i pins s σ H E I hf st hg
    subst hP hw hK
    obtain ⟨⟨old, he⟩, hit, hne⟩ := st
    obtain ⟨xs, hq, hx⟩ := hg
    obtain ⟨its, rv, p, hz⟩ := I.tuple hq
    obtain ⟨f0, f1, f2, f3, f4, f5⟩ := hf it (by simp)
    have hl := rv.length
    exact ent_nextE (I.ok.hd hc) he hit p (by simp; omega) fun h' eb => ⟨rfl, I.turned (t' := s.toks) (fun b o hb q => eb b o hb q) f0 f1 f3 f4 f5⟩
  self := fun A i s Q E st h => let ⟨⟨_, he⟩, _⟩ := st; wpAny_pyIter_enum he h
def iEnumT (K : PySem.W.Frag) (ta : TA) : TI := fun σ H R => ta σ H fun vs H1 => ∃ a xs, vs = [.ref a] ∧ SqT K H1 a xs ∧ R (Itet K a) H1
theorem pi_enumT {X : Cx} {K : PySem.W.Frag} (hK : X.K = K) {e : Expr} {ta : TA} {p pos tpos : Pos} {elts : List Expr} {kk : Nat} (hg : Gl X "enumerate") (hm : X.mg "enumerate" = none) (ha : PA X [e] ta) (hs : starEach [e] X.env = [(false, eval e X.env)] := by rfl) :
    PI X (.Tuple elts kk tpos) (.Call (.Name "enumerate" p) [e] [] pos) (iEnumT K ta) := by
  subst hK
  refine ⟨fun pins s σ H R I h => ?_⟩
  refine Call_ (ld_blt I hg hm boot_enumerate (PyProof.Rows.callWith_type1 (thn (ha.run pos pins s σ H _ I h) fun us s1 ⟨vs, H1, I1, r1, q1⟩ => ?_) hs rfl))
  obtain ⟨a, xs, ex, hq, q⟩ := q1
  subst ex
  cases r1 with
  | cons r rr =>
    cases rr
    cases r
    obtain ⟨its, rv, p', hz⟩ := I1.tuple hq
    refine call_en_tuple p' fun h' he hit hsz hk => wpAny_pyIter_enum he ?_
    have I2 : Inv X pins σ H1 { s1 with heap := h' } := I1.kept (t' := s1.toks) hk
    refine ⟨s1.heap.objs.size + 1, [s1.heap.objs.size + 1, s1.heap.objs.size], _, _, H1, rfl, I2, turn_ent a (s1.heap.objs.size + 1) s1.heap.objs.size, ⟨⟨.none, he⟩, hit, Nat.succ_ne_self _⟩, fun b hb => ?_, q⟩
    have e' : b = s1.heap.objs.size + 1 ∨ b = s1.heap.objs.size := by simpa using hb
    have hle : s1.heap.objs.size ≤ b := by
      rcases e' with z | z
      · rw [z]; exact Nat.le_add_right _ _
      · rw [z]; exact Nat.le_refl _
    exact I1.fpOk hle (I1.hok.fresh hle)
theorem walk_ent {K : PySem.W.Frag} {a : Addr} {xs : List V} : Walk (Itet K a) xs.length (fun H => SqT K H a xs) (YPair (fun i => some (.int (i : Nat))) (fun i => xs[i]?)) := by
  refine ⟨fun i _ hi q => ⟨xs, xs[i], q, by simp [hi]⟩, fun _ q => ⟨xs, q, Nat.le_refl _⟩, fun i H v H' _ q y => ?_⟩
  obtain ⟨T, x, h1, h2, h3, h4⟩ := y
  exact ⟨T, .int (i : Nat), x, h1, h2, h3, rfl, h4 xs q⟩
/-- [.. for i, x in enumerate(tuple)] -/
theorem el_lcET {K : PySem.W.Frag} {σ : L2.St} {H : Hp} {t : TT} {te : TE} {a : Addr} {xs : List V} {ta : TA} {i1 i2 : Nat} {vs : List Nat} (f : Nat → Bool) (v : Nat → V) (h : EvA ta σ H [.ref a]) (hx : SqT K H a xs) (hz : xs.length ≤ 40000) (hw : ∀ x y, wipe (((wipe σ vs).set i1 (some x)).set i2 (some y)) vs = wipe σ vs)
    (ht : ∀ (i : Nat) (x : V) H1, Ex H H1 → xs[i]? = some x → EvT t (((wipe σ vs).set i1 (some (.int (i : Nat)))).set i2 (some x)) H1 (f i)) (he : ∀ (i : Nat) (x : V) H1, Ex H H1 → xs[i]? = some x → f i = true → Ev te (((wipe σ vs).set i1 (some (.int (i : Nat)))).set i2 (some x)) H1 (v i)) :
    EvL (tLc (iEnumT K ta) (gTup K 2 (gCons (gName i1) (gCons (gName i2) gNil))) t te vs) σ H (given xs.length f v) := fun H0 e Q q => h H0 e _ fun H1 e1 => ⟨a, xs, rfl, ex_t (e.trans e1) hx, fun Dl hD =>
  lc_it walk_ent (Cw H1 f v Dl) ⟨hD, Ex.new hD, upd_same⟩ (fun i H' _ p => ex_t ((e.trans e1).trans p.2.1) hx) (fun i x H' H'' hi p y => by
    obtain ⟨T, u, u', rfl, nT, rfl, g1, g2⟩ := y
    cases g1
    obtain ⟨p1, p2, p3⟩ := p
    have p' : Cw H1 f v Dl i (upd H' T (.tup [.int (i : Nat), u'])) := ⟨p1, p2.trans (Ex.new nT), (Ex.new nT) _ _ p3⟩
    exact ⟨T, [.int (i : Nat), u'], rfl, st_of upd_same, rfl, .int (i : Nat), [u'], rfl, u', [], rfl, rfl, hw _ _, cw_turn p' (by omega) (ht i u' H1 (e.trans e1) g2) (fun hf => he i u' H1 (e.trans e1) g2 hf)⟩)
    (fun H' p => q Dl H' (fresh_back e1 p.1) (e1.trans p.2.1) p.2.2)⟩
end Own
/-! sorted(d) of a dict with integers for keys, of any number -/
namespace Own
open PySem PySem.Spec PyProof.Rows L2 Evl
section
variable {X : Cx}
def rSortedDn : List V → Hp → VK → Prop := fun xs H Q => ∃ (a : Addr) (kvs : List (Key × V)) (ks : List Int), xs = [.ref a] ∧ Rd H a (.dK kvs) ∧ kvs.map (·.1) = ks.map Sum.inl ∧ ks.length ≤ 100000 ∧
    ∀ (ys : List Int) (p : Addr), ys.Perm ks → ys.Pairwise (· ≤ ·) → H p = none → Q (.ref p) (upd H p (.lst (ys.map V.int)))
theorem call_sortedDn (hcalm : X.calm = true) : CallR X (.builtin "sorted") rSortedDn := by
  intro pins s σ H xs us Q I r q
  obtain ⟨a, kvs, ks, ex, hd, hks, h64, q⟩ := q
  subst ex
  obtain ⟨u, eu, rx⟩ := vals1 r
  subst eu
  cases rx
  obtain ⟨z, lo, vs, rel, dd⟩ := dk_rd I.hok hd
  obtain ⟨ep, hat⟩ := dd.dictAt
  have hkeys : vs.map (·.1) = ks.map Sum.inl := rel.keys.symm.trans hks
  have hl : vs.length = ks.length := by
    have e := congrArg List.length hkeys
    rw [List.length_map, List.length_map] at e
    exact e
  have h16 : vs.length ≤ sizeLine := by rw [hl]; exact sz_of h64
  refine Calls.call_function_entry PyProof.Rows.kind_sorted PyProof.Rows.plain_sorted PyProof.Rows.entry_sorted (PyProof.Rows.args_sorted1 _) ?_
  unfold Builtin.«sorted»
  refine wpAny_bind (m := checkCount "sorted" 1 1 _) (wpAny_pure ?_)
  refine wpAny_bind (PySem.W.kdu_collect (A := X.A.in1) (PySem.W.kdl_dict (knd := mixKind X.prog X.w) (kvs := vs) (ep := ep) lo) (I.ok.hd hcalm) hat h16 fun h' tk acc hk hacc => ?_)
  have hal : acc.toList.length = ks.length := by rw [Array.length_toList, hacc.1, hl]
  have hS : IntsAre acc.toList ks := ints_each hal fun j v e => by
    obtain ⟨k, x, e1, e2⟩ := hacc.2 j v (by rw [← Array.getElem?_toList]; exact e)
    have e3 : (vs.map (·.1))[j]? = some k := by rw [List.getElem?_map, e1]; rfl
    rw [hkeys, List.getElem?_map] at e3
    cases e4 : ks[j]? with
    | none => rw [e4] at e3; cases e3
    | some y =>
      rw [e4] at e3
      have e5 : Sum.inl y = k := Option.some.inj e3
      subst e5
      rcases keyIs_shape (show keyIs (Sum.inl y) v = true from e2) with ⟨i, t, ek, ev⟩ | ⟨z, t, ek, ev⟩
      · cases ek
        exact ⟨y, t, rfl, ev⟩
      · cases ek
  have I1 : Inv X pins σ H { s with heap := h', toks := tk } := I.kept hk
  refine wpAny_bind (wpAny_newList ?_ (by rw [hal]; exact sz_of h64))
  have hoL : (h'.push (seqObj "list" acc.toList.toArray 0)).get? h'.objs.size = some (seqObj "list" acc.toList.toArray 0) := Heap.get?_push_size _ rfl
  show wpAny _ _ _ _ _ { s with heap := h'.push (seqObj "list" acc.toList.toArray 0), toks := tk }
  refine wpAny_bind (wpAny_holding (wpAny_call_entry PyProof.Rows.slot_list_sort ⟨_, hoL, rfl⟩ PyProof.Rows.entry_list_sort
    (SrtO.list_sort_ord (s := { s with heap := h'.push (seqObj "list" acc.toList.toArray 0), toks := tk }) SrtO.swo_int hoL (by rw [hal]; exact sz_of h64) (fun h2 => SrtO.ints_sortable hS h2) fun out h1 h2 => ⟨_, rfl, ?_⟩) (PyProof.Rows.args_list_sort _)))
  obtain ⟨k1, k2, k3⟩ := SrtO.ints_out hS h1 h2
  obtain ⟨e', he'⟩ := PyProof.Rows.sortedHeap_at (vs := acc.toList) (out := out.toArray) hoL
  have hlen : ((out.map SrtO.iv).map V.int).length ≤ sizeLine := by
    rw [List.length_map, k2.length_eq]
    exact sz_of h64
  refine wpAny_pure ⟨_, rfl, .ref h'.objs.size, upd H h'.objs.size (.lst ((out.map SrtO.iv).map V.int)), I1.laid (t' := tk) (fun b u e => ?_) (Nat.le_refl _)
    (show ObjOk X.prog X.w _ _ _ (.lst ((out.map SrtO.iv).map V.int)) from ⟨hlen, out, e', vals_of_ints k1, he'⟩), rfl, q _ _ k2 k3 (I1.hok.fresh (Nat.le_refl _))⟩
  have hb : b < h'.objs.size := Heap.lt_size e
  rw [PyProof.Rows.sortedHeap_old (Nat.ne_of_lt hb) (by rw [size_push']; exact Nat.lt_succ_of_lt hb)]
  exact Heap.get?_push_of_some _ e
end
end Own
/-! own rules: a comprehension over zip of two tuples -/
namespace Own
open PySem PySem.Spec PyProof.Rows L2 Evl
section
variable {K : PySem.W.Frag} {σ : L2.St} {H H' : Hp} {ta tb te : TE} {t : TT}
theorem walk_zt {a b : Addr} {xs ys : List V} {n : Nat} (hn : n = min xs.length ys.length) : Walk (RZ.ItzT K a b) n (fun H => SqT K H a xs ∧ SqT K H b ys) (YPair (fun i => xs[i]?) (fun i => ys[i]?)) := by
  subst hn
  refine ⟨fun i _ hi q => ?_, fun _ q => ⟨xs, ys, q.1, q.2, by omega⟩, fun i H v H' _ q ⟨T, x, y, h1, h2, h3, h4, h5⟩ => ⟨T, x, y, h1, h2, h3, h4 xs q.1, h5 ys q.2⟩⟩
  have h1 : i < xs.length := by omega
  have h2 : i < ys.length := by omega
  exact ⟨xs, ys, xs[i], ys[i], q.1, q.2, by simp [h1], by simp [h2]⟩
/-- a comprehension over zip(tuple, tuple), its two names in the slots i1, i2 -/
theorem el_lcZT {a b : Addr} {xs ys : List V} {tl : TA} {i1 i2 : Nat} {vs : List Nat} (f : Nat → Bool) (v : Nat → V) (h : ∀ H1, Ex H H1 → ∀ Q : List V → Hp → Prop, (∀ b H2, Ex H1 H2 → SqT K H2 b ys → Q [.ref a, .ref b] H2) → tl σ H1 Q) (hx : SqT K H a xs) (hz : xs.length ≤ 40000) (hw : ∀ x y, wipe (((wipe σ vs).set i1 (some x)).set i2 (some y)) vs = wipe σ vs)
    (ht : ∀ (i : Nat) (x y : V) H1, Ex H H1 → xs[i]? = some x → ys[i]? = some y → EvT t (((wipe σ vs).set i1 (some x)).set i2 (some y)) H1 (f i)) (he : ∀ (i : Nat) (x y : V) H1, Ex H H1 → xs[i]? = some x → ys[i]? = some y → f i = true → Ev te (((wipe σ vs).set i1 (some x)).set i2 (some y)) H1 (v i)) :
    EvL (tLc (RZ.iZipA K tl) (gTup K 2 (gCons (gName i1) (gCons (gName i2) gNil))) t te vs) σ H (given (min xs.length ys.length) f v) := fun H0 e Q q => h H0 e _ fun b H1 e1 hy => ⟨a, b, xs, ys, rfl, .inr ⟨ex_t (e.trans e1) hx, hy, fun Dl hD =>
  lc_it (walk_zt (xs := xs) (ys := ys) rfl) (Cw H1 f v Dl) ⟨hD, Ex.new hD, upd_same⟩ (fun i H' _ p => ⟨ex_t ((e.trans e1).trans p.2.1) hx, ex_t p.2.1 hy⟩) (fun i x H' H'' hi p y => by
    obtain ⟨T, u, u', rfl, nT, rfl, g1, g2⟩ := y
    obtain ⟨p1, p2, p3⟩ := p
    have p' : Cw H1 f v Dl i (upd H' T (.tup [u, u'])) := ⟨p1, p2.trans (Ex.new nT), (Ex.new nT) _ _ p3⟩
    exact ⟨T, [u, u'], rfl, st_of upd_same, rfl, u, [u'], rfl, u', [], rfl, rfl, hw _ _, cw_turn p' (by omega) (ht i u u' H1 (e.trans e1) g1 g2) (fun hf => he i u u' H1 (e.trans e1) g1 g2 hf)⟩)
    (fun H' p => q Dl H' (fresh_back e1 p.1) (e1.trans p.2.1) p.2.2)⟩⟩
end
end Own
/-! polynomials over a small field as polynomials over the integers: what a great number tells of a sum of products; core Lean alone -/
namespace Own
/-- a field of q elements, whose digits in base p stand for 1, u, u ** 2 -/
structure FA (q p u : Nat) (ad mu : Nat → Nat → Nat) : Prop where
  p0 : 0 < p
  pq : p ≤ q
  uq : u < q
  adL : ∀ a b, a < q → b < q → ad a b < q
  muL : ∀ a b, a < q → b < q → mu a b < q
  adC : ∀ a b, a < q → b < q → ad a b = ad b a
  adA : ∀ a b c, a < q → b < q → c < q → ad (ad a b) c = ad a (ad b c)
  ad0 : ∀ a, a < q → ad a 0 = a
  muC : ∀ a b, a < q → b < q → mu a b = mu b a
  muA : ∀ a b c, a < q → b < q → c < q → mu (mu a b) c = mu a (mu b c)
  mu0 : ∀ a, a < q → mu a 0 = 0
  dis : ∀ a b c, a < q → b < q → c < q → mu a (ad b c) = ad (mu a b) (mu a c)
  adP : ∀ a b, a < p → b < p → ad a b = (a + b) % p
  muP : ∀ a b, a < p → b < p → mu a b = a * b % p
abbrev UP := List Nat
abbrev TP := List UP
def uAdd : UP → UP → UP
  | [], y => y
  | x, [] => x
  | a :: x, b :: y => (a + b) :: uAdd x y
def uMul : UP → UP → UP
  | [], _ => []
  | a :: x, y => uAdd (y.map fun b => a * b) (0 :: uMul x y)
def evU (U : Nat) : UP → Nat
  | [] => 0
  | c :: cs => c + U * evU U cs
theorem ev_uadd (U : Nat) : ∀ x y, evU U (uAdd x y) = evU U x + evU U y
  | [], y => by rw [uAdd]; exact (Nat.zero_add _).symm
  | a :: x, [] => by rw [uAdd]; exact (Nat.add_zero _).symm; simp
  | a :: x, b :: y => by
    rw [uAdd]
    show (a + b) + U * evU U (uAdd x y) = (a + U * evU U x) + (b + U * evU U y)
    rw [ev_uadd U x y, Nat.mul_add]
    omega
theorem ev_uscale (U n : Nat) : ∀ y, evU U (y.map fun b => n * b) = n * evU U y
  | [] => rfl
  | b :: y => by
    show n * b + U * evU U (y.map fun b => n * b) = n * (b + U * evU U y)
    rw [ev_uscale U n y, Nat.mul_add, Nat.mul_left_comm]
theorem ev_umul (U : Nat) : ∀ x y, evU U (uMul x y) = evU U x * evU U y
  | [], y => (Nat.zero_mul _).symm
  | a :: x, y => by
    rw [uMul, ev_uadd, ev_uscale]
    show a * evU U y + (0 + U * evU U (uMul x y)) = (a + U * evU U x) * evU U y
    rw [ev_umul U x y, Nat.add_mul, Nat.zero_add, Nat.mul_assoc]
def tAdd : TP → TP → TP
  | [], y => y
  | x, [] => x
  | a :: x, b :: y => uAdd a b :: tAdd x y
def tMul : TP → TP → TP
  | [], _ => []
  | a :: x, y => tAdd (y.map fun b => uMul a b) ([] :: tMul x y)
def evT (U X : Nat) : TP → Nat
  | [] => 0
  | c :: cs => evU U c + X * evT U X cs
theorem ev_tadd (U X : Nat) : ∀ x y, evT U X (tAdd x y) = evT U X x + evT U X y
  | [], y => by rw [tAdd]; exact (Nat.zero_add _).symm
  | a :: x, [] => by rw [tAdd]; exact (Nat.add_zero _).symm; simp
  | a :: x, b :: y => by
    rw [tAdd]
    show evU U (uAdd a b) + X * evT U X (tAdd x y) = (evU U a + X * evT U X x) + (evU U b + X * evT U X y)
    rw [ev_uadd, ev_tadd U X x y, Nat.mul_add]
    omega
theorem ev_tscale (U X : Nat) (c : UP) : ∀ y, evT U X (y.map fun b => uMul c b) = evU U c * evT U X y
  | [] => rfl
  | b :: y => by
    show evU U (uMul c b) + X * evT U X (y.map fun b => uMul c b) = evU U c * (evU U b + X * evT U X y)
    rw [ev_umul, ev_tscale U X c y, Nat.mul_add, Nat.mul_left_comm]
theorem ev_tmul (U X : Nat) : ∀ x y, evT U X (tMul x y) = evT U X x * evT U X y
  | [], y => (Nat.zero_mul _).symm
  | a :: x, y => by
    rw [tMul, ev_tadd, ev_tscale]
    show evU U a * evT U X y + (0 + X * evT U X (tMul x y)) = (evU U a + X * evT U X x) * evT U X y
    rw [ev_tmul U X x y, Nat.add_mul, Nat.zero_add, Nat.mul_assoc]
/-- a polynomial in T ** s -/
def tSk (s : Nat) : TP → TP
  | [] => []
  | a :: x => a :: (List.replicate (s - 1) [] ++ tSk s x)
theorem ev_rep (U X : Nat) (y : TP) : ∀ n, evT U X (List.replicate n [] ++ y) = X ^ n * evT U X y
  | 0 => by rw [Nat.pow_zero, Nat.one_mul]; rfl
  | n + 1 => by
    show 0 + X * evT U X (List.replicate n [] ++ y) = _
    rw [ev_rep U X y n, Nat.zero_add, Nat.pow_succ, Nat.mul_comm (X ^ n) X, Nat.mul_assoc]
theorem ev_tsk (U X : Nat) {s : Nat} (hs : 0 < s) : ∀ x, evT U X (tSk s x) = evT U (X ^ s) x
  | [] => rfl
  | a :: x => by
    show evU U a + X * evT U X (List.replicate (s - 1) [] ++ tSk s x) = evU U a + X ^ s * evT U (X ^ s) x
    rw [ev_rep, ev_tsk U X hs x, ← Nat.mul_assoc, ← Nat.pow_succ', show (s - 1).succ = s by omega]
section
variable {q p u : Nat} {ad mu : Nat → Nat → Nat}
def phi (p u : Nat) (ad mu : Nat → Nat → Nat) : UP → Nat
  | [] => 0
  | c :: cs => ad (c % p) (mu u (phi p u ad mu cs))
theorem FA.q0 (F : FA q p u ad mu) : 0 < q := Nat.lt_of_lt_of_le F.p0 F.pq
theorem FA.z0 (F : FA q p u ad mu) (a : Nat) (h : a < q) : ad 0 a = a := by rw [F.adC 0 a F.q0 h, F.ad0 a h]
theorem FA.mz (F : FA q p u ad mu) (a : Nat) (h : a < q) : mu 0 a = 0 := by rw [F.muC 0 a F.q0 h, F.mu0 a h]
theorem FA.md (F : FA q p u ad mu) (a : Nat) : a % p < q := Nat.lt_of_lt_of_le (Nat.mod_lt _ F.p0) F.pq
theorem FA.swap (F : FA q p u ad mu) {a b c d : Nat} (ha : a < q) (hb : b < q) (hc : c < q) (hd : d < q) : ad (ad a b) (ad c d) = ad (ad a c) (ad b d) := by
  rw [F.adA a b _ ha hb (F.adL c d hc hd), ← F.adA b c d hb hc hd, F.adC b c hb hc, F.adA c b d hc hb hd, ← F.adA a c _ ha hc (F.adL b d hb hd)]
theorem phi_lt (F : FA q p u ad mu) : ∀ x, phi p u ad mu x < q
  | [] => F.q0
  | c :: cs => F.adL _ _ (F.md c) (F.muL _ _ F.uq (phi_lt F cs))
theorem phi_add (F : FA q p u ad mu) : ∀ x y, phi p u ad mu (uAdd x y) = ad (phi p u ad mu x) (phi p u ad mu y)
  | [], y => by rw [uAdd]; exact (F.z0 _ (phi_lt F y)).symm
  | a :: x, [] => by rw [uAdd]; exact (F.ad0 _ (phi_lt F _)).symm; simp
  | a :: x, b :: y => by
    rw [uAdd]
    have hx := phi_lt F x
    have hy := phi_lt F y
    show ad ((a + b) % p) (mu u (phi p u ad mu (uAdd x y))) = ad (ad (a % p) (mu u (phi p u ad mu x))) (ad (b % p) (mu u (phi p u ad mu y)))
    rw [phi_add F x y, F.dis _ _ _ F.uq hx hy, F.swap (F.md a) (F.muL _ _ F.uq hx) (F.md b) (F.muL _ _ F.uq hy), F.adP _ _ (Nat.mod_lt _ F.p0) (Nat.mod_lt _ F.p0), ← Nat.add_mod]
theorem phi_scale (F : FA q p u ad mu) (n : Nat) : ∀ y, phi p u ad mu (y.map fun b => n * b) = mu (n % p) (phi p u ad mu y)
  | [] => (F.mu0 _ (F.md n)).symm
  | b :: y => by
    have hy := phi_lt F y
    show ad (n * b % p) (mu u (phi p u ad mu (y.map fun b => n * b))) = mu (n % p) (ad (b % p) (mu u (phi p u ad mu y)))
    rw [phi_scale F n y, F.dis _ _ _ (F.md n) (F.md b) (F.muL _ _ F.uq hy), F.muP _ _ (Nat.mod_lt _ F.p0) (Nat.mod_lt _ F.p0), ← Nat.mul_mod, ← F.muA _ _ _ F.uq (F.md n) hy, F.muC u _ F.uq (F.md n), F.muA _ _ _ (F.md n) F.uq hy]
theorem phi_shift (F : FA q p u ad mu) (y : UP) : phi p u ad mu (0 :: y) = mu u (phi p u ad mu y) := by
  show ad (0 % p) _ = _
  rw [Nat.zero_mod, F.z0 _ (F.muL _ _ F.uq (phi_lt F y))]
theorem phi_mul (F : FA q p u ad mu) : ∀ x y, phi p u ad mu (uMul x y) = mu (phi p u ad mu x) (phi p u ad mu y)
  | [], y => (F.mz _ (phi_lt F y)).symm
  | a :: x, y => by
    have hx := phi_lt F x
    have hy := phi_lt F y
    have hux := F.muL _ _ F.uq hx
    rw [uMul, phi_add F, phi_scale F, phi_shift F, phi_mul F x y]
    show _ = mu (ad (a % p) (mu u (phi p u ad mu x))) (phi p u ad mu y)
    rw [F.muC (ad _ _) _ (F.adL _ _ (F.md a) hux) hy, F.dis _ _ _ hy (F.md a) hux, F.muC _ (a % p) hy (F.md a), F.muC _ (mu u _) hy hux, F.muA _ _ _ F.uq hx hy]
def psi (p u : Nat) (ad mu : Nat → Nat → Nat) (x : TP) (t : Nat) : Nat := phi p u ad mu (x.getD t [])
theorem psi_lt (F : FA q p u ad mu) (x : TP) (t : Nat) : psi p u ad mu x t < q := phi_lt F _
theorem psi_add (F : FA q p u ad mu) : ∀ x y t, psi p u ad mu (tAdd x y) t = ad (psi p u ad mu x t) (psi p u ad mu y t)
  | [], y, t => by rw [tAdd]; exact (F.z0 _ (psi_lt F y t)).symm
  | a :: x, [], t => by rw [tAdd]; exact (F.ad0 _ (psi_lt F _ t)).symm; simp
  | a :: x, b :: y, 0 => by rw [tAdd]; exact phi_add F a b
  | a :: x, b :: y, t + 1 => by rw [tAdd]; exact psi_add F x y t
theorem psi_scale (F : FA q p u ad mu) (c : UP) : ∀ y t, psi p u ad mu (y.map fun b => uMul c b) t = mu (phi p u ad mu c) (psi p u ad mu y t)
  | [], t => (F.mu0 _ (phi_lt F c)).symm
  | b :: y, 0 => phi_mul F c b
  | b :: y, t + 1 => psi_scale F c y t
/-- sums of products, over n places -/
def cvn (ad mu : Nat → Nat → Nat) : Nat → (Nat → Nat) → (Nat → Nat) → Nat → Nat
  | 0, _, _, _ => 0
  | n + 1, g, f, t => ad (mu (f t) (g 0)) (if t = 0 then 0 else cvn ad mu n (fun j => g (j + 1)) f (t - 1))
theorem cvn_lt (F : FA q p u ad mu) : ∀ n (g f : Nat → Nat), (∀ j, g j < q) → (∀ j, f j < q) → ∀ t, cvn ad mu n g f t < q
  | 0, _, _, _, _, _ => F.q0
  | n + 1, g, f, hg, hf, t => by
    refine F.adL _ _ (F.muL _ _ (hf t) (hg 0)) ?_
    split
    · exact F.q0
    · exact cvn_lt F n _ f (fun j => hg (j + 1)) hf (t - 1)
theorem cvn_snoc (F : FA q p u ad mu) : ∀ n (g f : Nat → Nat), (∀ j, g j < q) → (∀ j, f j < q) → ∀ t, cvn ad mu (n + 1) g f t = ad (cvn ad mu n g f t) (if t < n then 0 else mu (f (t - n)) (g n))
  | 0, g, f, hg, hf, t => by
    have h := F.muL _ _ (hf t) (hg 0)
    show ad (mu (f t) (g 0)) (if t = 0 then 0 else 0) = ad 0 (if t < 0 then 0 else mu (f (t - 0)) (g 0))
    rw [if_neg (Nat.not_lt_zero t), Nat.sub_zero, F.z0 _ h]
    split <;> exact F.ad0 _ h
  | n + 1, g, f, hg, hf, t => by
    have h := F.muL _ _ (hf t) (hg 0)
    show ad (mu (f t) (g 0)) (if t = 0 then 0 else cvn ad mu (n + 1) (fun j => g (j + 1)) f (t - 1)) = ad (ad (mu (f t) (g 0)) (if t = 0 then 0 else cvn ad mu n (fun j => g (j + 1)) f (t - 1))) (if t < n + 1 then 0 else mu (f (t - (n + 1))) (g (n + 1)))
    by_cases ht : t = 0
    · subst ht
      rw [if_pos rfl, if_pos rfl, if_pos (Nat.succ_pos n), F.ad0 _ (F.adL _ _ h F.q0)]
    · have hc := cvn_lt F n (fun j => g (j + 1)) f (fun j => hg (j + 1)) hf (t - 1)
      rw [if_neg ht, if_neg ht, cvn_snoc F n (fun j => g (j + 1)) f (fun j => hg (j + 1)) hf (t - 1)]
      have e : (if t - 1 < n then 0 else mu (f (t - 1 - n)) (g (n + 1))) = (if t < n + 1 then 0 else mu (f (t - (n + 1))) (g (n + 1))) := by
        by_cases h2 : t < n + 1
        · rw [if_pos h2, if_pos (by omega)]
        · rw [if_neg h2, if_neg (by omega), show t - 1 - n = t - (n + 1) by omega]
      rw [e]
      refine (F.adA _ _ _ h hc ?_).symm
      split
      · exact F.q0
      · exact F.muL _ _ (hf _) (hg _)
theorem cvn_more (F : FA q p u ad mu) {g f : Nat → Nat} (hg : ∀ j, g j < q) (hf : ∀ j, f j < q) {n : Nat} (hz : ∀ j, n ≤ j → g j = 0) (t : Nat) : ∀ m, cvn ad mu (n + m) g f t = cvn ad mu n g f t
  | 0 => rfl
  | m + 1 => by
    rw [← Nat.add_assoc, cvn_snoc F (n + m) g f hg hf t, cvn_more F hg hf hz t m, hz (n + m) (Nat.le_add_right _ _)]
    have hc := cvn_lt F n g f hg hf t
    split
    · exact F.ad0 _ hc
    · rw [F.mu0 _ (hf _), F.ad0 _ hc]
theorem cvn_congr {g g' f f' : Nat → Nat} (hg : ∀ j, g j = g' j) (hf : ∀ j, f j = f' j) (n t : Nat) : cvn ad mu n g f t = cvn ad mu n g' f' t := by
  rw [show g = g' from funext hg, show f = f' from funext hf]
theorem psi_mul (F : FA q p u ad mu) : ∀ (y x : TP) (t : Nat), psi p u ad mu (tMul y x) t = cvn ad mu y.length (psi p u ad mu y) (psi p u ad mu x) t
  | [], x, t => rfl
  | b :: y, x, t => by
    rw [tMul, psi_add F, psi_scale F]
    show ad (mu (phi p u ad mu b) (psi p u ad mu x t)) (psi p u ad mu ([] :: tMul y x) t) = ad (mu (psi p u ad mu x t) (phi p u ad mu b)) (if t = 0 then 0 else cvn ad mu y.length (fun j => psi p u ad mu (b :: y) (j + 1)) (psi p u ad mu x) (t - 1))
    rw [F.muC _ _ (phi_lt F b) (psi_lt F x t)]
    congr 1
    cases t with
    | zero => rfl
    | succ t =>
      rw [if_neg (Nat.succ_ne_zero t)]
      exact psi_mul F y x t
theorem psi_rep (y : TP) : ∀ n t, psi p u ad mu (List.replicate n [] ++ y) t = if t < n then 0 else psi p u ad mu y (t - n)
  | 0, t => by rw [if_neg (Nat.not_lt_zero t), Nat.sub_zero]; rfl
  | n + 1, 0 => by rw [if_pos (Nat.succ_pos n)]; rfl
  | n + 1, t + 1 => by
    show psi p u ad mu (List.replicate n [] ++ y) t = _
    rw [psi_rep y n t]
    by_cases h : t < n
    · rw [if_pos h, if_pos (by omega)]
    · rw [if_neg h, if_neg (by omega), show t + 1 - (n + 1) = t - n by omega]
theorem psi_sk {s : Nat} (hs : 0 < s) : ∀ (x : TP) (t : Nat), psi p u ad mu (tSk s x) t = if t % s = 0 then psi p u ad mu x (t / s) else 0
  | [], t => by
    show 0 = if t % s = 0 then 0 else 0
    split <;> rfl
  | a :: x, 0 => by
    rw [Nat.zero_mod, if_pos rfl, Nat.zero_div]
    rfl
  | a :: x, t + 1 => by
    show psi p u ad mu (List.replicate (s - 1) [] ++ tSk s x) t = _
    rw [psi_rep]
    by_cases h : t < s - 1
    · rw [if_pos h, Nat.mod_eq_of_lt (by omega), if_neg (by omega)]
    · rw [if_neg h, psi_sk hs x (t - (s - 1))]
      have e : t + 1 = (t - (s - 1)) + s := by omega
      rw [e, Nat.add_mod_right, Nat.add_div_right _ hs]
      rfl
end
/-! what a number tells of a polynomial over the integers -/
theorem evU_le_T (U : Nat) : ∀ (x : TP) (t : Nat), evU U (x.getD t []) ≤ evT U 1 x
  | [], t => Nat.zero_le _
  | c :: x, 0 => by show evU U c ≤ evU U c + 1 * evT U 1 x; omega
  | c :: x, t + 1 => by
    have := evU_le_T U x t
    show evU U (x.getD t []) ≤ evU U c + 1 * evT U 1 x
    omega
theorem co_le : ∀ (c : UP) (z : Nat), z ∈ c → z ≤ evU 1 c
  | a :: c, z, h => by
    show z ≤ a + 1 * evU 1 c
    rcases List.mem_cons.mp h with rfl | h
    · omega
    · have := co_le c z h
      omega
theorem evT_div {U X : Nat} : ∀ (x : TP), (∀ t, evU U (x.getD t []) < X) → evT U X x % X = evU U (x.getD 0 []) ∧ evT U X x / X = evT U X x.tail
  | [], h => ⟨Nat.zero_mod X, Nat.zero_div X⟩
  | c :: x, h => by
    have h0 : evU U c < X := h 0
    have hX : 0 < X := Nat.lt_of_le_of_lt (Nat.zero_le _) h0
    refine ⟨?_, ?_⟩
    · show (evU U c + X * evT U X x) % X = evU U c
      rw [Nat.add_mul_mod_self_left, Nat.mod_eq_of_lt h0]
    · show (evU U c + X * evT U X x) / X = evT U X x
      rw [Nat.add_mul_div_left _ _ hX, Nat.div_eq_of_lt h0, Nat.zero_add]
def hor (p u : Nat) (ad mu : Nat → Nat → Nat) (U : Nat) : Nat → Nat → Nat
  | 0, _ => 0
  | R + 1, z => if z = 0 then 0 else ad (z % U % p) (mu u (hor p u ad mu U R (z / U)))
theorem phi_zero {q p u : Nat} {ad mu : Nat → Nat → Nat} (F : FA q p u ad mu) {U : Nat} (hU : 0 < U) : ∀ c, evU U c = 0 → phi p u ad mu c = 0
  | [], _ => rfl
  | a :: c, h => by
    have h : a + U * evU U c = 0 := h
    have h2 : U * evU U c = 0 := by omega
    have h3 : evU U c = 0 := by
      rcases Nat.mul_eq_zero.mp h2 with h | h
      · omega
      · exact h
    show ad (a % p) (mu u (phi p u ad mu c)) = 0
    rw [show a = 0 by omega, phi_zero F hU c h3, Nat.zero_mod, F.mu0 _ F.uq, F.ad0 _ F.q0]
theorem hor_phi {q p u : Nat} {ad mu : Nat → Nat → Nat} (F : FA q p u ad mu) {U : Nat} (hU : 0 < U) : ∀ (R : Nat) (c : UP), (∀ z ∈ c, z < U) → evU U c < U ^ R → hor p u ad mu U R (evU U c) = phi p u ad mu c
  | 0, c, _, h => by
    rw [Nat.pow_zero] at h
    exact (phi_zero F hU c (by omega)).symm
  | R + 1, c, hc, h => by
    unfold hor
    by_cases hz : evU U c = 0
    · rw [if_pos hz, phi_zero F hU c hz]
    · rw [if_neg hz]
      cases c with
      | nil => exact absurd rfl hz
      | cons a c =>
        have ha : a < U := hc a (.head _)
        have e1 : evU U (a :: c) % U = a := by
          show (a + U * evU U c) % U = a
          rw [Nat.add_mul_mod_self_left, Nat.mod_eq_of_lt ha]
        have e2 : evU U (a :: c) / U = evU U c := by
          show (a + U * evU U c) / U = evU U c
          rw [Nat.add_mul_div_left _ _ hU, Nat.div_eq_of_lt ha, Nat.zero_add]
        rw [e1, e2, hor_phi F hU R c (fun z hz => hc z (.tail _ hz)) (by
          have h1 : evU U (a :: c) / U < U ^ R := Nat.div_lt_of_lt_mul (by rw [← Nat.pow_succ']; exact h)
          rwa [e2] at h1)]
        rfl
/-- the first n coefficients are 0 -/
def zerT (p u : Nat) (ad mu : Nat → Nat → Nat) (U R X : Nat) : Nat → Nat → Bool
  | 0, _ => true
  | n + 1, Z => decide (hor p u ad mu U R (Z % X) = 0) && zerT p u ad mu U R X n (Z / X)
theorem zer_iff {q p u : Nat} {ad mu : Nat → Nat → Nat} (F : FA q p u ad mu) {U R X : Nat} (hU : 0 < U) (hX : X ≤ U ^ R) : ∀ (n : Nat) (x : TP), (∀ t, evU U (x.getD t []) < X) → (∀ t, ∀ z ∈ x.getD t [], z < U) → (zerT p u ad mu U R X n (evT U X x) = true ↔ ∀ t, t < n → psi p u ad mu x t = 0)
  | 0, x, _, _ => ⟨fun _ t h => absurd h (Nat.not_lt_zero t), fun _ => rfl⟩
  | n + 1, x, h1, h2 => by
    obtain ⟨e1, e2⟩ := evT_div x h1
    have tl : ∀ t, x.tail.getD t [] = x.getD (t + 1) [] := fun t => by cases x <;> rfl
    have ih := zer_iff F hU hX n x.tail (fun t => by rw [tl]; exact h1 (t + 1)) (fun t => by rw [tl]; exact h2 (t + 1))
    show (decide (hor p u ad mu U R (evT U X x % X) = 0) && zerT p u ad mu U R X n (evT U X x / X)) = true ↔ _
    rw [Bool.and_eq_true, decide_eq_true_eq, e1, e2, ih, hor_phi F hU R _ (h2 0) (Nat.lt_of_lt_of_le (h1 0) hX)]
    constructor
    · intro ⟨a, b⟩ t ht
      cases t with
      | zero => exact a
      | succ t =>
        have := b t (by omega)
        unfold psi at this ⊢
        rwa [tl] at this
    · intro h
      refine ⟨h 0 (by omega), fun t ht => ?_⟩
      have := h (t + 1) (by omega)
      unfold psi at this ⊢
      rwa [tl]
end Own
/-! t.count(k) of a tuple of integers -/
namespace Own
open PySem PySem.Spec PyProof.Rows L2 Evl
section
variable {X : Cx}
def rCntTI (K : PySem.W.Frag) : V → List V → Hp → VK → Prop := fun x xs H Q => ∃ (p : Addr) (ns : List Int) (k : Int), x = .ref p ∧ xs = [.int k] ∧ SqT K H p (ns.map V.int) ∧ Q (.int (ns.count k : Nat)) H
theorem mt_tcount : MtR X "tuple.count" (rCntTI X.K) := by
  intro pins s σ H x xs v us Q I rx rxs h
  obtain ⟨p, ns, k, rfl, rfl, hs, q⟩ := h
  cases rx
  obtain ⟨u, rfl, ru⟩ := rxs.one
  obtain ⟨t, rfl⟩ := ru
  obtain ⟨its, rv, ⟨⟨cls, dd, data, sl⟩, ho, hc, n, hd⟩, hlen⟩ := I.tuple hs
  simp only at hc hd
  subst hc hd
  have hi := ints_of_vals rv
  refine call_meets PySem.F.slot_tuple_count ⟨_, ho, rfl⟩ PySem.F.entry_tuple_count (PySem.F.args_tuple_count_2 _ _)
    (SeqAt.tuple_countAt p its.toArray n dd sl (.int k t) (eqk k)) ⟨ho, fun y hy => (eqk_gives hi y (by simpa using hy)).at _ _, ?_⟩
  have ec : its.toArray.toList.countP (eqk k) = ns.count k := eqk_count hi
  refine ⟨.int (ns.count k : Nat), H, I.tok _, ⟨s.toks, ?_⟩, q⟩
  show Value.int ((its.toArray.toList.countP (eqk k) : Nat) : Int) s.toks = Value.int ((ns.count k : Nat) : Int) s.toks
  rw [ec]
end
section
variable {K : PySem.W.Frag} {σ : L2.St} {H : Hp} {ta tb : TE}
end
end Own
/-! own rules: expressions that are tuples, new or not; comprehensions with two fors -/
namespace Own
open PySem PySem.Spec PyProof.Rows L2 Evl
theorem pi_tupK {X : Cx} {K : PySem.W.Frag} {l tg : Expr} {tl : TE} (hK : X.K = K) (hl : PE X l tl) : PI X tg l (iTup K tl) := hK ▸ pi_tup hl
def RetTt (K : PySem.W.Frag) (xs : List V) (H : Hp) (Q : VK) : Prop := ∀ (p : Addr) H', Ex H H' → SqT K H' p xs → Q (.ref p) H'
theorem RetTt.go {K : PySem.W.Frag} {xs : List V} {H H1 : Hp} {Q : VK} (h : RetTt K xs H Q) (e : Ex H H1) : RetTt K xs H1 Q := fun p H2 e2 h2 => h p H2 (e.trans e2) h2
/-- a tuple, new or not -/
def EvTt (K : PySem.W.Frag) (te : TE) (σ : L2.St) (H : Hp) (xs : List V) : Prop := ∀ H1, Ex H H1 → ∀ Q : VK, RetTt K xs H1 Q → te σ H1 Q
section
variable {K : PySem.W.Frag} {σ : L2.St} {H H' : Hp} {t : TT} {te ta tb tc tl : TE} {x y v : V} {xs ys zs : List V} {D : Ends} {tu tz : TS} {P : Nat → Addr → Hp → Prop} {g : TG} {tA : TA}
theorem tt_var {a : Addr} (h : Ev te σ H (.ref a)) (hx : SqT K H a xs) : EvTt K te σ H xs := fun H1 e Q q => h H1 e _ fun H2 e2 => q a H2 e2 (ex_t (e.trans e2) hx)
theorem tt_new (h : EvU te σ H xs) : EvTt K te σ H xs := fun H1 e Q q => h H1 e _ fun p H2 np e2 h2 => q p H2 e2 (st_of h2)
theorem tt_is (h : EvTt K te σ H xs) (e : xs = ys) : EvTt K te σ H ys := e ▸ h
theorem cutV_whole {lo hi : Option Int} (h : HT.sIx xs.length 0 lo = 0 ∧ HT.sIx xs.length xs.length hi = xs.length) : cutV xs lo hi = xs := by
  unfold cutV
  rw [h.1, h.2, List.drop_zero, Nat.sub_zero, List.take_length]
theorem tt_sl {tl th : TO} {a : Addr} {lo hi : Option Int} (h : Ev te σ H (.ref a)) (hx : SqT K H a xs) (h1 : EvO tl σ H lo) (h2 : EvO th σ H hi) : EvTt K (tSl (rSlA K) te tl th) σ H (cutV xs lo hi) := fun H1 e Q q =>
  h H1 e _ fun H2 e2 => h1 H2 (e.trans e2) _ fun H3 e3 => h2 H3 ((e.trans e2).trans e3) _ fun H4 e4 =>
    ⟨a, xs, rfl, ex_t (((e.trans e2).trans e3).trans e4) hx, fun w => q a H4 ((e2.trans e3).trans e4) (by rw [cutV_whole w]; exact ex_t (((e.trans e2).trans e3).trans e4) hx), fun _ p np => q p _ (((e2.trans e3).trans e4).trans (Ex.new np)) (st_of upd_same)⟩
theorem el_listTt (h : EvTt K te σ H xs) : EvL (tCB (rLstQ K) (tCons te tNil)) σ H xs := fun H1 e Q q =>
  h H1 e _ fun p H2 e2 h2 => ⟨p, xs, rfl, .inr h2, fun l hl => q l _ (fresh_back e2 hl) (e2.trans (Ex.new hl)) upd_same⟩
theorem tt_cat (h : EvTt K ta σ H xs) (h2 : EvTt K tb σ H ys) (hl : xs.length + ys.length ≤ 100000) : EvTt K (tOp (rCatA K) ta tb) σ H (xs ++ ys) := fun H1 e Q q =>
  h H1 e _ fun p H2 e2 s2 => h2 H2 (e.trans e2) _ fun r H3 e3 s3 => catA_go (ex_t e3 s2) s3 hl fun a H4 e4 s4 => q a H4 ((e2.trans e3).trans e4) s4
theorem tt_call {sp : Sp} {vs : List V} {E : XK} (h : EvA tA σ H vs) (hs : ∀ H1, Ex H H1 → ∀ Q : VK, RetTt K xs H1 Q → ∀ E, sp vs H1 Q E) : EvTt K (tCall sp [] E tA) σ H xs := fun H1 e Q q =>
  h H1 e _ fun H2 e2 => by
    rw [List.append_nil]
    exact hs H2 (e.trans e2) Q (q.go e2) _
/-- f(x, y, tuple) -/
theorem tt_call2T {sp : Sp} {E : XK} (h1 : Ev ta σ H x) (h2 : Ev tb σ H y) (h : EvTt K te σ H zs) (hs : ∀ p H1, Ex H H1 → SqT K H1 p zs → ∀ Q : VK, RetTt K xs H1 Q → ∀ E, sp [x, y, .ref p] H1 Q E) : EvTt K (tCall sp [] E (tCons ta (tCons tb (tCons te tNil)))) σ H xs := fun H1 e Q q =>
  h1 H1 e _ fun H2 e2 => h2 H2 (e.trans e2) _ fun H3 e3 => h H3 ((e.trans e2).trans e3) _ fun p H4 e4 hp => hs p H4 (((e.trans e2).trans e3).trans e4) hp Q (q.go ((e2.trans e3).trans e4)) _
/-- f(tuple, y) -/
theorem tt_callT {sp : Sp} {E : XK} (h : EvTt K te σ H zs) (h2 : ∀ H1, Ex H H1 → Ev tb σ H1 y) (hs : ∀ p H1, Ex H H1 → SqT K H1 p zs → ∀ Q : VK, RetTt K xs H1 Q → ∀ E, sp [.ref p, y] H1 Q E) : EvTt K (tCall sp [] E (tCons te (tCons tb tNil))) σ H xs := fun H1 e Q q =>
  h H1 e _ fun p H2 e2 hp => h2 H2 (e.trans e2) H2 (Ex.refl H2) _ fun H3 e3 => hs p H3 ((e.trans e2).trans e3) (ex_t e3 hp) Q (q.go (e2.trans e3)) _
/-- f(new list) -/
theorem tt_call1L {sp : Sp} {E : XK} (h : EvL te σ H zs) (hs : ∀ p H1, Ex H H1 → H1 p = some (.lst zs) → ∀ Q : VK, RetTt K xs H1 Q → ∀ E, sp [.ref p] H1 Q E) : EvTt K (tCall sp [] E (tCons te tNil)) σ H xs := fun H1 e Q q =>
  h H1 e _ fun p H2 np e2 hp => hs p H2 (e.trans e2) hp Q (q.go e2) _
theorem s_retT (h : EvTt K te σ H xs) (k : RetTt K xs H fun v H => D.rt v H) : tRet te D σ H := h H (Ex.refl H) _ fun p H1 e1 h1 => k p H1 e1 h1
theorem s_asgT {i : Nat} (h : EvTt K te σ H xs) (k : ∀ p H1, Ex H H1 → SqT K H1 p xs → D.nx (σ.set i (some (.ref p))) H1) : tAsg te (gName i) D σ H := h H (Ex.refl H) _ fun p H1 e1 h1 => k p H1 e1 h1
theorem q_asgT {i : Nat} (h : EvTt K te σ H xs) (k : ∀ p H1, Ex H H1 → SqT K H1 p xs → tz D (σ.set i (some (.ref p))) H1) : tSeq (tAsg te (gName i)) tz D σ H := h H (Ex.refl H) _ fun p H1 e1 h1 => k p H1 e1 h1
end
theorem take_snocT {α : Type} {xs : List α} {i : Nat} {x : α} (h : xs[i]? = some x) : xs.take (i + 1) = xs.take i ++ [x] := by
  rw [List.take_add_one, h]
  rfl
theorem ite_tt {A B : Prop} (h : A) : (if true = true then A else B) := by rw [if_pos rfl]; exact h
/-- a walk, whatever is done at each turn -/
theorem wit {J : It} {n : Nat} {G : Hp → Prop} {Y : Nat → Hp → V → Hp → Prop} (w : Walk J n G Y) {B : V → Hp → (Hp → Prop) → Prop} {H0 : Hp} {Qd : Hp → Prop} (Pv : Nat → Hp → Prop) (h0 : Pv 0 H0) (hG : ∀ i H, i ≤ n → Pv i H → G H) (hs : ∀ i x H H', i < n → Pv i H → Y i H x H' → B x H' (Pv (i + 1))) (hd : ∀ H, Pv n H → Qd H) :
    ∃ W : Nat → Nat → Hp → Prop, (∃ m, W 0 m H0) ∧ ∀ i m H, W i m H → (J.stop i H ∧ Qd H) ∨ (J.go i H ∧ ∃ Nx : Hp → Prop, (∀ H', Nx H' → ∃ m', m' < m ∧ W (i + 1) m' H') ∧ ∀ x H', J.yld i H x H' → B x H' Nx) := by
  refine ⟨fun i m H => m = n - i ∧ i ≤ n ∧ Pv i H, ⟨n, by simp, Nat.zero_le _, h0⟩, ?_⟩
  rintro i m H ⟨rfl, hi, p⟩
  have q := hG i H hi p
  by_cases hlt : i < n
  · exact .inr ⟨w.goes i H hlt q, Pv (i + 1), fun H' p' => ⟨n - (i + 1), by omega, rfl, hlt, p'⟩, fun x H' y => hs i x H H' hlt p (w.yields i H x H' hlt q y)⟩
  · have e : i = n := by omega
    subst e
    exact .inl ⟨w.stops H q, hd H p⟩
end Own
/-! own rule: name = {k: v for ..} on one line, the name a local -/
namespace Own
open PySem PySem.Spec PyProof.Rows L2 Evl
section
variable {X : Cx}
theorem sw_trueD {kx vx : Expr} {gs : List Comprehension} {scope : Scope} {pos py : Pos} {y : Str} {l : Nat} {env : Env} (hk : env.scope.kind = .function) (hy : env.scope.names.lookup y = some .local) (hl : (py.line == pos.line) = true)
    (ha : (scope.names.any fun (n, k) => n == y && (k == .local || k == .cell)) = false) : swapsWith (.DictComp kx vx gs scope pos) (some (.Name y py)) l env = pure true := by
  have ky : env.kindOf y = some .local := hy
  have hb : env.blockKind = .function := by unfold Env.blockKind; rw [hk]; rfl
  unfold swapsWith
  simp only [hb, ky, ha, Expr.pos, hl]
  rfl
theorem ps_setDc {i : Nat} {y : Str} {py : Pos} {kx vx tg iter : Expr} {ifs : List Expr} {scope : Scope} {own : List (Str × Nat)} {pos spos : Pos} {wi : TI} {g : TG} {tt : TT} {tk tv : TE} (hc : X.calm = true) (hN : X.N.Nodup) (hy : X.N[i]? = some y) (hyl : X.env.scope.names.lookup y = some .local)
    (hsw : swapsWith (.DictComp kx vx [⟨tg, iter, ifs, 0⟩] scope pos) (some (.Name y py)) spos.line X.env = pure true) (hi : PI X tg iter wi) (ok : BlkOk X.N X.env.scope scope own)
    (hg : ∀ (s : Shared) (H : Hp) (C : Addr) (cl : List (Str × Addr)) (fp : List Addr), PG (X.blk s H scope (compEnvC scope cl C X.env) fp) tg g) (ht : ∀ (s : Shared) (H : Hp) (C : Addr) (cl : List (Str × Addr)) (fp : List Addr), PTs (X.blk s H scope (compEnvC scope cl C X.env) fp) ifs tt)
    (hk : ∀ (s : Shared) (H : Hp) (C : Addr) (cl : List (Str × Addr)) (fp : List Addr), PE (X.blk s H scope (compEnvC scope cl C X.env) fp) kx tk)
    (he : ∀ (s : Shared) (H : Hp) (C : Addr) (cl : List (Str × Addr)) (fp : List Addr), PE (X.blk s H scope (compEnvC scope cl C X.env) fp) vx tv) (hs : ∀ x, foldedSetIterable iter X.env x = pure x := by intro _; rfl) :
    PS X (.Assign [.Name y py] (.DictComp kx vx [⟨tg, iter, ifs, 0⟩] scope pos) spos) (tAsg (tDc wi g tt tk tv (own.map (·.2))) (gName i)) := by
  refine ⟨fun pins s σ H D I h => ?_⟩
  rw [exec_Assign_Name_used _ _ _ _ hsw]
  refine wpAny_bind (wpAny_standAt (wpAny_bind ?_))
  show wpAny _ X.A (do let _ ← comprehension (.DictComp kx vx [⟨tg, iter, ifs, 0⟩] scope pos) scope X.env (firstIterPos [⟨tg, iter, ifs, 0⟩] pos) newDict false (eval iter X.env) (some (assign (.Name y py) X.env))) _ _ s
  have h : tDc wi g tt tk tv (own.map (·.2)) σ H (fun x H1 => gName i x σ H1 D.nx) := h
  refine wpAny_bind (thn (dc_core (Qf := fun _ s' => SP X pins D .next s') hc hN I hi ok hg ht hk he hs h fun L C s' m H' I' q hn f => ?_) fun _ s' hq => wpAny_pure (wpAny_pure hq))
  show wpAny _ _ (assign (.Name y py) X.env (.ref L)) _ _ _
  refine wpAny_assign_Name (store_ok2 (v := V.ref L) I' hN hy (.inl hyl) rfl (fun s2 I2 ⟨a, sb, ha⟩ => ?_) (.inr hyl))
  obtain ⟨f0, f1, f2, f3, f4, f5⟩ := f
  have haC : C ≠ a := by
    rcases ha with z | z
    · rw [z]; exact f1
    · exact fun e => f4 y a z e.symm
  refine ⟨m, hn.sameBut sb haC, fun h3 sb3 => ?_⟩
  exact ⟨_, H', I2.turned (t' := s2.toks) (fun b o hb e => (sb3.2 b hb).trans e) f0 f1 f3 f4 f5, q⟩
end
end Own
/-! own rules: new tuples whose object is known to have no dict of its own (they are locked from the start), and t.count(k) of such a one -/
namespace Own
open PySem PySem.Spec PyProof.Rows L2 Evl
def TfAt (H : Hp) (p : Addr) (xs : List V) : Prop := ∃ o : Obj, o.dict = none ∧ H p = some (.frz o (.tup xs))
theorem TfAt.ex {H H' : Hp} {p : Addr} {xs : List V} (h : TfAt H p xs) (e : Ex H H') : TfAt H' p xs := ⟨h.choose, h.choose_spec.1, e _ _ h.choose_spec.2⟩
theorem TfAt.sq {K : PySem.W.Frag} {H : Hp} {p : Addr} {xs : List V} (h : TfAt H p xs) : SqT K H p xs := .inl (.inr ⟨h.choose, h.choose_spec.2⟩)
def tTupF (t : TA) : TE := fun σ H Q => t σ H fun xs H1 => xs.length ≤ sizeLine ∧ ∀ p o, H1 p = none → o.dict = none → Q (.ref p) (upd H1 p (.frz o (.tup xs)))
def rTupF (K : PySem.W.Frag) : List V → Hp → VK → Prop := fun xs H Q => ∃ p ys, xs = [.ref p] ∧ SqL K H p ys ∧ ∀ l o, H l = none → o.dict = none → Q (.ref l) (upd H l (.frz o (.tup ys)))
def rCatF (K : PySem.W.Frag) : R2 := fun x y H Q => ∃ a b xs ys, x = .ref a ∧ y = .ref b ∧ SqT K H a xs ∧ SqT K H b ys ∧ xs ≠ [] ∧ ys ≠ [] ∧ xs.length + ys.length ≤ sizeLine ∧ ∀ p o, H p = none → o.dict = none → Q (.ref p) (upd H p (.frz o (.tup (xs ++ ys))))
def rCntF : V → List V → Hp → VK → Prop := fun x xs H Q => ∃ (p : Addr) (ns : List Int) (k : Int), x = .ref p ∧ xs = [.int k] ∧ TfAt H p (ns.map V.int) ∧ Q (.int (ns.count k : Nat)) H
def tBMF (r : V → List V → Hp → VK → Prop) (to : TE) (t : TA) : TE := fun σ H Q => to σ H fun x H1 => (∃ p xs, x = .ref p ∧ TfAt H1 p xs) ∧ t σ H1 fun xs H2 => r x xs H2 Q
section
variable {X : Cx}
theorem pe_tupF {es : List Expr} {t : TA} {x1} {pos : Pos} (h : PA X es t) : PE X (.Tuple es x1 pos) (tTupF t) := by
  refine ⟨fun pins s σ H Q I hq => ?_⟩
  refine wpAny_Tuple_spliced (thn (h.run pos pins s σ H _ I hq) fun us s1 ⟨xs, H1, I1, r, z, q⟩ => ⟨by rw [← r.length]; exact z, ?_⟩)
  have hf : H1 s1.heap.objs.size = none := I1.hok.fresh (Nat.le_refl _)
  have hg := Heap.get?_push_size s1.heap (o := { cls := .type "tuple", data := .seq us.toArray }) rfl
  refine ⟨.ref s1.heap.objs.size, upd H1 s1.heap.objs.size (.frz { cls := .type "tuple", data := .seq us.toArray } (.tup xs)), I1.laid (t' := s1.toks) (fun b u e => Heap.get?_push_of_some _ e) (Nat.le_refl _) ?_, rfl, q _ _ hf rfl⟩
  exact ⟨hg, z, us, r, ⟨_, hg, rfl, _, rfl⟩⟩
theorem call_tuple_ofF : CallR X (.type "tuple") (rTupF X.K) := by
  intro pins s σ H xs us Q I r h
  obtain ⟨p, ys, rfl, hq, q⟩ := h
  obtain ⟨u, rfl, rx⟩ := vals1 r
  cases rx
  obtain ⟨its, r', pl, hz⟩ := I.list hq
  have hlen := r'.length
  refine call_tuple_list pl.isList (fun h' kp => ?_) (by simp only [List.size_toArray] <;> omega)
  have I1 : Inv X pins σ H { s with heap := h' } := I.kept (t' := s.toks) kp
  have hg := Heap.get?_push_size h' (o := { cls := .type "tuple", data := .seq its.toArray }) rfl
  have I2 : Inv X pins σ (upd H h'.objs.size (.frz { cls := .type "tuple", data := .seq its.toArray } (.tup ys))) { s with heap := h'.push { cls := .type "tuple", data := .seq its.toArray } } :=
    I1.laid (t' := s.toks) (fun b o e => Heap.get?_push_of_some _ e) (Nat.le_refl _) ⟨hg, hz, its, r', ⟨_, hg, rfl, _, rfl⟩⟩
  exact ⟨.ref h'.objs.size, _, I2, rfl, q _ _ (I1.hok.fresh (Nat.le_refl _)) rfl⟩
theorem op_catF : OpR X (binaryOp .Add) (rCatF X.K) := by
  intro pins s σ H x y v u Q I rx ry h
  obtain ⟨a, b, xs, ys, rfl, rfl, ha, hb, hx, hy, hz, q⟩ := h
  cases rx
  cases ry
  obtain ⟨its, r1, p1, _⟩ := I.tuple ha
  obtain ⟨its2, r2, p2, _⟩ := I.tuple hb
  refine HT.cat_tup p1 p2 (fun z => hx (r1.nil_iff.mp z)) (fun z => absurd (r2.nil_iff.mp z) hy) (fun z => ?_) (by rw [← r1.length, ← r2.length]; exact hz)
  have hg := Heap.get?_push_size s.heap (o := { cls := .type "tuple", data := .seq (its ++ its2).toArray }) rfl
  refine ⟨.ref s.heap.objs.size, _, I.laid (t' := s.toks) (o := .frz { cls := .type "tuple", data := .seq (its ++ its2).toArray } (.tup (xs ++ ys))) (fun b ob q => Heap.get?_push_of_some _ q) (Nat.le_refl _) ?_, rfl, q _ _ (I.hok.fresh (Nat.le_refl _)) rfl⟩
  exact ⟨hg, by rw [List.length_append]; exact hz, _, r1.append r2, ⟨_, hg, rfl, _, rfl⟩⟩
theorem op_catFK {K : PySem.W.Frag} (hK : X.K = K) : OpR X (binaryOp .Add) (rCatF K) := hK ▸ op_catF
/-- a + b: one of the two themselves where the other is empty -/
def rCatG (K : PySem.W.Frag) : R2 := fun x y H Q => ∃ a b xs ys, x = .ref a ∧ y = .ref b ∧ SqT K H a xs ∧ SqT K H b ys ∧ xs.length + ys.length ≤ sizeLine ∧
  (xs = [] → Q (.ref b) H) ∧ (xs ≠ [] → ys = [] → Q (.ref a) H) ∧ (xs ≠ [] → ys ≠ [] → ∀ p o, H p = none → o.dict = none → Q (.ref p) (upd H p (.frz o (.tup (xs ++ ys)))))
theorem op_catG : OpR X (binaryOp .Add) (rCatG X.K) := by
  intro pins s σ H x y v u Q I rx ry h
  obtain ⟨a, b, xs, ys, rfl, rfl, ha, hb, hz, q0, q1, q2⟩ := h
  by_cases hx : xs = []
  · subst hx
    cases rx
    cases ry
    obtain ⟨its, r1, p1, _⟩ := I.tuple ha
    obtain ⟨its2, r2, p2, _⟩ := I.tuple hb
    cases r1
    exact cat_tup0 p1 p2 ⟨.ref b, H, I, rfl, q0 rfl⟩
  · by_cases hy : ys = []
    · exact op_catT pins s σ H _ _ v u Q I rx ry ⟨a, b, xs, ys, rfl, rfl, ha, hb, hx, hz, q1 hx, fun n => absurd hy n⟩
    · exact op_catF pins s σ H _ _ v u Q I rx ry ⟨a, b, xs, ys, rfl, rfl, ha, hb, hx, hy, hz, q2 hx hy⟩
theorem op_catGK {K : PySem.W.Frag} (hK : X.K = K) : OpR X (binaryOp .Add) (rCatG K) := hK ▸ op_catG
theorem call_tuple_ofFK {K : PySem.W.Frag} (hK : X.K = K) : CallR X (.type "tuple") (rTupF K) := hK ▸ call_tuple_ofF
theorem mt_tcountF : MtR X "tuple.count" rCntF := by
  intro pins s σ H x xs v us Q I rx rxs h
  obtain ⟨p, ns, k, e1, e2, hs, q⟩ := h
  exact mt_tcount pins s σ H x xs v us Q I rx rxs ⟨p, ns, k, e1, e2, hs.sq, q⟩
theorem pe_bmF {o e : Expr} {es : List Expr} {to : TE} {t : TA} {name : Str} {apos cpos : Pos} {id : String} {r : V → List V → Hp → VK → Prop} (pa : PlainAttrs "tuple") (slot : Slot "tuple" name id) (hty : typeOf (.builtin id) = pure (.type "method_descriptor")) (hm : MtR X id r) (ho : PE X o to) (ha : PA X (e :: es) t)
    (hbase : attributeBase o name X.env (eval o X.env) = eval o X.env := by rfl)
    (hfew : ((backTo cpos (starEach (e :: es) X.env)).all (fun x => !x.1) && (backToKw cpos (keywordEach [] X.env)).all (fun x => x.1.isSome)
      && decide ((e :: es).length + ([] : List Keyword).length + (if ([] : List Keyword).isEmpty then 0 else 1) < 30)) = true := by rfl)
    (hline : (apos.endLine == cpos.line) = true := by rfl) (hs : starEach (e :: es) X.env = (false, eval e X.env) :: starEach es X.env := by rfl) (hplain : (backTo cpos (starEach es X.env)).any (·.1) = false := by rfl) :
    PE X (.Call (.Attribute o name apos) (e :: es) [] cpos) (tBMF r to t) := by
  refine ⟨fun pins s σ H Q I h => ?_⟩
  refine wpAny_Call_method_late hbase hfew hline rfl (thn (ho.run pins s σ H _ I h) fun v s1 ⟨x, H1, I1, r1, ty, q1⟩ => ?_)
  obtain ⟨p, xs, rfl, ob, hd, hp⟩ := ty
  cases r1
  obtain ⟨hg, hz, its, rr, ⟨ob2, hg2, hc, _⟩⟩ := I1.hok p _ hp
  rw [hg] at hg2
  cases hg2
  refine ⟨"tuple", id, pa, slot, hty, ⟨ob, hg, hc⟩, fun a e => by cases e; exact ⟨ob, hg, hd⟩, ?_⟩
  have hA := ha.run cpos pins s1 σ H1 _ I1 q1
  rw [hs] at hA ⊢
  refine Calls.callWith_builtin (by show (false || (backTo cpos (starEach es X.env)).any (·.1)) = false; rw [hplain] <;> rfl) (Calls.evalArgs_plain ?_)
  exact thn hA fun us s2 ⟨vs, H2, I2, r2, q2⟩ => hm pins s2 σ H2 (V.ref p) vs (.ref p) us Q I2 rfl r2 q2
end
def RetTf (xs : List V) (H : Hp) (Q : VK) : Prop := ∀ (p : Addr) H', Ex H H' → TfAt H' p xs → Q (.ref p) H'
theorem RetTf.go {xs : List V} {H H1 : Hp} {Q : VK} (h : RetTf xs H Q) (e : Ex H H1) : RetTf xs H1 Q := fun p H2 e2 h2 => h p H2 (e.trans e2) h2
def EvTf (te : TE) (σ : L2.St) (H : Hp) (xs : List V) : Prop := ∀ H1, Ex H H1 → ∀ Q : VK, RetTf xs H1 Q → te σ H1 Q
section
variable {K : PySem.W.Frag} {σ : L2.St} {H H' : Hp} {t : TT} {te ta tb tc tl : TE} {x y v : V} {xs ys zs : List V} {D : Ends} {tu tz : TS} {tA : TA}
theorem tf_tt (h : EvTf te σ H xs) : EvTt K te σ H xs := fun H1 e Q q => h H1 e Q fun p H2 e2 h2 => q p H2 e2 h2.sq
theorem tf_is (h : EvTf te σ H xs) (e : xs = ys) : EvTf te σ H ys := e ▸ h
theorem tf_new {H : Hp} {p : Addr} {o : Obj} {xs : List V} (hd : o.dict = none) : TfAt (upd H p (.frz o (.tup xs))) p xs := ⟨o, hd, upd_same⟩
theorem tf_tup {vs : List V} (h : EvA tA σ H vs) (hl : vs.length ≤ 100000) : EvTf (tTupF tA) σ H vs := fun H1 e Q q => h H1 e _ fun H2 e2 => ⟨sz_of hl, fun p o np hd => q p _ (e2.trans (Ex.new np)) (tf_new hd)⟩
theorem tf_tupleL {a : Addr} (h : Ev ta σ H (.ref a)) (hx : SqL K H a xs) : EvTf (tCB (rTupF K) (tCons ta tNil)) σ H xs := fun H1 e Q q =>
  h H1 e _ fun H2 e2 => ⟨a, xs, rfl, ex_l (e.trans e2) hx, fun l o nl hd => q l _ (e2.trans (Ex.new nl)) (tf_new hd)⟩
theorem tf_cat (h : EvTt K ta σ H xs) (h2 : EvTf tb σ H ys) (hy : ys ≠ []) (hl : xs.length + ys.length ≤ 100000) : EvTf (tOp (rCatG K) ta tb) σ H (xs ++ ys) := fun H1 e Q q =>
  h H1 e _ fun p H2 e2 s2 => h2 H2 (e.trans e2) _ fun r H3 e3 s3 => ⟨p, r, xs, ys, rfl, rfl, ex_t e3 s2, s3.sq, sz_of hl, fun z => q r H3 (e2.trans e3) (by rw [z]; exact s3), fun _ z => absurd z hy, fun _ _ l o nl hd => q l _ ((e2.trans e3).trans (Ex.new nl)) (tf_new hd)⟩
theorem tf_cat2 (h : EvTt K ta σ H xs) (h2 : EvTt K tb σ H ys) (hx : xs ≠ []) (hy : ys ≠ []) (hl : xs.length + ys.length ≤ 100000) : EvTf (tOp (rCatG K) ta tb) σ H (xs ++ ys) := fun H1 e Q q =>
  h H1 e _ fun p H2 e2 s2 => h2 H2 (e.trans e2) _ fun r H3 e3 s3 => ⟨p, r, xs, ys, rfl, rfl, ex_t e3 s2, s3, sz_of hl, fun z => absurd z hx, fun _ z => absurd z hy, fun _ _ l o nl hd => q l _ ((e2.trans e3).trans (Ex.new nl)) (tf_new hd)⟩
theorem ev_tcount {a : Addr} {ns : List Int} {k : Int} (h : Ev ta σ H (.ref a)) (hx : TfAt H a (ns.map V.int)) (hb : Ev tb σ H (.int k)) : Ev (tBMF rCntF ta (tCons tb tNil)) σ H (.int (ns.count k : Nat)) := fun H1 e Q q =>
  h H1 e _ fun H2 e2 => ⟨⟨a, _, rfl, hx.ex (e.trans e2)⟩, hb H2 (e.trans e2) _ fun H3 e3 => ⟨a, ns, k, rfl, rfl, hx.ex ((e.trans e2).trans e3), q H3 (e2.trans e3)⟩⟩
theorem tf_call {sp : Sp} {vs : List V} {E : XK} (h : EvA tA σ H vs) (hs : ∀ H1, Ex H H1 → ∀ Q : VK, RetTf xs H1 Q → ∀ E, sp vs H1 Q E) : EvTf (tCall sp [] E tA) σ H xs := fun H1 e Q q =>
  h H1 e _ fun H2 e2 => by
    rw [List.append_nil]
    exact hs H2 (e.trans e2) Q (q.go e2) _
theorem s_retF (h : EvTf te σ H xs) (k : RetTf xs H fun v H => D.rt v H) : tRet te D σ H := h H (Ex.refl H) _ fun p H1 e1 h1 => k p H1 e1 h1
theorem s_asgF {i : Nat} (h : EvTf te σ H xs) (k : ∀ p H1, Ex H H1 → TfAt H1 p xs → D.nx (σ.set i (some (.ref p))) H1) : tAsg te (gName i) D σ H := h H (Ex.refl H) _ fun p H1 e1 h1 => k p H1 e1 h1
theorem q_asgF {i : Nat} (h : EvTf te σ H xs) (k : ∀ p H1, Ex H H1 → TfAt H1 p xs → tz D (σ.set i (some (.ref p))) H1) : tSeq (tAsg te (gName i)) tz D σ H := h H (Ex.refl H) _ fun p H1 e1 h1 => k p H1 e1 h1
end
end Own
/-! own rules: new lists of new rows of numbers -/
namespace Own
open PySem PySem.Spec PyProof.Rows L2 Evl
def RetPs (K : PySem.W.Frag) (xss : List (List Nat)) (H : Hp) (Q : VK) : Prop := ∀ (p : Addr) (rs : List Addr) (H' : Hp), H p = none → Ex H H' → H' p = some (.lst (rs.map V.ref)) → Tps K H' rs xss → Q (.ref p) H'
theorem RetPs.go {K : PySem.W.Frag} {xss : List (List Nat)} {H H' : Hp} {Q : VK} (k : RetPs K xss H Q) (e : Ex H H') : RetPs K xss H' Q := fun p rs H2 np e2 h t => k p rs H2 (fresh_back e np) (e.trans e2) h t
section
variable {K : PySem.W.Frag} {σ : L2.St} {H H' : Hp} {ta tb tc te tl tn : TE} {t : TT} {D : Ends} {tu tz : TS} {P : Nat → Addr → Hp → Prop} {g : TG}
/-- a new list of new rows -/
def EvPs (K : PySem.W.Frag) (te : TE) (σ : L2.St) (H : Hp) (xss : List (List Nat)) : Prop := ∀ H1, Ex H H1 → ∀ Q : VK, RetPs K xss H1 Q → te σ H1 Q
theorem lr_lcPs {xss : List (List Nat)} {j : Nat} {vs : List Nat} (kp : Kp P) (h : EvPs K tl σ H xss) (hz : xss.length ≤ 40000) (hw : ∀ x, wipe ((wipe σ vs).set j (some x)) vs = wipe σ vs)
    (he : ∀ (i : Nat) (r : Addr) (xs : List Nat) H1, Ex H H1 → xss[i]? = some xs → SqT K H1 r (xs.map N_) → EvR te ((wipe σ vs).set j (some (.ref r))) H1 (P i)) : EvLR (tLc (iList K tl) (gName j) tYes te vs) σ H xss.length P := fun H0 e Q q => h H0 e _ fun a rs H1 na e1 h1 t1 => ⟨a, rfl, ⟨rs.map V.ref, sq_of h1⟩, fun Dl hD =>
  lc_list (xs := rs.map V.ref) (Cwr H1 P Dl) ⟨hD, Ex.new hD, [], rfl, upd_same, fun j r e => by simp at e⟩ (fun i H' _ p => sq_of (p.2.1 _ _ h1)) (fun i x H' hi p => ⟨hw x, by
      rw [List.getElem?_map] at hi
      obtain ⟨r, hr, rfl⟩ := Option.map_eq_some_iff.mp hi
      have hil : i < xss.length := by rw [← t1.1]; exact (List.getElem?_eq_some_iff.mp hr).1
      have hxi : xss[i]? = some xss[i] := List.getElem?_eq_getElem hil
      exact cwr_turn kp p (by omega) (he i r _ H1 (e.trans e1) hxi (t1.2 i r _ hr hxi))⟩)
    (fun H' p => by
      obtain ⟨p1, p2, rs2, p3, p4, p5⟩ := p
      rw [List.length_map, t1.1] at p3
      exact q Dl rs2 H' (fresh_back e1 p1) (e1.trans p2) p4 p3 p5)⟩
theorem s_forPs {xss : List (List Nat)} {j : Nat} (h : EvPs K tl σ H xss) (Pv : Addr → List Addr → Nat → L2.St → Hp → Prop) (h0 : ∀ p rs H1, H p = none → Ex H H1 → H1 p = some (.lst (rs.map V.ref)) → Tps K H1 rs xss → Pv p rs 0 σ H1) (hl : ∀ p rs i σ' H', i ≤ xss.length → Pv p rs i σ' H' → SqL K H' p (rs.map V.ref) ∧ Tps K H' rs xss)
    (hs : ∀ p rs i r xs σ' H', xss[i]? = some xs → SqT K H' r (xs.map N_) → Pv p rs i σ' H' → tu { D with nx := Pv p rs (i + 1), ct := Pv p rs (i + 1), bk := D.nx } (σ'.set j (some (.ref r))) H') (hd : ∀ p rs σ' H', Pv p rs xss.length σ' H' → D.nx σ' H') : tFor (iList K tl) (gName j) tu D σ H :=
  h H (Ex.refl H) _ fun p rs H1 hp e h1 t1 => ⟨p, rfl, ⟨rs.map V.ref, sq_of h1⟩, for_list (xs := rs.map V.ref) (Pv p rs) (h0 p rs H1 hp e h1 t1) (fun i σ' H' hi w => (hl p rs i σ' H' (by rw [List.length_map, t1.1] at hi; exact hi) w).1) (fun i x σ' H' hx w => by
    rw [List.getElem?_map] at hx
    obtain ⟨r, hr, rfl⟩ := Option.map_eq_some_iff.mp hx
    have hil : i < xss.length := by rw [← t1.1]; exact (List.getElem?_eq_some_iff.mp hr).1
    have hxi : xss[i]? = some xss[i] := List.getElem?_eq_getElem hil
    exact hs p rs i r _ σ' H' hxi ((hl p rs i σ' H' (Nat.le_of_lt hil) w).2.2 i r _ hr hxi) w) (fun σ' H' w => by
    rw [List.length_map, t1.1] at w
    exact hd p rs σ' H' w)⟩
theorem q_forPs {xss : List (List Nat)} {j : Nat} (h : EvPs K tl σ H xss) (Pv : Addr → List Addr → Nat → L2.St → Hp → Prop) (h0 : ∀ p rs H1, H p = none → Ex H H1 → H1 p = some (.lst (rs.map V.ref)) → Tps K H1 rs xss → Pv p rs 0 σ H1) (hl : ∀ p rs i σ' H', i ≤ xss.length → Pv p rs i σ' H' → SqL K H' p (rs.map V.ref) ∧ Tps K H' rs xss)
    (hs : ∀ p rs i r xs σ' H', xss[i]? = some xs → SqT K H' r (xs.map N_) → Pv p rs i σ' H' → tu { D with nx := Pv p rs (i + 1), ct := Pv p rs (i + 1), bk := tz D } (σ'.set j (some (.ref r))) H') (hd : ∀ p rs σ' H', Pv p rs xss.length σ' H' → tz D σ' H') : tSeq (tFor (iList K tl) (gName j) tu) tz D σ H :=
  s_forPs (D := { D with nx := tz D }) h Pv h0 hl hs hd
theorem ep_call {sp : Sp} {vs : List V} {xss : List (List Nat)} {E : XK} {ta : TA} (h : EvA ta σ H vs) (hs : ∀ H1, Ex H H1 → ∀ Q : VK, RetPs K xss H1 Q → ∀ E, sp vs H1 Q E) : EvPs K (tCall sp [] E ta) σ H xss := fun H1 e Q q =>
  h H1 e _ fun H2 e2 => by
    rw [List.append_nil]
    exact hs H2 (e.trans e2) Q (q.go e2) _

/-- for a, b in new list of new pairs -/
theorem q_forPp {prs : List (List Nat)} {i1 i2 : Nat} (h : EvPs K tl σ H prs) (h2 : ∀ x ∈ prs, x.length = 2) (Pv : Addr → List Addr → Nat → L2.St → Hp → Prop) (h0 : ∀ p rs H1, H p = none → Ex H H1 → H1 p = some (.lst (rs.map V.ref)) → Tps K H1 rs prs → Pv p rs 0 σ H1) (hl : ∀ p rs i σ' H', i ≤ prs.length → Pv p rs i σ' H' → SqL K H' p (rs.map V.ref) ∧ Tps K H' rs prs)
    (hs : ∀ p rs i x σ' H', prs[i]? = some x → Pv p rs i σ' H' → tu { D with nx := Pv p rs (i + 1), ct := Pv p rs (i + 1), bk := tz D } ((σ'.set i1 (some (N_ (x.getD 0 0)))).set i2 (some (N_ (x.getD 1 0)))) H') (hd : ∀ p rs σ' H', Pv p rs prs.length σ' H' → tz D σ' H') : tSeq (tFor (iList K tl) (gTup K 2 (gCons (gName i1) (gCons (gName i2) gNil))) tu) tz D σ H :=
  h H (Ex.refl H) _ fun p rs H1 hp e h1 t1 => ⟨p, rfl, ⟨rs.map V.ref, sq_of h1⟩, for_list (xs := rs.map V.ref) (D := { D with nx := tz D }) (Pv p rs) (h0 p rs H1 hp e h1 t1) (fun i σ' H' hi w => (hl p rs i σ' H' (by rw [List.length_map, t1.1] at hi; exact hi) w).1) (fun i x σ' H' hx w => by
    rw [List.getElem?_map] at hx
    obtain ⟨r, hr, rfl⟩ := Option.map_eq_some_iff.mp hx
    have hil : i < prs.length := by rw [← t1.1]; exact (List.getElem?_eq_some_iff.mp hr).1
    have hxi : prs[i]? = some prs[i] := List.getElem?_eq_getElem hil
    have hs2 := (hl p rs i σ' H' (Nat.le_of_lt hil) w).2.2 i r _ hr hxi
    have hlen := h2 _ (List.getElem_mem hil)
    have hm := hs p rs i _ σ' H' hxi w
    generalize prs[i] = x at *
    match x, hlen with
    | [u, v], _ => exact ⟨r, [N_ u, N_ v], rfl, hs2, rfl, N_ u, [N_ v], rfl, N_ v, [], rfl, rfl, hm⟩) (fun σ' H' w => by
    rw [List.length_map, t1.1] at w
    exact hd p rs σ' H' w)⟩
/-- xs = xs + [new rows] -/
theorem s_catR {i : Nat} {l : Addr} {xs : List V} {n : Nat} (hl : H l = some (.lst xs)) (ha : Ev ta σ H (.ref l)) (h : EvLR te σ H n P) (hz : xs.length + n ≤ 100000) (k : ∀ (p : Addr) (rs : List Addr) H1, H1 p = none → Ex H H1 → rs.length = n → (∀ (j : Nat) (r : Addr), rs[j]? = some r → P j r H1) → D.nx (σ.set i (some (.ref p))) (upd H1 p (.lst (xs ++ rs.map V.ref)))) : tAsg (tOp rCat ta te) (gName i) D σ H := ha H (Ex.refl H) _ fun H1 e1 =>
  h H1 e1 _ fun p rs H2 hp e2 h2 hn hP => ⟨l, p, xs, rs.map V.ref, rfl, rfl, e2 l _ (e1 l _ hl), h2, sz_of (by rw [List.length_map]; omega), fun z hz => k z rs H2 hz (e1.trans e2) hn hP⟩
theorem q_catR {i : Nat} {l : Addr} {xs : List V} {n : Nat} (hl : H l = some (.lst xs)) (ha : Ev ta σ H (.ref l)) (h : EvLR te σ H n P) (hz : xs.length + n ≤ 100000) (k : ∀ (p : Addr) (rs : List Addr) H1, H1 p = none → Ex H H1 → rs.length = n → (∀ (j : Nat) (r : Addr), rs[j]? = some r → P j r H1) → tz D (σ.set i (some (.ref p))) (upd H1 p (.lst (xs ++ rs.map V.ref)))) : tSeq (tAsg (tOp rCat ta te) (gName i)) tz D σ H := s_catR (D := { D with nx := tz D }) hl ha h hz k
end
end Own
/-! rows of coefficients as a ring: sums, products (core Lean alone) -/
namespace Po
local instance (priority := 50) instNatC {F : Type} [Lean.Grind.Semiring F] : NatCast F := Lean.Grind.Semiring.natCast
local instance (priority := 50) instIntC {F : Type} [Lean.Grind.Ring F] : IntCast F := Lean.Grind.Ring.intCast
open Lean.Grind
def PS (F : Type) := Nat → F
section
variable {F : Type} [CommRing F]
def tl (a : PS F) : PS F := fun i => a (i + 1)
def cs (x : F) : PS F := fun i => match i with
  | 0 => x
  | _ + 1 => 0
def ad (a b : PS F) : PS F := fun i => a i + b i
def ng (a : PS F) : PS F := fun i => -a i
def zr : PS F := fun _ => 0
def sl (x : F) (a : PS F) : PS F := fun i => x * a i
def cv (a b : PS F) : Nat → F
  | 0 => a 0 * b 0
  | n + 1 => a 0 * b (n + 1) + cv (tl a) b n
def ml (a b : PS F) : PS F := cv a b
theorem cv_addL (n : Nat) : ∀ a a' b : PS F, cv (ad a a') b n = cv a b n + cv a' b n := by
  induction n with
  | zero => intro a a' b; show (a 0 + a' 0) * b 0 = a 0 * b 0 + a' 0 * b 0; grind
  | succ n ih =>
    intro a a' b
    have h := ih (tl a) (tl a') b
    show (a 0 + a' 0) * b (n + 1) + cv (ad (tl a) (tl a')) b n = (a 0 * b (n + 1) + cv (tl a) b n) + (a' 0 * b (n + 1) + cv (tl a') b n)
    rw [h]; grind
theorem cv_addR (n : Nat) : ∀ a b b' : PS F, cv a (ad b b') n = cv a b n + cv a b' n := by
  induction n with
  | zero => intro a b b'; show a 0 * (b 0 + b' 0) = a 0 * b 0 + a 0 * b' 0; grind
  | succ n ih =>
    intro a b b'
    have h := ih (tl a) b b'
    show a 0 * (b (n + 1) + b' (n + 1)) + cv (tl a) (ad b b') n = (a 0 * b (n + 1) + cv (tl a) b n) + (a 0 * b' (n + 1) + cv (tl a) b' n)
    rw [h]; grind
theorem cv_slL (n : Nat) : ∀ (x : F) (a b : PS F), cv (sl x a) b n = x * cv a b n := by
  induction n with
  | zero => intro x a b; show (x * a 0) * b 0 = x * (a 0 * b 0); grind
  | succ n ih =>
    intro x a b
    have h := ih x (tl a) b
    show (x * a 0) * b (n + 1) + cv (sl x (tl a)) b n = x * (a 0 * b (n + 1) + cv (tl a) b n)
    rw [h]; grind
theorem cv_zrL (n : Nat) : ∀ (a b : PS F), (∀ i, a i = 0) → cv a b n = 0 := by
  induction n with
  | zero => intro a b h; show a 0 * b 0 = 0; rw [h 0]; grind
  | succ n ih =>
    intro a b h
    have h2 := ih (tl a) b fun i => h (i + 1)
    show a 0 * b (n + 1) + cv (tl a) b n = 0
    rw [h2, h 0]; grind
theorem cv_snd (n : Nat) : ∀ (a b : PS F), cv a b (n + 1) = cv a (tl b) n + a (n + 1) * b 0 := by
  induction n with
  | zero => intro a b; rfl
  | succ n ih =>
    intro a b
    have h := ih (tl a) b
    show a 0 * b (n + 1 + 1) + cv (tl a) b (n + 1) = (a 0 * b (n + 1 + 1) + cv (tl a) (tl b) n) + a (n + 1 + 1) * b 0
    rw [h]
    show a 0 * b (n + 1 + 1) + (cv (tl a) (tl b) n + a (n + 1 + 1) * b 0) = _
    grind
theorem cv_comm (n : Nat) : ∀ (a b : PS F), cv a b n = cv b a n := by
  induction n with
  | zero => intro a b; show a 0 * b 0 = b 0 * a 0; grind
  | succ n ih =>
    intro a b
    rw [cv_snd n b a, ← ih (tl a) b]
    show a 0 * b (n + 1) + cv (tl a) b n = _
    grind
theorem tl_ml (a b : PS F) : tl (ml a b) = ad (sl (a 0) (tl b)) (ml (tl a) b) := rfl
theorem cv_assoc (n : Nat) : ∀ (a b c : PS F), cv (ml a b) c n = cv a (ml b c) n := by
  induction n with
  | zero => intro a b c; show (a 0 * b 0) * c 0 = a 0 * (b 0 * c 0); grind
  | succ n ih =>
    intro a b c
    have h := ih (tl a) b c
    show (a 0 * b 0) * c (n + 1) + cv (tl (ml a b)) c n = a 0 * (b 0 * c (n + 1) + cv (tl b) c n) + cv (tl a) (ml b c) n
    rw [tl_ml, cv_addL, cv_slL, h]; grind
theorem cv_one (n : Nat) (b : PS F) : cv (cs 1) b n = b n := by
  cases n with
  | zero => show 1 * b 0 = b 0; grind
  | succ n =>
    show 1 * b (n + 1) + cv (tl (cs 1)) b n = b (n + 1)
    rw [cv_zrL n (tl (cs 1)) b (fun i => rfl)]; grind
def pw (a : PS F) : Nat → PS F
  | 0 => cs 1
  | n + 1 => ml (pw a n) a
theorem cs_zero : (cs 0 : PS F) = zr := by
  funext i
  cases i <;> rfl
theorem ml_comm (a b : PS F) : ml a b = ml b a := funext fun n => cv_comm n a b
theorem ml_assoc (a b c : PS F) : ml (ml a b) c = ml a (ml b c) := funext fun n => cv_assoc n a b c
theorem ml_one (a : PS F) : ml (cs 1) a = a := funext fun n => cv_one n a
theorem cs_add (x y : F) : cs (x + y) = ad (cs x) (cs y) := by
  funext i
  cases i with
  | zero => rfl
  | succ i => show (0 : F) = 0 + 0; grind
theorem cs_neg (x : F) : cs (-x) = ng (cs x) := by
  funext i
  cases i with
  | zero => rfl
  | succ i => show (0 : F) = -0; grind
instance instRing : CommRing (PS F) where
  add := ad
  mul := ml
  neg := ng
  sub a b := ad a (ng b)
  natCast := ⟨fun n => cs (n : F)⟩
  ofNat n := ⟨cs (OfNat.ofNat n)⟩
  nsmul := ⟨fun n a => ml (cs (n : F)) a⟩
  npow := ⟨fun a n => pw a n⟩
  intCast := ⟨fun n => cs (n : F)⟩
  zsmul := ⟨fun n a => ml (cs (n : F)) a⟩
  add_zero a := by
    funext i
    show a i + cs 0 i = a i
    rw [cs_zero]
    show a i + 0 = a i
    grind
  add_comm a b := by funext i; show a i + b i = b i + a i; grind
  add_assoc a b c := by funext i; show a i + b i + c i = a i + (b i + c i); grind
  mul_assoc := ml_assoc
  mul_one a := by show ml a (cs 1) = a; rw [ml_comm, ml_one]
  one_mul a := ml_one a
  left_distrib a b c := funext fun n => cv_addR n a b c
  right_distrib a b c := funext fun n => cv_addL n a b c
  zero_mul a := by funext n; show cv (cs 0) a n = cs 0 n; rw [cs_zero]; exact cv_zrL n zr a fun _ => rfl
  mul_zero a := by
    show ml a (cs 0) = cs 0
    rw [ml_comm, cs_zero]
    funext n
    exact cv_zrL n zr a fun _ => rfl
  pow_zero a := rfl
  pow_succ a n := rfl
  ofNat_succ n := by
    show cs (OfNat.ofNat (n + 1)) = ad (cs (OfNat.ofNat n)) (cs 1)
    rw [Semiring.ofNat_succ n, cs_add]
  ofNat_eq_natCast n := by
    show cs (OfNat.ofNat n) = cs (n : F)
    rw [Semiring.ofNat_eq_natCast n]
  nsmul_eq_natCast_mul n a := rfl
  neg_add_cancel a := by
    funext i
    show -a i + a i = cs 0 i
    rw [cs_zero]
    show -a i + a i = 0
    grind
  sub_eq_add_neg a b := rfl
  neg_zsmul i a := by
    show ml (cs ((-i : Int) : F)) a = ng (ml (cs (i : F)) a)
    rw [Ring.intCast_neg, cs_neg]
    funext n
    show cv (ng (cs (i : F))) a n = -cv (cs (i : F)) a n
    have h := cv_addL n (ng (cs (i : F))) (cs (i : F)) a
    have h2 : cv (ad (ng (cs (i : F))) (cs (i : F))) a n = 0 := cv_zrL n _ a fun j => by show -(cs (i : F)) j + (cs (i : F)) j = 0; grind
    rw [h2] at h
    grind
  zsmul_natCast_eq_nsmul n a := by
    show ml (cs (((n : Nat) : Int) : F)) a = ml (cs (n : F)) a
    rw [Ring.intCast_natCast]
  intCast_ofNat n := by
    show cs (((OfNat.ofNat n : Int)) : F) = cs (OfNat.ofNat n)
    rw [Ring.intCast_ofNat]
  intCast_neg i := by
    show cs (((-i : Int)) : F) = ng (cs (i : F))
    rw [Ring.intCast_neg, cs_neg]
  mul_comm := ml_comm
theorem at_add (a b : PS F) (i : Nat) : (a + b) i = a i + b i := rfl
theorem at_zero (i : Nat) : (0 : PS F) i = 0 := by
  show cs 0 i = 0
  rw [cs_zero]
  rfl
theorem at_neg (a : PS F) (i : Nat) : (-a) i = -a i := rfl
theorem at_sub (a b : PS F) (i : Nat) : (a - b) i = a i - b i := by
  show a i + -b i = a i - b i
  grind
theorem at_mul (a b : PS F) (i : Nat) : (a * b) i = cv a b i := rfl
theorem ext {a b : PS F} (h : ∀ i, a i = b i) : a = b := funext h
/-- x times a power of T -/
def mn (x : F) : Nat → PS F
  | 0 => cs x
  | n + 1 => fun i => match i with
    | 0 => 0
    | i + 1 => mn x n i
theorem mn_at (x : F) : ∀ n i, mn x n i = if i = n then x else 0
  | 0, 0 => rfl
  | 0, i + 1 => by show (0 : F) = _; rw [if_neg (by omega)]
  | n + 1, 0 => by show (0 : F) = _; rw [if_neg (by omega)]
  | n + 1, i + 1 => by
    show mn x n i = _
    rw [mn_at x n i]
    by_cases h : i = n
    · rw [if_pos h, if_pos (by omega)]
    · rw [if_neg h, if_neg (by omega)]
theorem mn_mul (x : F) (a : PS F) : ∀ n i, (mn x n * a) i = if i < n then 0 else x * a (i - n)
  | 0, i => by
    show cv (cs x) a i = if i < 0 then 0 else x * a i
    rw [if_neg (Nat.not_lt_zero i)]
    cases i with
    | zero => rfl
    | succ i =>
      show x * a (i + 1) + cv (tl (cs x)) a i = x * a (i + 1)
      rw [cv_zrL i (tl (cs x)) a (fun _ => rfl)]; grind
  | n + 1, 0 => by
    show (0 : F) * a 0 = _
    rw [if_pos (Nat.succ_pos n)]; grind
  | n + 1, i + 1 => by
    have h := mn_mul x a n i
    show (0 : F) * a (i + 1) + cv (mn x n) a i = _
    have h : cv (mn x n) a i = _ := h
    rw [h]
    by_cases hi : i < n
    · rw [if_pos hi, if_pos (by omega)]; grind
    · rw [if_neg hi, if_neg (by omega), show i + 1 - (n + 1) = i - n by omega]; grind
/-- nothing from n on -/
def Bd (a : PS F) (n : Nat) : Prop := ∀ i, n ≤ i → a i = 0
theorem Bd.add {a b : PS F} {n : Nat} (h : Bd a n) (h2 : Bd b n) : Bd (a + b) n := fun i hi => by rw [at_add, h i hi, h2 i hi]; grind
theorem Bd.neg {a : PS F} {n : Nat} (h : Bd a n) : Bd (-a) n := fun i hi => by rw [at_neg, h i hi]; grind
theorem Bd.sub {a b : PS F} {n : Nat} (h : Bd a n) (h2 : Bd b n) : Bd (a - b) n := fun i hi => by rw [at_sub, h i hi, h2 i hi]; grind
theorem Bd.le {a : PS F} {m n : Nat} (h : Bd a m) (e : m ≤ n) : Bd a n := fun i hi => h i (by omega)
/-- the top of a product -/
theorem cv_top : ∀ (m : Nat) (a b : PS F) (n : Nat), Bd a (m + 1) → Bd b (n + 1) → cv a b (m + n) = a m * b n ∧ ∀ i, m + n < i → cv a b i = 0
  | 0, a, b, n, ha, hb => by
    have hz : ∀ i, cv (tl a) b i = 0 := fun i => cv_zrL i (tl a) b fun j => ha (j + 1) (by omega)
    refine ⟨?_, fun i hi => ?_⟩
    · rw [Nat.zero_add]
      cases n with
      | zero => rfl
      | succ n => show a 0 * b (n + 1) + cv (tl a) b n = _; rw [hz]; grind
    · cases i with
      | zero => omega
      | succ i => show a 0 * b (i + 1) + cv (tl a) b i = 0; rw [hz, hb (i + 1) (by omega)]; grind
  | m + 1, a, b, n, ha, hb => by
    obtain ⟨h1, h2⟩ := cv_top m (tl a) b n (fun i hi => ha (i + 1) (by omega)) hb
    refine ⟨?_, fun i hi => ?_⟩
    · rw [show m + 1 + n = (m + n) + 1 by omega]
      show a 0 * b (m + n + 1) + cv (tl a) b (m + n) = a (m + 1) * b n
      rw [h1, hb (m + n + 1) (by omega)]
      show _ + a (m + 1) * b n = _
      grind
    · cases i with
      | zero => omega
      | succ i => show a 0 * b (i + 1) + cv (tl a) b i = 0; rw [h2 i (by omega), hb (i + 1) (by omega)]; grind
theorem Bd.mul {a b : PS F} {m n : Nat} (h : Bd a (m + 1)) (h2 : Bd b (n + 1)) : Bd (a * b) (m + n + 1) := fun i hi => (cv_top m a b n h h2).2 i (by omega)
/-- no divisors of zero -/
def Dom (F : Type) [CommRing F] : Prop := ∀ a b : F, a * b = 0 → a = 0 ∨ b = 0
theorem cancel0 (D : Dom F) {b : PS F} : ∀ (m : Nat) (z b : PS F), (∀ i, i < m → b i = 0) → b m ≠ 0 → (∀ n, cv z b n = 0) → ∀ i, z i = 0
  | 0, z, b, _, hb, h, i => by
    have h0 : z 0 = 0 := (D _ _ (h 0)).resolve_right hb
    cases i with
    | zero => exact h0
    | succ i =>
      have h1 : ∀ n, cv (tl z) b n = 0 := fun n => by
        have := h (n + 1)
        have e : cv z b (n + 1) = z 0 * b (n + 1) + cv (tl z) b n := rfl
        rw [e, h0] at this
        grind
      exact cancel0 D (b := b) 0 (tl z) b (fun j hj => absurd hj (Nat.not_lt_zero j)) hb h1 i
  | m + 1, z, b, hl, hb, h, i => by
    have h1 : ∀ n, cv z (tl b) n = 0 := fun n => by
      have := h (n + 1)
      rw [cv_snd, hl 0 (Nat.succ_pos m)] at this
      grind
    exact cancel0 D (b := b) m z (tl b) (fun j hj => hl (j + 1) (by omega)) hb h1 i
theorem least_ne {b : PS F} {n : Nat} (h : b n ≠ 0) : ∃ m, (∀ i, i < m → b i = 0) ∧ b m ≠ 0 := by
  induction n using Nat.strongRecOn with
  | _ n ih =>
    by_cases hz : ∀ i, i < n → b i = 0
    · exact ⟨n, hz, h⟩
    · obtain ⟨i, hi⟩ := Classical.not_forall.mp hz
      obtain ⟨hi, hb⟩ := Classical.not_imp.mp hi
      exact ih i hi hb
theorem cancel (D : Dom F) {x y b : PS F} {n : Nat} (hb : b n ≠ 0) (h : x * b = y * b) : x = y := by
  obtain ⟨m, h1, h2⟩ := least_ne hb
  have hz : (x - y) * b = 0 := by grind
  have := cancel0 D (b := b) m (x - y) b h1 h2 fun n => by
    have e : ((x - y) * b) n = (0 : PS F) n := congrFun hz n
    rw [at_zero] at e
    exact e
  refine ext fun i => ?_
  have := this i
  rw [at_sub] at this
  grind
/-- what a row with a top divides, and has a lesser degree, is nothing -/
theorem small_zero (D : Dom F) {a k : PS F} {m n : Nat} (ha : Bd a (m + 1)) (hm : a m ≠ 0) (hk : Bd k n) (h : Bd (a * k) m) : a * k = 0 := by
  induction n with
  | zero =>
    have : k = 0 := ext fun i => by rw [at_zero]; exact hk i (Nat.zero_le i)
    rw [this]; grind
  | succ n ih =>
    have h0 : k n = 0 := by
      have h1 := (cv_top m a k n ha hk).1
      have h2 : cv a k (m + n) = 0 := h (m + n) (by omega)
      rw [h2] at h1
      exact ((D _ _ h1.symm).resolve_left hm)
    exact ih fun i hi => by
      by_cases e : i = n
      · rw [e]; exact h0
      · exact hk i (by omega)
end
end Po
namespace Own
open PySem PySem.Spec PyProof.Rows L2 Evl

theorem sc_digit_row : FnScope ["b", "k", "row", "left"] ["b", "k"] (defScope s_digit_row) := ⟨rfl, rfl, rfl, by decide +kernel, rfl, by decide +kernel, by decide +kernel⟩
theorem sc_is_integer : FnScope ["value"] ["value"] (defScope s_is_integer) := ⟨rfl, rfl, rfl, by decide +kernel, rfl, by decide +kernel, by decide +kernel⟩
theorem sc_is_from : FnScope ["value", "low"] ["value", "low"] (defScope s_is_from) := ⟨rfl, rfl, rfl, by decide +kernel, rfl, by decide +kernel, by decide +kernel⟩
theorem sc_check_from : FnScope ["value", "low"] ["value", "low"] (defScope s_check_from) := ⟨rfl, rfl, rfl, by decide +kernel, rfl, by decide +kernel, by decide +kernel⟩
theorem sc_whole_power : FnScope ["base", "exponent", "made", "_"] ["base", "exponent"] (defScope s_whole_power) := ⟨rfl, rfl, rfl, by decide +kernel, rfl, by decide +kernel, by decide +kernel⟩
theorem sc_is_field : FnScope ["value"] ["value"] (defScope s_is_field) := ⟨rfl, rfl, rfl, by decide +kernel, rfl, by decide +kernel, by decide +kernel⟩
theorem sc_check_field : FnScope ["q"] ["q"] (defScope s_check_field) := ⟨rfl, rfl, rfl, by decide +kernel, rfl, by decide +kernel, by decide +kernel⟩
theorem sc_trimmed : FnScope ["row", "end"] ["row"] (defScope s_trimmed) := ⟨rfl, rfl, rfl, by decide +kernel, rfl, by decide +kernel, by decide +kernel⟩
theorem sc_row_sum : FnScope ["q", "a", "b", "sums", "shared", "x", "y"] ["q", "a", "b"] (defScope s_row_sum) := ⟨rfl, rfl, rfl, by decide +kernel, rfl, by decide +kernel, by decide +kernel⟩
theorem sc_row_opposite : FnScope ["q", "a", "opposites", "x"] ["q", "a"] (defScope s_row_opposite) := ⟨rfl, rfl, rfl, by decide +kernel, rfl, by decide +kernel, by decide +kernel⟩
theorem sc_row_less : FnScope ["q", "a", "b"] ["q", "a", "b"] (defScope s_row_less) := ⟨rfl, rfl, rfl, by decide +kernel, rfl, by decide +kernel, by decide +kernel⟩
theorem sc_terms_quotient : FnScope ["q", "high", "low", "a", "sums", "gap", "found", "_", "x"] ["q", "high", "low", "a"] (defScope s_terms_quotient) := ⟨rfl, rfl, rfl, by decide +kernel, rfl, by decide +kernel, by decide +kernel⟩
theorem sc_bracket_terms : FnScope ["q", "i", "times", "p", "size", "pairs", "worth", "digit", "_"] ["q", "i", "times"] (defScope s_bracket_terms) := ⟨rfl, rfl, rfl, by decide +kernel, rfl, by decide +kernel, by decide +kernel⟩
theorem sc_times_bracket : FnScope ["q", "i", "times", "a", "made", "high", "low"] ["q", "i", "times", "a"] (defScope s_times_bracket) := ⟨rfl, rfl, rfl, by decide +kernel, rfl, by decide +kernel, by decide +kernel⟩
theorem sc_over_bracket : FnScope ["q", "i", "times", "a", "made", "high", "low"] ["q", "i", "times", "a"] (defScope s_over_bracket) := ⟨rfl, rfl, rfl, by decide +kernel, rfl, by decide +kernel, by decide +kernel⟩
theorem sc_times_brackets : FnScope ["q", "exponents", "a", "made", "i"] ["q", "exponents", "a"] (defScope s_times_brackets) := ⟨rfl, rfl, rfl, by decide +kernel, rfl, by decide +kernel, by decide +kernel⟩
theorem sc_exponents_degree : FnScope ["q", "exponents", "i"] ["q", "exponents"] (defScope s_exponents_degree) := ⟨rfl, rfl, rfl, by decide +kernel, rfl, by decide +kernel, by decide +kernel⟩
theorem sc_check_made : FnScope ["degree"] ["degree"] (defScope s_check_made) := ⟨rfl, rfl, rfl, by decide +kernel, rfl, by decide +kernel, by decide +kernel⟩
theorem sc_product_exponents : FnScope ["q", "i", "j"] ["q", "i"] (defScope s_product_exponents) := ⟨rfl, rfl, rfl, by decide +kernel, rfl, by decide +kernel, by decide +kernel⟩
theorem sc_check_index : FnScope ["q", "i"] ["q", "i"] (defScope s_check_index) := ⟨rfl, rfl, rfl, by decide +kernel, rfl, by decide +kernel, by decide +kernel⟩
theorem sc_exp_coefficient : FnScope ["q", "i", "exponents"] ["q", "i"] (defScope s_exp_coefficient) := ⟨rfl, rfl, rfl, by decide +kernel, rfl, by decide +kernel, by decide +kernel⟩
theorem sc_log_coefficient : FnScope ["q", "i", "exponents", "j", "top"] ["q", "i"] (defScope s_log_coefficient) := ⟨rfl, rfl, rfl, by decide +kernel, rfl, by decide +kernel, by decide +kernel⟩
theorem sc__law_dice : FnScope ["_law_script", "_law_at", "_law_cell", "_law_great", "_law_left", "_law_mixed"] ["_law_script", "_law_at"] (defScope s__law_dice) := ⟨rfl, rfl, rfl, by decide +kernel, rfl, by decide +kernel, by decide +kernel⟩
theorem sc__law_roll : FnScope ["_law_dice_here", "_law_total", "_law_size", "_law_drawn", "_law_one", "_law_two"] ["_law_dice_here", "_law_total"] (defScope s__law_roll) := ⟨rfl, rfl, rfl, by decide +kernel, rfl, by decide +kernel, by decide +kernel⟩
theorem sc__law_one_of : FnScope ["_law_dice_here", "_law_items"] ["_law_dice_here", "_law_items"] (defScope s__law_one_of) := ⟨rfl, rfl, rfl, by decide +kernel, rfl, by decide +kernel, by decide +kernel⟩
theorem sc__law_raised : FnScope ["_law_base", "_law_count", "_law_found", "_law_turn"] ["_law_base", "_law_count"] (defScope s__law_raised) := ⟨rfl, rfl, rfl, by decide +kernel, rfl, by decide +kernel, by decide +kernel⟩
theorem sc__law_digits : FnScope ["_law_base", "_law_number", "_law_found", "_law_left"] ["_law_base", "_law_number"] (defScope s__law_digits) := ⟨rfl, rfl, rfl, by decide +kernel, rfl, by decide +kernel, by decide +kernel⟩
theorem sc__law_element_product : FnScope ["_law_p", "_law_f", "_law_one", "_law_other", "_law_found", "_law_i", "_law_left", "_law_j", "_law_right", "_law_value", "_law_digit"] ["_law_p", "_law_f", "_law_one", "_law_other"] (defScope s__law_element_product) := ⟨rfl, rfl, rfl, by decide +kernel, rfl, by decide +kernel, by decide +kernel⟩
theorem sc__law_element_sum : FnScope ["_law_p", "_law_f", "_law_one", "_law_other", "_law_found", "_law_place", "_law_turn"] ["_law_p", "_law_f", "_law_one", "_law_other"] (defScope s__law_element_sum) := ⟨rfl, rfl, rfl, by decide +kernel, rfl, by decide +kernel, by decide +kernel⟩
theorem sc__law_field : FnScope ["_law_q_here", "_law_p", "_law_f", "_law_plus_here", "_law_other", "_law_one", "_law_mul", "_law_row"] ["_law_q_here"] (defScope s__law_field) := ⟨rfl, rfl, rfl, by decide +kernel, rfl, by decide +kernel, by decide +kernel⟩
theorem sc__law_trim : FnScope ["_law_row", "_law_size"] ["_law_row"] (defScope s__law_trim) := ⟨rfl, rfl, rfl, by decide +kernel, rfl, by decide +kernel, by decide +kernel⟩
theorem sc__law_plus : FnScope ["_law_field_here", "_law_one", "_law_other", "_law_size", "_law_left", "_law_right", "_law_a", "_law_b"] ["_law_field_here", "_law_one", "_law_other"] (defScope s__law_plus) := ⟨rfl, rfl, rfl, by decide +kernel, rfl, by decide +kernel, by decide +kernel⟩
theorem sc__law_scaled : FnScope ["_law_field_here", "_law_element", "_law_one", "_law_a"] ["_law_field_here", "_law_element", "_law_one"] (defScope s__law_scaled) := ⟨rfl, rfl, rfl, by decide +kernel, rfl, by decide +kernel, by decide +kernel⟩
theorem sc__law_product : FnScope ["_law_field_here", "_law_one", "_law_other", "_law_found", "_law_plus_here", "_law_mul", "_law_j", "_law_right", "_law_i", "_law_left"] ["_law_field_here", "_law_one", "_law_other"] (defScope s__law_product) := ⟨rfl, rfl, rfl, by decide +kernel, rfl, by decide +kernel, by decide +kernel⟩
theorem sc__law_parted : FnScope ["_law_field_here", "_law_one", "_law_other", "_law_left", "_law_size", "_law_back", "_law_found", "_law_at", "_law_factor", "_law_i"] ["_law_field_here", "_law_one", "_law_other"] (defScope s__law_parted) := ⟨rfl, rfl, rfl, by decide +kernel, rfl, by decide +kernel, by decide +kernel⟩
theorem sc__law_rest : FnScope ["_law_field_here", "_law_one", "_law_other"] ["_law_field_here", "_law_one", "_law_other"] (defScope s__law_rest) := ⟨rfl, rfl, rfl, by decide +kernel, rfl, by decide +kernel, by decide +kernel⟩
theorem sc__law_stretched : FnScope ["_law_q_here", "_law_one", "_law_i", "_law_step", "_law_found", "_law_at", "_law_a"] ["_law_q_here", "_law_one", "_law_i"] (defScope s__law_stretched) := ⟨rfl, rfl, rfl, by decide +kernel, rfl, by decide +kernel, by decide +kernel⟩
theorem sc__law_common : FnScope ["_law_field_here", "_law_one", "_law_other"] ["_law_field_here", "_law_one", "_law_other"] (defScope s__law_common) := ⟨rfl, rfl, rfl, by decide +kernel, rfl, by decide +kernel, by decide +kernel⟩
theorem sc__law_monic_of : FnScope ["_law_field_here", "_law_one"] ["_law_field_here", "_law_one"] (defScope s__law_monic_of) := ⟨rfl, rfl, rfl, by decide +kernel, rfl, by decide +kernel, by decide +kernel⟩
theorem sc__law_poly : FnScope ["_law_dice_here", "_law_q_here", "_law_size", "_law_turn"] ["_law_dice_here", "_law_q_here", "_law_size"] (defScope s__law_poly) := ⟨rfl, rfl, rfl, by decide +kernel, rfl, by decide +kernel, by decide +kernel⟩
theorem sc__law_monic : FnScope ["_law_dice_here", "_law_q_here", "_law_d", "_law_turn"] ["_law_dice_here", "_law_q_here", "_law_d"] (defScope s__law_monic) := ⟨rfl, rfl, rfl, by decide +kernel, rfl, by decide +kernel, by decide +kernel⟩
theorem sc__law_q : FnScope ["_law_dice_here"] ["_law_dice_here"] (defScope s__law_q) := ⟨rfl, rfl, rfl, by decide +kernel, rfl, by decide +kernel, by decide +kernel⟩
theorem sc__law_quotient : FnScope ["_law_field_here", "_law_top", "_law_bottom", "_law_both", "_law_high", "_law_low", "_law_back"] ["_law_field_here", "_law_top", "_law_bottom"] (defScope s__law_quotient) := ⟨rfl, rfl, rfl, by decide +kernel, rfl, by decide +kernel, by decide +kernel⟩
theorem sc__law_quotient_plus : FnScope ["_law_field_here", "_law_one", "_law_other", "_law_high"] ["_law_field_here", "_law_one", "_law_other"] (defScope s__law_quotient_plus) := ⟨rfl, rfl, rfl, by decide +kernel, rfl, by decide +kernel, by decide +kernel⟩
theorem sc__law_quotient_product : FnScope ["_law_field_here", "_law_one", "_law_other"] ["_law_field_here", "_law_one", "_law_other"] (defScope s__law_quotient_product) := ⟨rfl, rfl, rfl, by decide +kernel, rfl, by decide +kernel, by decide +kernel⟩
theorem sc__law_bracket : FnScope ["_law_field_here", "_law_j"] ["_law_field_here", "_law_j"] (defScope s__law_bracket) := ⟨rfl, rfl, rfl, by decide +kernel, rfl, by decide +kernel, by decide +kernel⟩
theorem sc__law_all_product : FnScope ["_law_field_here", "_law_d", "_law_found", "_law_j"] ["_law_field_here", "_law_d"] (defScope s__law_all_product) := ⟨rfl, rfl, rfl, by decide +kernel, rfl, by decide +kernel, by decide +kernel⟩
theorem sc__law_least_multiple : FnScope ["_law_field_here", "_law_d", "_law_found", "_law_j"] ["_law_field_here", "_law_d"] (defScope s__law_least_multiple) := ⟨rfl, rfl, rfl, by decide +kernel, rfl, by decide +kernel, by decide +kernel⟩
theorem sc__law_carlitz : FnScope ["_law_field_here", "_law_a", "_law_q_here", "_law_here", "_law_found", "_law_element", "_law_i", "_law_one", "_law_moved"] ["_law_field_here", "_law_a"] (defScope s__law_carlitz) := ⟨rfl, rfl, rfl, by decide +kernel, rfl, by decide +kernel, by decide +kernel⟩
theorem sc__law_root_power : FnScope ["_law_q_here", "_law_one", "_law_i"] ["_law_q_here", "_law_one", "_law_i"] (defScope s__law_root_power) := ⟨rfl, rfl, rfl, by decide +kernel, rfl, by decide +kernel, by decide +kernel⟩
theorem sc__law_undone : FnScope ["_law_field_here", "_law_outer", "_law_inner", "_law_n", "_law_total", "_law_i", "_law_part"] ["_law_field_here", "_law_outer", "_law_inner", "_law_n"] (defScope s__law_undone) := ⟨rfl, rfl, rfl, by decide +kernel, rfl, by decide +kernel, by decide +kernel⟩
theorem sc__law_acts_right : FnScope ["_law_field_here", "_law_exps", "_law_a", "_law_size", "_law_row", "_law_n", "_law_total", "_law_i", "_law_part", "_law_due"] ["_law_field_here", "_law_exps", "_law_a", "_law_size"] (defScope s__law_acts_right) := ⟨rfl, rfl, rfl, by decide +kernel, rfl, by decide +kernel, by decide +kernel⟩
theorem sc_law : FnScope ["_law_script", "_law_at", "_law_dice_here", "_law_field_here", "_law_q_here", "_law_size", "_law_exps", "_law_logs", "_law_i", "_law_sign", "_law_nothing", "_law_a", "_law_b"] ["_law_script"] (defScope s_law) := ⟨rfl, rfl, rfl, by decide +kernel, rfl, by decide +kernel, by decide +kernel⟩
structure Txt (K : PySem.W.Frag) (mg : Str → Option Value) where
  {a_digit_row : Addr}
  {d_digit_row : FuncData}
  F_digit_row : Fun K "digit_row" "digit_row" s_digit_row a_digit_row d_digit_row
  g_digit_row : mg "digit_row" = some (.ref a_digit_row)
  b_digit_row : Binds K d_digit_row ["b", "k"] []
  {a_is_integer : Addr}
  {d_is_integer : FuncData}
  F_is_integer : Fun K "is_integer" "is_integer" s_is_integer a_is_integer d_is_integer
  g_is_integer : mg "is_integer" = some (.ref a_is_integer)
  b_is_integer : Binds K d_is_integer ["value"] []
  {a_is_from : Addr}
  {d_is_from : FuncData}
  F_is_from : Fun K "is_from" "is_from" s_is_from a_is_from d_is_from
  g_is_from : mg "is_from" = some (.ref a_is_from)
  b_is_from : Binds K d_is_from ["value", "low"] []
  {a_check_from : Addr}
  {d_check_from : FuncData}
  F_check_from : Fun K "check_from" "check_from" s_check_from a_check_from d_check_from
  g_check_from : mg "check_from" = some (.ref a_check_from)
  b_check_from : Binds K d_check_from ["value", "low"] []
  {a_whole_power : Addr}
  {d_whole_power : FuncData}
  F_whole_power : Fun K "whole_power" "whole_power" s_whole_power a_whole_power d_whole_power
  g_whole_power : mg "whole_power" = some (.ref a_whole_power)
  b_whole_power : Binds K d_whole_power ["base", "exponent"] []
  {a_is_field : Addr}
  {d_is_field : FuncData}
  F_is_field : Fun K "is_field" "is_field" s_is_field a_is_field d_is_field
  g_is_field : mg "is_field" = some (.ref a_is_field)
  b_is_field : Binds K d_is_field ["value"] []
  {a_check_field : Addr}
  {d_check_field : FuncData}
  F_check_field : Fun K "check_field" "check_field" s_check_field a_check_field d_check_field
  g_check_field : mg "check_field" = some (.ref a_check_field)
  b_check_field : Binds K d_check_field ["q"] []
  {a_trimmed : Addr}
  {d_trimmed : FuncData}
  F_trimmed : Fun K "trimmed" "trimmed" s_trimmed a_trimmed d_trimmed
  g_trimmed : mg "trimmed" = some (.ref a_trimmed)
  b_trimmed : Binds K d_trimmed ["row"] []
  {a_row_sum : Addr}
  {d_row_sum : FuncData}
  F_row_sum : Fun K "row_sum" "row_sum" s_row_sum a_row_sum d_row_sum
  g_row_sum : mg "row_sum" = some (.ref a_row_sum)
  b_row_sum : Binds K d_row_sum ["q", "a", "b"] []
  {a_row_opposite : Addr}
  {d_row_opposite : FuncData}
  F_row_opposite : Fun K "row_opposite" "row_opposite" s_row_opposite a_row_opposite d_row_opposite
  g_row_opposite : mg "row_opposite" = some (.ref a_row_opposite)
  b_row_opposite : Binds K d_row_opposite ["q", "a"] []
  {a_row_less : Addr}
  {d_row_less : FuncData}
  F_row_less : Fun K "row_less" "row_less" s_row_less a_row_less d_row_less
  g_row_less : mg "row_less" = some (.ref a_row_less)
  b_row_less : Binds K d_row_less ["q", "a", "b"] []
  {a_terms_quotient : Addr}
  {d_terms_quotient : FuncData}
  F_terms_quotient : Fun K "terms_quotient" "terms_quotient" s_terms_quotient a_terms_quotient d_terms_quotient
  g_terms_quotient : mg "terms_quotient" = some (.ref a_terms_quotient)
  b_terms_quotient : Binds K d_terms_quotient ["q", "high", "low", "a"] []
  {a_bracket_terms : Addr}
  {d_bracket_terms : FuncData}
  F_bracket_terms : Fun K "bracket_terms" "bracket_terms" s_bracket_terms a_bracket_terms d_bracket_terms
  g_bracket_terms : mg "bracket_terms" = some (.ref a_bracket_terms)
  b_bracket_terms : Binds K d_bracket_terms ["q", "i", "times"] []
  {a_times_bracket : Addr}
  {d_times_bracket : FuncData}
  F_times_bracket : Fun K "times_bracket" "times_bracket" s_times_bracket a_times_bracket d_times_bracket
  g_times_bracket : mg "times_bracket" = some (.ref a_times_bracket)
  b_times_bracket : Binds K d_times_bracket ["q", "i", "times", "a"] []
  {a_over_bracket : Addr}
  {d_over_bracket : FuncData}
  F_over_bracket : Fun K "over_bracket" "over_bracket" s_over_bracket a_over_bracket d_over_bracket
  g_over_bracket : mg "over_bracket" = some (.ref a_over_bracket)
  b_over_bracket : Binds K d_over_bracket ["q", "i", "times", "a"] []
  {a_times_brackets : Addr}
  {d_times_brackets : FuncData}
  F_times_brackets : Fun K "times_brackets" "times_brackets" s_times_brackets a_times_brackets d_times_brackets
  g_times_brackets : mg "times_brackets" = some (.ref a_times_brackets)
  b_times_brackets : Binds K d_times_brackets ["q", "exponents", "a"] []
  {a_exponents_degree : Addr}
  {d_exponents_degree : FuncData}
  F_exponents_degree : Fun K "exponents_degree" "exponents_degree" s_exponents_degree a_exponents_degree d_exponents_degree
  g_exponents_degree : mg "exponents_degree" = some (.ref a_exponents_degree)
  b_exponents_degree : Binds K d_exponents_degree ["q", "exponents"] []
  {a_check_made : Addr}
  {d_check_made : FuncData}
  F_check_made : Fun K "check_made" "check_made" s_check_made a_check_made d_check_made
  g_check_made : mg "check_made" = some (.ref a_check_made)
  b_check_made : Binds K d_check_made ["degree"] []
  {a_product_exponents : Addr}
  {d_product_exponents : FuncData}
  F_product_exponents : Fun K "product_exponents" "product_exponents" s_product_exponents a_product_exponents d_product_exponents
  g_product_exponents : mg "product_exponents" = some (.ref a_product_exponents)
  b_product_exponents : Binds K d_product_exponents ["q", "i"] []
  {a_check_index : Addr}
  {d_check_index : FuncData}
  F_check_index : Fun K "check_index" "check_index" s_check_index a_check_index d_check_index
  g_check_index : mg "check_index" = some (.ref a_check_index)
  b_check_index : Binds K d_check_index ["q", "i"] []
  {a_exp_coefficient : Addr}
  {d_exp_coefficient : FuncData}
  F_exp_coefficient : Fun K "exp_coefficient" "exp_coefficient" s_exp_coefficient a_exp_coefficient d_exp_coefficient
  g_exp_coefficient : mg "exp_coefficient" = some (.ref a_exp_coefficient)
  b_exp_coefficient : Binds K d_exp_coefficient ["q", "i"] []
  {a_log_coefficient : Addr}
  {d_log_coefficient : FuncData}
  F_log_coefficient : Fun K "log_coefficient" "log_coefficient" s_log_coefficient a_log_coefficient d_log_coefficient
  g_log_coefficient : mg "log_coefficient" = some (.ref a_log_coefficient)
  b_log_coefficient : Binds K d_log_coefficient ["q", "i"] []
  {a__law_dice : Addr}
  {d__law_dice : FuncData}
  F__law_dice : Fun K "_law_dice" "_law_dice" s__law_dice a__law_dice d__law_dice
  g__law_dice : mg "_law_dice" = some (.ref a__law_dice)
  b__law_dice : Binds K d__law_dice ["_law_script", "_law_at"] []
  {a__law_roll : Addr}
  {d__law_roll : FuncData}
  F__law_roll : Fun K "_law_roll" "_law_roll" s__law_roll a__law_roll d__law_roll
  g__law_roll : mg "_law_roll" = some (.ref a__law_roll)
  b__law_roll : Binds K d__law_roll ["_law_dice_here", "_law_total"] []
  {a__law_one_of : Addr}
  {d__law_one_of : FuncData}
  F__law_one_of : Fun K "_law_one_of" "_law_one_of" s__law_one_of a__law_one_of d__law_one_of
  g__law_one_of : mg "_law_one_of" = some (.ref a__law_one_of)
  b__law_one_of : Binds K d__law_one_of ["_law_dice_here", "_law_items"] []
  {a__law_raised : Addr}
  {d__law_raised : FuncData}
  F__law_raised : Fun K "_law_raised" "_law_raised" s__law_raised a__law_raised d__law_raised
  g__law_raised : mg "_law_raised" = some (.ref a__law_raised)
  b__law_raised : Binds K d__law_raised ["_law_base", "_law_count"] []
  {a__law_digits : Addr}
  {d__law_digits : FuncData}
  F__law_digits : Fun K "_law_digits" "_law_digits" s__law_digits a__law_digits d__law_digits
  g__law_digits : mg "_law_digits" = some (.ref a__law_digits)
  b__law_digits : Binds K d__law_digits ["_law_base", "_law_number"] []
  {a__law_element_product : Addr}
  {d__law_element_product : FuncData}
  F__law_element_product : Fun K "_law_element_product" "_law_element_product" s__law_element_product a__law_element_product d__law_element_product
  g__law_element_product : mg "_law_element_product" = some (.ref a__law_element_product)
  b__law_element_product : Binds K d__law_element_product ["_law_p", "_law_f", "_law_one", "_law_other"] []
  {a__law_element_sum : Addr}
  {d__law_element_sum : FuncData}
  F__law_element_sum : Fun K "_law_element_sum" "_law_element_sum" s__law_element_sum a__law_element_sum d__law_element_sum
  g__law_element_sum : mg "_law_element_sum" = some (.ref a__law_element_sum)
  b__law_element_sum : Binds K d__law_element_sum ["_law_p", "_law_f", "_law_one", "_law_other"] []
  {a__law_field : Addr}
  {d__law_field : FuncData}
  F__law_field : Fun K "_law_field" "_law_field" s__law_field a__law_field d__law_field
  g__law_field : mg "_law_field" = some (.ref a__law_field)
  b__law_field : Binds K d__law_field ["_law_q_here"] []
  {a__law_trim : Addr}
  {d__law_trim : FuncData}
  F__law_trim : Fun K "_law_trim" "_law_trim" s__law_trim a__law_trim d__law_trim
  g__law_trim : mg "_law_trim" = some (.ref a__law_trim)
  b__law_trim : Binds K d__law_trim ["_law_row"] []
  {a__law_plus : Addr}
  {d__law_plus : FuncData}
  F__law_plus : Fun K "_law_plus" "_law_plus" s__law_plus a__law_plus d__law_plus
  g__law_plus : mg "_law_plus" = some (.ref a__law_plus)
  b__law_plus : Binds K d__law_plus ["_law_field_here", "_law_one", "_law_other"] []
  {a__law_scaled : Addr}
  {d__law_scaled : FuncData}
  F__law_scaled : Fun K "_law_scaled" "_law_scaled" s__law_scaled a__law_scaled d__law_scaled
  g__law_scaled : mg "_law_scaled" = some (.ref a__law_scaled)
  b__law_scaled : Binds K d__law_scaled ["_law_field_here", "_law_element", "_law_one"] []
  {a__law_product : Addr}
  {d__law_product : FuncData}
  F__law_product : Fun K "_law_product" "_law_product" s__law_product a__law_product d__law_product
  g__law_product : mg "_law_product" = some (.ref a__law_product)
  b__law_product : Binds K d__law_product ["_law_field_here", "_law_one", "_law_other"] []
  {a__law_parted : Addr}
  {d__law_parted : FuncData}
  F__law_parted : Fun K "_law_parted" "_law_parted" s__law_parted a__law_parted d__law_parted
  g__law_parted : mg "_law_parted" = some (.ref a__law_parted)
  b__law_parted : Binds K d__law_parted ["_law_field_here", "_law_one", "_law_other"] []
  {a__law_rest : Addr}
  {d__law_rest : FuncData}
  F__law_rest : Fun K "_law_rest" "_law_rest" s__law_rest a__law_rest d__law_rest
  g__law_rest : mg "_law_rest" = some (.ref a__law_rest)
  b__law_rest : Binds K d__law_rest ["_law_field_here", "_law_one", "_law_other"] []
  {a__law_stretched : Addr}
  {d__law_stretched : FuncData}
  F__law_stretched : Fun K "_law_stretched" "_law_stretched" s__law_stretched a__law_stretched d__law_stretched
  g__law_stretched : mg "_law_stretched" = some (.ref a__law_stretched)
  b__law_stretched : Binds K d__law_stretched ["_law_q_here", "_law_one", "_law_i"] []
  {a__law_common : Addr}
  {d__law_common : FuncData}
  F__law_common : Fun K "_law_common" "_law_common" s__law_common a__law_common d__law_common
  g__law_common : mg "_law_common" = some (.ref a__law_common)
  b__law_common : Binds K d__law_common ["_law_field_here", "_law_one", "_law_other"] []
  {a__law_monic_of : Addr}
  {d__law_monic_of : FuncData}
  F__law_monic_of : Fun K "_law_monic_of" "_law_monic_of" s__law_monic_of a__law_monic_of d__law_monic_of
  g__law_monic_of : mg "_law_monic_of" = some (.ref a__law_monic_of)
  b__law_monic_of : Binds K d__law_monic_of ["_law_field_here", "_law_one"] []
  {a__law_poly : Addr}
  {d__law_poly : FuncData}
  F__law_poly : Fun K "_law_poly" "_law_poly" s__law_poly a__law_poly d__law_poly
  g__law_poly : mg "_law_poly" = some (.ref a__law_poly)
  b__law_poly : Binds K d__law_poly ["_law_dice_here", "_law_q_here", "_law_size"] []
  {a__law_monic : Addr}
  {d__law_monic : FuncData}
  F__law_monic : Fun K "_law_monic" "_law_monic" s__law_monic a__law_monic d__law_monic
  g__law_monic : mg "_law_monic" = some (.ref a__law_monic)
  b__law_monic : Binds K d__law_monic ["_law_dice_here", "_law_q_here", "_law_d"] []
  {a__law_q : Addr}
  {d__law_q : FuncData}
  F__law_q : Fun K "_law_q" "_law_q" s__law_q a__law_q d__law_q
  g__law_q : mg "_law_q" = some (.ref a__law_q)
  b__law_q : Binds K d__law_q ["_law_dice_here"] []
  {a__law_quotient : Addr}
  {d__law_quotient : FuncData}
  F__law_quotient : Fun K "_law_quotient" "_law_quotient" s__law_quotient a__law_quotient d__law_quotient
  g__law_quotient : mg "_law_quotient" = some (.ref a__law_quotient)
  b__law_quotient : Binds K d__law_quotient ["_law_field_here", "_law_top", "_law_bottom"] []
  {a__law_quotient_plus : Addr}
  {d__law_quotient_plus : FuncData}
  F__law_quotient_plus : Fun K "_law_quotient_plus" "_law_quotient_plus" s__law_quotient_plus a__law_quotient_plus d__law_quotient_plus
  g__law_quotient_plus : mg "_law_quotient_plus" = some (.ref a__law_quotient_plus)
  b__law_quotient_plus : Binds K d__law_quotient_plus ["_law_field_here", "_law_one", "_law_other"] []
  {a__law_quotient_product : Addr}
  {d__law_quotient_product : FuncData}
  F__law_quotient_product : Fun K "_law_quotient_product" "_law_quotient_product" s__law_quotient_product a__law_quotient_product d__law_quotient_product
  g__law_quotient_product : mg "_law_quotient_product" = some (.ref a__law_quotient_product)
  b__law_quotient_product : Binds K d__law_quotient_product ["_law_field_here", "_law_one", "_law_other"] []
  {a__law_bracket : Addr}
  {d__law_bracket : FuncData}
  F__law_bracket : Fun K "_law_bracket" "_law_bracket" s__law_bracket a__law_bracket d__law_bracket
  g__law_bracket : mg "_law_bracket" = some (.ref a__law_bracket)
  b__law_bracket : Binds K d__law_bracket ["_law_field_here", "_law_j"] []
  {a__law_all_product : Addr}
  {d__law_all_product : FuncData}
  F__law_all_product : Fun K "_law_all_product" "_law_all_product" s__law_all_product a__law_all_product d__law_all_product
  g__law_all_product : mg "_law_all_product" = some (.ref a__law_all_product)
  b__law_all_product : Binds K d__law_all_product ["_law_field_here", "_law_d"] []
  {a__law_least_multiple : Addr}
  {d__law_least_multiple : FuncData}
  F__law_least_multiple : Fun K "_law_least_multiple" "_law_least_multiple" s__law_least_multiple a__law_least_multiple d__law_least_multiple
  g__law_least_multiple : mg "_law_least_multiple" = some (.ref a__law_least_multiple)
  b__law_least_multiple : Binds K d__law_least_multiple ["_law_field_here", "_law_d"] []
  {a__law_carlitz : Addr}
  {d__law_carlitz : FuncData}
  F__law_carlitz : Fun K "_law_carlitz" "_law_carlitz" s__law_carlitz a__law_carlitz d__law_carlitz
  g__law_carlitz : mg "_law_carlitz" = some (.ref a__law_carlitz)
  b__law_carlitz : Binds K d__law_carlitz ["_law_field_here", "_law_a"] []
  {a__law_root_power : Addr}
  {d__law_root_power : FuncData}
  F__law_root_power : Fun K "_law_root_power" "_law_root_power" s__law_root_power a__law_root_power d__law_root_power
  g__law_root_power : mg "_law_root_power" = some (.ref a__law_root_power)
  b__law_root_power : Binds K d__law_root_power ["_law_q_here", "_law_one", "_law_i"] []
  {a__law_undone : Addr}
  {d__law_undone : FuncData}
  F__law_undone : Fun K "_law_undone" "_law_undone" s__law_undone a__law_undone d__law_undone
  g__law_undone : mg "_law_undone" = some (.ref a__law_undone)
  b__law_undone : Binds K d__law_undone ["_law_field_here", "_law_outer", "_law_inner", "_law_n"] []
  {a__law_acts_right : Addr}
  {d__law_acts_right : FuncData}
  F__law_acts_right : Fun K "_law_acts_right" "_law_acts_right" s__law_acts_right a__law_acts_right d__law_acts_right
  g__law_acts_right : mg "_law_acts_right" = some (.ref a__law_acts_right)
  b__law_acts_right : Binds K d__law_acts_right ["_law_field_here", "_law_exps", "_law_a", "_law_size"] []
  {a_law : Addr}
  {d_law : FuncData}
  F_law : Fun K "law" "law" s_law a_law d_law
  g_law : mg "law" = some (.ref a_law)
  b_law : Binds K d_law ["_law_script"] []
  z_isinstance : mg "isinstance" = none
  z_int : mg "int" = none
  z_bool : mg "bool" = none
  z_range : mg "range" = none
  z_len : mg "len" = none
  z_tuple : mg "tuple" = none
  z_zip : mg "zip" = none
  z_list : mg "list" = none
  z_sum : mg "sum" = none
  z_abs : mg "abs" = none
  z_enumerate : mg "enumerate" = none
  z_max : mg "max" = none
  z_min : mg "min" = none
  {a_PRIMES : Addr}
  g_PRIMES : mg "PRIMES" = some (.ref a_PRIMES)
  w_PRIMES : tab0 K a_PRIMES = some W_PRIMES
  {a_SUMS : Addr}
  g_SUMS : mg "SUMS" = some (.ref a_SUMS)
  w_SUMS : tab2 K a_SUMS = some W_SUMS
  {a_OPPOSITES : Addr}
  g_OPPOSITES : mg "OPPOSITES" = some (.ref a_OPPOSITES)
  w_OPPOSITES : tab1 K a_OPPOSITES = some W_OPPOSITES
  {t_TOO_LONG : Tok}
  c_TOO_LONG : mg "TOO_LONG" = some (.int 1000000000000000000000000000000000000000000000000000000000000 t_TOO_LONG)
  {a_FIELDS : Addr}
  g_FIELDS : mg "FIELDS" = some (.ref a_FIELDS)
  w_FIELDS : asRow K (.ref a_FIELDS) = some W_FIELDS
  {t_MAX_MADE : Tok}
  c_MAX_MADE : mg "MAX_MADE" = some (.int 2000 t_MAX_MADE)
  {t_MOST_MADE_DEGREE : Tok}
  c_MOST_MADE_DEGREE : mg "MOST_MADE_DEGREE" = some (.int 2000 t_MOST_MADE_DEGREE)
  {t_MOST_BRACKET : Tok}
  c_MOST_BRACKET : mg "MOST_BRACKET" = some (.int 10 t_MOST_BRACKET)
end Own
namespace Own
open PySem PySem.Spec PyProof.Rows L2 Evl
def W_POWERS : List (Int × Int) := [(2, 1), (3, 1), (4, 2), (5, 1), (7, 1), (8, 3), (9, 2)]

def sp_digit_row (K : PySem.W.Frag) : Sp := fun vs H Q _ => ∃ (b n : Nat), vs = [N_ b, N_ n] ∧ Bs b ∧ Gt n ∧ RetL ((dg b n).map N_) H Q

theorem ok_digit_row {P : Program} {w : World} {K : PySem.W.Frag} {mg : Str → Option Value} {base : Heap} (T : Txt K mg) : FnOk P w K mg base CX0 1 T.a_digit_row T.d_digit_row ["b", "k"] (sp_digit_row K) := by
  refine T.F_digit_row.ok sc_digit_row (fun vs H Q E h => ?_) (fun cdv A outer s H vs Q E hr h => ?_)
  · obtain ⟨b, n, rfl, _⟩ := h
    rfl
  · obtain ⟨b, n, rfl, hb, hn, k⟩ := h
    refine ⟨_, (pss_cons (ps_set (i := 2) sc_digit_row.nd rfl (Or.inl rfl) (pe_lst pa_nil))
      (pss_cons (ps_set (i := 3) sc_digit_row.nd rfl (Or.inl rfl) (pv 1))
      (pss_cons (ps_while PassesOwn.never (pt_cmpR op_gt (pv 3) pe_int (nomark _)) (pss_cons (ps_expr (pe_bm PySem.F.plainAttrs_list PySem.F.slot_list_append PySem.F.type_list_append mt_append (pv 2) (pa_cons (pe_op op_mod (pv 3) (pv 0)) pa_nil)))
      (pss_one (ps_set (i := 3) sc_digit_row.nd rfl (Or.inl rfl) (pe_op op_fdivW (pv 3) (pv 0))))))
      (pss_one (ps_ret (pv 2)))))), ?_⟩
    refine q_asgL (el_lst ea_nil (by decide)) fun p H1 np e1 h1 => ?_
    refine q_asg (ev_var rfl) fun H2 e2 => ?_
    refine q_while (fun l σ H' => ∃ acc : List Nat, σ = [some (N_ b), some (N_ n), some (.ref p), some (N_ l)] ∧ acc ++ dg b l = dg b n ∧ Ex H H' ∧ H' p = some (.lst (acc.map N_))) n
      ⟨[], rfl, rfl, e1.trans e2, e2 p _ h1⟩ fun l σ H3 hw => ?_
    obtain ⟨acc, rfl, ha, e3, h3⟩ := hw
    refine ⟨decide (0 < (l : Int)), et_test (ev_op (ev_var rfl) ev_c rv_I0), fun ht H4 e4 => ?_, fun hf H4 e4 => ?_⟩
    · have hl : 0 < l := by have := of_decide_eq_true ht; omega
      refine ⟨fun σ' H' => σ' = [some (N_ b), some (N_ n), some (.ref p), some (N_ (l / b))] ∧ Ex H H' ∧ H' p = some (.lst ((acc ++ [l % b]).map N_)), fun σ2 H2' hN => ?_, ?_⟩
      · obtain ⟨rfl, e5, h5⟩ := hN
        refine ⟨l / b, Nat.div_lt_self hl hb.1, acc ++ [l % b], rfl, ?_, e5, h5⟩
        rw [← ha, dg_pos hb.1 hl, List.append_assoc]
        rfl
      · have hlen : acc.length < 100000 := by
          have h6 := dg_len hb.1 400 n hn
          rw [← ha, List.length_append] at h6
          omega
        refine q_app (e4 p _ h3) (ev_var rfl) (ev_op (ev_var rfl) (ev_var rfl) (rv_I (by have := hb.1; omega))) (by rw [List.length_map]; exact hlen) fun H5 e5 => ?_
        refine s_asg (ev_op (ev_var rfl) (ev_var rfl) (rv_I (divW (by have := hb.1; omega) hb.2))) fun H6 e6 => ?_
        refine ⟨rfl, ((e3.trans (e4.trans e5)).mut np).trans e6, ?_⟩
        rw [e6 p _ upd_same, List.map_append]
        rfl
    · have hl : l = 0 := by have := of_decide_eq_false hf; omega
      subst hl
      rw [dg_zero, List.append_nil] at ha
      subst ha
      exact s_ret (ev_var rfl) fun H5 e5 => k p H5 np ((e3.trans e4).trans e5) (e5 p _ (e4 p _ h3))


def sp_row_integer (K : PySem.W.Frag) : Sp := fun vs H Q _ => ∃ (b : Nat) (a : Addr) (xs : List Nat), vs = [N_ b, .ref a] ∧ Bs b ∧ SqT K H a (xs.map N_) ∧ xs.length ≤ 410 ∧ (∀ d ∈ xs, d < b) ∧ RetV (N_ (od b xs)) H Q


def sp_digit_total (K : PySem.W.Frag) : Sp := fun vs H Q _ => ∃ (b n : Nat), vs = [N_ b, N_ n] ∧ Bs b ∧ Gt n ∧ RetV (N_ (ds b n)) H Q
theorem sv_digit_row {K : PySem.W.Frag} {H : Hp} {b n : Nat} (hb : Bs b) (hn : Gt n) : SpL (sp_digit_row K) [N_ b, N_ n] H ((dg b n).map N_) := fun H1 _ Q q E => ⟨b, n, rfl, hb, hn, q⟩
theorem sv_digit_total {K : PySem.W.Frag} {H : Hp} {b n : Nat} (hb : Bs b) (hn : Gt n) : SpV (sp_digit_total K) [N_ b, N_ n] H (N_ (ds b n)) := fun H1 _ Q q E => ⟨b, n, rfl, hb, hn, q⟩


def sp_are_carry_free (K : PySem.W.Frag) : Sp := fun vs H Q _ => ∃ (b : Nat) (a : Addr) (xs : List Nat), vs = [N_ b, .ref a] ∧ Bs b ∧ SqT K H a (xs.map N_) ∧ xs.length ≤ 410 ∧ Gt xs.sum ∧ RetV (.bl (decide ((xs.map (ds b)).sum = ds b xs.sum))) H Q


abbrev Sm (x : Int) : Prop := x.natAbs < 10 ^ 60
def sp_is_integer (K : PySem.W.Frag) : Sp := fun vs H Q _ => ∃ (x : Int), vs = [.int x] ∧ Sm x ∧ RetV (.bl true) H Q
theorem sv_is_integer {K : PySem.W.Frag} {H : Hp} {x : Int} (h : Sm x) : SpV (sp_is_integer K) [.int x] H (.bl true) := fun H1 _ Q q E => ⟨x, rfl, h, q⟩
theorem sm_abs {x : Int} (h : Sm x) : (decide (-1000000000000000000000000000000000000000000000000000000000000 < x) && decide (x < 1000000000000000000000000000000000000000000000000000000000000)) = true := by
  have h' : x.natAbs < 10 ^ 60 := h
  rw [decide_eq_true (by omega), decide_eq_true (by omega)]
  rfl

theorem ok_is_integer {P : Program} {w : World} {K : PySem.W.Frag} {mg : Str → Option Value} {base : Heap} (T : Txt K mg) : FnOk P w K mg base CX0 1 T.a_is_integer T.d_is_integer ["value"] (sp_is_integer K) := by
  refine T.F_is_integer.ok sc_is_integer (fun vs H Q E h => ?_) (fun cdv A outer s H vs Q E hr h => ?_)
  · obtain ⟨x, rfl, _⟩ := h
    rfl
  · obtain ⟨x, rfl, hx, k⟩ := h
    refine ⟨_, (pss_one (ps_ret (pe_and (pe_callB call_isi (by rfl) T.z_isinstance (by decide +kernel) (pa_cons (pv 0) (pa_cons (pe_bltn (v := .ty "int") (u := .type "int") (by rfl) T.z_int (by decide +kernel) rfl) pa_nil))) (pe_and (pe_not (pe_callB call_isi (by rfl) T.z_isinstance (by decide +kernel) (pa_cons (pv 0) (pa_cons (pe_bltn (v := .ty "bool") (u := .type "bool") (by rfl) T.z_bool (by decide +kernel) rfl) pa_nil)))) (pe_one (pe_chain op_lt op_lt (pe_un un_neg (pe_glob (v := .int 1000000000000000000000000000000000000000000000000000000000000) (by rfl) T.c_TOO_LONG ⟨_, rfl⟩)) (pv 0) (pe_glob (v := .int 1000000000000000000000000000000000000000000000000000000000000) (by rfl) T.c_TOO_LONG ⟨_, rfl⟩))))))), ?_⟩
    refine s_ret (ev_is (ev_andV (ev_cb (ea_cons (ev_var rfl) (ea_cons ev_c ea_nil)) (rc_isi (b := true) (.base (.int x)) (kit_ty (by decide +kernel)))) fun _ =>
      (ev_andV (ev_notV (ev_cb (ea_cons (ev_var rfl) (ea_cons ev_c ea_nil)) (rc_isi (b := false) (.base (.int x)) (kit_ty (by decide +kernel))))) fun _ =>
        (ev_chain (ev_un ev_c ru_neg) (ev_var rfl) rv_I0 (fun _ => ev_c) (fun _ => rv_I0)))) ?_) fun H1 e1 => k H1 e1
    rw [sm_abs hx]
    rfl


def sp_is_from (K : PySem.W.Frag) : Sp := fun vs H Q _ => ∃ (x l : Int), vs = [.int x, .int l] ∧ Sm x ∧ RetV (.bl (decide (l ≤ x))) H Q
theorem sv_is_from {K : PySem.W.Frag} {H : Hp} {x l : Int} (h : Sm x) : SpV (sp_is_from K) [.int x, .int l] H (.bl (decide (l ≤ x))) := fun H1 _ Q q E => ⟨x, l, rfl, h, q⟩

theorem ok_is_from {P : Program} {w : World} {K : PySem.W.Frag} {mg : Str → Option Value} {base : Heap} (T : Txt K mg) : FnOk P w K mg base CX0 2 T.a_is_from T.d_is_from ["value", "low"] (sp_is_from K) := by
  refine T.F_is_from.ok sc_is_from (fun vs H Q E h => ?_) (fun cdv A outer s H vs Q E hr h => ?_)
  · obtain ⟨x, l, rfl, _⟩ := h
    rfl
  · obtain ⟨x, l, rfl, hx, k⟩ := h
    refine ⟨_, (pss_one (ps_ret (pe_and (pe_call (ok_is_integer T) (hr.mono (by decide)) (by rfl) T.g_is_integer T.F_is_integer.kp T.b_is_integer .nil pass0 (pa_cons (pv 0) pa_nil)) (pe_one (pe_cmpR op_ge (pv 0) (pv 1) (nomark _)))))), ?_⟩
    refine s_ret (ev_andV (ev_call (ea_cons (ev_var rfl) ea_nil) (sv_is_integer hx)) fun _ => (ev_op (ev_var rfl) (ev_var rfl) rv_I0)) fun H1 e1 => k H1 e1


def sp_is_between (K : PySem.W.Frag) : Sp := fun vs H Q _ => ∃ (x l u : Int), vs = [.int x, .int l, .int u] ∧ Sm x ∧ RetV (.bl (decide (l ≤ x) && decide (x ≤ u))) H Q
theorem sv_is_between {K : PySem.W.Frag} {H : Hp} {x l u : Int} (h : Sm x) : SpV (sp_is_between K) [.int x, .int l, .int u] H (.bl (decide (l ≤ x) && decide (x ≤ u))) := fun H1 _ Q q E => ⟨x, l, u, rfl, h, q⟩


def sp_check_from (K : PySem.W.Frag) : Sp := fun vs H Q _ => ∃ (x l : Int), vs = [.int x, .int l] ∧ Sm x ∧ l ≤ x ∧ RetV .non H Q
theorem sv_check_from {K : PySem.W.Frag} {H : Hp} {x l : Int} (h : Sm x) (h2 : l ≤ x) : SpV (sp_check_from K) [.int x, .int l] H .non := fun H1 _ Q q E => ⟨x, l, rfl, h, h2, q⟩

theorem ok_check_from {P : Program} {w : World} {K : PySem.W.Frag} {mg : Str → Option Value} {base : Heap} (T : Txt K mg) : FnOk P w K mg base CX0 3 T.a_check_from T.d_check_from ["value", "low"] (sp_check_from K) := by
  refine T.F_check_from.ok sc_check_from (fun vs H Q E h => ?_) (fun cdv A outer s H vs Q E hr h => ?_)
  · obtain ⟨x, l, rfl, _⟩ := h
    rfl
  · obtain ⟨x, l, rfl, hx, hl, k⟩ := h
    refine ⟨_, (pss_one (ps_if (pt_not (pt_val (pe_call (ok_is_from T) (hr.mono (by decide)) (by rfl) T.g_is_from T.F_is_from.kp T.b_is_from .nil pass0 (pa_cons (pv 0) (pa_cons (pv 1) pa_nil))))) (pss_one ps_never) pss_nil)), ?_⟩
    refine s_when (et_not (et_B (ev_call (ea_cons (ev_var rfl) (ea_cons (ev_var rfl) ea_nil)) (sv_is_from hx)))) (fun hb => ?_) (fun _ H1 e1 => k H1 e1)
    rw [decide_eq_true hl] at hb
    cases hb


def sp_check_between (K : PySem.W.Frag) : Sp := fun vs H Q _ => ∃ (x l u : Int), vs = [.int x, .int l, .int u] ∧ Sm x ∧ l ≤ x ∧ x ≤ u ∧ RetV .non H Q
theorem sv_check_between {K : PySem.W.Frag} {H : Hp} {x l u : Int} (h : Sm x) (h2 : l ≤ x) (h3 : x ≤ u) : SpV (sp_check_between K) [.int x, .int l, .int u] H .non := fun H1 _ Q q E => ⟨x, l, u, rfl, h, h2, h3, q⟩


def sp_check_base (K : PySem.W.Frag) : Sp := fun vs H Q _ => ∃ (b : Nat), vs = [N_ b] ∧ Bs b ∧ RetV .non H Q
theorem sv_check_base {K : PySem.W.Frag} {H : Hp} {b : Nat} (h : Bs b) : SpV (sp_check_base K) [N_ b] H .non := fun H1 _ Q q E => ⟨b, rfl, h, q⟩
theorem sm_b {b : Nat} (h : Bs b) : Sm (b : Int) := by
  have := h.2
  show (Int.natAbs (b : Int)) < 10 ^ 60
  have e : (1001 : Nat) ≤ 10 ^ 60 := by decide
  omega


def sp_check_numbers (K : PySem.W.Frag) : Sp := fun vs H Q _ => ∃ (a : Addr) (xs : List Nat), vs = [.ref a] ∧ SqT K H a (xs.map N_) ∧ 1 ≤ xs.length ∧ xs.length ≤ 400 ∧ (∀ d ∈ xs, d < 10 ^ 60) ∧ RetV .non H Q
theorem sv_check_numbers {K : PySem.W.Frag} {H : Hp} {a : Addr} {xs : List Nat} (h : SqT K H a (xs.map N_)) (h1 : 1 ≤ xs.length) (h2 : xs.length ≤ 400) (h3 : ∀ d ∈ xs, d < 10 ^ 60) : SpV (sp_check_numbers K) [.ref a] H .non := fun H1 e Q q E => ⟨a, xs, rfl, ex_t e h, h1, h2, h3, q⟩
theorem sm_n {n : Nat} (h : n < 10 ^ 60) : Sm (n : Int) := h


def sp_digits (K : PySem.W.Frag) : Sp := fun vs H Q _ => ∃ (b n : Nat), vs = [N_ b, N_ n] ∧ Bs b ∧ n < 10 ^ 60 ∧ RetU ((dg b n).map N_) H Q
theorem gt_n {n : Nat} (h : n < 10 ^ 60) : Gt n := Nat.lt_trans h (by decide)
theorem sv_digits {K : PySem.W.Frag} {H : Hp} {b n : Nat} (hb : Bs b) (hn : n < 10 ^ 60) : SpU (sp_digits K) [N_ b, N_ n] H ((dg b n).map N_) := fun H1 _ Q q E => ⟨b, n, rfl, hb, hn, q⟩


def sp_of_digits (K : PySem.W.Frag) : Sp := fun vs H Q _ => ∃ (b : Nat) (a : Addr) (xs : List Nat), vs = [N_ b, .ref a] ∧ Bs b ∧ SqT K H a (xs.map N_) ∧ xs.length ≤ 400 ∧ (∀ d ∈ xs, d < b) ∧ RetV (N_ (od b xs)) H Q
theorem sv_of_digits {K : PySem.W.Frag} {H : Hp} {b : Nat} {a : Addr} {xs : List Nat} (hb : Bs b) (h : SqT K H a (xs.map N_)) (hl : xs.length ≤ 400) (hx : ∀ d ∈ xs, d < b) : SpV (sp_of_digits K) [N_ b, .ref a] H (N_ (od b xs)) := fun H1 e Q q E => ⟨b, a, xs, rfl, hb, ex_t e h, hl, hx, q⟩
theorem sv_row_integer {K : PySem.W.Frag} {H : Hp} {b : Nat} {a : Addr} {xs : List Nat} (hb : Bs b) (h : SqT K H a (xs.map N_)) (hl : xs.length ≤ 410) (hx : ∀ d ∈ xs, d < b) : SpV (sp_row_integer K) [N_ b, .ref a] H (N_ (od b xs)) := fun H1 e Q q E => ⟨b, a, xs, rfl, hb, ex_t e h, hl, hx, q⟩
theorem all_true {α : Type} (xs : List α) : (xs.map fun _ => true).all id = true := by
  rw [List.all_eq_true]
  intro z hz
  obtain ⟨_, _, rfl⟩ := List.mem_map.mp hz
  rfl


def sp_digit_sum (K : PySem.W.Frag) : Sp := fun vs H Q _ => ∃ (b n : Nat), vs = [N_ b, N_ n] ∧ Bs b ∧ n < 10 ^ 60 ∧ RetV (N_ (ds b n)) H Q
theorem sv_digit_sum {K : PySem.W.Frag} {H : Hp} {b n : Nat} (hb : Bs b) (hn : n < 10 ^ 60) : SpV (sp_digit_sum K) [N_ b, N_ n] H (N_ (ds b n)) := fun H1 _ Q q E => ⟨b, n, rfl, hb, hn, q⟩


def sp_carries (K : PySem.W.Frag) : Sp := fun vs H Q _ => ∃ (b x y : Nat), vs = [N_ b, N_ x, N_ y] ∧ Bs b ∧ x < 10 ^ 60 ∧ y < 10 ^ 60 ∧ RetV (N_ (cc b 0 x y)) H Q
theorem sv_carries {K : PySem.W.Frag} {H : Hp} {b x y : Nat} (hb : Bs b) (hx : x < 10 ^ 60) (hy : y < 10 ^ 60) : SpV (sp_carries K) [N_ b, N_ x, N_ y] H (N_ (cc b 0 x y)) := fun H1 _ Q q E => ⟨b, x, y, rfl, hb, hx, hy, q⟩
theorem car_eq {b x y : Nat} (hb : Bs b) : ((ds b x : Nat) + (ds b y : Nat) - (ds b (x + y) : Nat) : Int) / ((b : Int) - 1) = ((cc b 0 x y : Nat) : Int) := by
  have h := ds_plus (b := b) hb.1 x y
  have e : ((ds b x : Nat) + (ds b y : Nat) - (ds b (x + y) : Nat) : Int) = ((b : Int) - 1) * ((cc b 0 x y : Nat) : Int) := by
    have h2 : ((b : Int) - 1) = ((b - 1 : Nat) : Int) := by have := hb.1; omega
    rw [h2, ← Int.natCast_mul]
    omega
  rw [e]
  exact Int.mul_ediv_cancel_left _ (by have := hb.1; omega)


def sp_has_no_carries (K : PySem.W.Frag) : Sp := fun vs H Q _ => ∃ (b : Nat) (a : Addr) (xs : List Nat), vs = [N_ b, .ref a] ∧ Bs b ∧ SqT K H a (xs.map N_) ∧ 1 ≤ xs.length ∧ xs.length ≤ 400 ∧ (∀ d ∈ xs, d < 10 ^ 60) ∧ RetV (.bl (decide ((xs.map (ds b)).sum = ds b xs.sum))) H Q
theorem sv_has_no_carries {K : PySem.W.Frag} {H : Hp} {b : Nat} {a : Addr} {xs : List Nat} (hb : Bs b) (h : SqT K H a (xs.map N_)) (h1 : 1 ≤ xs.length) (h2 : xs.length ≤ 400) (h3 : ∀ d ∈ xs, d < 10 ^ 60) : SpV (sp_has_no_carries K) [N_ b, .ref a] H (.bl (decide ((xs.map (ds b)).sum = ds b xs.sum))) := fun H1 e Q q E => ⟨b, a, xs, rfl, hb, ex_t e h, h1, h2, h3, q⟩
theorem sv_are_carry_free {K : PySem.W.Frag} {H : Hp} {b : Nat} {a : Addr} {xs : List Nat} (hb : Bs b) (h : SqT K H a (xs.map N_)) (h2 : xs.length ≤ 410) (h3 : Gt xs.sum) : SpV (sp_are_carry_free K) [N_ b, .ref a] H (.bl (decide ((xs.map (ds b)).sum = ds b xs.sum))) := fun H1 e Q q E => ⟨b, a, xs, rfl, hb, ex_t e h, h2, h3, q⟩
theorem sum_bound {m : Nat} : ∀ xs : List Nat, (∀ d ∈ xs, d < m) → xs.sum ≤ xs.length * m
  | [], _ => Nat.zero_le _
  | x :: r, h => by
    rw [List.sum_cons, List.length_cons, Nat.succ_mul]
    have h1 := h x (List.mem_cons_self ..)
    have h2 := sum_bound r fun d hd => h d (List.mem_cons_of_mem _ hd)
    omega


def FQ : List Nat := [2, 3, 4, 5, 7, 8, 9]
def Fq (q : Nat) : Prop := q ∈ FQ
theorem Fq.b {q : Nat} (h : Fq q) : 2 ≤ q ∧ q ≤ 9 := by
  unfold Fq FQ at h
  simp only [List.mem_cons, List.not_mem_nil, or_false] at h
  omega
def g0 (t : List (Int × Int)) (q : Nat) : Option Int := t.lookup (q : Int)
def prE (q : Nat) : Nat := ((g0 W_PRIMES q).getD 0).toNat
def poE (q : Nat) : Nat := ((g0 W_POWERS q).getD 0).toNat
def chkAll (f : Nat → Bool) : Bool := FQ.all f
theorem chk_get {f : Nat → Bool} (h : chkAll f = true) {q : Nat} (hq : Fq q) : f q = true := List.all_eq_true.mp h q hq
def all1 (q : Nat) (f : Nat → Bool) : Bool := (List.range q).all f
theorem all1_get {q : Nat} {f : Nat → Bool} (h : all1 q f = true) {a : Nat} (ha : a < q) : f a = true := List.all_eq_true.mp h a (List.mem_range.mpr ha)
theorem chk_tabs : chkAll (fun q => decide (g0 W_PRIMES q = some ((prE q : Nat) : Int)) && decide (g0 W_POWERS q = some ((poE q : Nat) : Int)) && decide (2 ≤ prE q) && decide (prE q ≤ 7) && decide (1 ≤ poE q) && decide (poE q ≤ 3) && decide (prE q ^ poE q = q)) = true := by decide +kernel
structure T0 (q : Nat) : Prop where
  pr : g0 W_PRIMES q = some ((prE q : Nat) : Int)
  po : g0 W_POWERS q = some ((poE q : Nat) : Int)
  p2 : 2 ≤ prE q
  p7 : prE q ≤ 7
  f1 : 1 ≤ poE q
  f3 : poE q ≤ 3
  pw : prE q ^ poE q = q
theorem t0_of {q : Nat} (hq : Fq q) : T0 q := by
  have h := chk_get chk_tabs hq
  simp only [Bool.and_eq_true, decide_eq_true_eq] at h
  exact ⟨h.1.1.1.1.1.1, h.1.1.1.1.1.2, h.1.1.1.1.2, h.1.1.1.2, h.1.1.2, h.1.2, h.2⟩
theorem tup_of {K : PySem.W.Frag} {a : Addr} {ns : List Int} (h : asRow K (.ref a) = some ns) (H : Hp) : SqT K H a (ns.map V.int) := by
  obtain ⟨b, e, hs⟩ := asRow_eq h
  cases e
  exact hs H
theorem inV_ints (i : Int) : ∀ ns : List Int, inV (.int i) (ns.map V.int) = decide (i ∈ ns)
  | [] => rfl
  | n :: r => by
    have ih := inV_ints i r
    unfold inV at ih ⊢
    rw [List.map_cons, List.any_cons, ih]
    show ((n == i) || decide (i ∈ r)) = decide (i ∈ n :: r)
    by_cases h : n = i
    · subst h
      rw [show (n == n) = true from beq_self_eq_true n, Bool.true_or, decide_eq_true (List.mem_cons_self ..)]
    · rw [show (n == i) = false from beq_eq_false_iff_ne.mpr h, Bool.false_or]
      by_cases h2 : i ∈ r
      · rw [decide_eq_true h2, decide_eq_true (List.mem_cons_of_mem _ h2)]
      · rw [decide_eq_false h2, decide_eq_false (fun z => by
          rcases List.mem_cons.mp z with z | z
          · exact h z.symm
          · exact h2 z)]
theorem flat_ints (ns : List Int) : (ns.map V.int).all flatV = true := by
  rw [List.all_eq_true]
  intro x hx
  obtain ⟨n, _, rfl⟩ := List.mem_map.mp hx
  rfl
theorem Fq.bs {q : Nat} (h : Fq q) : Bs q := ⟨h.b.1, by have := h.b.2; omega⟩
def sp_is_field (K : PySem.W.Frag) : Sp := fun vs H Q _ => ∃ (q : Nat), vs = [N_ q] ∧ Fq q ∧ RetV (.bl true) H Q
theorem sv_is_field {K : PySem.W.Frag} {H : Hp} {q : Nat} (hq : Fq q) : SpV (sp_is_field K) [N_ q] H (.bl true) := fun H1 e Q k E => ⟨q, rfl, hq, k⟩
theorem in_F {q : Nat} (hq : Fq q) : decide ((q : Int) ∈ W_FIELDS) = true := by
  unfold Fq FQ at hq
  simp only [List.mem_cons, List.not_mem_nil, or_false] at hq
  rcases hq with rfl | rfl | rfl | rfl | rfl | rfl | rfl <;> decide

theorem ok_is_field {P : Program} {w : World} {K : PySem.W.Frag} {mg : Str → Option Value} {base : Heap} (T : Txt K mg) : FnOk P w K mg base CX0 2 T.a_is_field T.d_is_field ["value"] (sp_is_field K) := by
  refine T.F_is_field.ok sc_is_field (fun vs H Q E h => ?_) (fun cdv A outer s H vs Q E hr h => ?_)
  · obtain ⟨q, rfl, _⟩ := h
    rfl
  · obtain ⟨q, rfl, hq, k⟩ := h
    refine ⟨_, (pss_one (ps_ret (pe_and (pe_call (ok_is_integer T) (hr.mono (by decide)) (by rfl) T.g_is_integer T.F_is_integer.kp T.b_is_integer .nil pass0 (pa_cons (pv 0) pa_nil)) (pe_one (pe_cmpR op_in_seq (pv 0) (pe_glob (v := .ref T.a_FIELDS) (by rfl) T.g_FIELDS rfl) (by rfl)))))), ?_⟩
    exact s_ret (ev_andV (b := true) (ev_call (ea_cons (ev_var rfl) ea_nil) (sv_is_integer (sm_b hq.bs))) fun _ => (ev_is (ev_op (ev_var rfl) ev_c (rv_isT (tup_of T.w_FIELDS H) rfl (flat_ints _))) (congrArg V.bl ((inV_ints _ _).trans (in_F hq))))) fun H1 e1 => k H1 e1


def sp_check_field (K : PySem.W.Frag) : Sp := fun vs H Q _ => ∃ (q : Nat), vs = [N_ q] ∧ Fq q ∧ RetV .non H Q
theorem sv_check_field {K : PySem.W.Frag} {H : Hp} {q : Nat} (hq : Fq q) : SpV (sp_check_field K) [N_ q] H .non := fun H1 e Q k E => ⟨q, rfl, hq, k⟩

theorem ok_check_field {P : Program} {w : World} {K : PySem.W.Frag} {mg : Str → Option Value} {base : Heap} (T : Txt K mg) : FnOk P w K mg base CX0 3 T.a_check_field T.d_check_field ["q"] (sp_check_field K) := by
  refine T.F_check_field.ok sc_check_field (fun vs H Q E h => ?_) (fun cdv A outer s H vs Q E hr h => ?_)
  · obtain ⟨q, rfl, _⟩ := h
    rfl
  · obtain ⟨q, rfl, hq, k⟩ := h
    refine ⟨_, (pss_one (ps_if (pt_not (pt_val (pe_call (ok_is_field T) (hr.mono (by decide)) (by rfl) T.g_is_field T.F_is_field.kp T.b_is_field .nil pass0 (pa_cons (pv 0) pa_nil)))) (pss_one ps_never) pss_nil)), ?_⟩
    exact s_when (et_not (et_B (ev_call (ea_cons (ev_var rfl) ea_nil) (sv_is_field hq)))) (fun z => nomatch z) (fun _ H1 e1 => k H1 e1)


section
variable {K : PySem.W.Frag} {σ : L2.St} {H H' : Hp} {te : TE}
theorem el_slN {tl th : TO} {xs : List V} {lo hi : Option Int} (h : EvL te σ H xs) (h1 : EvO tl σ H lo) (h2 : EvO th σ H hi) : EvL (tSl (rSlL K) te tl th) σ H (cutV xs lo hi) := fun H1 e _ q =>
  h H1 e _ fun a H2 _ e2 hx => h1 H2 (e.trans e2) _ fun H3 e3 => h2 H3 ((e.trans e2).trans e3) _ fun H4 e4 =>
    ⟨a, xs, rfl, sq_of (e4 _ _ (e3 _ _ hx)), fun p hp => q p _ (fresh_back ((e2.trans e3).trans e4) hp) (((e2.trans e3).trans e4).trans (Ex.new hp)) upd_same⟩
end
theorem ev_minN {K : PySem.W.Frag} {σ : L2.St} {H : Hp} {ta : TE} {ns : List Int} {m : Int} (h : EvL ta σ H (ns.map V.int)) (hm : m ∈ ns) (hl : ∀ y ∈ ns, m ≤ y) : Ev (tCB (rMin K) (tCons ta tNil)) σ H (.int m) := fun H1 e Q q =>
  h H1 e _ fun p H2 _ e2 h2 => ⟨p, ns, rfl, sq_of h2, List.length_pos_of_mem hm, fun m' hm' hl' => by
    have : m' = m := Int.le_antisymm (hl' m hm) (hl m' hm')
    subst this
    exact q H2 e2⟩
def minL : List Nat → Nat
  | [] => 0
  | [x] => x
  | x :: y :: r => min x (minL (y :: r))
theorem minL_mem : ∀ xs : List Nat, xs ≠ [] → minL xs ∈ xs
  | [], h => absurd rfl h
  | [x], _ => List.mem_cons_self ..
  | x :: y :: r, _ => by
    have ih := minL_mem (y :: r) (by simp)
    show min x (minL (y :: r)) ∈ x :: y :: r
    rcases Nat.le_total x (minL (y :: r)) with h | h
    · rw [Nat.min_eq_left h]
      exact List.mem_cons_self ..
    · rw [Nat.min_eq_right h]
      exact List.mem_cons_of_mem _ ih
theorem minL_le : ∀ (xs : List Nat) (y : Nat), y ∈ xs → minL xs ≤ y
  | [], y, h => by simp at h
  | [x], y, h => by
    rw [List.mem_singleton.mp h]
    exact Nat.le_refl _
  | x :: z :: r, y, h => by
    show min x (minL (z :: r)) ≤ y
    rcases List.mem_cons.mp h with h | h
    · rw [h]
      exact Nat.min_le_left _ _
    · exact Nat.le_trans (Nat.min_le_right _ _) (minL_le (z :: r) y h)
def ssL (q k : Nat) : List Nat := (List.range (poE q)).map fun j => ds q (prE q ^ j * k)
def mpN (q k : Nat) : Nat := minL (ssL q k) / (q - 1)
theorem ssL_len (q k : Nat) : (ssL q k).length = poE q := by unfold ssL; rw [List.length_map, List.length_range]
theorem given_range (n : Nat) (v : Nat → V) : given n (fun _ => true) v = (List.range n).map v := by
  unfold given
  rw [List.filter_eq_self.mpr (fun _ _ => rfl)]
theorem p49 {q j : Nat} (hq : Fq q) (hj : j ≤ 2) : prE q ^ j ≤ 49 := Nat.le_trans (Nat.pow_le_pow_left (t0_of hq).p7 j) (Nat.le_trans (Nat.pow_le_pow_right (by decide) hj) (by decide))
theorem gt_pk {q j k : Nat} (hq : Fq q) (hj : j ≤ 2) (hk : k < 10 ^ 60) : Gt (prE q ^ j * k) := Nat.lt_of_le_of_lt (Nat.mul_le_mul (p49 hq hj) (Nat.le_of_lt hk)) (by decide +kernel)
def sp_shift_sum_list (K : PySem.W.Frag) : Sp := fun vs H Q _ => ∃ (q k : Nat), vs = [N_ q, N_ k] ∧ Fq q ∧ k < 10 ^ 60 ∧ RetL ((ssL q k).map N_) H Q
theorem sv_shift_sum_list {K : PySem.W.Frag} {H : Hp} {q k : Nat} (hq : Fq q) (hk : k < 10 ^ 60) : SpL (sp_shift_sum_list K) [N_ q, N_ k] H ((ssL q k).map N_) := fun H1 e Q kk E => ⟨q, k, rfl, hq, hk, kk⟩


def sp_parts_bound (K : PySem.W.Frag) : Sp := fun vs H Q _ => ∃ (q k : Nat), vs = [N_ q, N_ k] ∧ Fq q ∧ k < 10 ^ 60 ∧ RetV (N_ (mpN q k)) H Q
theorem sv_parts_bound {K : PySem.W.Frag} {H : Hp} {q k : Nat} (hq : Fq q) (hk : k < 10 ^ 60) : SpV (sp_parts_bound K) [N_ q, N_ k] H (N_ (mpN q k)) := fun H1 e Q kk E => ⟨q, k, rfl, hq, hk, kk⟩
theorem ssL_ne {q k : Nat} (hq : Fq q) : ssL q k ≠ [] := fun z => by
  have h := ssL_len q k
  rw [z] at h
  have := (t0_of hq).f1
  have e : ([] : List Nat).length = 0 := rfl
  omega
theorem ev_minS {K : PySem.W.Frag} {σ : L2.St} {H : Hp} {ta : TE} {xs : List Nat} (h : EvL ta σ H (xs.map N_)) (hn : xs ≠ []) : Ev (tCB (rMin K) (tCons ta tNil)) σ H (N_ (minL xs)) :=
  ev_minN (ns := xs.map Int.ofNat) (m := ((minL xs : Nat) : Int)) (el_is h (mapN xs)) (List.mem_map.mpr ⟨minL xs, minL_mem xs hn, rfl⟩) fun y hy => by
    obtain ⟨z, hz, rfl⟩ := List.mem_map.mp hy
    exact Int.ofNat_le.mpr (minL_le xs z hz)


def sp_shift_sums (K : PySem.W.Frag) : Sp := fun vs H Q _ => ∃ (q k : Nat), vs = [N_ q, N_ k] ∧ Fq q ∧ k < 10 ^ 60 ∧ RetU ((ssL q k).map N_) H Q
theorem sv_shift_sums {K : PySem.W.Frag} {H : Hp} {q k : Nat} (hq : Fq q) (hk : k < 10 ^ 60) : SpU (sp_shift_sums K) [N_ q, N_ k] H ((ssL q k).map N_) := fun H1 e Q kk E => ⟨q, k, rfl, hq, hk, kk⟩
def sp_most_parts (K : PySem.W.Frag) : Sp := fun vs H Q _ => ∃ (q k : Nat), vs = [N_ q, N_ k] ∧ Fq q ∧ k < 10 ^ 60 ∧ RetV (N_ (mpN q k)) H Q
theorem sv_most_parts {K : PySem.W.Frag} {H : Hp} {q k : Nat} (hq : Fq q) (hk : k < 10 ^ 60) : SpV (sp_most_parts K) [N_ q, N_ k] H (N_ (mpN q k)) := fun H1 e Q kk E => ⟨q, k, rfl, hq, hk, kk⟩



end Own
namespace Own
open PySem PySem.Spec PyProof.Rows L2 Evl

def sp__law_dice (K : PySem.W.Frag) : Sp := fun vs H Q _ => ∃ (a : Addr) (ns : List Int) (at_ : Nat), vs = [.ref a, N_ at_] ∧ SqL K H a (ns.map V.int) ∧ ns.length ≤ 63 ∧ at_ ≤ 100 ∧ ∀ p H', H p = none → Ex H H' → IsDice H' p → Q (.ref p) H'

theorem ok__law_dice {P : Program} {w : World} {K : PySem.W.Frag} {mg : Str → Option Value} {base : Heap} (T : Txt K mg) : FnOk P w K mg base CX0 1 T.a__law_dice T.d__law_dice ["_law_script", "_law_at"] (sp__law_dice K) := by
  refine T.F__law_dice.ok sc__law_dice (fun vs H Q E h => ?_) (fun cdv A outer s H vs Q E hr h => ?_)
  · obtain ⟨a, ns, at_, rfl, _⟩ := h
    rfl
  · obtain ⟨a, ns, at_, rfl, hx, hlen, hat, k⟩ := h
    refine ⟨_, (pss_cons (ps_set (i := 2) sc__law_dice.nd rfl (Or.inl rfl) (pe_op op_add (pe_op op_mul pe_int (pv 1)) pe_int))
      (pss_cons (ps_if (pt_cmpR op_lt (pv 1) (pe_callB call_len_seq (by rfl) T.z_len (by decide +kernel) (pa_cons (pv 0) pa_nil)) (nomark _)) (pss_one (ps_set (i := 2) sc__law_dice.nd rfl (Or.inl rfl) (pe_ix (r := rIxL K) ix_list (pv 0) (pv 1) (fun _ _ => rfl)))) pss_nil)
      (pss_cons (ps_set (i := 3) sc__law_dice.nd rfl (Or.inl rfl) (pe_op op_mod (pe_callTy call_int1 (by rfl) T.z_int (by decide +kernel) (pa_cons (pe_callB call_abs (by rfl) T.z_abs (by decide +kernel) (pa_cons (pv 2) pa_nil)) pa_nil)) (pe_op op_powW (pe_op op_powW pe_int pe_int) pe_int)))
      (pss_cons (ps_set (i := 4) sc__law_dice.nd rfl (Or.inl rfl) (pe_op op_fdivW (pv 3) (pe_op op_powW pe_int pe_int)))
      (pss_cons (ps_set (i := 5) sc__law_dice.nd rfl (Or.inl rfl) (pe_op op_add (pe_op op_add (pe_op op_add (pe_op op_mul (pe_op op_mod (pv 3) pe_int) pe_int) (pe_op op_mul pe_int (pv 1))) (pe_op op_mul pe_int (pe_callTy call_int1 (by rfl) T.z_int (by decide +kernel) (pa_cons (pe_cmpR op_lt (pv 2) pe_int (nomark _)) pa_nil)))) pe_int))
      (pss_one (ps_ret (pe_lst (pa_cons (pv 4) (pa_cons (pe_op op_mod (pv 5) pe_int) (pa_cons pe_int pa_nil))))))))))), ?_⟩
    refine q_asg (ev_op (ev_op ev_c (ev_var rfl) (rv_I (.inl ⟨by decide, by decide⟩))) ev_c rv_I0) fun H1 e1 => ?_
    have hz : ∃ z : Int, (decide ((at_ : Int) < ((ns.map V.int).length : Nat)) = true → (ns.map V.int)[at_]? = some (.int z)) ∧ (decide ((at_ : Int) < ((ns.map V.int).length : Nat)) = false → z = 103 * (at_ : Int) + 43) := by
      by_cases hlt : at_ < ns.length
      · refine ⟨ns[at_], fun _ => ?_, fun h => ?_⟩
        · rw [List.getElem?_map, List.getElem?_eq_getElem hlt]
          rfl
        · have := of_decide_eq_false h
          rw [List.length_map] at this
          omega
      · refine ⟨103 * (at_ : Int) + 43, fun h => ?_, fun _ => rfl⟩
        have := of_decide_eq_true h
        rw [List.length_map] at this
        omega
    obtain ⟨z, hz1, hz2⟩ := hz
    refine q_ifAsg (v := .int z) (et_test (ev_op (ev_var rfl) (ev_cb (ea_cons (ev_var rfl) ea_nil) (rc_lenL (ex_l e1 hx))) rv_I0)) (fun hb => ev_op (ev_var rfl) (ev_var rfl) (rv_ixL (ex_l e1 hx) (atI_nat (hz1 hb)))) (fun hb => ?_) (fun H2 e2' => ?_)
    · rw [hz2 hb]
      rfl
    have e2 := e1.trans e2'
    refine q_asg (ev_op (ev_cb (ea_cons (ev_cb (ea_cons (ev_var rfl) ea_nil) rc_abs) ea_nil) rc_int) (ev_op (ev_op ev_c ev_c (rv_I ⟨by decide, by decide, by decide⟩)) ev_c (rv_I ⟨by decide, by decide, by decide +kernel⟩)) (rv_I (by decide +kernel))) fun H3 e3 => ?_
    refine q_asg (ev_op (ev_var rfl) (ev_op ev_c ev_c (rv_I ⟨by decide, by decide, by decide⟩)) (rv_I (wide_div (b := 100) (by decide +kernel) (by decide +kernel) (by decide) (by decide)))) fun H4 e4 => ?_
    refine q_asg (ev_op (ev_op (ev_op (ev_op (ev_op (ev_var rfl) ev_c (rv_I (by decide))) ev_c (rv_I (.inr ⟨by decide, by decide⟩))) (ev_op ev_c (ev_var rfl) (rv_I (.inl ⟨by decide, by decide⟩))) rv_I0) (ev_op ev_c (ev_cb (ea_cons (ev_op (ev_var rfl) ev_c rv_I0) ea_nil) rc_intB) (rv_I (.inl ⟨by decide, by decide⟩))) rv_I0) ev_c rv_I0) fun H5 e5 => ?_
    exact s_retL (el_lst (ea_cons (ev_var rfl) (ea_cons (ev_op (ev_var rfl) ev_c (rv_I (by decide))) (ea_cons ev_c ea_nil))) (by show 3 ≤ 100000; decide)) fun p H6 hp e6 h6 => k p H6 (fresh_back ((((e2.trans e3).trans e4).trans e5)) hp) ((((e2.trans e3).trans e4).trans e5).trans e6) ⟨_, _, _, h6⟩


def sp__law_roll (K : PySem.W.Frag) : Sp := fun vs H Q _ => ∃ (p : Addr) (m : Nat), vs = [.ref p, N_ m] ∧ IsDice H p ∧ 0 < m ∧ m < 2 ^ 1000 ∧ ∀ (r : Nat) H', r < m → Exd p H H' → IsDice H' p → Q (N_ r) H'
theorem nat_mod (x : Int) {m : Nat} (h : 0 < m) : ∃ r : Nat, r < m ∧ x % (m : Int) = (r : Int) := by
  have h1 := Int.emod_nonneg x (by omega : (m : Int) ≠ 0)
  have h2 := Int.emod_lt_of_pos x (by omega : (0 : Int) < m)
  exact ⟨(x % (m : Int)).toNat, by omega, by omega⟩

theorem ok__law_roll {P : Program} {w : World} {K : PySem.W.Frag} {mg : Str → Option Value} {base : Heap} (T : Txt K mg) : FnOk P w K mg base CX0 1 T.a__law_roll T.d__law_roll ["_law_dice_here", "_law_total"] (sp__law_roll K) := by
  refine T.F__law_roll.ok sc__law_roll (fun vs H Q E h => ?_) (fun cdv A outer s H vs Q E hr h => ?_)
  · obtain ⟨p, m, rfl, _⟩ := h
    rfl
  · obtain ⟨p, m, rfl, hd, hm, hM, k⟩ := h
    refine ⟨_, (pss_cons (ps_set (i := 2) sc__law_roll.nd rfl (Or.inl rfl) (pe_callTy call_int1 (by rfl) T.z_int (by decide +kernel) (pa_cons (pv 1) pa_nil)))
      (pss_cons (ps_if (pt_cmpR op_gt (pe_ix (r := rIxL K) ix_list (pv 0) pe_int (fun _ _ => rfl)) pe_int (nomark _)) (pss_cons (ps_set (i := 3) sc__law_roll.nd rfl (Or.inl rfl) (pe_op op_mod (pe_ix (r := rIxL K) ix_list (pv 0) pe_int (fun _ _ => rfl)) (pv 2)))
      (pss_cons (ps_asg (pe_op op_fdivW (pe_ix (r := rIxL K) ix_list (pv 0) pe_int (fun _ _ => rfl)) (pv 2)) (pg_sub (pv 0) pe_int set_list))
      (pss_one (ps_ret (pe_callTy call_int1 (by rfl) T.z_int (by decide +kernel) (pa_cons (pv 3) pa_nil)))))) pss_nil)
      (pss_cons (ps_asg (pe_op op_add (pe_ix (r := rIxL K) ix_list (pv 0) pe_int (fun _ _ => rfl)) pe_int) (pg_sub (pv 0) pe_int set_list))
      (pss_cons (ps_set (i := 4) sc__law_roll.nd rfl (Or.inl rfl) (pe_op op_mod (pe_op op_add (pe_ix (r := rIxL K) ix_list (pv 0) pe_int (fun _ _ => rfl)) (pe_op op_mul pe_int (pe_ix (r := rIxL K) ix_list (pv 0) pe_int (fun _ _ => rfl)))) pe_int))
      (pss_cons (ps_set (i := 5) sc__law_roll.nd rfl (Or.inl rfl) (pe_op op_add (pe_op op_mulW (pe_op op_mod (pe_op op_mulW (pv 4) (pv 4)) pe_int) (pv 4)) (pe_op op_mul pe_int (pe_ix (r := rIxL K) ix_list (pv 0) pe_int (fun _ _ => rfl)))))
      (pss_cons (ps_set (i := 5) sc__law_roll.nd rfl (Or.inl rfl) (pe_op op_mod (pv 5) pe_int))
      (pss_one (ps_ret (pe_callTy call_int1 (by rfl) T.z_int (by decide +kernel) (pa_cons (pe_op op_mod (pe_op op_fdivW (pv 5) pe_int) (pv 2)) pa_nil)))))))))), ?_⟩
    obtain ⟨d0, d1, d2, hd⟩ := hd
    refine q_asg (ev_cb (ea_cons (ev_var rfl) ea_nil) rc_int) fun H1 e1 => ?_
    have h1 := e1 _ _ hd
    refine q_if (et_test (ev_op (ev_op (ev_var rfl) ev_c (rv_ixL (sq_of h1) (atI_nat (j := 0) rfl))) ev_c rv_I0)) (fun hb H2 e2 => ?_) (fun _ H2 e2 => ?_)
    · have h2 := e2 _ _ h1
      obtain ⟨r, hr1, hr2⟩ := nat_mod d0 hm
      refine q_asg (ev_op (ev_op (ev_var rfl) ev_c (rv_ixL (sq_of h2) (atI_nat (j := 0) rfl))) (ev_var rfl) (rv_I (by omega))) fun H3 e3 => ?_
      have h3 := e3 _ _ h2
      refine q_setL (j := 0) h3 (ev_op (ev_op (ev_var rfl) ev_c (rv_ixL (sq_of h3) (atI_nat (j := 0) rfl))) (ev_var rfl) (rv_I (wide_div (b := 1000) (by omega) (by exact hM) (by decide) (by decide)))) (ev_var rfl) ev_c (by show 0 < 3; decide) fun H4 e4 => ?_
      refine s_ret (ev_cb (ea_cons (ev_var rfl) ea_nil) rc_int) fun H5 e5 => ?_
      rw [hr2]
      exact k r H5 hr1 (((Exd.of (((e1.trans e2).trans e3).trans e4)).trans Exd.put).trans (Exd.of e5)) (IsDice.ex ⟨_, _, _, upd_same⟩ e5)
    · have h2 := e2 _ _ h1
      refine q_setL (j := 2) h2 (ev_op (ev_op (ev_var rfl) ev_c (rv_ixL (sq_of h2) (atI_nat (j := 2) rfl))) ev_c rv_I0) (ev_var rfl) ev_c (by show 2 < 3; decide) fun H3 e3 => ?_
      have h3 : (upd H3 p (.lst ([V.int d0, .int d1, .int d2].set 2 (.int (d2 + 1))))) p = some (.lst [.int d0, .int d1, .int (d2 + 1)]) := upd_same
      generalize hg : upd H3 p (.lst ([V.int d0, .int d1, .int d2].set 2 (.int (d2 + 1)))) = G at h3
      have eG : Exd p H G := by
        rw [← hg]
        exact (Exd.of ((e1.trans e2).trans e3)).trans Exd.put
      refine q_asg (ev_op (ev_op (ev_op (ev_var rfl) ev_c (rv_ixL (sq_of h3) (atI_nat (j := 1) rfl))) (ev_op ev_c (ev_op (ev_var rfl) ev_c (rv_ixL (sq_of h3) (atI_nat (j := 2) rfl))) (rv_I (.inl ⟨by decide, by decide⟩))) rv_I0) ev_c (rv_I (by decide))) fun H4 e4 => ?_
      have h4 := e4 _ _ h3
      have b1 : ∀ x : Int, (x % 2305843009213693951).natAbs < 2 ^ 61 := fun x => mod_abs (by decide) (by decide)
      have b2 : ∀ x : Int, (x % 2305843009213693921).natAbs < 2 ^ 61 := fun x => mod_abs (by decide) (by decide)
      refine q_asg (ev_op (ev_op (ev_op (ev_op (ev_var rfl) (ev_var rfl) (rv_I (wide_mul (b1 _) (b1 _) (by decide) (by decide) (by decide)))) ev_c (rv_I (by decide))) (ev_var rfl) (rv_I (wide_mul (b2 _) (b1 _) (by decide) (by decide) (by decide)))) (ev_op ev_c (ev_op (ev_var rfl) ev_c (rv_ixL (sq_of h4) (atI_nat (j := 2) rfl))) (rv_I (.inl ⟨by decide, by decide⟩))) rv_I0) fun H5 e5 => ?_
      refine q_asg (ev_op (ev_var rfl) ev_c (rv_I (by decide))) fun H6 e6 => ?_
      refine s_ret (ev_cb (ea_cons (ev_op (ev_op (ev_var rfl) ev_c (rv_I (wide_div (b := 20) (by decide) (by decide) (by decide) (by decide)))) (ev_var rfl) (rv_I (by omega))) ea_nil) rc_int) fun H7 e7 => ?_
      obtain ⟨r, hr1, hr2⟩ := nat_mod _ hm
      rw [hr2]
      exact k r H7 hr1 (eG.trans (Exd.of (((e4.trans e5).trans e6).trans e7))) (IsDice.ex ⟨_, _, _, h4⟩ ((e5.trans e6).trans e7))


def sp__law_one_of (K : PySem.W.Frag) : Sp := fun vs H Q _ => ∃ (p a : Addr) (xs : List V), vs = [.ref p, .ref a] ∧ IsDice H p ∧ SqL K H a xs ∧ a ≠ p ∧ 0 < xs.length ∧ xs.length ≤ 1000 ∧ ∀ (x : V) H', x ∈ xs → Exd p H H' → IsDice H' p → Q x H'

theorem ok__law_one_of {P : Program} {w : World} {K : PySem.W.Frag} {mg : Str → Option Value} {base : Heap} (T : Txt K mg) : FnOk P w K mg base CX0 2 T.a__law_one_of T.d__law_one_of ["_law_dice_here", "_law_items"] (sp__law_one_of K) := by
  refine T.F__law_one_of.ok sc__law_one_of (fun vs H Q E h => ?_) (fun cdv A outer s H vs Q E hr h => ?_)
  · obtain ⟨p, a, xs, rfl, _⟩ := h
    rfl
  · obtain ⟨p, a, xs, rfl, hd, hx, hne, hpos, hlen, k⟩ := h
    refine ⟨_, (pss_one (ps_ret (pe_ix (r := rIxL K) ix_list (pv 1) (pe_call (ok__law_roll T) (hr.mono (by decide)) (by rfl) T.g__law_roll T.F__law_roll.kp T.b__law_roll .nil pass0 (pa_cons (pv 0) (pa_cons (pe_callB call_len_seq (by rfl) T.z_len (by decide +kernel) (pa_cons (pv 1) pa_nil)) pa_nil))) (fun _ _ => rfl)))), ?_⟩
    refine ⟨.ref a, rfl, .ref p, rfl, .ref a, rfl, a, xs, rfl, .inl hx, p, xs.length, rfl, hd, hpos, Nat.lt_of_le_of_lt hlen (by decide), fun r H' hr ex hd' => ?_⟩
    exact ⟨a, xs, (r : Int), xs[r], rfl, rfl, exd_l hne ex hx, atI_nat (List.getElem?_eq_getElem hr), k _ _ (List.getElem_mem hr) ex hd'⟩


def sp__law_raised (K : PySem.W.Frag) : Sp := fun vs H Q _ => ∃ (b c : Nat), vs = [N_ b, N_ c] ∧ b ≤ 1000 ∧ c ≤ 1000 ∧ RetV (N_ (b ^ c)) H Q
theorem sv_raised {K : PySem.W.Frag} {H : Hp} {b c : Nat} (hb : b ≤ 1000) (hc : c ≤ 1000) : SpV (sp__law_raised K) [N_ b, N_ c] H (N_ (b ^ c)) := fun H1 _ Q q E => ⟨b, c, rfl, hb, hc, q⟩
theorem pow_bd {b : Nat} (hb : b ≤ 1000) : ∀ i : Nat, b ^ i ≤ 2 ^ (10 * i)
  | 0 => Nat.le_refl _
  | i + 1 => by
    have ih := pow_bd hb i
    rw [Nat.pow_succ, Nat.mul_add, Nat.pow_add]
    exact Nat.mul_le_mul ih (by show b ≤ 1024; omega)

theorem ok__law_raised {P : Program} {w : World} {K : PySem.W.Frag} {mg : Str → Option Value} {base : Heap} (T : Txt K mg) : FnOk P w K mg base CX0 1 T.a__law_raised T.d__law_raised ["_law_base", "_law_count"] (sp__law_raised K) := by
  refine T.F__law_raised.ok sc__law_raised (fun vs H Q E h => ?_) (fun cdv A outer s H vs Q E hr h => ?_)
  · obtain ⟨b, c, rfl, _⟩ := h
    rfl
  · obtain ⟨b, c, rfl, hb, hc, k⟩ := h
    refine ⟨_, (pss_cons (ps_set (i := 2) sc__law_raised.nd rfl (Or.inl rfl) pe_int)
      (pss_cons (ps_for PassesOwn.never rfl (pi_range1 rfl T.z_range (pa_cons (pv 1) pa_nil)) (pg_name (i := 3) sc__law_raised.nd rfl (Or.inl rfl)) (pss_one (ps_set (i := 2) sc__law_raised.nd rfl (Or.inl rfl) (pe_op op_mulW (pv 2) (pv 0)))))
      (pss_one (ps_ret (pv 2))))), ?_⟩
    refine q_asg ev_c fun H1 e1 => ?_
    refine q_forR1 (n := (c : Int)) (ea_cons (ev_var rfl) ea_nil) ⟨by omega, by omega⟩ (fun i σ H' => ∃ y, σ = [some (N_ b), some (N_ c), some (N_ (b ^ i)), y] ∧ Ex H H') (fun H2 e2 => ⟨none, rfl, e1.trans e2⟩) (fun i σ H' hi hw => ?_) (fun σ H' hw => ?_)
    · obtain ⟨y, rfl, e2⟩ := hw
      have hb2 : b ^ i < 2 ^ 10001 := Nat.lt_of_le_of_lt (Nat.le_trans (pow_bd hb i) (Nat.pow_le_pow_right (by decide) (by omega : 10 * i ≤ 10000))) (Nat.pow_lt_pow_right (by decide) (by decide))
      refine s_asg (ev_op (ev_var rfl) (ev_var rfl) (rv_I (wide_mul (a := 10001) (b := 10) (by exact hb2) (by show b < 1024; omega) (by decide) (by decide) (by decide)))) fun H3 e3 => ⟨some (N_ i), ?_, e2.trans e3⟩
      rw [show N_ (b ^ (i + 1)) = V.int (((b ^ i : Nat) : Int) * (b : Int)) from congrArg V.int (by rw [Nat.pow_succ, Int.natCast_mul])]
      rfl
    · obtain ⟨y, rfl, e2⟩ := hw
      rw [Int.toNat_natCast]
      exact s_ret (ev_var rfl) fun H3 e3 => k H3 (e2.trans e3)


def sp__law_digits (K : PySem.W.Frag) : Sp := fun vs H Q _ => ∃ (b n : Nat), vs = [N_ b, N_ n] ∧ Bs b ∧ Gt n ∧ RetL ((dg b n).map N_) H Q
theorem sv__law_digits {K : PySem.W.Frag} {H : Hp} {b n : Nat} (hb : Bs b) (hn : Gt n) : SpL (sp__law_digits K) [N_ b, N_ n] H ((dg b n).map N_) := fun H1 _ Q q E => ⟨b, n, rfl, hb, hn, q⟩

theorem ok__law_digits {P : Program} {w : World} {K : PySem.W.Frag} {mg : Str → Option Value} {base : Heap} (T : Txt K mg) : FnOk P w K mg base CX0 1 T.a__law_digits T.d__law_digits ["_law_base", "_law_number"] (sp__law_digits K) := by
  refine T.F__law_digits.ok sc__law_digits (fun vs H Q E h => ?_) (fun cdv A outer s H vs Q E hr h => ?_)
  · obtain ⟨b, n, rfl, _⟩ := h
    rfl
  · obtain ⟨b, n, rfl, hb, hn, k⟩ := h
    refine ⟨_, (pss_cons (ps_par (i := 2) (j := 3) (by rfl) sc__law_digits.nd rfl rfl (by decide) rfl rfl (pa_cons (pe_lst pa_nil) (pa_cons (pv 1) pa_nil)) (by rfl))
      (pss_cons (ps_while PassesOwn.never (pt_cmpR op_gt (pv 3) pe_int (nomark _)) (pss_cons (ps_expr (pe_bm PySem.F.plainAttrs_list PySem.F.slot_list_append PySem.F.type_list_append mt_append (pv 2) (pa_cons (pe_op op_mod (pv 3) (pv 0)) pa_nil)))
      (pss_one (ps_set (i := 3) sc__law_digits.nd rfl (Or.inl rfl) (pe_op op_fdivW (pv 3) (pv 0))))))
      (pss_one (ps_ret (pv 2))))), ?_⟩
    refine q_parL (el_lst ea_nil (by decide)) (fun p H1 np e1 h1 => ev_var rfl) fun p H1 np e1 h1 => ?_
    refine q_while (fun l σ H' => ∃ acc : List Nat, σ = [some (N_ b), some (N_ n), some (.ref p), some (N_ l)] ∧ acc ++ dg b l = dg b n ∧ Ex H H' ∧ H' p = some (.lst (acc.map N_))) n
      ⟨[], rfl, rfl, e1, h1⟩ fun l σ H3 hw => ?_
    obtain ⟨acc, rfl, ha, e3, h3⟩ := hw
    refine ⟨decide (0 < (l : Int)), et_test (ev_op (ev_var rfl) ev_c rv_I0), fun ht H4 e4 => ?_, fun hf H4 e4 => ?_⟩
    · have hl : 0 < l := by have := of_decide_eq_true ht; omega
      refine ⟨fun σ' H' => σ' = [some (N_ b), some (N_ n), some (.ref p), some (N_ (l / b))] ∧ Ex H H' ∧ H' p = some (.lst ((acc ++ [l % b]).map N_)), fun σ2 H2' hN => ?_, ?_⟩
      · obtain ⟨rfl, e5, h5⟩ := hN
        refine ⟨l / b, Nat.div_lt_self hl hb.1, acc ++ [l % b], rfl, ?_, e5, h5⟩
        rw [← ha, dg_pos hb.1 hl, List.append_assoc]
        rfl
      · have hlen : acc.length < 100000 := by
          have h6 := dg_len hb.1 400 n hn
          rw [← ha, List.length_append] at h6
          omega
        refine q_app (e4 p _ h3) (ev_var rfl) (ev_op (ev_var rfl) (ev_var rfl) (rv_I (by have := hb.1; omega))) (by rw [List.length_map]; exact hlen) fun H5 e5 => ?_
        refine s_asg (ev_op (ev_var rfl) (ev_var rfl) (rv_I (divW (by have := hb.1; omega) hb.2))) fun H6 e6 => ?_
        refine ⟨rfl, ((e3.trans (e4.trans e5)).mut np).trans e6, ?_⟩
        rw [e6 p _ upd_same, List.map_append]
        rfl
    · have hl : l = 0 := by have := of_decide_eq_false hf; omega
      subst hl
      rw [dg_zero, List.append_nil] at ha
      subst ha
      exact s_ret (ev_var rfl) fun H5 e5 => k p H5 np ((e3.trans e4).trans e5) (e5 p _ (e4 p _ h3))


def sp__law_size (K : PySem.W.Frag) : Sp := fun vs H Q _ => ∃ (b m : Nat), vs = [N_ b, N_ m] ∧ Bs b ∧ 0 < m ∧ m < 2 ^ 300 ∧ ∀ (d : Nat) H', b ^ d ≤ m → m < b ^ (d + 1) → d ≤ 300 → Ex H H' → Q (N_ d) H'


/-! the law's own sums and products of elements, as plain functions -/
def esR (p a b : Nat) : Nat → Nat × Nat
  | 0 => (0, 1)
  | i + 1 => ((esR p a b i).1 + (a / (esR p a b i).2 + b / (esR p a b i).2) % p * (esR p a b i).2, (esR p a b i).2 * p)
theorem esR_pow (p a b : Nat) : ∀ i, (esR p a b i).2 = p ^ i
  | 0 => rfl
  | i + 1 => by
    show (esR p a b i).2 * p = p ^ (i + 1)
    rw [esR_pow p a b i, Nat.pow_succ]
def esL (p f a b : Nat) : Nat := (esR p a b f).1
/-- p and f of a field, small -/
structure PF_ (p f : Nat) : Prop where
  p2 : 2 ≤ p
  p7 : p ≤ 7
  f1 : 1 ≤ f
  f3 : f ≤ 3
def sp__law_element_sum (K : PySem.W.Frag) : Sp := fun vs H Q _ => ∃ (p f a b : Nat), vs = [N_ p, N_ f, N_ a, N_ b] ∧ PF_ p f ∧ RetV (N_ (esL p f a b)) H Q
theorem sv__law_element_sum {K : PySem.W.Frag} {H : Hp} {p f a b : Nat} (h : PF_ p f) : SpV (sp__law_element_sum K) [N_ p, N_ f, N_ a, N_ b] H (N_ (esL p f a b)) := fun H1 _ Q kk E => ⟨p, f, a, b, rfl, h, kk⟩

theorem ok__law_element_sum {P : Program} {w : World} {K : PySem.W.Frag} {mg : Str → Option Value} {base : Heap} (T : Txt K mg) : FnOk P w K mg base CX0 1 T.a__law_element_sum T.d__law_element_sum ["_law_p", "_law_f", "_law_one", "_law_other"] (sp__law_element_sum K) := by
  refine T.F__law_element_sum.ok sc__law_element_sum (fun vs H Q E h => ?_) (fun cdv A outer s H vs Q E hr h => ?_)
  · obtain ⟨p, f, a, b, rfl, _⟩ := h
    rfl
  · obtain ⟨p, f, a, b, rfl, hp, k⟩ := h
    refine ⟨_, (pss_cons (ps_asg (pe_tup (pa_cons pe_int (pa_cons pe_int pa_nil))) (pg_tup (by rfl) (pgs_cons (pg_name (i := 4) sc__law_element_sum.nd rfl (Or.inl rfl)) (pgs_cons (pg_name (i := 5) sc__law_element_sum.nd rfl (Or.inl rfl)) pgs_nil))))
      (pss_cons (ps_for PassesOwn.never rfl (pi_range1 rfl T.z_range (pa_cons (pv 1) pa_nil)) (pg_name (i := 6) sc__law_element_sum.nd rfl (Or.inl rfl)) (pss_cons (ps_set (i := 4) sc__law_element_sum.nd rfl (Or.inl rfl) (pe_op op_add (pv 4) (pe_op op_mulW (pe_op op_mod (pe_op op_add (pe_op op_fdivW (pv 2) (pv 5)) (pe_op op_fdivW (pv 3) (pv 5))) (pv 0)) (pv 5))))
      (pss_one (ps_set (i := 5) sc__law_element_sum.nd rfl (Or.inl rfl) (pe_op op_mulW (pv 5) (pv 0))))))
      (pss_one (ps_ret (pv 4))))), ?_⟩
    refine q_tupNN ev_c ev_c fun H1 e1 => ?_
    refine q_forR1 (n := (f : Int)) (ea_cons (ev_var rfl) ea_nil) ⟨by omega, by have := hp.f3; omega⟩ (fun i σ H' => ∃ y, σ = [some (N_ p), some (N_ f), some (N_ a), some (N_ b), some (N_ (esR p a b i).1), some (N_ (esR p a b i).2), y] ∧ Ex H H') (fun H2 e2 => ⟨none, rfl, e1.trans e2⟩) (fun i σ H' hi hw => ?_) (fun σ H' hw => ?_)
    · obtain ⟨y, rfl, e2⟩ := hw
      have h2 := esR_pow p a b i
      have hpl : (esR p a b i).2 ≤ 343 := by
        rw [h2]
        exact Nat.le_trans (Nat.pow_le_pow_left hp.p7 i) (Nat.le_trans (Nat.pow_le_pow_right (by decide) (show i ≤ 3 by have := hp.f3; omega)) (by decide))
      have hpl0 : 0 < (esR p a b i).2 := by rw [h2]; exact Nat.pow_pos (by have := hp.p2; omega)
      have hdv : ∀ x : Nat, CDivW (x : Int) (((esR p a b i).2 : Nat) : Int) := fun x => wide_div (b := 10) (by omega) (by show (esR p a b i).2 < 1024; omega) (by decide) (by decide)
      refine q_asg (ev_op (ev_var rfl) (ev_op (ev_op (ev_op (ev_op (ev_var rfl) (ev_var rfl) (rv_I (hdv a))) (ev_op (ev_var rfl) (ev_var rfl) (rv_I (hdv b))) rv_I0) (ev_var rfl) (rv_I (by have := hp.p2; omega))) (ev_var rfl) (rv_I (wide_mul (a := 10) (b := 10) (mod_abs (by have := hp.p2; omega) (by show p ≤ 1024; have := hp.p7; omega)) (by show (esR p a b i).2 < 1024; omega) (by decide) (by decide) (by decide)))) rv_I0) fun H3 e3 => ?_
      exact s_asg (ev_op (ev_var rfl) (ev_var rfl) (rv_I (wide_mul (a := 10) (b := 10) (by show (esR p a b i).2 < 1024; omega) (by show p < 1024; have := hp.p7; omega) (by decide) (by decide) (by decide)))) fun H4 e4 => ⟨some (.int (i : Int)), rfl, (e2.trans e3).trans e4⟩
    · obtain ⟨y, rfl, e2⟩ := hw
      rw [Int.toNat_natCast]
      exact s_ret (ev_var rfl) fun H3 e3 => k H3 (e2.trans e3)


def inL (p i l : Nat) : Nat → List Nat → List Nat → List Nat
  | _, [], fd => fd
  | j, r :: rs, fd => inL p i l (j + 1) rs (fd.set (i + j) ((fd.getD (i + j) 0 + l * r) % p))
def ouL (p : Nat) (os : List Nat) : Nat → List Nat → List Nat → List Nat
  | _, [], fd => fd
  | i, l :: ls, fd => ouL p os (i + 1) ls (inL p i l 0 os fd)
def rdL (p f i : Nat) (fd : List Nat) : List Nat :=
  if 1 < f then
    let f1 := fd.set (i - f) ((fd.getD (i - f) 0 + fd.getD i 0) % p)
    let f2 := f1.set (i - f + 1) ((f1.getD (i - f + 1) 0 + f1.getD i 0) % p)
    f2.set i 0
  else fd
def dnL (p f : Nat) (fd : List Nat) : Nat → List Nat
  | 0 => fd
  | k + 1 => rdL p f (2 * f - 1 - k) (dnL p f fd k)
def epL (p f a b : Nat) : Nat := od p ((dnL p f (ouL p (dg p b) 0 (dg p a) (List.replicate (2 * f) 0)) f).take f)
theorem inL_len (p i l : Nat) : ∀ (rs : List Nat) (j : Nat) (fd : List Nat), (inL p i l j rs fd).length = fd.length
  | [], _, _ => rfl
  | r :: rs, j, fd => by
    show (inL p i l (j + 1) rs _).length = _
    rw [inL_len p i l rs, List.length_set]
theorem ouL_len (p : Nat) (os : List Nat) : ∀ (ls : List Nat) (i : Nat) (fd : List Nat), (ouL p os i ls fd).length = fd.length
  | [], _, _ => rfl
  | l :: ls, i, fd => by
    show (ouL p os (i + 1) ls _).length = _
    rw [ouL_len p os ls, inL_len]
theorem rdL_len (p f i : Nat) (fd : List Nat) : (rdL p f i fd).length = fd.length := by
  unfold rdL
  split
  · simp
  · rfl
theorem dnL_len (p f : Nat) (fd : List Nat) : ∀ k, (dnL p f fd k).length = fd.length
  | 0 => rfl
  | k + 1 => by
    show (rdL p f _ _).length = _
    rw [rdL_len, dnL_len]
def lt_all (p : Nat) (fd : List Nat) : Prop := ∀ x ∈ fd, x < p
theorem lt_all_set {p i x : Nat} {fd : List Nat} (h : lt_all p fd) (hx : x < p) : lt_all p (fd.set i x) := fun y hy => by
  rcases List.mem_or_eq_of_mem_set hy with h1 | h1
  · exact h y h1
  · rw [h1]; exact hx
theorem inL_lt {p : Nat} (h0 : 0 < p) (i l : Nat) : ∀ (rs : List Nat) (j : Nat) (fd : List Nat), lt_all p fd → lt_all p (inL p i l j rs fd)
  | [], _, _, h => h
  | r :: rs, j, fd, h => inL_lt h0 i l rs (j + 1) _ (lt_all_set h (Nat.mod_lt _ h0))
theorem ouL_lt {p : Nat} (h0 : 0 < p) (os : List Nat) : ∀ (ls : List Nat) (i : Nat) (fd : List Nat), lt_all p fd → lt_all p (ouL p os i ls fd)
  | [], _, _, h => h
  | l :: ls, i, fd, h => ouL_lt h0 os ls (i + 1) _ (inL_lt h0 i l os 0 fd h)
theorem rdL_lt {p : Nat} (h0 : 0 < p) (f i : Nat) {fd : List Nat} (h : lt_all p fd) : lt_all p (rdL p f i fd) := by
  unfold rdL
  split
  · exact lt_all_set (lt_all_set (lt_all_set h (Nat.mod_lt _ h0)) (Nat.mod_lt _ h0)) h0
  · exact h
theorem dnL_lt {p : Nat} (h0 : 0 < p) (f : Nat) {fd : List Nat} (h : lt_all p fd) : ∀ k, lt_all p (dnL p f fd k)
  | 0 => h
  | k + 1 => rdL_lt h0 f _ (dnL_lt h0 f h k)
theorem inL_snoc (p i l : Nat) : ∀ (rs : List Nat) (j : Nat) (fd : List Nat) (r : Nat), inL p i l j (rs ++ [r]) fd = (inL p i l j rs fd).set (i + (j + rs.length)) (((inL p i l j rs fd).getD (i + (j + rs.length)) 0 + l * r) % p)
  | [], j, fd, r => rfl
  | z :: rs, j, fd, r => by
    show inL p i l (j + 1) (rs ++ [r]) _ = _
    rw [inL_snoc p i l rs (j + 1) _ r]
    show (inL p i l (j + 1) rs _).set _ _ = (inL p i l (j + 1) rs _).set _ _
    rw [show j + 1 + rs.length = j + (z :: rs).length by rw [List.length_cons]; omega]
    rfl
theorem ouL_snoc (p : Nat) (os : List Nat) : ∀ (ls : List Nat) (i : Nat) (fd : List Nat) (l : Nat), ouL p os i (ls ++ [l]) fd = inL p (i + ls.length) l 0 os (ouL p os i ls fd)
  | [], i, fd, l => rfl
  | z :: ls, i, fd, l => by
    show ouL p os (i + 1) (ls ++ [l]) _ = _
    rw [ouL_snoc p os ls (i + 1) _ l, show i + 1 + ls.length = i + (z :: ls).length by rw [List.length_cons]; omega]
    rfl
theorem take_snoc {xs : List Nat} {i x : Nat} (h : xs[i]? = some x) : xs.take (i + 1) = xs.take i ++ [x] := by
  rw [List.take_add_one, h]
  rfl
theorem dg_len2 {p f a : Nat} (hp : 2 ≤ p) : ∀ (f a : Nat), a < p ^ f → (dg p a).length ≤ f
  | 0, a, h => by
    have : a = 0 := by rw [Nat.pow_zero] at h; omega
    subst this
    rw [dg_zero]
    exact Nat.le_refl _
  | f + 1, a, h => by
    by_cases ha : 0 < a
    · rw [dg_pos hp ha, List.length_cons]
      have : a / p < p ^ f := by
        rw [Nat.pow_succ] at h
        exact Nat.div_lt_of_lt_mul (by rw [Nat.mul_comm]; exact h)
      have := dg_len2 (f := f) (a := a) hp f (a / p) this
      omega
    · have : a = 0 := by omega
      subst this
      rw [dg_zero]
      exact Nat.zero_le _
theorem getD_some {xs : List Nat} {i : Nat} (h : i < xs.length) : xs[i]? = some (xs.getD i 0) := by
  rw [List.getElem?_eq_getElem h, List.getD_eq_getElem?_getD, List.getElem?_eq_getElem h]
  rfl
theorem get_N {xs : List Nat} {i : Nat} (h : i < xs.length) : (xs.map N_)[i]? = some (N_ (xs.getD i 0)) := by
  rw [List.getElem?_map, getD_some h]
  rfl
theorem getD_lt {p i : Nat} {fd : List Nat} (h : lt_all p fd) (hi : i < fd.length) : fd.getD i 0 < p := h _ (List.mem_of_getElem? (getD_some hi))
theorem exl {l : Addr} {H H' : Hp} (n : H l = none) (x : Exd l H H') : Ex H H' := fun a o h => x a o (fun z => by rw [z, n] at h; cases h) h
def sp__law_element_product (K : PySem.W.Frag) : Sp := fun vs H Q _ => ∃ (p f a b : Nat), vs = [N_ p, N_ f, N_ a, N_ b] ∧ PF_ p f ∧ a < p ^ f ∧ b < p ^ f ∧ RetV (N_ (epL p f a b)) H Q
theorem sv__law_element_product {K : PySem.W.Frag} {H : Hp} {p f a b : Nat} (h : PF_ p f) (ha : a < p ^ f) (hb : b < p ^ f) : SpV (sp__law_element_product K) [N_ p, N_ f, N_ a, N_ b] H (N_ (epL p f a b)) := fun H1 _ Q kk E => ⟨p, f, a, b, rfl, h, ha, hb, kk⟩
theorem pf_343 {p f a : Nat} (h : PF_ p f) (ha : a < p ^ f) : a < 343 := Nat.lt_of_lt_of_le ha (Nat.le_trans (Nat.pow_le_pow_left h.p7 f) (Nat.le_trans (Nat.pow_le_pow_right (by decide) h.f3) (by decide)))

theorem ok__law_element_product {P : Program} {w : World} {K : PySem.W.Frag} {mg : Str → Option Value} {base : Heap} (T : Txt K mg) : FnOk P w K mg base CX0 2 T.a__law_element_product T.d__law_element_product ["_law_p", "_law_f", "_law_one", "_law_other"] (sp__law_element_product K) := by
  refine T.F__law_element_product.ok sc__law_element_product (fun vs H Q E h => ?_) (fun cdv A outer s H vs Q E hr h => ?_)
  · obtain ⟨p, f, a, b, rfl, _⟩ := h
    rfl
  · obtain ⟨p, f, a, b, rfl, hp, ha, hb, k⟩ := h
    refine ⟨_, (pss_cons (ps_set (i := 4) sc__law_element_product.nd rfl (Or.inl rfl) (pe_op op_rep (pe_lst (pa_cons pe_int pa_nil)) (pe_op op_mul pe_int (pv 1))))
      (pss_cons (ps_for PassesOwn.never rfl (pi_enum (by rfl) T.z_enumerate (pa_cons (pe_call (ok__law_digits T) (hr.mono (by decide)) (by rfl) T.g__law_digits T.F__law_digits.kp T.b__law_digits .nil pass0 (pa_cons (pv 0) (pa_cons (pv 2) pa_nil))) pa_nil)) (pg_tup (by rfl) (pgs_cons (pg_name (i := 5) sc__law_element_product.nd rfl (Or.inl rfl)) (pgs_cons (pg_name (i := 6) sc__law_element_product.nd rfl (Or.inl rfl)) pgs_nil))) (pss_one (ps_for PassesOwn.never rfl (pi_enum (by rfl) T.z_enumerate (pa_cons (pe_call (ok__law_digits T) (hr.mono (by decide)) (by rfl) T.g__law_digits T.F__law_digits.kp T.b__law_digits .nil pass0 (pa_cons (pv 0) (pa_cons (pv 3) pa_nil))) pa_nil)) (pg_tup (by rfl) (pgs_cons (pg_name (i := 7) sc__law_element_product.nd rfl (Or.inl rfl)) (pgs_cons (pg_name (i := 8) sc__law_element_product.nd rfl (Or.inl rfl)) pgs_nil))) (pss_one (ps_asg (pe_op op_mod (pe_op op_add (pe_ix (r := rIxL K) ix_list (pv 4) (pe_op op_add (pv 5) (pv 7)) (fun _ _ => rfl)) (pe_op op_mulW (pv 6) (pv 8))) (pv 0)) (pg_sub (pv 4) (pe_op op_add (pv 5) (pv 7)) set_list))))))
      (pss_cons (ps_for PassesOwn.never rfl (pi_range3 rfl T.z_range (pa_cons (pe_op op_sub (pe_op op_mul pe_int (pv 1)) pe_int) (pa_cons (pe_op op_sub (pv 1) pe_int) (pa_cons (pe_un un_neg pe_int) pa_nil)))) (pg_name (i := 5) sc__law_element_product.nd rfl (Or.inl rfl)) (pss_one (ps_if (pt_cmpR op_gt (pv 1) pe_int (nomark _)) (pss_cons (ps_asg (pe_op op_mod (pe_op op_add (pe_ix (r := rIxL K) ix_list (pv 4) (pe_op op_sub (pv 5) (pv 1)) (fun _ _ => rfl)) (pe_ix (r := rIxL K) ix_list (pv 4) (pv 5) (fun _ _ => rfl))) (pv 0)) (pg_sub (pv 4) (pe_op op_sub (pv 5) (pv 1)) set_list))
      (pss_cons (ps_asg (pe_op op_mod (pe_op op_add (pe_ix (r := rIxL K) ix_list (pv 4) (pe_op op_add (pe_op op_sub (pv 5) (pv 1)) pe_int) (fun _ _ => rfl)) (pe_ix (r := rIxL K) ix_list (pv 4) (pv 5) (fun _ _ => rfl))) (pv 0)) (pg_sub (pv 4) (pe_op op_add (pe_op op_sub (pv 5) (pv 1)) pe_int) set_list))
      (pss_one (ps_asg pe_int (pg_sub (pv 4) (pv 5) set_list))))) pss_nil)))
      (pss_cons (ps_set (i := 9) sc__law_element_product.nd rfl (Or.inl rfl) pe_int)
      (pss_cons (ps_for PassesOwn.never rfl (pi_list (pe_revL (pe_slice sl_list (pv 4) po_none (po_some (pv 1))))) (pg_name (i := 10) sc__law_element_product.nd rfl (Or.inl rfl)) (pss_one (ps_set (i := 9) sc__law_element_product.nd rfl (Or.inl rfl) (pe_op op_add (pe_op op_mulW (pv 9) (pv 0)) (pv 10)))))
      (pss_one (ps_ret (pv 9)))))))), ?_⟩
    have hp2 := hp.p2
    have hp7 := hp.p7
    have hf1 := hp.f1
    have hf3 := hp.f3
    have ha343 := pf_343 hp ha
    have hb343 := pf_343 hp hb
    have h0 : 0 < p := by omega
    have hBs : Bs p := ⟨hp2, by omega⟩
    have hla : (dg p a).length ≤ f := dg_len2 (f := f) (a := a) hp2 f a ha
    have hlb : (dg p b).length ≤ f := dg_len2 (f := f) (a := b) hp2 f b hb
    have hGa : Gt a := Nat.lt_trans ha343 (show 343 < 2 ^ 400 from Nat.lt_of_lt_of_le (show 343 < 2 ^ 10 by decide) (Nat.pow_le_pow_right (by decide) (by decide : 10 ≤ 400)))
    have hGb : Gt b := Nat.lt_trans hb343 (show 343 < 2 ^ 400 from Nat.lt_of_lt_of_le (show 343 < 2 ^ 10 by decide) (Nat.pow_le_pow_right (by decide) (by decide : 10 ≤ 400)))
    -- found = [0] * (2 * f)
    refine q_asgL (el_rep (k := ((2 * f : Nat) : Int)) (el_lst (ea_cons ev_c ea_nil) (by show 1 ≤ 100000; decide)) (ev_is (ev_op ev_c (ev_var rfl) (rv_I (.inl ⟨by decide, by decide⟩))) (congrArg V.int (by omega))) (by omega) (by show 1 * _ ≤ _; omega) (by omega)) fun l H1 nl e1 h1 => ?_
    rw [Int.toNat_natCast, rep_zero] at h1
    -- the double loop
    generalize hfd : ouL p (dg p b) 0 (dg p a) (List.replicate (2 * f) 0) = fd
    have hrl : lt_all p (List.replicate (2 * f) 0) := fun x hx => by rw [(List.mem_replicate.mp hx).2]; exact h0
    have hfl : fd.length = 2 * f := by rw [← hfd, ouL_len, List.length_replicate]
    have hft : lt_all p fd := by rw [← hfd]; exact ouL_lt h0 _ _ _ _ hrl
    refine q_forEN (xs := (dg p a).map N_) (el_call (ea_cons (ev_var rfl) (ea_cons (ev_var rfl) ea_nil)) (sv__law_digits hBs hGa)) (fun q i σ H' => ∃ y5 y6 y7 y8 : Option V, σ = [some (N_ p), some (N_ f), some (N_ a), some (N_ b), some (.ref l), y5, y6, y7, y8, none, none] ∧ Exd l H H' ∧ SqL K H' q ((dg p a).map N_) ∧ q ≠ l ∧ H' l = some (.lst ((ouL p (dg p b) 0 ((dg p a).take i) (List.replicate (2 * f) 0)).map N_)))
      (fun q H2 nq e2 h2 => ⟨none, none, none, none, rfl, (Exd.of (e1.trans e2)), sq_of h2, (fun z => by rw [z, h1] at nq; cases nq), e2 _ _ h1⟩) (fun q i σ H2 hi hw => ?_) (fun q i x σ H2 H3 hx hw e3 => ?_) (fun q σ H2 hw => ?_)
    · obtain ⟨y5, y6, y7, y8, rfl, x2, s2, n2, h2⟩ := hw
      exact s2
    · obtain ⟨y5, y6, y7, y8, rfl, x2, s2, n2, h2⟩ := hw
      rw [List.getElem?_map] at hx
      obtain ⟨d, hd, rfl⟩ := Option.map_eq_some_iff.mp hx
      have hil : i < (dg p a).length := (List.getElem?_eq_some_iff.mp hd).1
      have hdp : d < p := dg_lt hp2 a d (List.mem_of_getElem? hd)
      have h3 := e3 _ _ h2
      have s3 := ex_l e3 s2
      generalize hA : ouL p (dg p b) 0 ((dg p a).take i) (List.replicate (2 * f) 0) = fA at h3
      have hAl : fA.length = 2 * f := by rw [← hA, ouL_len, List.length_replicate]
      have hAt : lt_all p fA := by rw [← hA]; exact ouL_lt h0 _ _ _ _ hrl
      refine s_forEN (xs := (dg p b).map N_) (el_call (ea_cons (ev_var rfl) (ea_cons (ev_var rfl) ea_nil)) (sv__law_digits hBs hGb)) (fun q2 j σ H' => ∃ y7 y8 : Option V, σ = [some (N_ p), some (N_ f), some (N_ a), some (N_ b), some (.ref l), some (N_ i), some (N_ d), y7, y8, none, none] ∧ Exd l H H' ∧ SqL K H' q ((dg p a).map N_) ∧ SqL K H' q2 ((dg p b).map N_) ∧ q2 ≠ l ∧ H' l = some (.lst ((inL p i d 0 ((dg p b).take j) fA).map N_)))
        (fun q2 H4 nq4 e4 h4 => ⟨y7, y8, rfl, (x2.trans (Exd.of e3)).trans (Exd.of e4), ex_l e4 s3, sq_of h4, (fun z => by rw [z, h3] at nq4; cases nq4), e4 _ _ h3⟩) (fun q2 j σ H4 hj hw4 => ?_) (fun q2 j x σ H4 H5 hxj hw4 e5 => ?_) (fun q2 σ H4 hw4 => ?_)
      · obtain ⟨y7, y8, rfl, x4, s4, s42, n42, h4⟩ := hw4
        exact s42
      · obtain ⟨y7, y8, rfl, x4, s4, s42, n42, h4⟩ := hw4
        rw [List.getElem?_map] at hxj
        obtain ⟨g, hg, rfl⟩ := Option.map_eq_some_iff.mp hxj
        have hjl : j < (dg p b).length := (List.getElem?_eq_some_iff.mp hg).1
        have hgp : g < p := dg_lt hp2 b g (List.mem_of_getElem? hg)
        have h5 := e5 _ _ h4
        generalize hB : inL p i d 0 ((dg p b).take j) fA = fB at h5
        have hBl : fB.length = 2 * f := by rw [← hB, inL_len, hAl]
        have hij : i + j < fB.length := by omega
        have hget := get_N hij
        refine s_setL (l := l) (j := i + j) h5 (ev_op (ev_op (ev_op (ev_var rfl) (ev_op (ev_var rfl) (ev_var rfl) rv_I0) (rv_ixL (sq_of h5) (atI_nat hget))) (ev_op (ev_var rfl) (ev_var rfl) (rv_I (wide_mul (a := 10) (b := 10) (by show d < 1024; omega) (by show g < 1024; omega) (by decide) (by decide) (by decide)))) rv_I0) (ev_var rfl) (rv_I (by omega))) (ev_var rfl) (ev_op (ev_var rfl) (ev_var rfl) rv_I0) (by rw [List.length_map]; exact hij) fun H6 e6 => ?_
        refine ⟨some (N_ j), some (N_ g), rfl, ((x4.trans (Exd.of e5)).trans (Exd.of e6)).trans Exd.put, exd_l n2 ((Exd.of (e5.trans e6)).trans Exd.put) s4, exd_l n42 ((Exd.of (e5.trans e6)).trans Exd.put) s42, n42, ?_⟩
        rw [upd_same, take_snoc hg, inL_snoc, hB, List.length_take, Nat.min_eq_left (Nat.le_of_lt hjl), Nat.zero_add, List.map_set]
        rfl
      · obtain ⟨y7, y8, rfl, x4, s4, s42, n42, h4⟩ := hw4
        rw [List.length_map, List.take_length] at h4
        refine ⟨some (N_ i), some (N_ d), y7, y8, rfl, x4, s4, n2, ?_⟩
        rw [h4, take_snoc hd, ouL_snoc, hA, List.length_take, Nat.min_eq_left (Nat.le_of_lt hil), Nat.zero_add]
    · obtain ⟨y5, y6, y7, y8, rfl, x2, s2, n2, h2⟩ := hw
      rw [List.length_map, List.take_length, hfd] at h2
      -- the powers of u from f on
      refine q_forRd (lo := ((2 * f : Nat) : Int) - 1) (n := (f : Int) - 1) (ea_cons (ev_is (ev_op (ev_op ev_c (ev_var rfl) (rv_I (.inl ⟨by decide, by decide⟩))) ev_c rv_I0) (congrArg V.int (by omega))) (ea_cons (ev_op (ev_var rfl) ev_c rv_I0) (ea_cons (ev_un ev_c ru_neg) ea_nil))) ⟨by omega, by omega, by omega, by omega⟩ (fun i σ H' => ∃ y5 y6 y7 y8 : Option V, σ = [some (N_ p), some (N_ f), some (N_ a), some (N_ b), some (.ref l), y5, y6, y7, y8, none, none] ∧ Exd l H H' ∧ H' l = some (.lst ((dnL p f fd i).map N_)))
        (fun H3 e3 => ⟨y5, y6, y7, y8, rfl, x2.trans (Exd.of e3), e3 _ _ h2⟩) (fun i σ H3 hi hw3 => ?_) (fun σ H3 hw3 => ?_)
      · obtain ⟨y5, y6, y7, y8, rfl, x3, h3⟩ := hw3
        have hif : i < f := by omega
        have hm : ((2 * f : Nat) : Int) - 1 - (i : Int) = ((2 * f - 1 - i : Nat) : Int) := by omega
        rw [hm]
        generalize hmm : 2 * f - 1 - i = m
        have hmf : f ≤ m ∧ m < 2 * f := by omega
        generalize hG : dnL p f fd i = g0 at h3
        have hgl : g0.length = 2 * f := by rw [← hG, dnL_len, hfl]
        have hstep : dnL p f fd (i + 1) = rdL p f m g0 := by rw [← hG, ← hmm]; rfl
        refine s_when (et_test (ev_op (ev_var rfl) ev_c rv_I0)) (fun hb H4 e4 => ?_) (fun hb H4 e4 => ?_)
        · have hf2 : 1 < f := by have := of_decide_eq_true hb; omega
          have h4 := e4 _ _ h3
          have em : ∀ H, Ev (tOp (rI0 fun i j => V.int (i - j)) (tVar 5) (tVar 1)) [some (N_ p), some (N_ f), some (N_ a), some (N_ b), some (.ref l), some (N_ m), y6, y7, y8, none, none] H (N_ (m - f)) := fun H => ev_is (ev_op (ev_var rfl) (ev_var rfl) rv_I0) (congrArg V.int (by omega))
          have em1 : ∀ H, Ev (tOp (rI0 fun i j => V.int (i + j)) (tOp (rI0 fun i j => V.int (i - j)) (tVar 5) (tVar 1)) (tC (.int 1))) [some (N_ p), some (N_ f), some (N_ a), some (N_ b), some (.ref l), some (N_ m), y6, y7, y8, none, none] H (N_ (m - f + 1)) := fun H => ev_is (ev_op (em H) ev_c rv_I0) (congrArg V.int (by omega))
          refine q_setL (l := l) (j := m - f) h4 (ev_op (ev_op (ev_op (ev_var rfl) (em _) (rv_ixL (sq_of h4) (atI_nat (get_N (by omega))))) (ev_op (ev_var rfl) (ev_var rfl) (rv_ixL (sq_of h4) (atI_nat (get_N (i := m) (by omega))))) rv_I0) (ev_var rfl) (rv_I (by omega))) (ev_var rfl) (em _) (by rw [List.length_map]; omega) fun H5 e5 => ?_
          have h5 : (upd H5 l (.lst ((g0.map N_).set (m - f) (N_ ((g0.getD (m - f) 0 + g0.getD m 0) % p))))) l = some (.lst ((g0.set (m - f) ((g0.getD (m - f) 0 + g0.getD m 0) % p)).map N_)) := by rw [upd_same, List.map_set]
          have x5 : Exd l H (upd H5 l (.lst ((g0.map N_).set (m - f) (N_ ((g0.getD (m - f) 0 + g0.getD m 0) % p))))) := (x3.trans (Exd.of (e4.trans e5))).trans Exd.put
          generalize hg1 : g0.set (m - f) ((g0.getD (m - f) 0 + g0.getD m 0) % p) = g1 at h5
          have hl1 : g1.length = 2 * f := by rw [← hg1, List.length_set, hgl]
          refine q_setL (l := l) (j := m - f + 1) h5 (ev_op (ev_op (ev_op (ev_var rfl) (em1 _) (rv_ixL (sq_of h5) (atI_nat (get_N (by omega))))) (ev_op (ev_var rfl) (ev_var rfl) (rv_ixL (sq_of h5) (atI_nat (get_N (i := m) (by omega))))) rv_I0) (ev_var rfl) (rv_I (by omega))) (ev_var rfl) (em1 _) (by rw [List.length_map]; omega) fun H6 e6 => ?_
          have h6 : (upd H6 l (.lst ((g1.map N_).set (m - f + 1) (N_ ((g1.getD (m - f + 1) 0 + g1.getD m 0) % p))))) l = some (.lst ((g1.set (m - f + 1) ((g1.getD (m - f + 1) 0 + g1.getD m 0) % p)).map N_)) := by rw [upd_same, List.map_set]
          have x6 := (x5.trans (Exd.of e6)).trans (Exd.put (o := .lst ((g1.map N_).set (m - f + 1) (N_ ((g1.getD (m - f + 1) 0 + g1.getD m 0) % p)))))
          generalize hg2 : g1.set (m - f + 1) ((g1.getD (m - f + 1) 0 + g1.getD m 0) % p) = g2' at h6
          have hl2 : g2'.length = 2 * f := by rw [← hg2, List.length_set, hl1]
          refine s_setL (l := l) (j := m) h6 ev_c (ev_var rfl) (ev_var rfl) (by rw [List.length_map]; omega) fun H7 e7 => ⟨some (N_ m), y6, y7, y8, rfl, (x6.trans (Exd.of e7)).trans Exd.put, ?_⟩
          rw [upd_same, hstep]
          unfold rdL
          rw [if_pos hf2]
          show some (HO.lst ((g2'.map N_).set m (N_ 0))) = some (.lst (((((g0.set (m - f) ((g0.getD (m - f) 0 + g0.getD m 0) % p)).set (m - f + 1) (((g0.set (m - f) ((g0.getD (m - f) 0 + g0.getD m 0) % p)).getD (m - f + 1) 0 + (g0.set (m - f) ((g0.getD (m - f) 0 + g0.getD m 0) % p)).getD m 0) % p)).set m 0)).map N_))
          rw [hg1, hg2, List.map_set]
        · have hf2 : ¬ 1 < f := by have := of_decide_eq_false hb; omega
          refine ⟨some (N_ m), y6, y7, y8, rfl, x3.trans (Exd.of e4), ?_⟩
          rw [hstep]
          unfold rdL
          rw [if_neg hf2]
          exact e4 _ _ h3
      · obtain ⟨y5, y6, y7, y8, rfl, x3, h3⟩ := hw3
        have hn : (((2 * f : Nat) : Int) - 1 - ((f : Int) - 1)).toNat = f := by omega
        rw [hn] at h3
        generalize hG : dnL p f fd f = g0 at h3
        have hgl : g0.length = 2 * f := by rw [← hG, dnL_len, hfl]
        have hgt : lt_all p g0 := by rw [← hG]; exact dnL_lt h0 f hft f
        refine q_asg ev_c fun H4 e4 => ?_
        have h4 := e4 _ _ h3
        generalize hys : g0.take f = ys
        have hyl : ys.length = f := by rw [← hys, List.length_take, hgl]; omega
        have hyt : ∀ d ∈ ys, d < p := fun d hd => hgt d (by rw [← hys] at hd; exact List.mem_of_mem_take hd)
        have ek : epL p f a b = od p ys := by
          unfold epL
          rw [hfd, hG, hys]
        rw [ek] at k
        refine q_forNLn (xs := (ys.map N_).reverse) (el_is (el_revN (el_sl (ev_var rfl) eo_none (eo_some (ev_var rfl)) (sq_of h4))) (by rw [cutTake, ← List.map_take, hys])) (fun q i σ H' => ∃ y10, σ = [some (N_ p), some (N_ f), some (N_ a), some (N_ b), some (.ref l), y5, y6, y7, y8, some (N_ (od p (ys.drop (ys.length - i)))), y10] ∧ Exd l H H' ∧ SqL K H' q (ys.map N_).reverse)
          (fun q H5 nq e5 h5 => ⟨none, by rw [Nat.sub_zero, List.drop_length]; rfl, x3.trans (Exd.of (e4.trans e5)), sq_of h5⟩) (fun q i σ H5 hi hw => ?_) (fun q i x σ H5 hx hw => ?_) (fun q σ H5 hw => ?_)
        · obtain ⟨y10, rfl, x5, s5⟩ := hw
          exact s5
        · obtain ⟨y10, rfl, x5, s5⟩ := hw
          rw [← List.map_reverse, List.getElem?_map] at hx
          obtain ⟨d, hd, rfl⟩ := Option.map_eq_some_iff.mp hx
          have hil : i < ys.length := by
            have := (List.getElem?_eq_some_iff.mp hd).1
            rwa [List.length_reverse] at this
          have hlt := od_lt (b := p) (by omega) (ys.drop (ys.length - i)) fun z hz => hyt z (List.mem_of_mem_drop hz)
          have hlt2 : od p (ys.drop (ys.length - i)) < 2 ^ 40 := Nat.lt_of_lt_of_le hlt (Nat.pow_le_pow_right (by decide) (by rw [List.length_drop]; omega))
          refine s_asg (ev_op (ev_op (ev_var rfl) (ev_var rfl) (rv_I (wide_mul (a := 40) (b := 10) (by exact hlt2) (by show p < 1024; omega) (by decide) (by decide) (by decide)))) (ev_var rfl) rv_I0) fun H6 e6 => ⟨some (N_ d), ?_, x5.trans (Exd.of e6), ex_l e6 s5⟩
          rw [od_drop hil hd, show N_ (d + p * od p (ys.drop (ys.length - i))) = V.int (((od p (ys.drop (ys.length - i)) : Nat) : Int) * (p : Int) + (d : Int)) from congrArg V.int (by rw [Int.natCast_add, Int.natCast_mul, Int.mul_comm, Int.add_comm])]
          rfl
        · obtain ⟨y10, rfl, x5, s5⟩ := hw
          rw [List.length_reverse, List.length_map, Nat.sub_self, List.drop_zero]
          exact s_ret (ev_var rfl) fun H6 e6 => k H6 (exl nl (x5.trans (Exd.of e6)))


end Own
namespace Own
open PySem PySem.Spec PyProof.Rows L2 Evl
def sE (q a b : Nat) : Nat := esL (prE q) (poE q) a b
def pE (q a b : Nat) : Nat := epL (prE q) (poE q) a b
def oE (q a : Nat) : Nat := ((List.range q).find? fun b => decide (sE q a b = 0)).getD 0
theorem chk_own : chkAll (fun q => all1 q fun a => decide (oE q a < q) && decide (sE q a (oE q a) = 0) && (all1 (oE q a) fun b => decide (sE q a b ≠ 0))) = true := by decide +kernel
theorem pow_q {q : Nat} (hq : Fq q) : prE q ^ poE q = q := (t0_of hq).pw
theorem pf_q {q : Nat} (hq : Fq q) : PF_ (prE q) (poE q) := ⟨(t0_of hq).p2, (t0_of hq).p7, (t0_of hq).f1, (t0_of hq).f3⟩
structure T1 (q a : Nat) : Prop where
  oL : oE q a < q
theorem t1_of {q a : Nat} (hq : Fq q) (ha : a < q) : T1 q a := by
  have h := all1_get (chk_get chk_own hq) ha
  simp only [Bool.and_eq_true, decide_eq_true_eq] at h
  exact ⟨h.1.1⟩
theorem op_q {q a : Nat} (hq : Fq q) (ha : a < q) : sE q a (oE q a) = 0 ∧ ∀ b, b < oE q a → sE q a b ≠ 0 := by
  have h := all1_get (chk_get chk_own hq) ha
  simp only [Bool.and_eq_true, decide_eq_true_eq] at h
  exact ⟨h.1.2, fun b hb => of_decide_eq_true (all1_get h.2 hb)⟩
def row2 (g : Nat → Nat → Nat → Nat) (q : Nat) : List (List Nat) := (List.range q).map fun a => (List.range q).map fun b => g q a b
/-- a list of lists of natural numbers that stands in the heap, all at addresses of the kind N -/
def LLt (N : Addr → Prop) (H : Hp) (a : Addr) (xss : List (List Nat)) : Prop := ∃ rs : List Addr, N a ∧ H a = some (.lst (rs.map V.ref)) ∧ rs.length = xss.length ∧ ∀ (i : Nat) (r : Addr) (xs : List Nat), rs[i]? = some r → xss[i]? = some xs → N r ∧ H r = some (.lst (xs.map N_))
structure FldAt (N : Addr → Prop) (H : Hp) (d : Addr) (q : Nat) : Prop where
  nd : N d
  dc : ∃ (kvs : List (Key × V)) (a1 a2 a3 : Addr), H d = some (.dK kvs) ∧ valV kvs (Sum.inr "q") = some (N_ q) ∧ valV kvs (Sum.inr "p") = some (N_ (prE q)) ∧ valV kvs (Sum.inr "f") = some (N_ (poE q)) ∧ valV kvs (Sum.inr "plus") = some (.ref a1) ∧ valV kvs (Sum.inr "mul") = some (.ref a2) ∧ valV kvs (Sum.inr "minus") = some (.ref a3) ∧
    LLt N H a1 (row2 sE q) ∧ LLt N H a2 (row2 pE q) ∧ N a3 ∧ H a3 = some (.lst (((List.range q).map (oE q)).map N_))
theorem LLt.keep {N M : Addr → Prop} {H H' : Hp} {a : Addr} {xss : List (List Nat)} (h : LLt N H a xss) (hk : ∀ b o, N b → H b = some o → M b ∧ H' b = some o) : LLt M H' a xss := by
  obtain ⟨rs, n, h1, h2, h3⟩ := h
  exact ⟨rs, (hk _ _ n h1).1, (hk _ _ n h1).2, h2, fun i r xs e1 e2 => hk _ _ (h3 i r xs e1 e2).1 (h3 i r xs e1 e2).2⟩
theorem FldAt.keep {N M : Addr → Prop} {H H' : Hp} {d : Addr} {q : Nat} (h : FldAt N H d q) (hk : ∀ b o, N b → H b = some o → M b ∧ H' b = some o) : FldAt M H' d q := by
  obtain ⟨nd, kvs, a1, a2, a3, h1, g1, g2, g3, g4, g5, g6, l1, l2, n3, h3⟩ := h
  exact ⟨(hk _ _ nd h1).1, kvs, a1, a2, a3, (hk _ _ nd h1).2, g1, g2, g3, g4, g5, g6, l1.keep hk, l2.keep hk, (hk _ _ n3 h3).1, (hk _ _ n3 h3).2⟩
theorem FldAt.ex {N : Addr → Prop} {H H' : Hp} {d : Addr} {q : Nat} (h : FldAt N H d q) (e : Ex H H') : FldAt N H' d q := h.keep fun b o n q => ⟨n, e _ _ q⟩
section
variable {K : PySem.W.Frag} {σ : L2.St} {H H' : Hp} {ta tb te : TE} {D : Ends} {tz : TS}
theorem q_asgLL {i : Nat} {xss : List (List V)} (h : EvLL te σ H xss) (k : ∀ (p : Addr) (rs : List Addr) H1, H p = none → Ex H H1 → H1 p = some (.lst (rs.map V.ref)) → rs.length = xss.length → (∀ (i : Nat) (r : Addr) (xs : List V), rs[i]? = some r → xss[i]? = some xs → H r = none ∧ H1 r = some (.lst xs)) → tz D (σ.set i (some (.ref p))) H1) : tSeq (tAsg te (gName i)) tz D σ H := h H (Ex.refl H) _ k
end
theorem ll_of {H0 H1 : Hp} {p : Addr} {rs : List Addr} {g : Nat → Nat → Nat → Nat} {q : Nat} (hp : H0 p = none) (h1 : H1 p = some (.lst (rs.map V.ref))) (hl : rs.length = ((row2 g q).map (·.map N_)).length) (hr : ∀ (i : Nat) (r : Addr) (xs : List V), rs[i]? = some r → ((row2 g q).map (·.map N_))[i]? = some xs → H0 r = none ∧ H1 r = some (.lst xs)) : LLt (fun x => H0 x = none) H1 p (row2 g q) :=
  ⟨rs, hp, h1, by rw [hl, List.length_map], fun i r xs e1 e2 => hr i r _ e1 (by rw [List.getElem?_map, e2]; rfl)⟩

theorem valV_merge : ∀ (more acc : List (Key × V)) (k : Key) (v : V), valV more.reverse k = some v → valV (mergeK acc more) k = some v
  | [], acc, k, v, h => by cases h
  | (k', v') :: r, acc, k, v, h => by
    show valV (mergeK (putK acc k' v') r) k = some v
    by_cases hr : (valV r.reverse k).isSome
    · obtain ⟨v2, h2⟩ := Option.isSome_iff_exists.mp hr
      have : valV ((k', v') :: r).reverse k = some v2 := by
        rw [List.reverse_cons]
        unfold valV at h2 ⊢
        rw [List.find?_append]
        obtain ⟨p, hp, hp2⟩ := Option.map_eq_some_iff.mp h2
        rw [hp]
        exact congrArg some hp2
      rw [this] at h
      exact valV_merge r _ k v (by rw [h2]; exact h)
    · have hn : valV r.reverse k = none := by
        cases e : valV r.reverse k with
        | none => rfl
        | some x => rw [e] at hr; exact absurd rfl hr
      have hk : k' = k ∧ v' = v := by
        rw [List.reverse_cons] at h
        unfold valV at h hn
        rw [List.find?_append] at h
        have h0 : (r.reverse.find? fun kv => decide (kv.1 = k)) = none := Option.map_eq_none_iff.mp hn
        rw [h0, Option.none_or, List.find?_cons] at h
        by_cases e : k' = k
        · rw [decide_eq_true e] at h
          exact ⟨e, Option.some.inj h⟩
        · rw [decide_eq_false e] at h
          cases h
      obtain ⟨rfl, rfl⟩ := hk
      have hany : ∀ (r : List (Key × V)) (acc : List (Key × V)), valV r.reverse k' = none → valV (mergeK acc r) k' = valV acc k' := by
        intro r
        induction r with
        | nil => intro acc _; rfl
        | cons p r ih =>
          intro acc h
          rw [List.reverse_cons] at h
          unfold valV at h
          rw [List.find?_append] at h
          have h1 := Option.map_eq_none_iff.mp h
          rw [Option.or_eq_none_iff] at h1
          have h2 : ¬ p.1 = k' := fun e => by
            have := h1.2
            rw [List.find?_cons, decide_eq_true e] at this
            cases this
          show valV (mergeK (putK acc p.1 p.2) r) k' = _
          rw [ih (putK acc p.1 p.2) (by unfold valV; rw [h1.1]; rfl), valV_put, if_neg (fun e => h2 e.symm)]
      rw [hany r _ hn, valV_put, if_pos rfl]
theorem pairs_go {te : TE} {σ : L2.St} {H : Hp} {xs : List V} {kx : V} {Q : List (V × V) → Hp → Prop} (h : EvL te σ H xs) (k : ∀ p H2, H p = none → Ex H H2 → H2 p = some (.lst xs) → Q [(kx, .ref p)] H2) : tPairs [(tC kx, te)] σ H Q := h H (Ex.refl H) _ k
def sp__law_field (K : PySem.W.Frag) : Sp := fun vs H Q _ => ∃ (q : Nat), vs = [N_ q] ∧ Fq q ∧ ∀ d H', Ex H H' → FldAt (fun x => H x = none) H' d q → Q (.ref d) H'

theorem ok__law_field {P : Program} {w : World} {K : PySem.W.Frag} {mg : Str → Option Value} {base : Heap} (T : Txt K mg) : FnOk P w K mg base CX0 3 T.a__law_field T.d__law_field ["_law_q_here"] (sp__law_field K) := by
  refine T.F__law_field.ok sc__law_field (fun vs H Q E h => ?_) (fun cdv A outer s H vs Q E hr h => ?_)
  · obtain ⟨q, rfl, _⟩ := h
    rfl
  · obtain ⟨q, rfl, hq, k⟩ := h
    refine ⟨_, (pss_cons (ps_asg (pe_dget (hu_of hr) (pe_disp (pps_cons pe_int (pe_tup (pa_cons pe_int (pa_cons pe_int pa_nil))) (pps_cons pe_int (pe_tup (pa_cons pe_int (pa_cons pe_int pa_nil))) (pps_cons pe_int (pe_tup (pa_cons pe_int (pa_cons pe_int pa_nil))) (pps_cons pe_int (pe_tup (pa_cons pe_int (pa_cons pe_int pa_nil))) (pps_cons pe_int (pe_tup (pa_cons pe_int (pa_cons pe_int pa_nil))) (pps_cons pe_int (pe_tup (pa_cons pe_int (pa_cons pe_int pa_nil))) (pps_cons pe_int (pe_tup (pa_cons pe_int (pa_cons pe_int pa_nil))) pps_nil))))))) (by rfl) (by rfl) (fun z => by cases z) (by decide)) (pv 0) (fun _ _ => rfl)) (pg_tup (by rfl) (pgs_cons (pg_name (i := 1) sc__law_field.nd rfl (Or.inr rfl)) (pgs_cons (pg_name (i := 2) sc__law_field.nd rfl (Or.inr rfl)) pgs_nil))))
      (pss_cons (ps_setLc (i := 3) (own := [("_law_one", 5)]) (g := gName 5) (by rfl) sc__law_field.nd rfl rfl (sw_true rfl rfl rfl (by decide +kernel)) (pi_range1 rfl T.z_range (pa_cons (pv 0) pa_nil)) (blkOk_by (N := ["_law_q_here", "_law_p", "_law_f", "_law_plus_here", "_law_other", "_law_one", "_law_mul", "_law_row"]) (sc := defScope s__law_field) (by decide +kernel)) (fun _ _ _ _ _ => pg_name (i := 5) sc__law_field.nd rfl (Or.inr rfl)) (fun _ _ _ _ _ => pts_nil) (fun _ _ _ _ _ => (pe_lc (own := [("_law_other", 4)]) (g := gName 4) rfl sc__law_field.nd (pi_range1 rfl T.z_range (pa_cons (pv 0) pa_nil)) (blkOk_by (by kernel_rfl)) (fun _ _ _ _ _ => pg_name (i := 4) sc__law_field.nd rfl (Or.inl rfl)) (fun _ _ _ _ _ => pts_nil) (fun _ _ _ _ _ => (pe_call (ok__law_element_sum T) (hr.mono (by decide)) (by rfl) T.g__law_element_sum T.F__law_element_sum.kp T.b__law_element_sum .nil pass0 (pa_cons (pv 1) (pa_cons (pv 2) (pa_cons (pv 5) (pa_cons (pv 4) pa_nil)))))))))
      (pss_cons (ps_setLc (i := 6) (own := [("_law_one", 5)]) (g := gName 5) (by rfl) sc__law_field.nd rfl rfl (sw_true rfl rfl rfl (by decide +kernel)) (pi_range1 rfl T.z_range (pa_cons (pv 0) pa_nil)) (blkOk_by (N := ["_law_q_here", "_law_p", "_law_f", "_law_plus_here", "_law_other", "_law_one", "_law_mul", "_law_row"]) (sc := defScope s__law_field) (by decide +kernel)) (fun _ _ _ _ _ => pg_name (i := 5) sc__law_field.nd rfl (Or.inr rfl)) (fun _ _ _ _ _ => pts_nil) (fun _ _ _ _ _ => (pe_lc (own := [("_law_other", 4)]) (g := gName 4) rfl sc__law_field.nd (pi_range1 rfl T.z_range (pa_cons (pv 0) pa_nil)) (blkOk_by (by kernel_rfl)) (fun _ _ _ _ _ => pg_name (i := 4) sc__law_field.nd rfl (Or.inl rfl)) (fun _ _ _ _ _ => pts_nil) (fun _ _ _ _ _ => (pe_call (ok__law_element_product T) (hr.mono (by decide)) (by rfl) T.g__law_element_product T.F__law_element_product.kp T.b__law_element_product .nil pass0 (pa_cons (pv 1) (pa_cons (pv 2) (pa_cons (pv 5) (pa_cons (pv 4) pa_nil)))))))))
      (pss_one (ps_ret (pe_disp (pps_cons pe_str (pv 0) (pps_cons pe_str (pv 1) (pps_cons pe_str (pv 2) (pps_cons pe_str (pv 3) (pps_cons pe_str (pv 6) (pps_cons pe_str (pe_lc (own := [("_law_row", 7)]) (g := gName 7) rfl sc__law_field.nd (pi_list (pv 3)) (blkOk_by (N := ["_law_q_here", "_law_p", "_law_f", "_law_plus_here", "_law_other", "_law_one", "_law_mul", "_law_row"]) (sc := defScope s__law_field) (by decide +kernel)) (fun _ _ _ _ _ => pg_name (i := 7) sc__law_field.nd rfl (Or.inl rfl)) (fun _ _ _ _ _ => pts_nil) (fun _ _ _ _ _ => (show PE _ _ (tBM K "list" (rIndex K) (tVar 7) (tCons (tC (.int 0)) tNil)) from (pe_bm PySem.F.plainAttrs_list PySem.F.slot_list_index PySem.F.type_list_index mt_index (pv 7) (pa_cons pe_int pa_nil))))) pps_nil)))))) (by rfl) (by rfl) (fun z => by cases z) (by decide))))))), ?_⟩
    have hpf := pf_q hq
    have hqb := hq.b
    intro d0 nd0
    refine ⟨by show 2 ≤ sizeLine; decide, fun t1 n1 => ⟨by show 2 ≤ sizeLine; decide, fun t2 n2 => ⟨by show 2 ≤ sizeLine; decide, fun t3 n3 => ⟨by show 2 ≤ sizeLine; decide, fun t4 n4 => ⟨by show 2 ≤ sizeLine; decide, fun t5 n5 => ⟨by show 2 ≤ sizeLine; decide, fun t6 n6 => ⟨by show 2 ≤ sizeLine; decide, fun t7 n7 => ?_⟩⟩⟩⟩⟩⟩⟩
    generalize hD : upd (upd (upd (upd (upd (upd (upd (upd H d0 (.dK [])) t1 (.tup [.int 2, .int 1])) t2 (.tup [.int 3, .int 1])) t3 (.tup [.int 2, .int 2])) t4 (.tup [.int 5, .int 1])) t5 (.tup [.int 7, .int 1])) t6 (.tup [.int 2, .int 3])) t7 (.tup [.int 3, .int 2]) = HD
    have x0 : Ex H (upd H d0 (.dK [])) := Ex.new nd0
    have eD : Ex H HD := by rw [← hD]; exact ((((((x0.trans (Ex.new n1)).trans (Ex.new n2)).trans (Ex.new n3)).trans (Ex.new n4)).trans (Ex.new n5)).trans (Ex.new n6)).trans (Ex.new n7)
    have eD0 : Ex (upd H d0 (.dK [])) HD := by rw [← hD]; exact (((((((Ex.new n1).trans (Ex.new n2)).trans (Ex.new n3)).trans (Ex.new n4)).trans (Ex.new n5)).trans (Ex.new n6)).trans (Ex.new n7))
    have g7 : HD t7 = some (.tup [.int 3, .int 2]) := by rw [← hD]; exact upd_same
    have g6 : HD t6 = some (.tup [.int 2, .int 3]) := by rw [← hD]; exact (Ex.new n7) _ _ upd_same
    have g5 : HD t5 = some (.tup [.int 7, .int 1]) := by rw [← hD]; exact ((Ex.new n6).trans (Ex.new n7)) _ _ upd_same
    have g4 : HD t4 = some (.tup [.int 5, .int 1]) := by rw [← hD]; exact (((Ex.new n5).trans (Ex.new n6)).trans (Ex.new n7)) _ _ upd_same
    have g3 : HD t3 = some (.tup [.int 2, .int 2]) := by rw [← hD]; exact ((((Ex.new n4).trans (Ex.new n5)).trans (Ex.new n6)).trans (Ex.new n7)) _ _ upd_same
    have g2' : HD t2 = some (.tup [.int 3, .int 1]) := by rw [← hD]; exact (((((Ex.new n3).trans (Ex.new n4)).trans (Ex.new n5)).trans (Ex.new n6)).trans (Ex.new n7)) _ _ upd_same
    have g1' : HD t1 = some (.tup [.int 2, .int 1]) := by rw [← hD]; exact ((((((Ex.new n2).trans (Ex.new n3)).trans (Ex.new n4)).trans (Ex.new n5)).trans (Ex.new n6)).trans (Ex.new n7)) _ _ upd_same
    clear hD
    have hd0 : HD d0 = some (.dK []) := eD0 _ _ upd_same
    have hnew : ∀ x o, HD x = some o → x ≠ d0 → (upd HD d0 (.dK (mergeK [] [(Sum.inl 2, .ref t1), (Sum.inl 3, .ref t2), (Sum.inl 4, .ref t3), (Sum.inl 5, .ref t4), (Sum.inl 7, .ref t5), (Sum.inl 8, .ref t6), (Sum.inl 9, .ref t7)]))) x = some o := fun x o h n => by rw [upd_ne n]; exact h
    refine ⟨hd0, [(Sum.inl 2, .ref t1), (Sum.inl 3, .ref t2), (Sum.inl 4, .ref t3), (Sum.inl 5, .ref t4), (Sum.inl 7, .ref t5), (Sum.inl 8, .ref t6), (Sum.inl 9, .ref t7)], rfl, by show 7 ≤ 15; decide, ?_⟩
    have hv : ∃ t, valV (mergeK [] ([(Sum.inl 2, .ref t1), (Sum.inl 3, .ref t2), (Sum.inl 4, .ref t3), (Sum.inl 5, .ref t4), (Sum.inl 7, .ref t5), (Sum.inl 8, .ref t6), (Sum.inl 9, .ref t7)] : List (Key × V))) (Sum.inl (q : Int)) = some (.ref t) ∧ HD t = some (.tup [N_ (prE q), N_ (poE q)]) := by
      have hq' := hq
      unfold Fq FQ at hq'
      simp only [List.mem_cons, List.not_mem_nil, or_false] at hq'
      rcases hq' with rfl | rfl | rfl | rfl | rfl | rfl | rfl
      · exact ⟨t1, valV_merge _ _ _ _ rfl, g1'⟩
      · exact ⟨t2, valV_merge _ _ _ _ rfl, g2'⟩
      · exact ⟨t3, valV_merge _ _ _ _ rfl, g3⟩
      · exact ⟨t4, valV_merge _ _ _ _ rfl, g4⟩
      · exact ⟨t5, valV_merge _ _ _ _ rfl, g5⟩
      · exact ⟨t6, valV_merge _ _ _ _ rfl, g6⟩
      · exact ⟨t7, valV_merge _ _ _ _ rfl, g7⟩
    obtain ⟨t, hv1, hv2⟩ := hv
    have htd : t ≠ d0 := fun z => by rw [z, hd0] at hv2; cases hv2
    refine ⟨N_ q, rfl, d0, .ref t, rfl, hv1 ▸ DGet.k (k := Sum.inl (q : Int)) upd_same, t, [N_ (prE q), N_ (poE q)], rfl, st_of (hnew _ _ hv2 htd), rfl, N_ (prE q), [N_ (poE q)], rfl, N_ (poE q), [], rfl, rfl, ?_⟩
    have eF : Ex H (upd HD d0 (.dK (mergeK [] [(Sum.inl 2, .ref t1), (Sum.inl 3, .ref t2), (Sum.inl 4, .ref t3), (Sum.inl 5, .ref t4), (Sum.inl 7, .ref t5), (Sum.inl 8, .ref t6), (Sum.inl 9, .ref t7)]))) := Ex.mut eD nd0
    generalize (upd HD d0 (.dK (mergeK [] [(Sum.inl 2, .ref t1), (Sum.inl 3, .ref t2), (Sum.inl 4, .ref t3), (Sum.inl 5, .ref t4), (Sum.inl 7, .ref t5), (Sum.inl 8, .ref t6), (Sum.inl 9, .ref t7)]))) = HF at eF
    clear hnew
    -- plus, mul
    refine q_asgLL (ell_is (ell_lcR1 (n := q) (ea_cons (ev_var rfl) ea_nil) (by omega) (xss := (row2 sE q).map (·.map N_)) (by rw [List.length_map]; unfold row2; rw [List.length_map, List.length_range]) (fun _ => rfl) (fun i xs H1 e1 hi hx => ?_)) rfl) fun a1 rs1 H1 na1 e1 h1 hl1 hr1 => ?_
    · unfold row2 at hx
      rw [List.getElem?_map, List.getElem?_map, List.getElem?_range hi] at hx
      cases (Option.some.inj hx : _ = xs)
      refine el_is (el_lcR1 (n := (q : Int)) (fun _ => true) (fun j => N_ (esL (prE q) (poE q) i j)) (ea_cons (ev_var rfl) ea_nil) ⟨by omega, by omega⟩ (fun _ => rfl) (fun _ _ _ _ => et_nil) (fun j H2 e2 hj _ => ev_call (ea_cons (ev_var rfl) (ea_cons (ev_var rfl) (ea_cons (ev_var rfl) (ea_cons (ev_var rfl) ea_nil)))) (sv__law_element_sum hpf))) ?_
      rw [Int.toNat_natCast, given_range]
      show _ = ((List.range q).map fun b => sE q i b).map N_
      rw [List.map_map]
      exact List.map_congr_left fun j hj => rfl
    refine q_asgLL (ell_is (ell_lcR1 (n := q) (ea_cons (ev_var rfl) ea_nil) (by omega) (xss := (row2 pE q).map (·.map N_)) (by rw [List.length_map]; unfold row2; rw [List.length_map, List.length_range]) (fun _ => rfl) (fun i xs H2 e2 hi hx => ?_)) rfl) fun a2 rs2 H2 na2 e2 h2 hl2 hr2 => ?_
    · unfold row2 at hx
      rw [List.getElem?_map, List.getElem?_map, List.getElem?_range hi] at hx
      cases (Option.some.inj hx : _ = xs)
      have hpq := pow_q hq
      refine el_is (el_lcR1 (n := (q : Int)) (fun j => true) (fun j => N_ (epL (prE q) (poE q) i j)) (ea_cons (ev_var rfl) ea_nil) ⟨by omega, by omega⟩ (fun _ => rfl) (fun _ _ _ _ => et_nil) (fun j H3 e3 hj _ => ev_call (ea_cons (ev_var rfl) (ea_cons (ev_var rfl) (ea_cons (ev_var rfl) (ea_cons (ev_var rfl) ea_nil)))) (sv__law_element_product hpf (by rw [hpq]; exact hi) (by rw [hpq]; omega)))) ?_
      rw [Int.toNat_natCast, given_range]
      show _ = ((List.range q).map fun b => pE q i b).map N_
      rw [List.map_map]
      exact List.map_congr_left fun j hj => rfl
    have L1 : LLt (fun x => H x = none) H1 a1 (row2 sE q) := (ll_of na1 h1 hl1 hr1).keep fun b o n h => ⟨fresh_back eF n, h⟩
    have L2' : LLt (fun x => H x = none) H2 a2 (row2 pE q) := (ll_of na2 h2 hl2 hr2).keep fun b o n h => ⟨fresh_back (eF.trans e1) n, h⟩
    -- the dict
    intro d nd
    have xd : Ex H2 (upd H2 d (.dK [])) := Ex.new nd
    have hq9 := hqb.2
    have hl1' : rs1.length = q := by rw [hl1, List.length_map]; unfold row2; rw [List.length_map, List.length_range]
    refine ⟨N_ q, rfl, N_ (prE q), rfl, N_ (poE q), rfl, .ref a1, rfl, .ref a2, rfl, ?_⟩
    show tPairs [_] _ _ _
    refine pairs_go (el_is (ys := ((List.range q).map (oE q)).map N_) (el_lcL (xs := rs1.map V.ref) (fun _ => true) (fun i => N_ (oE q i)) (ev_var rfl) (sq_of (xd _ _ (e2 _ _ h1))) (by rw [List.length_map]; omega) (fun _ => rfl) (fun _ _ _ _ _ => et_nil) (fun i x H3 e3 hx _ => ?_)) ?_) fun a3 H3 na3 e3 h3 => ?_
    · rw [List.getElem?_map] at hx
      obtain ⟨r, hr, hx2⟩ := Option.map_eq_some_iff.mp hx
      subst hx2
      have hi : i < q := by rw [← hl1']; exact (List.getElem?_eq_some_iff.mp hr).1
      have ho := op_q hq hi
      have hoL := (t1_of hq hi).oL
      have hrow : (row2 sE q)[i]? = some ((List.range q).map fun b => sE q i b) := by unfold row2; rw [List.getElem?_map, List.getElem?_range hi]; rfl
      have hst := (hr1 i r _ hr (by rw [List.getElem?_map, hrow]; rfl)).2
      refine fun H4 e4 Q' q' => ⟨.ref r, rfl, Or.inl ⟨rfl, _, sq_of (e4 _ _ (e3 _ _ (xd _ _ (e2 _ _ hst))))⟩, r, _, .int 0, oE q i, N_ (sE q i (oE q i)), rfl, rfl, sq_of (e4 _ _ (e3 _ _ (xd _ _ (e2 _ _ hst)))), rfl, ?_, ?_, ?_, fun m z hm hz => ?_, q' H4 (Ex.refl H4)⟩
      · rw [List.all_eq_true]
        intro y hy
        obtain ⟨b, _, rfl⟩ := List.mem_map.mp hy
        rfl
      · rw [List.getElem?_map, List.getElem?_map, List.getElem?_range hoL]
        rfl
      · rw [ho.1]
        rfl
      · rw [List.getElem?_map, List.getElem?_map, List.getElem?_range (by omega)] at hz
        cases (Option.some.inj hz : N_ (sE q i m) = z)
        show ((((sE q i m : Nat) : Int)) == (0 : Int)) = false
        have := ho.2 m hm
        exact beq_eq_false_iff_ne.mpr (by omega)
    · rw [List.length_map, hl1', given_range, List.map_map]
      rfl
    have eX : Ex H2 H3 := xd.trans e3
    have hd3 : H3 d = some (.dK []) := e3 _ _ upd_same
    have na3' : (upd H2 d (.dK [])) a3 = none := na3
    have nd3 : a3 ≠ d := fun z => by rw [z, upd_same] at na3'; cases na3'
    have nH2 : ∀ b, H2 b = none → H b = none := fun b n => fresh_back ((eF.trans e1).trans e2) n
    refine ⟨hd3, [(Sum.inr (Str.ofString "q"), N_ q), (Sum.inr (Str.ofString "p"), N_ (prE q)), (Sum.inr (Str.ofString "f"), N_ (poE q)), (Sum.inr (Str.ofString "plus"), .ref a1), (Sum.inr (Str.ofString "mul"), .ref a2), (Sum.inr (Str.ofString "minus"), .ref a3)], rfl, by show 6 ≤ 15; decide, ?_⟩
    have hkeep : ∀ b o, H3 b = some o → b ≠ d → (upd H3 d (.dK (mergeK [] [(Sum.inr (Str.ofString "q"), N_ q), (Sum.inr (Str.ofString "p"), N_ (prE q)), (Sum.inr (Str.ofString "f"), N_ (poE q)), (Sum.inr (Str.ofString "plus"), .ref a1), (Sum.inr (Str.ofString "mul"), .ref a2), (Sum.inr (Str.ofString "minus"), .ref a3)]))) b = some o := fun b o h n => by rw [upd_ne n]; exact h
    have hne : ∀ b o, H2 b = some o → b ≠ d := fun b o h z => by rw [z, nd] at h; cases h
    refine k d _ (Ex.mut (((eF.trans e1).trans e2).trans eX) (nH2 d nd)) ⟨nH2 d nd, _, a1, a2, a3, upd_same, valV_merge _ _ _ _ rfl, valV_merge _ _ _ _ rfl, valV_merge _ _ _ _ rfl, valV_merge _ _ _ _ rfl, valV_merge _ _ _ _ rfl, valV_merge _ _ _ _ rfl, L1.keep fun b o n h => ⟨n, hkeep b o (eX _ _ (e2 _ _ h)) (hne b o (e2 _ _ h))⟩, L2'.keep fun b o n h => ⟨n, hkeep b o (eX _ _ h) (hne b o h)⟩, nH2 a3 (fresh_back xd na3), ?_⟩
    rw [upd_ne nd3]
    exact h3


end Own
namespace Own
open PySem PySem.Spec PyProof.Rows L2 Evl

section
variable {K : PySem.W.Frag} {σ : L2.St} {H H' : Hp} {td : TE}
theorem ev_dg {d : Addr} {kvs : List (Key × V)} {s : Str} {v : V} (h : Ev td σ H (.ref d)) (hd : H d = some (.dK kvs)) (hv : valV kvs (Sum.inr s) = some v) : Ev (tDGet td (tC (.str s))) σ H v := fun H1 e Q q =>
  h H1 e _ fun H2 e2 => ⟨d, v, rfl, hv ▸ DGet.k (k := Sum.inr s) (e2 _ _ (e _ _ hd)), q H2 e2⟩
end
theorem q_of {x : V} (h : x ∈ ([.int 2, .int 2, .int 3, .int 3, .int 4, .int 5, .int 7, .int 8, .int 9] : List V)) : ∃ q : Nat, Fq q ∧ x = N_ q := by
  simp only [List.mem_cons, List.not_mem_nil, or_false] at h
  rcases h with h | h | h | h | h | h | h | h | h <;> subst h
  · exact ⟨2, by unfold Fq FQ; decide, rfl⟩
  · exact ⟨2, by unfold Fq FQ; decide, rfl⟩
  · exact ⟨3, by unfold Fq FQ; decide, rfl⟩
  · exact ⟨3, by unfold Fq FQ; decide, rfl⟩
  · exact ⟨4, by unfold Fq FQ; decide, rfl⟩
  · exact ⟨5, by unfold Fq FQ; decide, rfl⟩
  · exact ⟨7, by unfold Fq FQ; decide, rfl⟩
  · exact ⟨8, by unfold Fq FQ; decide, rfl⟩
  · exact ⟨9, by unfold Fq FQ; decide, rfl⟩
theorem lt1000 {n : Nat} (h : n < 2 ^ 40) : n < 2 ^ 1000 := Nat.lt_of_lt_of_le h (Nat.pow_le_pow_right (by decide) (by decide : 40 ≤ 1000))
def sp__law_q (K : PySem.W.Frag) : Sp := fun vs H Q _ => ∃ (p : Addr), vs = [.ref p] ∧ IsDice H p ∧ ∀ (q : Nat) H', Fq q → Exd p H H' → IsDice H' p → Q (N_ q) H'

theorem ok__law_q {P : Program} {w : World} {K : PySem.W.Frag} {mg : Str → Option Value} {base : Heap} (T : Txt K mg) : FnOk P w K mg base CX0 3 T.a__law_q T.d__law_q ["_law_dice_here"] (sp__law_q K) := by
  refine T.F__law_q.ok sc__law_q (fun vs H Q E h => ?_) (fun cdv A outer s H vs Q E hr h => ?_)
  · obtain ⟨p, rfl, _⟩ := h
    rfl
  · obtain ⟨p, rfl, hd, k⟩ := h
    refine ⟨_, (pss_one (ps_ret (pe_call (ok__law_one_of T) (hr.mono (by decide)) (by rfl) T.g__law_one_of T.F__law_one_of.kp T.b__law_one_of .nil pass0 (pa_cons (pv 0) (pa_cons (pe_lst (pa_cons pe_int (pa_cons pe_int (pa_cons pe_int (pa_cons pe_int (pa_cons pe_int (pa_cons pe_int (pa_cons pe_int (pa_cons pe_int (pa_cons pe_int pa_nil)))))))))) pa_nil))))), ?_⟩
    refine ⟨.ref p, rfl, by show 9 ≤ sizeLine; decide, fun l nl => ⟨p, l, _, rfl, hd.ex (Ex.new nl), sq_of upd_same, new_ne nl hd, by show 0 < 9; decide, by show 9 ≤ 1000; decide, fun x H1 hx x1' d1 => ?_⟩⟩
    obtain ⟨q, hq, rfl⟩ := q_of hx
    exact k q H1 hq ((Exd.of (Ex.new nl)).trans x1') d1


def sp__law_digit_sum (K : PySem.W.Frag) : Sp := fun vs H Q _ => ∃ (b n : Nat), vs = [N_ b, N_ n] ∧ Bs b ∧ Gt n ∧ RetV (N_ (ds b n)) H Q
theorem sv__law_digit_sum {K : PySem.W.Frag} {H : Hp} {b n : Nat} (hb : Bs b) (hn : Gt n) : SpV (sp__law_digit_sum K) [N_ b, N_ n] H (N_ (ds b n)) := fun H1 e Q q E => ⟨b, n, rfl, hb, hn, q⟩


def sp__law_own_shifts (K : PySem.W.Frag) : Sp := fun vs H Q _ => ∃ (d : Addr) (q k : Nat), vs = [.ref d, N_ k] ∧ Fq q ∧ FldAt (fun _ => True) H d q ∧ k < 10 ^ 60 ∧ RetL ((ssL q k).map N_) H Q
theorem sv__law_own_shifts {K : PySem.W.Frag} {H : Hp} {d : Addr} {q k : Nat} (hq : Fq q) (h : FldAt (fun _ => True) H d q) (hk : k < 10 ^ 60) : SpL (sp__law_own_shifts K) [.ref d, N_ k] H ((ssL q k).map N_) := fun H1 e Q kk E => ⟨d, q, k, rfl, hq, h.ex e, hk, kk⟩


section
variable {K : PySem.W.Frag} {σ : L2.St} {H : Hp} {D : Ends} {tu tz : TS}
theorem q_forRaw1 {j : Nat} {ta : TA} (M : Nat → Hp → Prop) (h : ∀ Q : List V → Hp → Prop, (∀ n H1, M n H1 → Q [N_ n] H1) → ta σ H Q) (k : ∀ n H1, M n H1 → tSeq (tFor (iRng1 (tCons (tC (N_ n)) tNil)) (gName j) tu) tz D σ H1) : tSeq (tFor (iRng1 ta) (gName j) tu) tz D σ H := h _ (fun n H1 m => k n H1 m)
end
def sp__law_small_k (K : PySem.W.Frag) : Sp := fun vs H Q _ => ∃ (p : Addr) (q m : Nat), vs = [.ref p, N_ q, N_ m] ∧ Fq q ∧ m ≤ 100 ∧ 0 < m ∧ IsDice H p ∧ ∀ (r : Nat) H', r ≤ m → Exd p H H' → IsDice H' p → Q (N_ r) H'


def sp__law_great_k (K : PySem.W.Frag) : Sp := fun vs H Q _ => ∃ (p d : Addr) (q : Nat), vs = [.ref p, .ref d] ∧ Fq q ∧ IsDice H p ∧ FldAt (fun b => b ≠ p) H d q ∧ ∀ (r : Nat) H', r < 10 ^ 60 → Exd p H H' → IsDice H' p → Q (N_ r) H'


theorem od_snocL (b r : Nat) : ∀ es : List Nat, od b (es ++ [r]) = od b es + b ^ es.length * r
  | [] => by
    show r + b * 0 = 0 + b ^ 0 * r
    rw [Nat.pow_zero]
    omega
  | e :: es => by
    rw [List.cons_append, od, od, od_snocL b r es, List.length_cons, Nat.pow_succ, Nat.mul_add, Nat.mul_comm (b ^ es.length) b, Nat.mul_assoc]
    omega
theorem Le2.len : ∀ {es xs : List Nat}, Le2 es xs → es.length = xs.length
  | _, _, .nil => rfl
  | _, _, .cons _ r => by rw [List.length_cons, List.length_cons, r.len]
theorem pow_wide {b j : Nat} (hb : b ≤ 1000) (hj : j ≤ 200) : b ^ j < 2 ^ 2001 := by
  have h1 : b ^ j ≤ (2 ^ 10) ^ j := Nat.pow_le_pow_left (by omega) j
  rw [← Nat.pow_mul] at h1
  exact Nat.lt_of_le_of_lt h1 (Nat.pow_lt_pow_right (by decide) (by omega))
section
variable {K : PySem.W.Frag} {σ : L2.St} {H : Hp} {D : Ends} {ta tb : TE}
theorem el_cat {l : Addr} {xs ys : List V} (h : Ev ta σ H (.ref l)) (hl : H l = some (.lst xs)) (h2 : EvL tb σ H ys) (hz : xs.length + ys.length ≤ 100000) : EvL (tOp rCat ta tb) σ H (xs ++ ys) := fun H1 e Q q =>
  h H1 e _ fun H2 e2 => h2 H2 (e.trans e2) _ fun p H3 hp e3 h3 => ⟨l, p, xs, ys, rfl, rfl, e3 _ _ (e2 _ _ (e _ _ hl)), h3, sz_of hz, fun r hr => q r _ (fresh_back (e2.trans e3) hr) ((e2.trans e3).trans (Ex.new hr)) upd_same⟩
theorem s_parL {i j : Nat} {xs : List V} {y : V} (h : EvL ta σ H xs) (h2 : ∀ p H1, H p = none → Ex H H1 → H1 p = some (.lst xs) → Ev tb σ H1 y) (k : ∀ p H1, H p = none → Ex H H1 → H1 p = some (.lst xs) → D.nx ((σ.set i (some (.ref p))).set j (some y)) H1) : tPar i j (tCons ta (tCons tb tNil)) D σ H :=
  h H (Ex.refl H) _ fun p H1 hp e1 hx => h2 p H1 hp e1 hx H1 (Ex.refl H1) _ fun H2 e2 => ⟨.ref p, y, rfl, k p H2 hp (e1.trans e2) (e2 _ _ hx)⟩
end
def sp__law_parts_of (K : PySem.W.Frag) : Sp := fun vs H Q _ => ∃ (p : Addr) (b n : Nat), vs = [.ref p, N_ b, N_ n] ∧ Bs b ∧ n < 10 ^ 60 ∧ IsDice H p ∧ ∀ (t : Addr) (xs : List Nat) H', Exd p H H' → IsDice H' p → SqT K H' t (xs.map N_) → CF b xs → xs.sum = n → 1 ≤ xs.length → xs.length ≤ 5 → Q (.ref t) H'


end Own
/-! own rules that the law's sums use -/
namespace Own
open PySem PySem.Spec PyProof.Rows L2 Evl
section
variable {K : PySem.W.Frag} {σ : L2.St} {H H' : Hp} {t : TT} {te ta tb : TE} {x y v : V} {D : Ends} {tu tz : TS} {g : TG}
theorem s_par9 {i j : Nat} (h : Ev ta σ H x) (h2 : Ev tb σ H y) (k : ∀ H1, Ex H H1 → D.nx ((σ.set i (some x)).set j (some y)) H1) : tPar i j (tCons ta (tCons tb tNil)) D σ H :=
  h H (Ex.refl H) _ fun H1 e1 => h2 H1 e1 _ fun H2 e2 => ⟨x, y, rfl, k H2 (e1.trans e2)⟩
theorem q_parXL {i j : Nat} {xs : List V} (h : Ev ta σ H x) (h2 : EvL tb σ H xs) (k : ∀ p H1, H p = none → Ex H H1 → H1 p = some (.lst xs) → tz D ((σ.set i (some x)).set j (some (.ref p))) H1) : tSeq (tPar i j (tCons ta (tCons tb tNil))) tz D σ H :=
  h H (Ex.refl H) _ fun H1 e1 => h2 H1 e1 _ fun p H2 np e2 hx => ⟨x, .ref p, rfl, k p H2 (fresh_back e1 np) (e1.trans e2) hx⟩
theorem el_listA {a : Addr} {xs : List V} (h : Ev ta σ H (.ref a)) (hx : SqL K H a xs ∨ SqT K H a xs) : EvL (tCB (rLstQ K) (tCons ta tNil)) σ H xs := fun H1 e Q q =>
  h H1 e _ fun H2 e2 => ⟨a, xs, rfl, hx.imp (ex_l (e.trans e2)) (ex_t (e.trans e2)), fun l hl => q l _ (fresh_back e2 hl) (e2.trans (Ex.new hl)) upd_same⟩
/-- [..][j] of a new list -/
theorem ev_ixNew {xs : List V} {j : Nat} (h : EvL ta σ H xs) (h2 : ∀ H1, Ex H H1 → Ev tb σ H1 (.int (j : Nat))) (hv : xs[j]? = some v) : Ev (tOp (rIxL K) ta tb) σ H v := fun H1 e Q q =>
  h H1 e _ fun p H2 np e2 hx => h2 H2 (e.trans e2) H2 (Ex.refl H2) _ fun H3 e3 => rv_ixL (K := K) (sq_of (e3 _ _ hx)) (atI_nat hv) H3 (Ex.refl H3) Q fun H4 e4 => q H4 ((e2.trans e3).trans e4)
theorem el_catN9 {xs ys : List V} (h : EvL ta σ H xs) (h2 : EvL tb σ H ys) (hz : xs.length + ys.length ≤ 100000) : EvL (tOp rCat ta tb) σ H (xs ++ ys) := fun H1 e Q q =>
  h H1 e _ fun p H2 hp e2 hx => h2 H2 (e.trans e2) _ fun r H3 hr e3 hy => ⟨p, r, xs, ys, rfl, rfl, e3 _ _ hx, hy, sz_of hz, fun z hz => q z _ (fresh_back (e2.trans e3) hz) ((e2.trans e3).trans (Ex.new hz)) upd_same⟩
/-- [.. for a, b in zip(list variable, new list)] -/
theorem el_lcZV {a : Addr} {xs ys : List V} {i1 i2 : Nat} {vs : List Nat} (v : Nat → V) (h1 : Ev ta σ H (.ref a)) (hx : SqL K H a xs) (h2 : EvL tb σ H ys) (hz : xs.length ≤ 40000) (hw : ∀ x y, wipe (((wipe σ vs).set i1 (some x)).set i2 (some y)) vs = wipe σ vs)
    (he : ∀ (i : Nat) (x y : V) H1, Ex H H1 → xs[i]? = some x → ys[i]? = some y → Ev te (((wipe σ vs).set i1 (some x)).set i2 (some y)) H1 (v i)) :
    EvL (tLc (iZip K (tCons ta (tCons tb tNil))) (gTup K 2 (gCons (gName i1) (gCons (gName i2) gNil))) tYes te vs) σ H (given (min xs.length ys.length) (fun _ => true) v) := fun H0 e Q q => h1 H0 e _ fun H1 e1 => h2 H1 (e.trans e1) _ fun b H2 nb e2 hy => ⟨a, b, xs, ys, rfl, ex_l ((e.trans e1).trans e2) hx, sq_of hy, fun Dl hD =>
  lc_it (walk_zip (xs := xs) (ys := ys) rfl) (Cw H2 (fun _ => true) v Dl) ⟨hD, Ex.new hD, upd_same⟩ (fun i H' _ p => ⟨ex_l (((e.trans e1).trans e2).trans p.2.1) hx, sq_of (p.2.1 _ _ hy)⟩) (fun i x H' H'' hi p y => by
    obtain ⟨T, u, u', rfl, nT, rfl, g1, g2⟩ := y
    obtain ⟨p1, p2, p3⟩ := p
    have p' : Cw H2 (fun _ => true) v Dl i (upd H' T (.tup [u, u'])) := ⟨p1, p2.trans (Ex.new nT), (Ex.new nT) _ _ p3⟩
    exact ⟨T, [u, u'], rfl, st_of upd_same, rfl, u, [u'], rfl, u', [], rfl, rfl, hw _ _, cw_turn p' (by omega) et_nil (fun _ => he i u u' H2 ((e.trans e1).trans e2) g1 g2)⟩)
    (fun H' p => q Dl H' (fresh_back (e1.trans e2) p.1) ((e1.trans e2).trans p.2.1) p.2.2)⟩
end
def dgF (b : Nat) : Nat → Nat → List Nat
  | 0, _ => []
  | n + 1, k => if k = 0 then [] else (k % b) :: dgF b n (k / b)
theorem dgF_eq {b : Nat} (hb : 1 < b) : ∀ (n k : Nat), k < 2 ^ n → dgF b n k = dg b k
  | 0, k, h => by
    have : k = 0 := by rw [Nat.pow_zero] at h; omega
    subst this
    rw [dg_zero]
    rfl
  | n + 1, k, h => by
    unfold dgF
    by_cases hk : k = 0
    · rw [if_pos hk, hk, dg_zero]
    · rw [if_neg hk, dg_pos hb (by omega), dgF_eq hb n (k / b) (by
        have h1 : k / b ≤ k / 2 := Nat.div_le_div_left hb (by decide)
        rw [Nat.pow_succ] at h
        omega)]
end Own
/-! polynomials as the law makes them: sums, products, powers, one by one -/
namespace Own
open PySem PySem.Spec PyProof.Rows L2 Evl

section
variable {K : PySem.W.Frag} {σ : L2.St} {H H' : Hp} {ta tb te tl : TE} {t : TT} {D : Ends} {tu tz : TS}
/-- a place in a list of lists -/
theorem ev_ll {N : Addr → Prop} {a : Addr} {rows : List (List Nat)} {x y z : Nat} {row : List Nat} (h : LLt N H a rows) (ht : Ev tl σ H (.ref a)) (ha : Ev ta σ H (N_ x)) (hb : Ev tb σ H (N_ y)) (hx : rows[x]? = some row) (hy : row[y]? = some z) : Ev (tOp (rIxL K) (tOp (rIxL K) tl ta) tb) σ H (N_ z) := by
  obtain ⟨rs, _, h1, hl, hr⟩ := h
  have hxl : x < rs.length := by rw [hl]; exact (List.getElem?_eq_some_iff.mp hx).1
  have hxr : rs[x]? = some (rs.getD x 0) := getD_get (xs := rs) hxl
  exact ev_op (ev_op ht ha (rv_ixL (sq_of h1) (atI_nat (by rw [List.getElem?_map, hxr]; rfl)))) hb (rv_ixL (sq_of (hr x _ row hxr hx).2) (atI_nat (by rw [List.getElem?_map, hy]; rfl)))
theorem row2_get {g : Nat → Nat → Nat → Nat} {q x : Nat} (hx : x < q) : (row2 g q)[x]? = some ((List.range q).map fun b => g q x b) := by
  unfold row2
  rw [List.getElem?_map, List.getElem?_range hx]
  rfl
theorem col2_get {g : Nat → Nat → Nat → Nat} {q x y : Nat} (hy : y < q) : ((List.range q).map fun b => g q x b)[y]? = some (g q x y) := by
  rw [List.getElem?_map, List.getElem?_range hy]
  rfl
theorem ev_t2 {N : Addr → Prop} {g : Nat → Nat → Nat → Nat} {q : Nat} {a : Addr} {x y : Nat} (h : LLt N H a (row2 g q)) (ht : Ev tl σ H (.ref a)) (ha : Ev ta σ H (N_ x)) (hb : Ev tb σ H (N_ y)) (hx : x < q) (hy : y < q) : Ev (tOp (rIxL K) (tOp (rIxL K) tl ta) tb) σ H (N_ (g q x y)) := ev_ll h ht ha hb (row2_get hx) (col2_get hy)
theorem LLt.ex {N : Addr → Prop} {H H' : Hp} {a : Addr} {xss : List (List Nat)} (h : LLt N H a xss) (e : Ex H H') : LLt N H' a xss := h.keep fun b o n q => ⟨n, e _ _ q⟩
/-- x == (), x != () -/
theorem nilI (xs : List Nat) : (decide (xs.map Int.ofNat = [])) = decide (xs = []) := by cases xs <;> rfl
theorem ev_eqNil {a : Addr} {xs : List Nat} (h : Ev ta σ H (.ref a)) (hx : SqT K H a (xs.map N_)) : Ev (tOp (rEqD K) ta (tTup tNil)) σ H (.bl (decide (xs = []))) := fun H1 e Q q =>
  h H1 e _ fun H2 e2 => (eu_tup (σ := σ) (H := H2) (vs := []) ea_nil (by decide)) H2 (Ex.refl H2) _ fun p H3 np e3 h3 =>
    rv_eqT (K := K) (a := a) (b := p) (ns := xs.map Int.ofNat) (ms := []) (by rw [← mapN]; exact ex_t ((e.trans e2).trans e3) hx) (st_of h3) H3 (Ex.refl H3) Q fun H4 e4 => by
      rw [nilI]
      exact q H4 ((e2.trans e3).trans e4)
theorem ev_neNil {a : Addr} {xs : List Nat} (h : Ev ta σ H (.ref a)) (hx : SqT K H a (xs.map N_)) : Ev (tOp (rNeD K) ta (tTup tNil)) σ H (.bl (!decide (xs = []))) := fun H1 e Q q =>
  h H1 e _ fun H2 e2 => (eu_tup (σ := σ) (H := H2) (vs := []) ea_nil (by decide)) H2 (Ex.refl H2) _ fun p H3 np e3 h3 =>
    rv_neT (K := K) (a := a) (b := p) (ns := xs.map Int.ofNat) (ms := []) (by rw [← mapN]; exact ex_t ((e.trans e2).trans e3) hx) (st_of h3) H3 (Ex.refl H3) Q fun H4 e4 => by
      rw [nilI]
      exact q H4 ((e2.trans e3).trans e4)
/-- for i, x in enumerate(tuple) -/
theorem for_enumT {a : Addr} {xs : List V} {g : TG} {tb : TS} {D : Ends} {σ : L2.St} {H : Hp} (Pv : Nat → L2.St → Hp → Prop) (h0 : Pv 0 σ H) (hl : ∀ i σ H, i ≤ xs.length → Pv i σ H → SqT K H a xs)
    (hs : ∀ i x T σ H, xs[i]? = some x → Pv i σ H → H T = none → g (.ref T) σ (upd H T (.tup [.int (i : Nat), x])) fun σ2 H2 => tb { D with nx := Pv (i + 1), ct := Pv (i + 1), bk := D.nx } σ2 H2) (hd : ∀ σ H, Pv xs.length σ H → D.nx σ H) :
    ∃ W : Nat → Nat → L2.St → Hp → Prop, (∃ m, W 0 m σ H) ∧ ∀ i m σ H, W i m σ H →
      ((Itet K a).stop i H ∧ D.nx σ H) ∨ ((Itet K a).go i H ∧ ∃ N : L2.St → Hp → Prop, (∀ σ' H', N σ' H' → ∃ m', m' < m ∧ W (i + 1) m' σ' H') ∧ ∀ x H', (Itet K a).yld i H x H' → g x σ H' fun σ2 H2 => tb { D with nx := N, ct := N, bk := D.nx } σ2 H2) := by
  refine ⟨fun i m σ H => m = xs.length - i ∧ i ≤ xs.length ∧ Pv i σ H, ⟨xs.length, by simp, Nat.zero_le _, h0⟩, ?_⟩
  rintro i m σ H ⟨rfl, hi, p⟩
  have q := hl i σ H hi p
  by_cases hlt : i < xs.length
  · refine .inr ⟨⟨xs, xs[i], q, by simp [hlt]⟩, Pv (i + 1), fun σ' H' p' => ⟨xs.length - (i + 1), by omega, rfl, hlt, p'⟩, fun x H' y => ?_⟩
    obtain ⟨T, z, rfl, nT, rfl, f⟩ := y
    have hz := f xs q
    exact hs i z T σ H hz p nT
  · exact .inl ⟨⟨xs, q, by omega⟩, by
      have : i = xs.length := by omega
      subst this
      exact hd σ H p⟩
theorem s_forET {a : Addr} {xs : List V} {tl : TA} {i1 i2 : Nat} (h : EvA tl σ H [.ref a]) (hx : SqT K H a xs) (Pv : Nat → L2.St → Hp → Prop) (h0 : ∀ H1, Ex H H1 → Pv 0 σ H1) (hl : ∀ i σ' H', i ≤ xs.length → Pv i σ' H' → SqT K H' a xs)
    (hs : ∀ i x σ' H' H2, xs[i]? = some x → Pv i σ' H' → Ex H' H2 → tu { D with nx := Pv (i + 1), ct := Pv (i + 1), bk := D.nx } ((σ'.set i1 (some (.int (i : Nat)))).set i2 (some x)) H2) (hd : ∀ σ' H', Pv xs.length σ' H' → D.nx σ' H') :
    tFor (iEnumT K tl) (gTup K 2 (gCons (gName i1) (gCons (gName i2) gNil))) tu D σ H :=
  h H (Ex.refl H) _ fun H1 e => ⟨a, xs, rfl, ex_t e hx, for_enumT (xs := xs) Pv (h0 H1 e) hl (fun i x T σ' H' hx hp nT => ⟨T, [.int (i : Nat), x], rfl, st_of upd_same, rfl, .int (i : Nat), [x], rfl, x, [], rfl, rfl, hs i x σ' H' _ hx hp (Ex.new nT)⟩) hd⟩
theorem q_forET {a : Addr} {xs : List V} {tl : TA} {i1 i2 : Nat} (h : EvA tl σ H [.ref a]) (hx : SqT K H a xs) (Pv : Nat → L2.St → Hp → Prop) (h0 : ∀ H1, Ex H H1 → Pv 0 σ H1) (hl : ∀ i σ' H', i ≤ xs.length → Pv i σ' H' → SqT K H' a xs)
    (hs : ∀ i x σ' H' H2, xs[i]? = some x → Pv i σ' H' → Ex H' H2 → tu { D with nx := Pv (i + 1), ct := Pv (i + 1), bk := tz D } ((σ'.set i1 (some (.int (i : Nat)))).set i2 (some x)) H2) (hd : ∀ σ' H', Pv xs.length σ' H' → tz D σ' H') :
    tSeq (tFor (iEnumT K tl) (gTup K 2 (gCons (gName i1) (gCons (gName i2) gNil))) tu) tz D σ H := s_forET (D := { D with nx := tz D }) h hx Pv h0 hl hs hd
end
/-! the elements: what sums and products are within q -/
def epF (p f a b : Nat) : Nat := od p ((dnL p f (ouL p (dgF p 4 b) 0 (dgF p 4 a) (List.replicate (2 * f) 0)) f).take f)
theorem pE_F {q a b : Nat} (hq : Fq q) (ha : a < q) (hb : b < q) : pE q a b = epF (prE q) (poE q) a b := by
  unfold pE epL epF
  have hp : 1 < prE q := by have := (pf_q hq).p2; omega
  have h9 := hq.b
  rw [dgF_eq hp 4 a (by omega), dgF_eq hp 4 b (by omega)]
theorem chk_cl : chkAll (fun q => all1 q fun a => all1 q fun b => decide (sE q a b < q) && decide (epF (prE q) (poE q) a b < q)) = true := by decide +kernel
theorem sE_lt {q a b : Nat} (hq : Fq q) (ha : a < q) (hb : b < q) : sE q a b < q := by
  have h := all1_get (all1_get (chk_get chk_cl hq) ha) hb
  rw [Bool.and_eq_true, decide_eq_true_eq, decide_eq_true_eq] at h
  exact h.1
theorem pE_lt {q a b : Nat} (hq : Fq q) (ha : a < q) (hb : b < q) : pE q a b < q := by
  have h := all1_get (all1_get (chk_get chk_cl hq) ha) hb
  rw [Bool.and_eq_true, decide_eq_true_eq, decide_eq_true_eq] at h
  rw [pE_F hq ha hb]
  exact h.2
/-! rows of coefficients -/
def trN : List Nat → List Nat
  | [] => []
  | x :: r => match trN r with
    | [] => if x = 0 then [] else [x]
    | y :: s => x :: y :: s
theorem tr_take : ∀ xs : List Nat, xs.take (trN xs).length = trN xs ∧ (trN xs).length ≤ xs.length ∧ ((trN xs).length ≠ 0 → xs.getD ((trN xs).length - 1) 0 ≠ 0) ∧ ∀ i, (trN xs).length ≤ i → xs.getD i 0 = 0
  | [] => ⟨rfl, Nat.le_refl _, fun h => absurd rfl h, fun i _ => rfl⟩
  | x :: r => by
    obtain ⟨h1, h2, h3, h4⟩ := tr_take r
    unfold trN
    cases e : trN r with
    | nil =>
      rw [e] at h1 h2 h3 h4
      dsimp only
      by_cases hx : x = 0
      · rw [if_pos hx]
        refine ⟨rfl, Nat.zero_le _, fun h => absurd rfl h, fun i _ => ?_⟩
        cases i with
        | zero => exact hx
        | succ i => exact h4 i (Nat.zero_le _)
      · rw [if_neg hx]
        refine ⟨rfl, Nat.succ_le_succ (Nat.zero_le _), fun _ => hx, fun i hi => ?_⟩
        cases i with
        | zero => exact absurd hi (Nat.not_succ_le_zero 0)
        | succ i => exact h4 i (Nat.zero_le _)
    | cons y s =>
      rw [e] at h1 h2 h3 h4
      dsimp only
      refine ⟨?_, ?_, fun _ => ?_, fun i hi => ?_⟩
      · rw [List.length_cons (a := x), List.take_succ_cons, h1]
      · rw [List.length_cons (a := x), List.length_cons (as := r)]; omega
      · have := h3 (by rw [List.length_cons]; omega)
        rw [List.length_cons (a := x), Nat.add_sub_cancel]
        rw [List.length_cons, Nat.add_sub_cancel] at this
        rw [List.length_cons]
        exact this
      · cases i with
        | zero => rw [List.length_cons] at hi; omega
        | succ i =>
          rw [List.length_cons (a := x)] at hi
          exact h4 i (by omega)
theorem tr_mem {xs : List Nat} {z : Nat} (h : z ∈ trN xs) : z ∈ xs := by
  rw [← (tr_take xs).1] at h
  exact List.mem_of_mem_take h
def plN (q : Nat) (xs ys : List Nat) : List Nat := trN ((List.range (max xs.length ys.length)).map fun i => sE q (xs.getD i 0) (ys.getD i 0))
/-- c times a row, onto what begins at a place -/
def adR (q c : Nat) : List Nat → List Nat → List Nat
  | x :: xs, a :: acc => sE q a (pE q x c) :: adR q c xs acc
  | _, acc => acc
def adA (q c : Nat) (xs : List Nat) : Nat → List Nat → List Nat
  | 0, acc => adR q c xs acc
  | j + 1, a :: acc => a :: adA q c xs j acc
  | _ + 1, [] => []
def muS (q : Nat) (xs ys : List Nat) : Nat → List Nat
  | 0 => List.replicate (xs.length + ys.length - 1) 0
  | j + 1 => if ys.getD j 0 = 0 then muS q xs ys j else adA q (ys.getD j 0) xs j (muS q xs ys j)
def muN (q : Nat) (xs ys : List Nat) : List Nat := if xs = [] ∨ ys = [] then [] else muS q xs ys ys.length
def Lq (q : Nat) (xs : List Nat) : Prop := ∀ x ∈ xs, x < q
theorem Lq.get {q : Nat} {xs : List Nat} (h : Lq q xs) (h0 : 0 < q) (i : Nat) : xs.getD i 0 < q := by
  by_cases hi : i < xs.length
  · exact h _ (List.mem_of_getElem? (getD_get hi))
  · rw [List.getD_eq_getElem?_getD, List.getElem?_eq_none (by omega)]
    exact h0
theorem adR_len (q c : Nat) : ∀ (xs acc : List Nat), (adR q c xs acc).length = acc.length
  | [], acc => by unfold adR; rfl
  | x :: xs, [] => rfl
  | x :: xs, a :: acc => by
    show (_ :: adR q c xs acc).length = _
    rw [List.length_cons, List.length_cons, adR_len q c xs acc]
theorem adA_len (q c : Nat) (xs : List Nat) : ∀ (j : Nat) (acc : List Nat), (adA q c xs j acc).length = acc.length
  | 0, acc => by show (adR q c xs acc).length = _; exact adR_len q c xs acc
  | j + 1, [] => rfl
  | j + 1, a :: acc => by
    show (_ :: adA q c xs j acc).length = _
    rw [List.length_cons, List.length_cons, adA_len q c xs j acc]
theorem adR_lq {q c : Nat} (hq : Fq q) (hc : c < q) : ∀ (xs acc : List Nat), Lq q xs → Lq q acc → Lq q (adR q c xs acc)
  | [], acc, _, h => by unfold adR; exact h
  | x :: xs, [], _, h => fun z hz => by cases hz
  | x :: xs, a :: acc, hx, h => fun z hz => by
    rcases List.mem_cons.mp (show z ∈ sE q a (pE q x c) :: adR q c xs acc from hz) with rfl | hz
    · exact sE_lt hq (h _ (.head _)) (pE_lt hq (hx _ (.head _)) hc)
    · exact adR_lq hq hc xs acc (fun y hy => hx y (.tail _ hy)) (fun y hy => h y (.tail _ hy)) z hz
theorem adA_lq {q c : Nat} (hq : Fq q) (hc : c < q) {xs : List Nat} (hx : Lq q xs) : ∀ (j : Nat) (acc : List Nat), Lq q acc → Lq q (adA q c xs j acc)
  | 0, acc, h => adR_lq hq hc xs acc hx h
  | j + 1, [], h => fun z hz => by cases hz
  | j + 1, a :: acc, h => fun z hz => by
    rcases List.mem_cons.mp (show z ∈ a :: adA q c xs j acc from hz) with rfl | hz
    · exact h _ (.head _)
    · exact adA_lq hq hc hx j acc (fun y hy => h y (.tail _ hy)) z hz
theorem muS_len (q : Nat) (xs ys : List Nat) : ∀ j, (muS q xs ys j).length = xs.length + ys.length - 1
  | 0 => by unfold muS; rw [List.length_replicate]
  | j + 1 => by
    unfold muS
    split
    · exact muS_len q xs ys j
    · rw [adA_len]; exact muS_len q xs ys j
theorem muS_lq {q : Nat} (hq : Fq q) {xs ys : List Nat} (hx : Lq q xs) (hy : Lq q ys) : ∀ j, Lq q (muS q xs ys j)
  | 0 => fun z hz => by
    unfold muS at hz
    rw [(List.mem_replicate.mp hz).2]
    have := hq.b
    omega
  | j + 1 => by
    unfold muS
    split
    · exact muS_lq hq hx hy j
    · exact adA_lq hq (hy.get (by have := hq.b; omega) j) hx j _ (muS_lq hq hx hy j)
/-- one more member of a row that is added -/
theorem adR_step (q c : Nat) : ∀ (xs acc : List Nat) (i x a : Nat), xs[i]? = some x → acc[i]? = some a → (adR q c (xs.take i) acc)[i]? = some a ∧ adR q c (xs.take (i + 1)) acc = (adR q c (xs.take i) acc).set i (sE q a (pE q x c))
  | [], _, i, x, a, h, _ => by simp at h
  | y :: xs, [], i, x, a, _, h => by simp at h
  | y :: xs, b :: acc, 0, x, a, h, h2 => by
    simp only [List.getElem?_cons_zero, Option.some.injEq] at h h2
    subst h h2
    refine ⟨rfl, ?_⟩
    show sE q b (pE q y c) :: adR q c (xs.take 0) acc = _
    rw [List.take_zero, List.take_zero]
    show sE q b (pE q y c) :: adR q c [] acc = sE q b (pE q y c) :: acc
    unfold adR
    rfl
  | y :: xs, b :: acc, i + 1, x, a, h, h2 => by
    rw [List.getElem?_cons_succ] at h h2
    obtain ⟨h3, h4⟩ := adR_step q c xs acc i x a h h2
    rw [List.take_succ_cons]
    refine ⟨?_, ?_⟩
    · show (sE q b (pE q y c) :: adR q c (xs.take i) acc)[i + 1]? = _
      rw [List.getElem?_cons_succ]
      exact h3
    · show sE q b (pE q y c) :: adR q c (xs.take (i + 1)) acc = (sE q b (pE q y c) :: adR q c (xs.take i) acc).set (i + 1) _
      rw [List.set_cons_succ, h4]
theorem adA_step (q c : Nat) (xs : List Nat) : ∀ (j : Nat) (acc : List Nat) (i x a : Nat), xs[i]? = some x → acc[i + j]? = some a → (adA q c (xs.take i) j acc)[i + j]? = some a ∧ adA q c (xs.take (i + 1)) j acc = (adA q c (xs.take i) j acc).set (i + j) (sE q a (pE q x c))
  | 0, acc, i, x, a, h, h2 => adR_step q c xs acc i x a h h2
  | j + 1, [], i, x, a, _, h => by simp at h
  | j + 1, b :: acc, i, x, a, h, h2 => by
    rw [show i + (j + 1) = (i + j) + 1 from rfl, List.getElem?_cons_succ] at h2
    obtain ⟨h3, h4⟩ := adA_step q c xs j acc i x a h h2
    refine ⟨?_, ?_⟩
    · show (b :: adA q c (xs.take i) j acc)[(i + j) + 1]? = _
      rw [List.getElem?_cons_succ]
      exact h3
    · show b :: adA q c (xs.take (i + 1)) j acc = (b :: adA q c (xs.take i) j acc).set ((i + j) + 1) _
      rw [List.set_cons_succ, h4]
theorem adA_zero (q c : Nat) : ∀ (j : Nat) (acc : List Nat), adA q c [] j acc = acc
  | 0, acc => by unfold adA adR; rfl
  | j + 1, [] => rfl
  | j + 1, b :: acc => by
    show b :: adA q c [] j acc = _
    rw [adA_zero q c j acc]

def sp__law_trim (K : PySem.W.Frag) : Sp := fun vs H Q _ => ∃ (a : Addr) (xs : List Nat) (m : Nat), vs = [.ref a] ∧ SqL K H a (xs.map N_) ∧ xs.length ≤ 10000 ∧ m ≤ xs.length ∧ (m ≠ 0 → xs.getD (m - 1) 0 ≠ 0) ∧ (∀ i, m ≤ i → xs.getD i 0 = 0) ∧ RetU ((xs.take m).map N_) H Q

theorem ok__law_trim {P : Program} {w : World} {K : PySem.W.Frag} {mg : Str → Option Value} {base : Heap} (T : Txt K mg) : FnOk P w K mg base CX0 1 T.a__law_trim T.d__law_trim ["_law_row"] (sp__law_trim K) := by
  refine T.F__law_trim.ok sc__law_trim (fun vs H Q E h => ?_) (fun cdv A outer s H vs Q E hr h => ?_)
  · obtain ⟨a, xs, m, rfl, _⟩ := h
    rfl
  · obtain ⟨a, xs, m, rfl, hx, hl, hm, hnz, hz, kk⟩ := h
    refine ⟨_, (pss_cons (ps_set (i := 1) sc__law_trim.nd rfl (Or.inl rfl) (pe_callB call_len_seq (by rfl) T.z_len (by decide +kernel) (pa_cons (pv 0) pa_nil)))
      (pss_cons (ps_while PassesOwn.never (PW.pt (pw_and (pt_cmpR op_gt (pv 1) pe_int (nomark _)) (pw_and1 (pt_cmpR op_eq (pe_ix (r := rIxL K) ix_list (pv 0) (pe_op op_sub (pv 1) pe_int) (fun _ _ => rfl)) pe_int (nomark _))))) (pss_one (ps_set (i := 1) sc__law_trim.nd rfl (Or.inl rfl) (pe_op op_sub (pv 1) pe_int))))
      (pss_one (ps_ret (pe_callTy call_tuple_of (by rfl) T.z_tuple (by decide +kernel) (pa_cons (pe_slice sl_list (pv 0) po_none (po_some (pv 1))) pa_nil)))))), ?_⟩
    refine q_asg (v := N_ xs.length) (ev_is (ev_cb (r := rLenQ K) (ea_cons (ev_var rfl) ea_nil) (rc_lenL hx)) (by rw [List.length_map])) fun H1 e1 => ?_
    refine q_while (fun n σ H' => σ = [some (.ref a), some (N_ n)] ∧ m ≤ n ∧ n ≤ xs.length ∧ Ex H H') xs.length ⟨rfl, hm, Nat.le_refl _, e1⟩ fun n σ H2 hw => ?_
    obtain ⟨rfl, hmn, hnl, e2⟩ := hw
    refine ⟨decide (0 < n) && decide (xs.getD (n - 1) 0 = 0), et_is (et_and (et_test (ev_op (ev_var rfl) ev_c rv_I0)) (b := decide (xs.getD (n - 1) 0 = 0)) fun hb => ?_) (by congr 1; exact decide_eq_decide.mpr (by omega)), fun hb H3 e3 => ?_, fun hb H3 e3 => ?_⟩
    · have hn0 : 0 < n := by have := of_decide_eq_true hb; omega
      exact et_is (et_test (ev_op (ev_op (r := rIxL K) (ev_var rfl) (ev_is (w := N_ (n - 1)) (ev_op (ev_var rfl) ev_c rv_I0) (congrArg V.int (by omega))) (rv_ixL (ex_l e2 hx) (atI_nat (get_N (by omega))))) ev_c (rv_eq rfl))) (dec_int (y := 0))
    · rw [Bool.and_eq_true, decide_eq_true_eq, decide_eq_true_eq] at hb
      have hne : m ≠ n := fun e => hnz (by omega) (by rw [e]; exact hb.2)
      refine ⟨fun σ' H' => σ' = [some (.ref a), some (N_ (n - 1))] ∧ Ex H H', fun σ2 H2' hN => ?_, ?_⟩
      · obtain ⟨rfl, e⟩ := hN
        exact ⟨n - 1, by omega, rfl, by omega, by omega, e⟩
      · exact s_asg (v := N_ (n - 1)) (ev_is (ev_op (ev_var rfl) ev_c rv_I0) (congrArg V.int (by omega))) fun H4 e4 => ⟨rfl, (e2.trans e3).trans e4⟩
    · have hmn2 : n = m := by
        rw [Bool.and_eq_false_iff, decide_eq_false_iff_not, decide_eq_false_iff_not] at hb
        by_cases h : m = n
        · exact h.symm
        · have := hz (n - 1) (by omega)
          rcases hb with hb | hb
          · omega
          · exact absurd this hb
      subst hmn2
      have e03 := e2.trans e3
      refine s_retU (eu_is (eu_tupleN (el_sl (K := K) (ev_var rfl) eo_none (eo_some (ev_var rfl)) (ex_l e03 hx))) (by rw [cutTake, List.map_take])) fun p H4 np e4 h4 => kk p H4 (fresh_back e03 np) (e03.trans e4) h4


theorem sv__law_trim {K : PySem.W.Frag} {H : Hp} {a : Addr} {xs : List Nat} (hx : SqL K H a (xs.map N_)) (hl : xs.length ≤ 10000) : SpU (sp__law_trim K) [.ref a] H ((trN xs).map N_) := fun H1 e Q kk E => by
  obtain ⟨h1, h2, h3, h4⟩ := tr_take xs
  exact ⟨a, xs, (trN xs).length, rfl, ex_l e hx, hl, h2, h3, fun i hi => h4 i hi, fun p H2 np e2 hp => kk p H2 np e2 (by rw [← h1]; exact hp)⟩
def sp__law_plus (K : PySem.W.Frag) : Sp := fun vs H Q _ => ∃ (d a b : Addr) (q : Nat) (xs ys : List Nat), vs = [.ref d, .ref a, .ref b] ∧ Fq q ∧ FldAt (fun _ => True) H d q ∧ SqT K H a (xs.map N_) ∧ SqT K H b (ys.map N_) ∧ Lq q xs ∧ Lq q ys ∧ xs.length ≤ 5000 ∧ ys.length ≤ 5000 ∧ RetU ((plN q xs ys).map N_) H Q
theorem sv__law_plus {K : PySem.W.Frag} {H : Hp} {d a b : Addr} {q : Nat} {xs ys : List Nat} (hq : Fq q) (hf : FldAt (fun _ => True) H d q) (hx : SqT K H a (xs.map N_)) (hy : SqT K H b (ys.map N_)) (lx : Lq q xs) (ly : Lq q ys) (hl : xs.length ≤ 5000) (hm : ys.length ≤ 5000) : SpU (sp__law_plus K) [.ref d, .ref a, .ref b] H ((plN q xs ys).map N_) := fun H1 e Q kk E => ⟨d, a, b, q, xs, ys, rfl, hq, hf.ex e, ex_t e hx, ex_t e hy, lx, ly, hl, hm, kk⟩
theorem pad_get (xs : List Nat) (n i : Nat) (hn : xs.length ≤ n) (hi : i < n) : ((xs.map N_) ++ List.replicate (n - xs.length) (N_ 0))[i]? = some (N_ (xs.getD i 0)) := by
  by_cases h : i < xs.length
  · rw [List.getElem?_append_left (by rw [List.length_map]; exact h)]
    exact get_N h
  · rw [List.getElem?_append_right (by rw [List.length_map]; omega), List.getElem?_replicate, List.length_map, if_pos (by omega), List.getD_eq_getElem?_getD, List.getElem?_eq_none (by omega)]
    rfl
section
variable {K : PySem.W.Frag} {σ : L2.St} {H H' : Hp} {ta tb te tl : TE} {t : TT} {D : Ends} {tu tz : TS}
theorem el_repZ {xs : List V} {k : Int} (h : EvL ta σ H xs) (h2 : ∀ H1, Ex H H1 → Ev tb σ H1 (.int k)) (hk0 : -100000 ≤ k) (hk : xs.length * k.toNat ≤ 100000) (hk2 : k ≤ 100000) : EvL (tOp rRep ta tb) σ H (List.replicate k.toNat xs).flatten := fun H1 e Q q =>
  h H1 e _ fun p H2 hp e2 hx => h2 H2 (e.trans e2) H2 (Ex.refl H2) _ fun H3 e3 => ⟨p, k, xs, rfl, rfl, e3 _ _ hx, by omega, by omega, sz_of hk, fun l hl => q l _ (fresh_back (e2.trans e3) hl) ((e2.trans e3).trans (Ex.new hl)) upd_same⟩
theorem eu_call1L {sp : Sp} {xs ys : List V} {E : XK} (h : EvL te σ H xs) (hs : ∀ p H1, Ex H H1 → H1 p = some (.lst xs) → SpU sp [.ref p] H1 ys) : EvU (tCall sp [] E (tCons te tNil)) σ H ys := fun H1 e Q q =>
  h H1 e _ fun p H2 np e2 hp => hs p H2 (e.trans e2) hp H2 (Ex.refl H2) Q (fun r H3 nr e3 hr => q r H3 (fresh_back e2 nr) (e2.trans e3) hr) _
theorem el_lcZL {a b : Addr} {xs ys : List V} {tl : TA} {i1 i2 : Nat} {vs : List Nat} (v : Nat → V) (h : EvA tl σ H [.ref a, .ref b]) (hx : SqL K H a xs) (hy : SqL K H b ys) (hz : xs.length ≤ 40000) (hw : ∀ x y, wipe (((wipe σ vs).set i1 (some x)).set i2 (some y)) vs = wipe σ vs)
    (he : ∀ (i : Nat) (x y : V) H1, Ex H H1 → xs[i]? = some x → ys[i]? = some y → Ev te (((wipe σ vs).set i1 (some x)).set i2 (some y)) H1 (v i)) :
    EvL (tLc (iZip K tl) (gTup K 2 (gCons (gName i1) (gCons (gName i2) gNil))) tYes te vs) σ H (given (min xs.length ys.length) (fun _ => true) v) := fun H0 e Q q => h H0 e _ fun H1 e1 => ⟨a, b, xs, ys, rfl, ex_l (e.trans e1) hx, ex_l (e.trans e1) hy, fun Dl hD =>
  lc_it (walk_zip (xs := xs) (ys := ys) rfl) (Cw H1 (fun _ => true) v Dl) ⟨hD, Ex.new hD, upd_same⟩ (fun i H' _ p => ⟨ex_l ((e.trans e1).trans p.2.1) hx, ex_l ((e.trans e1).trans p.2.1) hy⟩) (fun i x H' H'' hi p y => by
    obtain ⟨T, u, u', rfl, nT, rfl, g1, g2⟩ := y
    obtain ⟨p1, p2, p3⟩ := p
    have p' : Cw H1 (fun _ => true) v Dl i (upd H' T (.tup [u, u'])) := ⟨p1, p2.trans (Ex.new nT), (Ex.new nT) _ _ p3⟩
    exact ⟨T, [u, u'], rfl, st_of upd_same, rfl, u, [u'], rfl, u', [], rfl, rfl, hw _ _, cw_turn p' (by omega) et_nil (fun _ => he i u u' H1 (e.trans e1) g1 g2)⟩)
    (fun H' p => q Dl H' (fresh_back e1 p.1) (e1.trans p.2.1) p.2.2)⟩
theorem el_pad {a : Addr} {xs : List Nat} {n : Nat} {tc : TE} (ha : Ev ta σ H (.ref a)) (hx : SqT K H a (xs.map N_)) (hn : xs.length ≤ n) (hz : n ≤ 20000) (hc : ∀ H1, Ex H H1 → Ev tc σ H1 (.int ((n : Int) - (xs.length : Int)))) :
    EvL (tOp rCat (tCB (rLstQ K) (tCons ta tNil)) (tOp rRep (tLst (tCons (tC (.int 0)) tNil)) tc)) σ H (xs.map N_ ++ List.replicate (n - xs.length) (N_ 0)) :=
  el_catN9 (el_listA ha (.inr hx)) (el_is (el_repZ (xs := [V.int 0]) (k := (n : Int) - (xs.length : Int)) (el_lst (ea_cons ev_c ea_nil) (by show 1 ≤ 100000; decide)) hc (by omega) (by show 1 * _ ≤ 100000; omega) (by omega)) (by
    rw [show ((n : Int) - (xs.length : Int)).toNat = n - xs.length by omega]
    induction (n - xs.length) with
    | zero => rfl
    | succ m ih => rw [List.replicate_succ, List.flatten_cons, ih, List.replicate_succ]; rfl)) (by rw [List.length_map, List.length_replicate]; omega)
end

theorem ok__law_plus {P : Program} {w : World} {K : PySem.W.Frag} {mg : Str → Option Value} {base : Heap} (T : Txt K mg) : FnOk P w K mg base CX0 2 T.a__law_plus T.d__law_plus ["_law_field_here", "_law_one", "_law_other"] (sp__law_plus K) := by
  refine T.F__law_plus.ok sc__law_plus (fun vs H Q E h => ?_) (fun cdv A outer s H vs Q E hr h => ?_)
  · obtain ⟨d, a, b, q, xs, ys, rfl, _⟩ := h
    rfl
  · obtain ⟨d, a, b, q, xs, ys, rfl, hq, hf, hx, hy, lx, ly, hl, hm, kk⟩ := h
    refine ⟨_, (pss_cons (ps_set (i := 3) sc__law_plus.nd rfl (Or.inl rfl) (pe_callB (call_max2 rfl) (by rfl) T.z_max (by decide +kernel) (pa_cons (pe_callB call_len_seq (by rfl) T.z_len (by decide +kernel) (pa_cons (pv 1) pa_nil)) (pa_cons (pe_callB call_len_seq (by rfl) T.z_len (by decide +kernel) (pa_cons (pv 2) pa_nil)) pa_nil))))
      (pss_cons (ps_set (i := 4) sc__law_plus.nd rfl (Or.inl rfl) (pe_op op_cat (pe_callTy call_list_of (by rfl) T.z_list (by decide +kernel) (pa_cons (pv 1) pa_nil)) (pe_op op_rep (pe_lst (pa_cons pe_int pa_nil)) (pe_op op_sub (pv 3) (pe_callB call_len_seq (by rfl) T.z_len (by decide +kernel) (pa_cons (pv 1) pa_nil))))))
      (pss_cons (ps_set (i := 5) sc__law_plus.nd rfl (Or.inl rfl) (pe_op op_cat (pe_callTy call_list_of (by rfl) T.z_list (by decide +kernel) (pa_cons (pv 2) pa_nil)) (pe_op op_rep (pe_lst (pa_cons pe_int pa_nil)) (pe_op op_sub (pv 3) (pe_callB call_len_seq (by rfl) T.z_len (by decide +kernel) (pa_cons (pv 2) pa_nil))))))
      (pss_one (ps_ret (pe_call (ok__law_trim T) (hr.mono (by decide)) (by rfl) T.g__law_trim T.F__law_trim.kp T.b__law_trim .nil pass0 (pa_cons (pe_lc (own := [("_law_a", 6), ("_law_b", 7)]) (g := (gTup K 2 (gCons (gName 6) (gCons (gName 7) gNil)))) rfl sc__law_plus.nd (pi_zip (by rfl) T.z_zip (pa_cons (pv 4) (pa_cons (pv 5) pa_nil))) (blkOk_by (N := ["_law_field_here", "_law_one", "_law_other", "_law_size", "_law_left", "_law_right", "_law_a", "_law_b"]) (sc := defScope s__law_plus) (by decide +kernel)) (fun _ _ _ _ _ => (pg_tup (by rfl) (pgs_cons (pg_name (i := 6) sc__law_plus.nd rfl (Or.inl rfl)) (pgs_cons (pg_name (i := 7) sc__law_plus.nd rfl (Or.inl rfl)) pgs_nil)))) (fun _ _ _ _ _ => pts_nil) (fun _ _ _ _ _ => (pe_ix (r := rIxL K) ix_list (pe_ix (r := rIxL K) ix_list (pe_dget (hu_of hr) (pv 0) pe_str (fun _ _ => rfl)) (pv 6) (fun _ _ => rfl)) (pv 7) (fun _ _ => rfl)))) pa_nil))))))), ?_⟩
    have hmax : V.int (if (ys.length : Int) > (xs.length : Int) then (ys.length : Int) else (xs.length : Int)) = N_ (max xs.length ys.length) := congrArg V.int (by split <;> omega)
    refine q_asg (v := N_ (max xs.length ys.length)) (ev_is (ev_cb (ea_cons (ev_is (ev_cb (r := rLenQ K) (ea_cons (ev_var rfl) ea_nil) (rc_lenT hx)) (by rw [List.length_map])) (ea_cons (ev_is (ev_cb (r := rLenQ K) (ea_cons (ev_var rfl) ea_nil) (rc_lenT hy)) (by rw [List.length_map])) ea_nil)) rc_max2) hmax) fun H1 e1 => ?_
    generalize hn : max xs.length ys.length = n
    refine q_asgL (xs := xs.map N_ ++ List.replicate (n - xs.length) (N_ 0)) (el_pad (ev_var rfl) (ex_t e1 hx) (by omega) (by omega) (fun H2 e2 => ev_is (ev_op (ev_var rfl) (ev_is (ev_cb (r := rLenQ K) (ea_cons (ev_var rfl) ea_nil) (rc_lenT (ex_t (e1.trans e2) hx))) (by rw [List.length_map])) rv_I0) rfl)) fun l H2 nl e2 hl2 => ?_
    have e12 := e1.trans e2
    refine q_asgL (xs := ys.map N_ ++ List.replicate (n - ys.length) (N_ 0)) (el_pad (ev_var rfl) (ex_t e12 hy) (by omega) (by omega) (fun H3 e3 => ev_is (ev_op (ev_var rfl) (ev_is (ev_cb (r := rLenQ K) (ea_cons (ev_var rfl) ea_nil) (rc_lenT (ex_t (e12.trans e3) hy))) (by rw [List.length_map])) rv_I0) rfl)) fun m H3 nm e3 hm3 => ?_
    have e13 := e12.trans e3
    obtain ⟨_, kvs, a1, a2, a3, hdk, gq, gp, gf, g1, g2, g3, l1, l2, _, hm_⟩ := hf.ex e13
    have hq0 := hq.b
    refine s_retU (eu_call1L (xs := ((List.range n).map fun i => sE q (xs.getD i 0) (ys.getD i 0)).map N_) (el_is (el_lcZL (K := K) (xs := xs.map N_ ++ List.replicate (n - xs.length) (N_ 0)) (ys := ys.map N_ ++ List.replicate (n - ys.length) (N_ 0)) (fun i => N_ (sE q (xs.getD i 0) (ys.getD i 0))) (ea_cons (ev_var rfl) (ea_cons (ev_var rfl) ea_nil)) (sq_of (e3 _ _ hl2)) (sq_of hm3) (by rw [List.length_append, List.length_map, List.length_replicate]; omega) (fun _ _ => rfl) (fun i x y H5 e5 h5 h6 => ?_)) ?_) (fun p H4 e4 h4 => sv__law_trim (K := K) (sq_of h4) (by rw [List.length_map, List.length_range]; omega))) fun p H4 np e4 h4 => kk p H4 (fresh_back e13 np) (e13.trans e4) (by unfold plN; rw [hn]; exact h4)
    · have hi : i < n := by
        have := (List.getElem?_eq_some_iff.mp h5).1
        rw [List.length_append, List.length_map, List.length_replicate] at this
        omega
      rw [pad_get xs n i (by omega) hi] at h5
      rw [pad_get ys n i (by omega) hi] at h6
      cases h5
      cases h6
      exact ev_t2 (N := fun _ => True) (l1.ex e5) (ev_dg (ev_var rfl) (e5 _ _ hdk) g1) (ev_var rfl) (ev_var rfl) (lx.get (by omega) i) (ly.get (by omega) i)
    · rw [given_range, List.length_append, List.length_append, List.length_map, List.length_map, List.length_replicate, List.length_replicate, show min (xs.length + (n - xs.length)) (ys.length + (n - ys.length)) = n by omega, List.map_map]
      rfl


section
variable {K : PySem.W.Frag} {σ : L2.St} {H H' : Hp} {ta tb tc te tl : TE} {t : TT} {D : Ends} {tu tz : TS} {y z : V}
theorem q_par3L {i j l : Nat} {xs : List V} (h : EvL ta σ H xs) (h2 : Ev tb σ H y) (h3 : Ev tc σ H z) (k : ∀ p H1, H p = none → Ex H H1 → H1 p = some (.lst xs) → tz D (((σ.set i (some (.ref p))).set j (some y)).set l (some z)) H1) : tSeq (tPar3 i j l (tCons ta (tCons tb (tCons tc tNil)))) tz D σ H :=
  h H (Ex.refl H) _ fun p H1 np e1 hx => h2 H1 e1 _ fun H2 e2 => h3 H2 (e1.trans e2) _ fun H3 e3 => ⟨.ref p, y, z, rfl, k p H3 np ((e1.trans e2).trans e3) ((e2.trans e3) _ _ hx)⟩
theorem rep_flat (m : Nat) : (List.replicate m [V.int 0]).flatten = (List.replicate m 0).map N_ := by
  induction m with
  | zero => rfl
  | succ m ih => rw [List.replicate_succ, List.flatten_cons, ih, List.replicate_succ]; rfl
end
def sp__law_product (K : PySem.W.Frag) : Sp := fun vs H Q _ => ∃ (d a b : Addr) (q : Nat) (xs ys : List Nat), vs = [.ref d, .ref a, .ref b] ∧ Fq q ∧ FldAt (fun _ => True) H d q ∧ SqT K H a (xs.map N_) ∧ SqT K H b (ys.map N_) ∧ Lq q xs ∧ Lq q ys ∧ xs.length ≤ 3000 ∧ ys.length ≤ 3000 ∧ RetU ((muN q xs ys).map N_) H Q
theorem sv__law_product {K : PySem.W.Frag} {H : Hp} {d a b : Addr} {q : Nat} {xs ys : List Nat} (hq : Fq q) (hf : FldAt (fun _ => True) H d q) (hx : SqT K H a (xs.map N_)) (hy : SqT K H b (ys.map N_)) (lx : Lq q xs) (ly : Lq q ys) (hl : xs.length ≤ 3000) (hm : ys.length ≤ 3000) : SpU (sp__law_product K) [.ref d, .ref a, .ref b] H ((muN q xs ys).map N_) := fun H1 e Q kk E => ⟨d, a, b, q, xs, ys, rfl, hq, hf.ex e, ex_t e hx, ex_t e hy, lx, ly, hl, hm, kk⟩

theorem ok__law_product {P : Program} {w : World} {K : PySem.W.Frag} {mg : Str → Option Value} {base : Heap} (T : Txt K mg) : FnOk P w K mg base CX0 1 T.a__law_product T.d__law_product ["_law_field_here", "_law_one", "_law_other"] (sp__law_product K) := by
  refine T.F__law_product.ok sc__law_product (fun vs H Q E h => ?_) (fun cdv A outer s H vs Q E hr h => ?_)
  · obtain ⟨d, a, b, q, xs, ys, rfl, _⟩ := h
    rfl
  · obtain ⟨d, a, b, q, xs, ys, rfl, hq, hf, hx, hy, lx, ly, hl, hm, kk⟩ := h
    refine ⟨_, (pss_cons (ps_if (PW.pt (pw_or (pt_cmpR (op_eqD hr.units) (pv 1) (pe_tup pa_nil) (nomark _)) (pw_or1 (pt_cmpR (op_eqD hr.units) (pv 2) (pe_tup pa_nil) (nomark _))))) (pss_one (ps_ret (pe_tup pa_nil))) pss_nil)
      (pss_cons (ps_par3 (i := 3) (j := 4) (l := 5) (by rfl) sc__law_product.nd rfl rfl rfl (by decide) (by decide) (by decide) rfl rfl rfl (pa_cons (pe_op op_rep (pe_lst (pa_cons pe_int pa_nil)) (pe_op op_sub (pe_op op_add (pe_callB call_len_seq (by rfl) T.z_len (by decide +kernel) (pa_cons (pv 1) pa_nil)) (pe_callB call_len_seq (by rfl) T.z_len (by decide +kernel) (pa_cons (pv 2) pa_nil))) pe_int)) (pa_cons (pe_dget (hu_of hr) (pv 0) pe_str (fun _ _ => rfl)) (pa_cons (pe_dget (hu_of hr) (pv 0) pe_str (fun _ _ => rfl)) pa_nil))) (by rfl))
      (pss_cons (ps_for PassesOwn.never rfl (pi_enumT (K := K) (by rfl) (by rfl) T.z_enumerate (pa_cons (pv 2) pa_nil)) (pg_tup (by rfl) (pgs_cons (pg_name (i := 6) sc__law_product.nd rfl (Or.inl rfl)) (pgs_cons (pg_name (i := 7) sc__law_product.nd rfl (Or.inl rfl)) pgs_nil))) (pss_one (ps_if (pt_cmpR op_ne (pv 7) pe_int (nomark _)) (pss_one (ps_for PassesOwn.never rfl (pi_enumT (K := K) (by rfl) (by rfl) T.z_enumerate (pa_cons (pv 1) pa_nil)) (pg_tup (by rfl) (pgs_cons (pg_name (i := 8) sc__law_product.nd rfl (Or.inl rfl)) (pgs_cons (pg_name (i := 9) sc__law_product.nd rfl (Or.inl rfl)) pgs_nil))) (pss_one (ps_asg (pe_ix (r := rIxL K) ix_list (pe_ix (r := rIxL K) ix_list (pv 4) (pe_ix (r := rIxL K) ix_list (pv 3) (pe_op op_add (pv 8) (pv 6)) (fun _ _ => rfl)) (fun _ _ => rfl)) (pe_ix (r := rIxL K) ix_list (pe_ix (r := rIxL K) ix_list (pv 5) (pv 9) (fun _ _ => rfl)) (pv 7) (fun _ _ => rfl)) (fun _ _ => rfl)) (pg_sub (pv 3) (pe_op op_add (pv 8) (pv 6)) set_list))))) pss_nil)))
      (pss_one (ps_ret (pe_callTy call_tuple_of (by rfl) T.z_tuple (by decide +kernel) (pa_cons (pv 3) pa_nil))))))), ?_⟩
    refine q_when (b := decide (xs = []) || decide (ys = [])) (et_or (et_test (ev_eqNil (K := K) (ev_var rfl) hx)) fun _ => et_test (ev_eqNil (K := K) (ev_var rfl) hy)) (fun hb H1 e1 => ?_) (fun hb H1 e1 => ?_)
    · rw [Bool.or_eq_true, decide_eq_true_eq, decide_eq_true_eq] at hb
      refine s_retU (eu_tup ea_nil (by decide)) fun p H2 np e2 h2 => kk p H2 (fresh_back e1 np) (e1.trans e2) ?_
      unfold muN
      rw [if_pos hb]
      exact h2
    rw [Bool.or_eq_false_iff, decide_eq_false_iff_not, decide_eq_false_iff_not] at hb
    have hmu : muN q xs ys = muS q xs ys ys.length := by unfold muN; rw [if_neg (fun z => z.elim hb.1 hb.2)]
    have hxp : 0 < xs.length := List.length_pos_iff.mpr hb.1
    have hyp : 0 < ys.length := List.length_pos_iff.mpr hb.2
    have hq0 := hq.b
    obtain ⟨_, kvs, a1, a2, a3, hdk, gq, gp, gf, g1, g2, g3, l1, l2, _, hm_⟩ := hf.ex e1
    have hx1 := ex_t e1 hx
    have hy1 := ex_t e1 hy
    refine q_par3L (xs := (muS q xs ys 0).map N_) (y := .ref a1) (z := .ref a2) (el_is (el_rep (xs := [V.int 0]) (k := ((xs.length + ys.length - 1 : Nat) : Int)) (el_lst (ea_cons ev_c ea_nil) (by show 1 ≤ 100000; decide)) (ev_is (ev_op (ev_op (ev_is (ev_cb (r := rLenQ K) (ea_cons (ev_var rfl) ea_nil) (rc_lenT hx1)) (by rw [List.length_map])) (ev_is (ev_cb (r := rLenQ K) (ea_cons (ev_var rfl) ea_nil) (rc_lenT hy1)) (by rw [List.length_map])) rv_I0) ev_c rv_I0) (congrArg V.int (by omega))) (by omega) (by show 1 * _ ≤ 100000; omega) (by omega)) (by rw [Int.toNat_natCast, rep_flat]; unfold muS; rfl)) (ev_dg (ev_var rfl) hdk g1) (ev_dg (ev_var rfl) hdk g2) fun l H2 nl e2 h2 => ?_
    have l1' := l1.ex e2
    have l2' := l2.ex e2
    refine q_forET (K := K) (a := b) (xs := ys.map N_) (ea_cons (ev_var rfl) ea_nil) (ex_t e2 hy1) (fun j σ H' => ∃ y6 y7 y8 y9 : Option V, σ = [some (.ref d), some (.ref a), some (.ref b), some (.ref l), some (.ref a1), some (.ref a2), y6, y7, y8, y9] ∧ Ex H1 H' ∧ H' l = some (.lst ((muS q xs ys j).map N_))) (fun H3 e3 => ⟨none, none, none, none, rfl, e2.trans e3, e3 _ _ h2⟩) (fun j σ H3 _ hw => ?_) (fun j x σ H3 H4 hj hw e4 => ?_) (fun σ H3 hw => ?_)
    · obtain ⟨y6, y7, y8, y9, rfl, e3, h3⟩ := hw
      exact ex_t e3 hy1
    · obtain ⟨y6, y7, y8, y9, rfl, e3, h3⟩ := hw
      have hjl : j < ys.length := by
        have := (List.getElem?_eq_some_iff.mp hj).1
        rwa [List.length_map] at this
      rw [get_N hjl] at hj
      cases hj
      have e34 := e3.trans e4
      have h4 := e4 _ _ h3
      refine s_when (b := !decide (ys.getD j 0 = 0)) (et_is (et_test (ev_op (ev_var rfl) ev_c (rv_ne rfl))) (congrArg (fun b => !b) (dec_int (y := 0)))) (fun hb2 H5 e5 => ?_) (fun hb2 H5 e5 => ?_)
      · have hc0 : ys.getD j 0 ≠ 0 := by
          rw [Bool.not_eq_true', decide_eq_false_iff_not] at hb2
          exact hb2
        have hc := ly.get (by omega) j
        have hstep : muS q xs ys (j + 1) = adA q (ys.getD j 0) xs j (muS q xs ys j) := by
          show (if ys.getD j 0 = 0 then _ else _) = _
          rw [if_neg hc0]
        have e15 := e34.trans e5
        have hlen := muS_len q xs ys j
        have hlq := muS_lq hq lx ly j
        refine s_forET (K := K) (a := a) (xs := xs.map N_) (ea_cons (ev_var rfl) ea_nil) (ex_t e15 hx1) (fun i σ H' => ∃ y8 y9 : Option V, σ = [some (.ref d), some (.ref a), some (.ref b), some (.ref l), some (.ref a1), some (.ref a2), some (N_ j), some (N_ (ys.getD j 0)), y8, y9] ∧ Ex H1 H' ∧ H' l = some (.lst ((adA q (ys.getD j 0) (xs.take i) j (muS q xs ys j)).map N_))) (fun H6 e6 => ⟨_, _, rfl, e15.trans e6, by rw [List.take_zero, adA_zero]; exact e6 _ _ (e5 _ _ h4)⟩) (fun i σ H6 _ hw => ?_) (fun i x σ H6 H7 hi hw e7 => ?_) (fun σ H6 hw => ?_)
        · obtain ⟨y8, y9, rfl, e6, h6⟩ := hw
          exact ex_t e6 hx1
        · obtain ⟨y8, y9, rfl, e6, h6⟩ := hw
          have hil : i < xs.length := by
            have := (List.getElem?_eq_some_iff.mp hi).1
            rwa [List.length_map] at this
          rw [get_N hil] at hi
          cases hi
          have e67 := e6.trans e7
          have h7 := e7 _ _ h6
          have hij : i + j < (muS q xs ys j).length := by rw [hlen]; omega
          obtain ⟨hg, hs⟩ := adA_step q (ys.getD j 0) xs j (muS q xs ys j) i _ _ (getD_get hil) (getD_get hij)
          have hla : (adA q (ys.getD j 0) (xs.take i) j (muS q xs ys j)).length = (muS q xs ys j).length := adA_len ..
          have hga : (adA q (ys.getD j 0) (xs.take i) j (muS q xs ys j)).getD (i + j) 0 = (muS q xs ys j).getD (i + j) 0 := by
            rw [List.getD_eq_getElem?_getD, hg]
            rfl
          have hplus : ∀ H8, Ex H7 H8 → Ev (tOp (rI0 fun i j => V.int (i + j)) (tVar 8) (tVar 6)) [some (.ref d), some (.ref a), some (.ref b), some (.ref l), some (.ref a1), some (.ref a2), some (N_ j), some (N_ (ys.getD j 0)), some (N_ i), some (N_ (xs.getD i 0))] H8 (.int ((i + j : Nat) : Int)) := fun H8 e8 => ev_is (ev_op (ev_var rfl) (ev_var rfl) rv_I0) (congrArg V.int (by omega))
          refine s_setL (j := i + j) (v := N_ (sE q ((muS q xs ys j).getD (i + j) 0) (pE q (xs.getD i 0) (ys.getD j 0)))) h7 (ev_t2 (K := K) (N := fun _ => True) (l1.ex e67) (ev_var rfl) (ev_op (ev_var rfl) (hplus H7 (Ex.refl H7)) (rv_ixL (sq_of h7) (atI_nat (by rw [get_N (by rw [hla]; exact hij), hga])))) (ev_t2 (K := K) (N := fun _ => True) (l2.ex e67) (ev_var rfl) (ev_var rfl) (ev_var rfl) (lx.get (by omega) i) hc) (hlq.get (by omega) _) (pE_lt hq (lx.get (by omega) i) hc)) (ev_var rfl) (hplus H7 (Ex.refl H7)) (by rw [List.length_map, hla]; exact hij) fun H8 e8 => ?_
          refine ⟨_, _, rfl, Ex.mut (e67.trans e8) nl, ?_⟩
          rw [upd_same, hs, List.map_set]
        · obtain ⟨y8, y9, rfl, e6, h6⟩ := hw
          rw [List.length_map, List.take_length] at h6
          exact ⟨_, _, _, _, rfl, e6, by rw [hstep]; exact h6⟩
      · have hc0 : ys.getD j 0 = 0 := by
          rw [Bool.not_eq_false', decide_eq_true_eq] at hb2
          exact hb2
        have hstep : muS q xs ys (j + 1) = muS q xs ys j := by
          show (if ys.getD j 0 = 0 then _ else _) = _
          rw [if_pos hc0]
        exact ⟨_, _, _, _, rfl, e34.trans e5, by rw [hstep]; exact e5 _ _ h4⟩
    · obtain ⟨y6, y7, y8, y9, rfl, e3, h3⟩ := hw
      rw [List.length_map] at h3
      exact s_retU (eu_tupleL (K := K) (ev_var rfl) (sq_of h3)) fun p H4 np e4 h4 => kk p H4 (fresh_back (e1.trans e3) np) ((e1.trans e3).trans e4) (by rw [hmu]; exact h4)


def skF (s : Nat) (xs : List Nat) (i : Nat) : List Nat := (List.range (s * (xs.length - 1) + 1)).map fun t => if t % s = 0 ∧ t / s < i then xs.getD (t / s) 0 else 0
def skN (s : Nat) (xs : List Nat) : List Nat := if xs = [] then [] else skF s xs xs.length
theorem range_map_set {n j : Nat} (f : Nat → Nat) (v : Nat) (hj : j < n) : ((List.range n).map f).set j v = (List.range n).map fun t => if t = j then v else f t := by
  refine List.ext_getElem? fun t => ?_
  rw [List.getElem?_set, List.length_map, List.length_range, List.getElem?_map, List.getElem?_map]
  by_cases ht : t < n
  · rw [List.getElem?_range ht]
    by_cases e : j = t
    · subst e
      rw [if_pos rfl, if_pos hj]
      show some v = some (if j = j then v else f j)
      rw [if_pos rfl]
    · rw [if_neg e]
      show some (f t) = some (if t = j then v else f t)
      rw [if_neg (Ne.symm e)]
  · have : (List.range n)[t]? = none := List.getElem?_eq_none (by rw [List.length_range]; omega)
    rw [this, if_neg (by omega)]
    rfl
theorem skF_step {s : Nat} {xs : List Nat} {i : Nat} (hs : 0 < s) (hi : i < xs.length) : (skF s xs i).set (s * i) (xs.getD i 0) = skF s xs (i + 1) := by
  have hle : s * i ≤ s * (xs.length - 1) := Nat.mul_le_mul_left s (by omega)
  unfold skF
  rw [range_map_set _ _ (by omega)]
  refine List.map_congr_left fun t _ => ?_
  by_cases e : t = s * i
  · subst e
    rw [if_pos rfl, Nat.mul_mod_right, Nat.mul_div_cancel_left i hs, if_pos ⟨rfl, by omega⟩]
  · rw [if_neg e]
    by_cases h1 : t % s = 0
    · have ht : s * (t / s) = t := by
        have := Nat.div_add_mod t s
        omega
      by_cases h2 : t / s < i
      · rw [if_pos ⟨h1, h2⟩, if_pos ⟨h1, by omega⟩]
      · rw [if_neg (fun z => h2 z.2), if_neg (fun z => by
          have : t / s = i := by omega
          rw [this] at ht
          exact e ht.symm)]
    · rw [if_neg (fun z => h1 z.1), if_neg (fun z => h1 z.1)]
theorem skF_zero (s : Nat) (xs : List Nat) : skF s xs 0 = List.replicate (s * (xs.length - 1) + 1) 0 := by
  unfold skF
  refine List.ext_getElem? fun t => ?_
  rw [List.getElem?_map, List.getElem?_replicate]
  by_cases ht : t < s * (xs.length - 1) + 1
  · rw [List.getElem?_range ht, if_pos ht]
    show some (if _ then _ else 0) = _
    rw [if_neg (fun z => absurd z.2 (Nat.not_lt_zero _))]
  · rw [List.getElem?_eq_none (by rw [List.length_range]; omega), if_neg ht]
    rfl
theorem skF_len (s : Nat) (xs : List Nat) (i : Nat) : (skF s xs i).length = s * (xs.length - 1) + 1 := by
  unfold skF
  rw [List.length_map, List.length_range]
theorem skN_len (s : Nat) (xs : List Nat) : (skN s xs).length ≤ s * (xs.length - 1) + 1 := by
  unfold skN
  split
  · exact Nat.zero_le _
  · rw [skF_len]; exact Nat.le_refl _
theorem skN_lq {q s : Nat} {xs : List Nat} (h0 : 0 < q) (h : Lq q xs) : Lq q (skN s xs) := by
  intro z hz
  unfold skN at hz
  split at hz
  · cases hz
  · unfold skF at hz
    obtain ⟨t, _, rfl⟩ := List.mem_map.mp hz
    split
    · exact h.get h0 _
    · exact h0
section
variable {K : PySem.W.Frag} {σ : L2.St} {H H' : Hp} {ta tb tc te tl : TE} {t : TT} {D : Ends} {tu tz : TS} {y z : V}
theorem el_ifB {b : Bool} {xs : List V} (ht : EvT t σ H b) (h1 : b = true → ∀ H1, Ex H H1 → EvL ta σ H1 xs) (h2 : b = false → ∀ H1, Ex H H1 → EvL tb σ H1 xs) : EvL (tIf t ta tb) σ H xs := fun H1 e Q q =>
  ht H1 e _ fun H2 e2 => by
    cases b with
    | true => exact h1 rfl H2 (e.trans e2) H2 (Ex.refl H2) Q fun p H3 np e3 h3 => q p H3 (fresh_back e2 np) (e2.trans e3) h3
    | false => exact h2 rfl H2 (e.trans e2) H2 (Ex.refl H2) Q fun p H3 np e3 h3 => q p H3 (fresh_back e2 np) (e2.trans e3) h3
end
def sp__law_stretched (K : PySem.W.Frag) : Sp := fun vs H Q _ => ∃ (a : Addr) (q i : Nat) (xs : List Nat), vs = [N_ q, .ref a, N_ i] ∧ Fq q ∧ SqT K H a (xs.map N_) ∧ i ≤ 300 ∧ q ^ i ≤ 3000 ∧ q ^ i * (xs.length - 1) ≤ 2999 ∧ xs.length ≤ 3000 ∧ RetU ((skN (q ^ i) xs).map N_) H Q
theorem sv__law_stretched {K : PySem.W.Frag} {H : Hp} {a : Addr} {q i : Nat} {xs : List Nat} (hq : Fq q) (hx : SqT K H a (xs.map N_)) (hi : i ≤ 300) (hs : q ^ i ≤ 3000) (hz : q ^ i * (xs.length - 1) ≤ 2999) (hl : xs.length ≤ 3000) : SpU (sp__law_stretched K) [N_ q, .ref a, N_ i] H ((skN (q ^ i) xs).map N_) := fun H1 e Q kk E => ⟨a, q, i, xs, rfl, hq, ex_t e hx, hi, hs, hz, hl, kk⟩

theorem ok__law_stretched {P : Program} {w : World} {K : PySem.W.Frag} {mg : Str → Option Value} {base : Heap} (T : Txt K mg) : FnOk P w K mg base CX0 2 T.a__law_stretched T.d__law_stretched ["_law_q_here", "_law_one", "_law_i"] (sp__law_stretched K) := by
  refine T.F__law_stretched.ok sc__law_stretched (fun vs H Q E h => ?_) (fun cdv A outer s H vs Q E hr h => ?_)
  · obtain ⟨a, q, i, xs, rfl, _⟩ := h
    rfl
  · obtain ⟨a, q, i, xs, rfl, hq, hx, hi, hs, hz, hl, kk⟩ := h
    refine ⟨_, (pss_cons (ps_set (i := 3) sc__law_stretched.nd rfl (Or.inl rfl) (pe_call (ok__law_raised T) (hr.mono (by decide)) (by rfl) T.g__law_raised T.F__law_raised.kp T.b__law_raised .nil pass0 (pa_cons (pv 0) (pa_cons (pv 2) pa_nil))))
      (pss_cons (ps_set (i := 4) sc__law_stretched.nd rfl (Or.inl rfl) (pe_ifExp (pt_cmpR (op_neD hr.units) (pv 1) (pe_tup pa_nil) (nomark _)) (pe_op op_rep (pe_lst (pa_cons pe_int pa_nil)) (pe_op op_add (pe_op op_mulW (pv 3) (pe_op op_sub (pe_callB call_len_seq (by rfl) T.z_len (by decide +kernel) (pa_cons (pv 1) pa_nil)) pe_int)) pe_int)) (pe_lst pa_nil)))
      (pss_cons (ps_for PassesOwn.never rfl (pi_enumT (K := K) (by rfl) (by rfl) T.z_enumerate (pa_cons (pv 1) pa_nil)) (pg_tup (by rfl) (pgs_cons (pg_name (i := 5) sc__law_stretched.nd rfl (Or.inl rfl)) (pgs_cons (pg_name (i := 6) sc__law_stretched.nd rfl (Or.inl rfl)) pgs_nil))) (pss_one (ps_asg (pv 6) (pg_sub (pv 4) (pe_op op_mulW (pv 3) (pv 5)) set_list))))
      (pss_one (ps_ret (pe_callTy call_tuple_of (by rfl) T.z_tuple (by decide +kernel) (pa_cons (pv 4) pa_nil))))))), ?_⟩
    have hq0 := hq.b
    refine q_asg (v := N_ (q ^ i)) (ev_call (ea_cons (ev_var rfl) (ea_cons (ev_var rfl) ea_nil)) (sv_raised (by omega) (by omega))) fun H1 e1 => ?_
    have hs0 : 0 < q ^ i := Nat.pow_pos (by omega)
    generalize hs' : q ^ i = s at *
    have hx1 := ex_t e1 hx
    have hmul : V.int ((s : Int) * ((xs.length : Int) - 1) + 1) = N_ (s * (xs.length - 1) + 1) ∨ xs = [] := by
      by_cases h : xs = []
      · exact .inr h
      · have := List.length_pos_iff.mpr h
        refine .inl (congrArg V.int ?_)
        rw [show (xs.length : Int) - 1 = ((xs.length - 1 : Nat) : Int) by omega]
        push_cast
        rfl
    refine q_asgL (xs := (if xs = [] then [] else skF s xs 0).map N_) (el_ifB (b := !decide (xs = [])) (et_test (ev_neNil (K := K) (ev_var rfl) hx1)) (fun hb H2 e2 => ?_) (fun hb H2 e2 => ?_)) fun l H2 nl e2 h2 => ?_
    · rw [Bool.not_eq_true', decide_eq_false_iff_not] at hb
      have hm := hmul.resolve_right hb
      have hx2 := ex_t e2 hx1
      have hn1 := List.length_pos_iff.mpr hb
      refine el_is (el_rep (xs := [V.int 0]) (k := ((s * (xs.length - 1) + 1 : Nat) : Int)) (el_lst (ea_cons ev_c ea_nil) (by show 1 ≤ 100000; decide)) (ev_is (ev_op (ev_op (ev_var rfl) (ev_is (w := N_ (xs.length - 1)) (ev_op (ev_is (ev_cb (r := rLenQ K) (ea_cons (ev_var rfl) ea_nil) (rc_lenT hx2)) (by rw [List.length_map])) ev_c rv_I0) (congrArg V.int (by omega))) (rv_I (wide_mul (a := 12) (b := 12) (by show s < 4096; omega) (by show xs.length - 1 < 4096; omega) (by decide) (by decide) (by decide)))) ev_c rv_I0) (congrArg V.int (by push_cast; rfl))) (by omega) (by show 1 * _ ≤ 100000; omega) (by omega)) (by rw [Int.toNat_natCast, rep_flat, if_neg hb, skF_zero])
    · rw [Bool.not_eq_false', decide_eq_true_eq] at hb
      exact el_is (el_lst ea_nil (by decide)) (by rw [if_pos hb]; rfl)
    have e12 := e1.trans e2
    refine q_forET (K := K) (a := a) (xs := xs.map N_) (ea_cons (ev_var rfl) ea_nil) (ex_t e2 hx1) (fun j σ H' => ∃ y5 y6 : Option V, σ = [some (N_ q), some (.ref a), some (N_ i), some (N_ s), some (.ref l), y5, y6] ∧ Ex H1 H' ∧ H' l = some (.lst ((if xs = [] then [] else skF s xs j).map N_))) (fun H3 e3 => ⟨none, none, rfl, e2.trans e3, e3 _ _ h2⟩) (fun j σ H3 _ hw => ?_) (fun j x σ H3 H4 hj hw e4 => ?_) (fun σ H3 hw => ?_)
    · obtain ⟨y5, y6, rfl, e3, h3⟩ := hw
      exact ex_t e3 hx1
    · obtain ⟨y5, y6, rfl, e3, h3⟩ := hw
      have hjl : j < xs.length := by
        have := (List.getElem?_eq_some_iff.mp hj).1
        rwa [List.length_map] at this
      rw [get_N hjl] at hj
      cases hj
      have hne : xs ≠ [] := List.length_pos_iff.mp (by omega)
      rw [if_neg hne] at h3
      have hle : s * j ≤ s * (xs.length - 1) := Nat.mul_le_mul_left s (by omega)
      refine s_setL (j := s * j) (v := N_ (xs.getD j 0)) (e4 _ _ h3) (ev_var rfl) (ev_var rfl) (ev_is (ev_op (ev_var rfl) (ev_var rfl) (rv_I (wide_mul (a := 12) (b := 12) (by show s < 4096; omega) (by show j < 4096; omega) (by decide) (by decide) (by decide)))) (congrArg V.int (Int.natCast_mul _ _).symm)) (by rw [List.length_map, skF_len]; omega) fun H5 e5 => ⟨_, _, rfl, Ex.mut ((e3.trans e4).trans e5) nl, ?_⟩
      rw [upd_same, if_neg hne, ← skF_step hs0 hjl, List.map_set]
    · obtain ⟨y5, y6, rfl, e3, h3⟩ := hw
      rw [List.length_map] at h3
      exact s_retU (eu_tupleL (K := K) (ev_var rfl) (sq_of h3)) fun p H4 np e4 h4 => kk p H4 (fresh_back (e1.trans e3) np) ((e1.trans e3).trans e4) h4


def pwT (q : Nat) (big found : List Nat) : Nat → List Nat
  | 0 => found
  | m + 1 => muN q (pwT q big found m) big
def pwS (q : Nat) (xs ds : List Nat) : Nat → List Nat
  | 0 => [1]
  | i + 1 => pwT q (skN (q ^ i) xs) (pwS q xs ds i) (ds.getD i 0)
def pwN (q : Nat) (xs : List Nat) (k : Nat) : List Nat := pwS q xs (dg q k) (dg q k).length
theorem mu_len (q : Nat) (xs ys : List Nat) : (muN q xs ys).length ≤ xs.length + (ys.length - 1) := by
  unfold muN
  split
  · exact Nat.zero_le _
  · rename_i h
    rw [muS_len]
    have : ys ≠ [] := fun z => h (.inr z)
    have := List.length_pos_iff.mpr this
    omega
theorem mu_lq {q : Nat} (hq : Fq q) {xs ys : List Nat} (hx : Lq q xs) (hy : Lq q ys) : Lq q (muN q xs ys) := by
  unfold muN
  split
  · exact fun z hz => by cases hz
  · exact muS_lq hq hx hy _
theorem pwT_len (q : Nat) (big found : List Nat) : ∀ m, (pwT q big found m).length ≤ found.length + m * (big.length - 1)
  | 0 => by rw [Nat.zero_mul]; exact Nat.le_refl _
  | m + 1 => by
    have h1 := mu_len q (pwT q big found m) big
    have h2 := pwT_len q big found m
    show (muN q (pwT q big found m) big).length ≤ _
    rw [Nat.succ_mul]
    omega
theorem pwT_lq {q : Nat} (hq : Fq q) {big found : List Nat} (hb : Lq q big) (hf : Lq q found) : ∀ m, Lq q (pwT q big found m)
  | 0 => hf
  | m + 1 => mu_lq hq (pwT_lq hq hb hf m) hb
theorem od_take (b : Nat) : ∀ (xs : List Nat) (i : Nat), od b (xs.take i) ≤ od b xs
  | [], i => by rw [List.take_nil]; exact Nat.le_refl _
  | x :: xs, 0 => Nat.zero_le _
  | x :: xs, i + 1 => by
    rw [List.take_succ_cons]
    show x + b * od b (xs.take i) ≤ x + b * od b xs
    exact Nat.add_le_add_left (Nat.mul_le_mul_left b (od_take b xs i)) x
theorem od_take_succ {b : Nat} {xs : List Nat} {i : Nat} (hi : i < xs.length) : od b (xs.take (i + 1)) = od b (xs.take i) + xs.getD i 0 * b ^ i := by
  rw [take_succ hi, od_snoc, List.length_take, Nat.min_eq_left (Nat.le_of_lt hi)]
theorem pwS_lq {q : Nat} (hq : Fq q) {xs : List Nat} (hx : Lq q xs) (ds : List Nat) : ∀ i, Lq q (pwS q xs ds i)
  | 0 => fun z hz => by
    rw [List.mem_singleton.mp (show z ∈ [1] from hz)]
    have := hq.b
    omega
  | i + 1 => pwT_lq hq (skN_lq (by have := hq.b; omega) hx) (pwS_lq hq hx ds i) _
theorem big_len (q i : Nat) (xs : List Nat) : (skN (q ^ i) xs).length - 1 ≤ q ^ i * (xs.length - 1) := by
  have := skN_len (q ^ i) xs
  omega
theorem pwS_len (q : Nat) (xs ds : List Nat) : ∀ i, i ≤ ds.length → (pwS q xs ds i).length ≤ 1 + (xs.length - 1) * od q (ds.take i)
  | 0, _ => by rw [List.take_zero]; exact Nat.le_add_right 1 _
  | i + 1, h => by
    have h1 := pwT_len q (skN (q ^ i) xs) (pwS q xs ds i) (ds.getD i 0)
    have h2 := pwS_len q xs ds i (by omega)
    have h3 := Nat.mul_le_mul_left (ds.getD i 0) (big_len q i xs)
    show (pwT q (skN (q ^ i) xs) (pwS q xs ds i) (ds.getD i 0)).length ≤ _
    rw [od_take_succ (by omega), Nat.mul_add, show (xs.length - 1) * (ds.getD i 0 * q ^ i) = ds.getD i 0 * (q ^ i * (xs.length - 1)) by rw [Nat.mul_comm, Nat.mul_assoc]]
    omega
theorem pwT_bound {q k : Nat} (hq : 1 < q) {xs : List Nat} {i m : Nat} (hi : i < (dg q k).length) (hm : m ≤ (dg q k).getD i 0) : (pwT q (skN (q ^ i) xs) (pwS q xs (dg q k) i) m).length ≤ 1 + (xs.length - 1) * k := by
  have h1 := pwT_len q (skN (q ^ i) xs) (pwS q xs (dg q k) i) m
  have h2 := pwS_len q xs (dg q k) i (by omega)
  have h3 := Nat.mul_le_mul hm (big_len q i xs)
  have h4 := od_take_succ (b := q) hi
  have h5 := od_take q (dg q k) (i + 1)
  rw [od_dg hq, h4] at h5
  have h6 := Nat.mul_le_mul_left (xs.length - 1) h5
  rw [Nat.mul_add, show (xs.length - 1) * ((dg q k).getD i 0 * q ^ i) = (dg q k).getD i 0 * (q ^ i * (xs.length - 1)) by rw [Nat.mul_comm, Nat.mul_assoc]] at h6
  omega
theorem pow_le_dg {q k i : Nat} (hq : 2 ≤ q) (hi : i < (dg q k).length) : q ^ i ≤ k := by
  apply Decidable.byContradiction
  intro h
  have := dg_len2 (f := i) (a := k) hq i k (by omega)
  omega
def sp__law_power (K : PySem.W.Frag) : Sp := fun vs H Q _ => ∃ (d a : Addr) (q k : Nat) (xs : List Nat), vs = [.ref d, .ref a, N_ k] ∧ Fq q ∧ FldAt (fun _ => True) H d q ∧ SqT K H a (xs.map N_) ∧ Lq q xs ∧ k ≤ 2900 ∧ xs.length ≤ 2900 ∧ (xs.length - 1) * k ≤ 2900 ∧ RetU ((pwN q xs k).map N_) H Q
theorem sv__law_power {K : PySem.W.Frag} {H : Hp} {d a : Addr} {q k : Nat} {xs : List Nat} (hq : Fq q) (hf : FldAt (fun _ => True) H d q) (hx : SqT K H a (xs.map N_)) (lx : Lq q xs) (hk : k ≤ 2900) (hl : xs.length ≤ 2900) (hz : (xs.length - 1) * k ≤ 2900) : SpU (sp__law_power K) [.ref d, .ref a, N_ k] H ((pwN q xs k).map N_) := fun H1 e Q kk E => ⟨d, a, q, k, xs, rfl, hq, hf.ex e, ex_t e hx, lx, hk, hl, hz, kk⟩


theorem op_repUK {X : Cx} {K : PySem.W.Frag} (hK : X.K = K) : OpR X (binaryOp .Mult) (rRepU K) := hK ▸ op_repU
section
variable {K : PySem.W.Frag} {σ : L2.St} {H H' : Hp} {ta tb tc te tl tn : TE} {t : TT} {D : Ends} {tu tz : TS} {P : Nat → Addr → Hp → Prop} {g : TG}
/-- a + (0,) * m + (1,) -/
theorem er_monic {a : Addr} {ms : List Nat} {m : Nat} {P : Addr → Hp → Prop} (h1 : Ev ta σ H (.ref a)) (hm : SqT K H a (ms.map N_)) (hl : ms.length + m ≤ 300) (h2 : ∀ H1, Ex H H1 → Ev tn σ H1 (N_ m)) (hP : ∀ r H1, SqT K H1 r ((ms ++ List.replicate m 0 ++ [1]).map N_) → P r H1) :
    EvR (tOp (rCatA K) (tOp (rCatA K) ta (tOp (rRepU K) (tTup (tCons (tC (.int 0)) tNil)) tn)) (tTup (tCons (tC (.int 1)) tNil))) σ H P := fun H1 e Q q =>
  h1 H1 e _ fun H2 e2 => ⟨by show 1 ≤ sizeLine; decide, fun t1 n1 => (h2 _ ((e.trans e2).trans (Ex.new n1))) _ (Ex.refl _) _ fun H3 e3 => ⟨t1, m, [V.int 0], rfl, rfl, st_of (e3 _ _ upd_same), by simp, by omega, by omega, by show 1 ≤ 1000; decide, fun z H4 e4 hz =>
    catA_go (K := K) (xs := ms.map N_) (ys := (List.replicate (m : Int).toNat [V.int 0]).flatten) (ex_t ((((e.trans e2).trans (Ex.new n1)).trans e3).trans e4) hm) hz (by rw [Int.toNat_natCast, rep_flat, List.length_map, List.length_map, List.length_replicate]; omega) fun b H5 e5 sb => ⟨by show 1 ≤ sizeLine; decide, fun t2 n2 =>
      catA_go (K := K) (xs := ms.map N_ ++ (List.replicate (m : Int).toNat [V.int 0]).flatten) (ys := [V.int 1]) (ex_t (Ex.new n2) sb) (st_of upd_same) (by rw [Int.toNat_natCast, rep_flat, List.length_append, List.length_map, List.length_map, List.length_replicate]; show _ + 1 ≤ _; omega) fun c H6 e6 sc =>
        q c H6 (((((e2.trans (Ex.new n1)).trans e3).trans e4).trans e5).trans ((Ex.new n2).trans e6)) (hP c H6 (by
          rw [Int.toNat_natCast, rep_flat] at sc
          rw [List.map_append, List.map_append]
          exact sc))⟩⟩⟩
end
def sp__law_lower (K : PySem.W.Frag) : Sp := fun vs H Q _ => ∃ (q d : Nat), vs = [N_ q, N_ d] ∧ Fq q ∧ d ≤ 10 ∧ q ^ d ≤ 1000 ∧ RetPs K ((List.range (q ^ d)).map (dg q)) H Q
def moN (q d : Nat) : List (List Nat) := (List.range (q ^ d)).map fun n => dg q n ++ List.replicate (d - (dg q n).length) 0 ++ [1]
def sp__law_monics (K : PySem.W.Frag) : Sp := fun vs H Q _ => ∃ (q d : Nat), vs = [N_ q, N_ d] ∧ Fq q ∧ d ≤ 10 ∧ q ^ d ≤ 1000 ∧ RetPs K (moN q d) H Q



end Own
/-! the law's sums of powers, told by great numbers -/
namespace Own
open PySem PySem.Spec PyProof.Rows L2 Evl
def opT (T q a b : Nat) : Nat := Nat.shiftRight T (4 * (q * a + b)) % 16
/-- what the two numbers S and P tell of the field -/
structure Tab (S P q : Nat) : Prop where
  s : ∀ a b, a < q → b < q → opT S q a b = sE q a b
  p : ∀ a b, a < q → b < q → opT P q a b = pE q a b
def SN (q : Nat) : Nat := if q = 2 then 272 else if q = 3 then 4328657424 else if q = 4 then 81927025744491024 else if q = 5 then 247902484485588772559745462800 else if q = 7 then 33031507011770334954012677623655500133022363305842895499792 else if q = 8 then 514631494928646303341455936939146235248427799039887685160188751890747765264 else 8986690708024339884259668388453865091868182506470258411551265922896781674643265104972283578167824
def PN (q : Nat) : Nat := if q = 2 then 4096 else if q = 3 then 4834000896 else if q = 4 then 2391432431133523968 else if q = 5 then 90137679466370109728138199040 else if q = 7 then 7141944096324814997458722369008857060984214660764397469696 else if q = 8 then 23691910682714665197238709536041582193718400246807875409196429481426745819136 else 4734049774630918473256024888239444905659466140379552277893836662696841424659872706965699808985088
theorem sE_zero {q a : Nat} (hq : Fq q) (ha : a < q) : sE q a 0 = a ∧ sE q 0 a = a := by
  have h : chkAll (fun q => all1 q fun a => decide (sE q a 0 = a) && decide (sE q 0 a = a)) = true := by decide +kernel
  have h := all1_get (chk_get h hq) ha
  rw [Bool.and_eq_true, decide_eq_true_eq, decide_eq_true_eq] at h
  exact h
theorem tr_getD (xs : List Nat) (i : Nat) : (trN xs).getD i 0 = xs.getD i 0 := by
  obtain ⟨h1, h2, h3, h4⟩ := tr_take xs
  by_cases hi : i < (trN xs).length
  · rw [← h1, List.getD_eq_getElem?_getD, List.getD_eq_getElem?_getD, List.getElem?_take_of_lt hi]
  · rw [h4 i (by omega), List.getD_eq_getElem?_getD, List.getElem?_eq_none (by omega)]
    rfl
theorem plN_get {q : Nat} (hq : Fq q) (xs ys : List Nat) (i : Nat) : (plN q xs ys).getD i 0 = sE q (xs.getD i 0) (ys.getD i 0) := by
  unfold plN
  rw [tr_getD, List.getD_eq_getElem?_getD, List.getElem?_map]
  by_cases hi : i < max xs.length ys.length
  · rw [List.getElem?_range hi]
    rfl
  · rw [List.getElem?_eq_none (by rw [List.length_range]; omega), List.getD_eq_getElem?_getD, List.getD_eq_getElem?_getD, List.getElem?_eq_none (by omega), List.getElem?_eq_none (by omega)]
    exact ((sE_zero hq (show 0 < q by have := hq.b; omega)).1).symm
theorem chk_tab : chkAll (fun q => all1 q fun a => all1 q fun b => decide (opT (SN q) q a b = sE q a b) && decide (opT (PN q) q a b = epF (prE q) (poE q) a b)) = true := by decide +kernel
theorem tab_of {q : Nat} (hq : Fq q) : Tab (SN q) (PN q) q := by
  have h := chk_get chk_tab hq
  refine ⟨fun a b ha hb => ?_, fun a b ha hb => ?_⟩
  · have h2 := all1_get (all1_get h ha) hb
    rw [Bool.and_eq_true, decide_eq_true_eq, decide_eq_true_eq] at h2
    exact h2.1
  · have h2 := all1_get (all1_get h ha) hb
    rw [Bool.and_eq_true, decide_eq_true_eq, decide_eq_true_eq] at h2
    rw [pE_F hq ha hb]
    exact h2.2
def adQ (q a b : Nat) : Nat := opT (SN q) q a b
def muQ (q a b : Nat) : Nat := opT (PN q) q a b
def uQ (q : Nat) : Nat := if poE q = 1 then 0 else prE q
theorem chk_fa1 : chkAll (fun q => decide (0 < prE q) && decide (prE q ≤ q) && decide (uQ q < q)) = true := by decide +kernel
theorem chk_fa2 : chkAll (fun q => all1 q fun a => decide (adQ q a 0 = a) && decide (muQ q a 0 = 0) && all1 q fun b => decide (adQ q a b < q) && decide (muQ q a b < q) && decide (adQ q a b = adQ q b a) && decide (muQ q a b = muQ q b a)) = true := by decide +kernel
theorem chk_fa3 : chkAll (fun q => all1 q fun a => all1 q fun b => all1 q fun c => decide (adQ q (adQ q a b) c = adQ q a (adQ q b c)) && decide (muQ q (muQ q a b) c = muQ q a (muQ q b c)) && decide (muQ q a (adQ q b c) = adQ q (muQ q a b) (muQ q a c))) = true := by decide +kernel
theorem chk_fa4 : chkAll (fun q => all1 (prE q) fun a => all1 (prE q) fun b => decide (adQ q a b = (a + b) % prE q) && decide (muQ q a b = a * b % prE q)) = true := by decide +kernel
theorem fa_of {q : Nat} (hq : Fq q) : FA q (prE q) (uQ q) (adQ q) (muQ q) := by
  have h1 := chk_get chk_fa1 hq
  have h2 := chk_get chk_fa2 hq
  have h3 := chk_get chk_fa3 hq
  have h4 := chk_get chk_fa4 hq
  simp only [Bool.and_eq_true, decide_eq_true_eq] at h1
  have g2 : ∀ a, a < q → (adQ q a 0 = a ∧ muQ q a 0 = 0) ∧ ∀ b, b < q → ((adQ q a b < q ∧ muQ q a b < q) ∧ adQ q a b = adQ q b a) ∧ muQ q a b = muQ q b a := fun a ha => by
    have h := all1_get h2 ha
    rw [Bool.and_eq_true] at h
    refine ⟨by simpa only [Bool.and_eq_true, decide_eq_true_eq] using h.1, fun b hb => by simpa only [Bool.and_eq_true, decide_eq_true_eq] using all1_get h.2 hb⟩
  have g3 : ∀ a b c, a < q → b < q → c < q → (adQ q (adQ q a b) c = adQ q a (adQ q b c) ∧ muQ q (muQ q a b) c = muQ q a (muQ q b c)) ∧ muQ q a (adQ q b c) = adQ q (muQ q a b) (muQ q a c) := fun a b c ha hb hc => by simpa only [Bool.and_eq_true, decide_eq_true_eq] using all1_get (all1_get (all1_get h3 ha) hb) hc
  have g4 : ∀ a b, a < prE q → b < prE q → adQ q a b = (a + b) % prE q ∧ muQ q a b = a * b % prE q := fun a b ha hb => by simpa only [Bool.and_eq_true, decide_eq_true_eq] using all1_get (all1_get h4 ha) hb
  exact ⟨h1.1.1, h1.1.2, h1.2, fun a b ha hb => ((g2 a ha).2 b hb).1.1.1, fun a b ha hb => ((g2 a ha).2 b hb).1.1.2, fun a b ha hb => ((g2 a ha).2 b hb).1.2, fun a b c ha hb hc => (g3 a b c ha hb hc).1.1, fun a ha => (g2 a ha).1.1, fun a b ha hb => ((g2 a ha).2 b hb).2, fun a b c ha hb hc => (g3 a b c ha hb hc).1.2, fun a ha => (g2 a ha).1.2, fun a b c ha hb hc => (g3 a b c ha hb hc).2, fun a b ha hb => (g4 a b ha hb).1, fun a b ha hb => (g4 a b ha hb).2⟩
def Ps (q : Nat) (x : TP) (t : Nat) : Nat := psi (prE q) (uQ q) (adQ q) (muQ q) x t
def Rp (q : Nat) (xs : List Nat) (x : TP) : Prop := ∀ t, xs.getD t 0 = Ps q x t
theorem Rp.lt {q : Nat} (hq : Fq q) {xs : List Nat} {x : TP} (h : Rp q xs x) (t : Nat) : xs.getD t 0 < q := by rw [h t]; exact psi_lt (fa_of hq) x t
theorem rp_plus {q : Nat} (hq : Fq q) {xs ys : List Nat} {x y : TP} (h1 : Rp q xs x) (h2 : Rp q ys y) : Rp q (plN q xs ys) (tAdd x y) := fun t => by
  rw [plN_get hq, ← (tab_of hq).s _ _ (h1.lt hq t) (h2.lt hq t), h1 t, h2 t]
  exact (psi_add (fa_of hq) x y t).symm
theorem adR_get {q c : Nat} : ∀ (xs acc : List Nat) (t : Nat), xs.length ≤ acc.length → (adR q c xs acc).getD t 0 = if t < xs.length then sE q (acc.getD t 0) (pE q (xs.getD t 0) c) else acc.getD t 0
  | [], acc, t, _ => by
    have : adR q c [] acc = acc := by unfold adR; rfl
    rw [this]
    exact (if_neg (Nat.not_lt_zero t)).symm
  | x :: xs, [], t, h => by cases h
  | x :: xs, a :: acc, 0, h => by
    exact (if_pos (Nat.succ_pos _)).symm
  | x :: xs, a :: acc, t + 1, h => by
    have ih := adR_get (q := q) (c := c) xs acc t (Nat.le_of_succ_le_succ h)
    show (adR q c xs acc).getD t 0 = if t + 1 < xs.length + 1 then sE q (acc.getD t 0) (pE q (xs.getD t 0) c) else acc.getD t 0
    rw [ih]
    by_cases h : t < xs.length
    · rw [if_pos h, if_pos (by omega)]
    · rw [if_neg h, if_neg (by omega)]
theorem adA_get {q c : Nat} (xs : List Nat) : ∀ (j : Nat) (acc : List Nat) (t : Nat), xs.length + j ≤ acc.length → (adA q c xs j acc).getD t 0 = if t < j then acc.getD t 0 else if t - j < xs.length then sE q (acc.getD t 0) (pE q (xs.getD (t - j) 0) c) else acc.getD t 0
  | 0, acc, t, h => by
    rw [if_neg (Nat.not_lt_zero t), Nat.sub_zero]
    exact adR_get xs acc t h
  | j + 1, [], t, h => by
    rw [List.length_nil] at h
    omega
  | j + 1, a :: acc, 0, h => by
    rw [if_pos (Nat.succ_pos j)]
    rfl
  | j + 1, a :: acc, t + 1, h => by
    have ih := adA_get (q := q) (c := c) xs j acc t (by rw [List.length_cons] at h; omega)
    show (adA q c xs j acc).getD t 0 = if t + 1 < j + 1 then acc.getD t 0 else if t + 1 - (j + 1) < xs.length then sE q (acc.getD t 0) (pE q (xs.getD (t + 1 - (j + 1)) 0) c) else acc.getD t 0
    rw [ih, show t + 1 - (j + 1) = t - j by omega]
    by_cases h : t < j
    · rw [if_pos h, if_pos (show t + 1 < j + 1 by omega)]
    · rw [if_neg h, if_neg (show ¬ t + 1 < j + 1 by omega)]
theorem getD_zero {xs : List Nat} {t : Nat} (h : xs.length ≤ t) : xs.getD t 0 = 0 := by
  rw [List.getD_eq_getElem?_getD, List.getElem?_eq_none h]
  rfl
theorem rep_getD (n t : Nat) : (List.replicate n 0).getD t 0 = 0 := by
  rw [List.getD_eq_getElem?_getD, List.getElem?_replicate]
  split <;> rfl
theorem muS_get {q : Nat} (hq : Fq q) {xs ys : List Nat} (hx : ∀ t, xs.getD t 0 < q) (hy : ∀ t, ys.getD t 0 < q) (hx0 : xs ≠ []) : ∀ j, j ≤ ys.length → ∀ t, (muS q xs ys j).getD t 0 = cvn (adQ q) (muQ q) j (fun i => ys.getD i 0) (fun i => xs.getD i 0) t
  | 0, _, t => rep_getD _ t
  | j + 1, hj, t => by
    have F := fa_of hq
    have T := tab_of hq
    have ih := muS_get hq hx hy hx0 j (by omega)
    have hc : ∀ t, cvn (adQ q) (muQ q) j (fun i => ys.getD i 0) (fun i => xs.getD i 0) t < q := fun t => cvn_lt F j _ _ hy hx t
    rw [cvn_snoc F j _ _ hy hx t]
    show (if ys.getD j 0 = 0 then muS q xs ys j else adA q (ys.getD j 0) xs j (muS q xs ys j)).getD t 0 = _
    by_cases h0 : ys.getD j 0 = 0
    · rw [if_pos h0, ih t, h0]
      split
      · exact (F.ad0 _ (hc t)).symm
      · rw [F.mu0 _ (hx _), F.ad0 _ (hc t)]
    · rw [if_neg h0]
      have hxl := List.length_pos_iff.mpr hx0
      rw [adA_get xs j _ t (by rw [muS_len]; omega), ih t]
      by_cases h1 : t < j
      · rw [if_pos h1, if_pos h1, F.ad0 _ (hc t)]
      · rw [if_neg h1, if_neg h1]
        by_cases h2 : t - j < xs.length
        · rw [if_pos h2, ← T.p _ _ (hx _) (hy _), ← T.s _ _ (hc t) (show opT (PN q) q (xs.getD (t - j) 0) (ys.getD j 0) < q from F.muL _ _ (hx _) (hy _))]
          rfl
        · rw [if_neg h2, getD_zero (xs := xs) (t := t - j) (by omega), F.mz _ (hy _), F.ad0 _ (hc t)]
theorem cvn_f0 {q : Nat} (hq : Fq q) {f : Nat → Nat} (hf : ∀ t, f t = 0) : ∀ (n : Nat) (g : Nat → Nat) (t : Nat), (∀ j, g j < q) → cvn (adQ q) (muQ q) n g f t = 0
  | 0, _, _, _ => rfl
  | n + 1, g, t, hg => by
    have F := fa_of hq
    show adQ q (muQ q (f t) (g 0)) (if t = 0 then 0 else cvn (adQ q) (muQ q) n (fun j => g (j + 1)) f (t - 1)) = 0
    rw [hf t, F.mz _ (hg 0), cvn_f0 hq hf n _ (t - 1) (fun j => hg (j + 1))]
    split <;> exact F.ad0 _ F.q0
theorem rp_mul {q : Nat} (hq : Fq q) {xs ys : List Nat} {x y : TP} (h1 : Rp q xs x) (h2 : Rp q ys y) : Rp q (muN q xs ys) (tMul y x) := fun t => by
  have F := fa_of hq
  have hy : ∀ j, Ps q y j < q := fun j => psi_lt F y j
  have hx : ∀ j, Ps q x j < q := fun j => psi_lt F x j
  show (muN q xs ys).getD t 0 = psi (prE q) (uQ q) (adQ q) (muQ q) (tMul y x) t
  rw [psi_mul F]
  have hyz : ∀ j, y.length ≤ j → Ps q y j = 0 := fun j hj => by
    unfold Ps psi
    rw [List.getD_eq_getElem?_getD, List.getElem?_eq_none hj]
    rfl
  have hyz2 : ∀ j, ys.length ≤ j → Ps q y j = 0 := fun j hj => by rw [← h2 j]; exact getD_zero hj
  unfold muN
  by_cases he : xs = [] ∨ ys = []
  · rw [if_pos he]
    show 0 = cvn _ _ y.length (Ps q y) (Ps q x) t
    rcases he with he | he
    · exact (cvn_f0 hq (fun j => by rw [← h1 j, he]; rfl) _ _ t hy).symm
    · have := cvn_more F hy hx (n := 0) (fun j _ => hyz2 j (by rw [he]; exact Nat.zero_le _)) t y.length
      rw [Nat.zero_add] at this
      exact this.symm
  · rw [if_neg he, muS_get hq (h1.lt hq) (h2.lt hq) (fun z => he (.inl z)) ys.length (Nat.le_refl _) t]
    rw [cvn_congr h2 h1]
    have e1 := cvn_more F hy hx hyz t ys.length
    have e2 := cvn_more F hy hx hyz2 t y.length
    rw [Nat.add_comm] at e2
    exact e2.symm.trans e1
theorem chk_one : chkAll (fun q => decide (phi (prE q) (uQ q) (adQ q) (muQ q) [1] = 1)) = true := by decide +kernel
theorem rp_one {q : Nat} (hq : Fq q) : Rp q [1] [[1]] := fun t => by
  cases t with
  | zero => exact (of_decide_eq_true (chk_get chk_one hq)).symm
  | succ t => rfl

/-! rows of elements of the prime field, and what one great number tells of them -/
def EB : Nat := 4294967296
def Ev3 (q : Nat) (xs : List Nat) (f : Nat → Nat) : Prop := ∃ x : TP, Rp q xs x ∧ ∀ X, evT EB X x = f X
theorem e3_one {q : Nat} (hq : Fq q) : Ev3 q [1] (fun _ => 1) := ⟨[[1]], rp_one hq, fun X => by
  show 1 + EB * 0 + X * 0 = 1
  rw [Nat.mul_zero, Nat.mul_zero]⟩
theorem e3_mul {q : Nat} (hq : Fq q) {xs ys : List Nat} {f g : Nat → Nat} (h1 : Ev3 q xs f) (h2 : Ev3 q ys g) : Ev3 q (muN q xs ys) (fun X => g X * f X) := by
  obtain ⟨x, a1, a2⟩ := h1
  obtain ⟨y, b1, b2⟩ := h2
  exact ⟨tMul y x, rp_mul hq a1 b1, fun X => by rw [ev_tmul, a2, b2]⟩
theorem e3_plus {q : Nat} (hq : Fq q) {xs ys : List Nat} {f g : Nat → Nat} (h1 : Ev3 q xs f) (h2 : Ev3 q ys g) : Ev3 q (plN q xs ys) (fun X => f X + g X) := by
  obtain ⟨x, a1, a2⟩ := h1
  obtain ⟨y, b1, b2⟩ := h2
  exact ⟨tAdd x y, rp_plus hq a1 b1, fun X => by rw [ev_tadd, a2, b2]⟩
theorem e3_shift {q n : Nat} {xs : List Nat} {f : Nat → Nat} (h : Ev3 q xs f) : Ev3 q (List.replicate n 0 ++ xs) (fun X => X ^ n * f X) := by
  obtain ⟨x, a1, a2⟩ := h
  refine ⟨List.replicate n [] ++ x, fun t => ?_, fun X => by rw [ev_rep, a2]⟩
  show _ = psi _ _ _ _ _ t
  rw [psi_rep]
  by_cases ht : t < n
  · rw [if_pos ht, List.getD_eq_getElem?_getD, List.getElem?_append_left (by rw [List.length_replicate]; exact ht), List.getElem?_replicate, if_pos ht]
    rfl
  · rw [if_neg ht, List.getD_eq_getElem?_getD, List.getElem?_append_right (by rw [List.length_replicate]; omega), List.length_replicate, ← List.getD_eq_getElem?_getD]
    exact a1 (t - n)
theorem chk_opp : chkAll (fun q => decide (oE q 0 = 0) && all1 q fun a => decide (oE q a = muQ q (phi (prE q) (uQ q) (adQ q) (muQ q) [prE q - 1]) a)) = true := by decide +kernel
theorem e3_opp {q : Nat} (hq : Fq q) {xs : List Nat} {f : Nat → Nat} (h : Ev3 q xs f) : Ev3 q (xs.map (oE q)) (fun X => (prE q - 1) * f X) := by
  obtain ⟨x, a1, a2⟩ := h
  have hc := chk_get chk_opp hq
  rw [Bool.and_eq_true, decide_eq_true_eq] at hc
  refine ⟨x.map fun b => uMul [prE q - 1] b, fun t => ?_, fun X => by rw [ev_tscale, a2]; rfl⟩
  show _ = psi _ _ _ _ _ t
  rw [psi_scale (fa_of hq)]
  have hg : (xs.map (oE q)).getD t 0 = oE q (xs.getD t 0) := by
    rw [List.getD_eq_getElem?_getD, List.getD_eq_getElem?_getD, List.getElem?_map]
    cases xs[t]? with
    | none => exact hc.1.symm
    | some a => rfl
  rw [hg, of_decide_eq_true (all1_get hc.2 (Rp.lt hq a1 t)), a1 t]
  rfl
theorem psi_low {q : Nat} (hq : Fq q) {x : TP} {t : Nat} (h1 : evU EB (x.getD t []) < EB) (h2 : ∀ z ∈ x.getD t [], z < EB) : Ps q x t = evU EB (x.getD t []) % prE q := by
  have F := fa_of hq
  have h := hor_phi F (show 0 < EB by decide) 1 (x.getD t []) h2 (by rw [Nat.pow_one]; exact h1)
  show phi _ _ _ _ (x.getD t []) = _
  rw [← h]
  unfold hor
  by_cases hz : evU EB (x.getD t []) = 0
  · rw [if_pos hz, hz, Nat.zero_mod]
  · rw [if_neg hz, Nat.mod_eq_of_lt h1]
    show adQ q _ (muQ q (uQ q) 0) = _
    rw [F.mu0 _ F.uq, F.ad0 _ (F.md _)]
def eqK (p : Nat) : Nat → Nat → Nat → Bool
  | 0, _, _ => true
  | n + 1, a, b => Nat.beq (a % EB % p) (b % EB % p) && eqK p n (a / EB) (b / EB)
theorem eq_read {q : Nat} (hq : Fq q) : ∀ (n : Nat) (x y : TP), (∀ t, evU EB (x.getD t []) < EB) → (∀ t, ∀ z ∈ x.getD t [], z < EB) → (∀ t, evU EB (y.getD t []) < EB) → (∀ t, ∀ z ∈ y.getD t [], z < EB) → eqK (prE q) n (evT EB EB x) (evT EB EB y) = true → ∀ t, t < n → Ps q x t = Ps q y t
  | 0, x, y, _, _, _, _, _, t, ht => absurd ht (Nat.not_lt_zero t)
  | n + 1, x, y, h1, h2, h3, h4, h, t, ht => by
    obtain ⟨e1, e2⟩ := evT_div x h1
    obtain ⟨e3, e4⟩ := evT_div y h3
    have tl : ∀ (x : TP) t, x.tail.getD t [] = x.getD (t + 1) [] := fun x t => by cases x <;> rfl
    unfold eqK at h
    rw [Bool.and_eq_true, Nat.beq_eq, e1, e2, e3, e4] at h
    cases t with
    | zero => rw [psi_low hq (h1 0) (h2 0), psi_low hq (h3 0) (h4 0)]; exact h.1
    | succ t =>
      have ih := eq_read hq n x.tail y.tail (fun t => by rw [tl]; exact h1 (t + 1)) (fun t => by rw [tl]; exact h2 (t + 1)) (fun t => by rw [tl]; exact h3 (t + 1)) (fun t => by rw [tl]; exact h4 (t + 1)) h.2 t (by omega)
      unfold Ps psi at ih ⊢
      rwa [tl, tl] at ih
theorem ext_getD {xs ys : List Nat} (hl : xs.length = ys.length) (h : ∀ t, t < xs.length → xs.getD t 0 = ys.getD t 0) : xs = ys := by
  refine List.ext_getElem hl fun t h1 h2 => ?_
  have := h t h1
  rw [List.getD_eq_getElem?_getD, List.getD_eq_getElem?_getD, List.getElem?_eq_getElem h1, List.getElem?_eq_getElem h2] at this
  exact this
theorem rows_eq {q : Nat} (hq : Fq q) {xs ys : List Nat} {f g : Nat → Nat} (h1 : Ev3 q xs f) (h2 : Ev3 q ys g) (hl : xs.length = ys.length) (b1 : f 1 < EB) (b2 : g 1 < EB) (h : eqK (prE q) xs.length (f EB) (g EB) = true) : xs = ys := by
  obtain ⟨x, a1, a2⟩ := h1
  obtain ⟨y, c1, c2⟩ := h2
  have hx : ∀ t, evU EB (x.getD t []) < EB := fun t => Nat.lt_of_le_of_lt (evU_le_T EB x t) (by rw [a2]; exact b1)
  have hy : ∀ t, evU EB (y.getD t []) < EB := fun t => Nat.lt_of_le_of_lt (evU_le_T EB y t) (by rw [c2]; exact b2)
  have hle : ∀ (c : UP) (z : Nat), z ∈ c → z ≤ evU EB c := fun c => by
    induction c with
    | nil => exact fun z hz => by cases hz
    | cons a c ih =>
      intro z hz
      show z ≤ a + EB * evU EB c
      rcases List.mem_cons.mp hz with rfl | hz
      · exact Nat.le_add_right _ _
      · have h5 := ih z hz
        have h6 : 1 * evU EB c ≤ EB * evU EB c := Nat.mul_le_mul_right _ (show 1 ≤ EB by decide)
        omega
  refine ext_getD hl fun t ht => ?_
  rw [a1 t, c1 t]
  exact eq_read hq xs.length x y hx (fun t z hz => Nat.lt_of_le_of_lt (hle _ z hz) (hx t)) hy (fun t z hz => Nat.lt_of_le_of_lt (hle _ z hz) (hy t)) (by rw [a2, c2]; exact h) t ht
end Own
/-! the package: rows, brackets, factorials -/
namespace Own
open PySem PySem.Spec PyProof.Rows L2 Evl

theorem op_catAK {X : Cx} {K : PySem.W.Frag} (hK : X.K = K) : OpR X (binaryOp .Add) (rCatA K) := hK ▸ op_catA
theorem op_eqDK {X : Cx} {K : PySem.W.Frag} (hK : X.K = K) (hu : X.A.units + 64 < cLine) : OpR X (compareOp .Eq) (rEqD K) := hK ▸ op_eqD hu
/-- a written table of sums, by its rows -/
def TbR (K : PySem.W.Frag) (a : Addr) (f : Nat → Nat → Nat) (q : Nat) : Prop := ∃ rs : List Addr, q ≤ rs.length ∧ (∀ H, SqT K H a (rs.map V.ref)) ∧ ∀ x r, x < q → rs[x]? = some r → ∃ row : List Int, (∀ H, SqT K H r (row.map V.int)) ∧ ∀ y, y < q → row[y]? = some ((f x y : Nat) : Int)
def tabE (t : List (Int × List (List Int))) (q a b : Nat) : Option Int := (t.lookup (q : Int)).bind fun w => w[a]?.bind fun xs => xs[b]?
theorem tb_of {K : PySem.W.Frag} {d : Addr} {t : List (Int × List (List Int))} {q : Nat} {f : Nat → Nat → Nat} (h : tab2 K d = some t) (h0 : 0 < q) (hf : ∀ a b, a < q → b < q → tabE t q a b = some ((f a b : Nat) : Int)) : ∃ a, TbR K a f q ∧ ∀ H, RV (rIxW K) (.ref d) (N_ q) H (.ref a) := by
  have key : ∀ a b, a < q → b < q → ∃ w xs, t.lookup (q : Int) = some w ∧ w[a]? = some xs ∧ xs[b]? = some ((f a b : Nat) : Int) := fun a b ha hb => by
    have := hf a b ha hb
    unfold tabE at this
    obtain ⟨w, hw, h2⟩ := Option.bind_eq_some_iff.mp this
    obtain ⟨xs, hx, h3⟩ := Option.bind_eq_some_iff.mp h2
    exact ⟨w, xs, hw, hx, h3⟩
  obtain ⟨w, _, hw, _, _⟩ := key 0 0 h0 h0
  obtain ⟨a, rs, hs, hr⟩ := tab2_get h hw
  have hwl : q ≤ w.length := by
    obtain ⟨w2, xs, hw2, hx, _⟩ := key (q - 1) 0 (by omega) h0
    rw [hw] at hw2
    cases hw2
    have := (List.getElem?_eq_some_iff.mp hx).1
    omega
  refine ⟨a, ⟨rs, by rw [(hs (fun _ => none)).2.1]; exact hwl, fun H => (hs H).1, fun x r hx hr => ?_⟩, hr⟩
  obtain ⟨w2, xs, hw2, hxs, _⟩ := key x 0 hx h0
  rw [hw] at hw2
  cases hw2
  refine ⟨xs, fun H => (hs H).2.2 x r xs hr hxs, fun y hy => ?_⟩
  obtain ⟨w3, xs3, hw3, hxs3, h3⟩ := key x y hx hy
  rw [hw] at hw3
  cases hw3
  rw [hxs] at hxs3
  cases hxs3
  exact h3
section
variable {K : PySem.W.Frag} {σ : L2.St} {H H' : Hp} {ta tb tl te : TE} {D : Ends} {tu tz : TS}
theorem ev_tb {a : Addr} {f : Nat → Nat → Nat} {q x y : Nat} (h : TbR K a f q) (ht : Ev tl σ H (.ref a)) (ha : Ev ta σ H (N_ x)) (hb : Ev tb σ H (N_ y)) (hx : x < q) (hy : y < q) : Ev (tOp (rIxT K) (tOp (rIxT K) tl ta) tb) σ H (N_ (f x y)) := by
  obtain ⟨rs, h1, h2, h3⟩ := h
  have hr : rs[x]? = some rs[x] := List.getElem?_eq_getElem (by omega)
  obtain ⟨row, hs, hv⟩ := h3 x _ hx hr
  exact ev_op (ev_op ht ha (rv_ixT (v := .ref rs[x]) (h2 H) (atI_nat (by rw [List.getElem?_map, hr]; rfl)))) hb (rv_ixT (hs H) (atI_nat (by rw [List.getElem?_map, hv y hy]; rfl)))
end
theorem chk_sums : chkAll (fun q => all1 q fun a => all1 q fun b => decide (tabE W_SUMS q a b = some ((sE q a b : Nat) : Int))) = true := by decide +kernel
theorem chk_opps : chkAll (fun q => all1 q fun a => decide ((W_OPPOSITES.lookup (q : Int)).bind (fun w => w[a]?) = some ((oE q a : Nat) : Int))) = true := by decide +kernel
theorem chk_oL : chkAll (fun q => all1 q fun a => decide (oE q a < q)) = true := by decide +kernel
theorem oE_lt {q a : Nat} (hq : Fq q) (ha : a < q) : oE q a < q := of_decide_eq_true (all1_get (chk_get chk_oL hq) ha)
theorem sums_tb {K : PySem.W.Frag} {d : Addr} {q : Nat} (hq : Fq q) (h : tab2 K d = some W_SUMS) : ∃ a, TbR K a (sE q) q ∧ ∀ H, RV (rIxW K) (.ref d) (N_ q) H (.ref a) :=
  tb_of h (by have := hq.b; omega) fun a b ha hb => of_decide_eq_true (all1_get (all1_get (chk_get chk_sums hq) ha) hb)
theorem opps_row {K : PySem.W.Frag} {d : Addr} {q : Nat} (hq : Fq q) (h : tab1 K d = some W_OPPOSITES) : ∃ (a : Addr) (w : List Int), (∀ H, SqT K H a (w.map V.int)) ∧ (∀ x, x < q → w[x]? = some ((oE q x : Nat) : Int)) ∧ ∀ H, RV (rIxW K) (.ref d) (N_ q) H (.ref a) := by
  have key : ∀ x, x < q → ∃ w, W_OPPOSITES.lookup (q : Int) = some w ∧ w[x]? = some ((oE q x : Nat) : Int) := fun x hx => Option.bind_eq_some_iff.mp (of_decide_eq_true (all1_get (chk_get chk_opps hq) hx))
  obtain ⟨w, hw, _⟩ := key 0 (by have := hq.b; omega)
  obtain ⟨a, hs, hr⟩ := tab1_get h hw
  refine ⟨a, w, hs, fun x hx => ?_, hr⟩
  obtain ⟨w2, hw2, h2⟩ := key x hx
  rw [hw] at hw2
  cases hw2
  exact h2

def sp_trimmed (K : PySem.W.Frag) : Sp := fun vs H Q _ => ∃ (a : Addr) (xs : List Nat) (m : Nat), vs = [.ref a] ∧ SqL K H a (xs.map N_) ∧ xs.length ≤ 10000 ∧ m ≤ xs.length ∧ (m ≠ 0 → xs.getD (m - 1) 0 ≠ 0) ∧ (∀ i, m ≤ i → xs.getD i 0 = 0) ∧ RetTt K ((xs.take m).map N_) H Q

theorem ok_trimmed {P : Program} {w : World} {K : PySem.W.Frag} {mg : Str → Option Value} {base : Heap} (T : Txt K mg) : FnOk P w K mg base CX0 1 T.a_trimmed T.d_trimmed ["row"] (sp_trimmed K) := by
  refine T.F_trimmed.ok sc_trimmed (fun vs H Q E h => ?_) (fun cdv A outer s H vs Q E hr h => ?_)
  · obtain ⟨a, xs, m, rfl, _⟩ := h
    rfl
  · obtain ⟨a, xs, m, rfl, hx, hl, hm, hnz, hz, kk⟩ := h
    refine ⟨_, (pss_cons (ps_set (i := 1) sc_trimmed.nd rfl (Or.inl rfl) (pe_callB call_len_seq (by rfl) T.z_len (by decide +kernel) (pa_cons (pv 0) pa_nil)))
      (pss_cons (ps_while PassesOwn.never (PW.pt (pw_and (pt_cmpR op_gt (pv 1) pe_int (nomark _)) (pw_and1 (pt_cmpR op_eq (pe_ix (r := rIxL K) ix_list (pv 0) (pe_op op_sub (pv 1) pe_int) (fun _ _ => rfl)) pe_int (nomark _))))) (pss_one (ps_aug (i := 1) sc_trimmed.nd rfl (Or.inl rfl) pe_int ip_sub)))
      (pss_one (ps_ret (pe_callTy call_tuple_of (by rfl) T.z_tuple (by decide +kernel) (pa_cons (pe_slice sl_list (pv 0) po_none (po_some (pv 1))) pa_nil)))))), ?_⟩
    refine q_asg (v := N_ xs.length) (ev_is (ev_cb (r := rLenQ K) (ea_cons (ev_var rfl) ea_nil) (rc_lenL hx)) (by rw [List.length_map])) fun H1 e1 => ?_
    refine q_while (fun n σ H' => σ = [some (.ref a), some (N_ n)] ∧ m ≤ n ∧ n ≤ xs.length ∧ Ex H H') xs.length ⟨rfl, hm, Nat.le_refl _, e1⟩ fun n σ H2 hw => ?_
    obtain ⟨rfl, hmn, hnl, e2⟩ := hw
    refine ⟨decide (0 < n) && decide (xs.getD (n - 1) 0 = 0), et_is (et_and (et_test (ev_op (ev_var rfl) ev_c rv_I0)) (b := decide (xs.getD (n - 1) 0 = 0)) fun hb => ?_) (by congr 1; exact decide_eq_decide.mpr (by omega)), fun hb H3 e3 => ?_, fun hb H3 e3 => ?_⟩
    · have hn0 : 0 < n := by have := of_decide_eq_true hb; omega
      exact et_is (et_test (ev_op (ev_op (r := rIxL K) (ev_var rfl) (ev_is (w := N_ (n - 1)) (ev_op (ev_var rfl) ev_c rv_I0) (congrArg V.int (by omega))) (rv_ixL (ex_l e2 hx) (atI_nat (get_N (by omega))))) ev_c (rv_eq rfl))) (dec_int (y := 0))
    · rw [Bool.and_eq_true, decide_eq_true_eq, decide_eq_true_eq] at hb
      have hne : m ≠ n := fun e => hnz (by omega) (by rw [e]; exact hb.2)
      refine ⟨fun σ' H' => σ' = [some (.ref a), some (N_ (n - 1))] ∧ Ex H H', fun σ2 H2' hN => ?_, ?_⟩
      · obtain ⟨rfl, e⟩ := hN
        exact ⟨n - 1, by omega, rfl, by omega, by omega, e⟩
      · exact s_aug (a := (n : Int)) (b := 1) rfl ev_c fun H4 e4 => ⟨by rw [show ((n : Int) - 1) = ((n - 1 : Nat) : Int) by omega]; rfl, (e2.trans e3).trans e4⟩
    · have hmn2 : n = m := by
        rw [Bool.and_eq_false_iff, decide_eq_false_iff_not, decide_eq_false_iff_not] at hb
        by_cases h : m = n
        · exact h.symm
        · have := hz (n - 1) (by omega)
          rcases hb with hb | hb
          · omega
          · exact absurd this hb
      subst hmn2
      have e03 := e2.trans e3
      refine s_retT (tt_is (tt_new (eu_tupleN (el_sl (K := K) (ev_var rfl) eo_none (eo_some (ev_var rfl)) (ex_l e03 hx)))) (by rw [cutTake, List.map_take])) (kk.go e03)


theorem tt_trimmed {K : PySem.W.Frag} {σ : L2.St} {H : Hp} {te : TE} {E : XK} {xs : List Nat} (h : EvL te σ H (xs.map N_)) (hl : xs.length ≤ 10000) : EvTt K (tCall (sp_trimmed K) [] E (tCons te tNil)) σ H ((trN xs).map N_) :=
  tt_call1L h fun p H1 _ hp Q q E => by
    obtain ⟨h1, h2, h3, h4⟩ := tr_take xs
    exact ⟨p, xs, (trN xs).length, rfl, sq_of hp, hl, h2, h3, fun i hi => h4 i hi, by rw [h1]; exact q⟩
theorem cutDrop' (xs : List V) (f : Nat) : cutV xs (some (f : Int)) none = xs.drop f := by
  unfold cutV
  rw [HT.sIx_nat, HT.sIx_none]
  by_cases h : f ≤ xs.length
  · rw [Nat.min_eq_left h, List.take_of_length_le (by rw [List.length_drop]; exact Nat.le_refl _)]
  · rw [Nat.min_eq_right (by omega), List.drop_eq_nil_of_le (show xs.length ≤ f by omega), List.drop_length, List.take_nil]
theorem pl_rows {q : Nat} (hq : Fq q) {xs ys : List Nat} (lx : Lq q xs) (ly : Lq q ys) : ((List.range (min xs.length ys.length)).map fun i => sE q (xs.getD i 0) (ys.getD i 0)) ++ xs.drop ys.length ++ ys.drop xs.length = (List.range (max xs.length ys.length)).map fun i => sE q (xs.getD i 0) (ys.getD i 0) := by
  have h0 : 0 < q := by have := hq.b; omega
  refine ext_getD ?_ fun t ht => ?_
  · simp only [List.length_append, List.length_map, List.length_range, List.length_drop]
    omega
  · have hR : ((List.range (max xs.length ys.length)).map fun i => sE q (xs.getD i 0) (ys.getD i 0)).getD t 0 = sE q (xs.getD t 0) (ys.getD t 0) := by
      have hlt : t < max xs.length ys.length := by
        simp only [List.length_append, List.length_map, List.length_range, List.length_drop] at ht
        omega
      rw [List.getD_eq_getElem?_getD, List.getElem?_map, List.getElem?_range hlt]
      rfl
    rw [hR, List.append_assoc, List.getD_eq_getElem?_getD]
    by_cases h1 : t < min xs.length ys.length
    · rw [List.getElem?_append_left (by rw [List.length_map, List.length_range]; exact h1), List.getElem?_map, List.getElem?_range h1]
      rfl
    · rw [List.getElem?_append_right (by rw [List.length_map, List.length_range]; omega), List.length_map, List.length_range]
      by_cases h2 : ys.length ≤ xs.length
      · rw [List.drop_eq_nil_of_le h2, List.append_nil, List.getElem?_drop, show ys.length + (t - min xs.length ys.length) = t by omega, ← List.getD_eq_getElem?_getD]
        have : ys.getD t 0 = 0 := by rw [List.getD_eq_getElem?_getD, List.getElem?_eq_none (by omega)]; rfl
        rw [this]
        exact ((sE_zero hq (lx.get h0 t)).1).symm
      · rw [List.drop_eq_nil_of_le (show xs.length ≤ ys.length by omega), List.nil_append, List.getElem?_drop, show xs.length + (t - min xs.length ys.length) = t by omega, ← List.getD_eq_getElem?_getD]
        have : xs.getD t 0 = 0 := by rw [List.getD_eq_getElem?_getD, List.getElem?_eq_none (by omega)]; rfl
        rw [this]
        exact ((sE_zero hq (ly.get h0 t)).2).symm
def sp_row_sum (K : PySem.W.Frag) : Sp := fun vs H Q _ => ∃ (a b : Addr) (q : Nat) (xs ys : List Nat), vs = [N_ q, .ref a, .ref b] ∧ Fq q ∧ SqT K H a (xs.map N_) ∧ SqT K H b (ys.map N_) ∧ Lq q xs ∧ Lq q ys ∧ xs.length ≤ 4000 ∧ ys.length ≤ 4000 ∧ RetTt K ((plN q xs ys).map N_) H Q

theorem ok_row_sum {P : Program} {w : World} {K : PySem.W.Frag} {mg : Str → Option Value} {base : Heap} (T : Txt K mg) : FnOk P w K mg base CX0 2 T.a_row_sum T.d_row_sum ["q", "a", "b"] (sp_row_sum K) := by
  refine T.F_row_sum.ok sc_row_sum (fun vs H Q E h => ?_) (fun cdv A outer s H vs Q E hr h => ?_)
  · obtain ⟨a, b, q, xs, ys, rfl, _⟩ := h
    rfl
  · obtain ⟨a, b, q, xs, ys, rfl, hq, hx, hy, lx, ly, hl, hm, kk⟩ := h
    refine ⟨_, (pss_cons (ps_set (i := 3) sc_row_sum.nd rfl (Or.inr rfl) (pe_ix (r := rIxW K) ix_tab (pe_glob (v := .ref T.a_SUMS) (by rfl) T.g_SUMS rfl) (pv 0) (fun _ _ => rfl)))
      (pss_cons (ps_setLc (i := 4) (own := [("x", 5), ("y", 6)]) (g := (gTup K 2 (gCons (gName 5) (gCons (gName 6) gNil)))) (by rfl) sc_row_sum.nd rfl rfl (sw_true rfl rfl rfl (by decide +kernel)) (RZ.pi_zipA (by rfl) T.z_zip (pa_cons (pv 1) (pa_cons (pv 2) pa_nil))) (blkOk_by (N := ["q", "a", "b", "sums", "shared", "x", "y"]) (sc := defScope s_row_sum) (by decide +kernel)) (fun _ _ _ _ _ => (pg_tup (by rfl) (pgs_cons (pg_name (i := 5) sc_row_sum.nd rfl (Or.inl rfl)) (pgs_cons (pg_name (i := 6) sc_row_sum.nd rfl (Or.inl rfl)) pgs_nil)))) (fun _ _ _ _ _ => pts_nil) (fun _ _ _ _ _ => (pe_ix (r := rIxT K) ix_tup (pe_ix (r := rIxT K) ix_tup (pv 3) (pv 5) (fun _ _ => rfl)) (pv 6) (fun _ _ => rfl))))
      (pss_one (ps_ret (pe_call (ok_trimmed T) (hr.mono (by decide)) (by rfl) T.g_trimmed T.F_trimmed.kp T.b_trimmed .nil pass0 (pa_cons (pe_op op_cat (pe_op op_cat (pv 4) (pe_callTy call_list_of (by rfl) T.z_list (by decide +kernel) (pa_cons (pe_slice sl_tupA (pv 1) (po_some (pe_callB call_len_seq (by rfl) T.z_len (by decide +kernel) (pa_cons (pv 2) pa_nil))) po_none) pa_nil))) (pe_callTy call_list_of (by rfl) T.z_list (by decide +kernel) (pa_cons (pe_slice sl_tupA (pv 2) (po_some (pe_callB call_len_seq (by rfl) T.z_len (by decide +kernel) (pa_cons (pv 1) pa_nil))) po_none) pa_nil))) pa_nil)))))), ?_⟩
    have hq0 := hq.b
    obtain ⟨sa, htb, hrv⟩ := sums_tb hq T.w_SUMS
    refine q_asg (v := .ref sa) (ev_op ev_c (ev_var rfl) (hrv H)) fun H1 e1 => ?_
    have hx1 := ex_t e1 hx
    have hy1 := ex_t e1 hy
    refine q_asgL (xs := ((List.range (min xs.length ys.length)).map fun i => sE q (xs.getD i 0) (ys.getD i 0)).map N_) (el_is (el_lcZT (K := K) (a := a) (b := b) (xs := xs.map N_) (ys := ys.map N_) (fun _ => true) (fun i => N_ (sE q (xs.getD i 0) (ys.getD i 0))) (fun H2 e2 Q k => (ea_cons (ev_var rfl) (ea_cons (ev_var rfl) ea_nil)) H2 e2 _ fun H3 e3 => k b H3 e3 (ex_t (e2.trans e3) hy1)) hx1 (by rw [List.length_map]; omega) (fun _ _ => rfl) (fun _ _ _ _ _ _ _ => et_nil) (fun i x y H2 e2 h5 h6 _ => ?_)) ?_) fun l H2 nl e2 hl2 => ?_
    · have hi1 : i < xs.length := by
        have := (List.getElem?_eq_some_iff.mp h5).1
        rwa [List.length_map] at this
      have hi2 : i < ys.length := by
        have := (List.getElem?_eq_some_iff.mp h6).1
        rwa [List.length_map] at this
      rw [get_N hi1] at h5
      rw [get_N hi2] at h6
      cases h5
      cases h6
      exact ev_tb htb (ev_var rfl) (ev_var rfl) (ev_var rfl) (lx.get (by omega) i) (ly.get (by omega) i)
    · rw [given_range, List.length_map, List.length_map, List.map_map]
      rfl
    · have e12 := e1.trans e2
      refine s_retT (tt_is (tt_trimmed (K := K) (xs := ((List.range (min xs.length ys.length)).map fun i => sE q (xs.getD i 0) (ys.getD i 0)) ++ xs.drop ys.length ++ ys.drop xs.length) (el_is (el_catN9 (el_cat (ev_var rfl) hl2 (el_listTt (tt_sl (K := K) (ev_var rfl) (ex_t e12 hx) (eo_some (ev_is (ev_cb (r := rLenQ K) (ea_cons (ev_var rfl) ea_nil) (rc_lenT (ex_t e12 hy))) (by rw [List.length_map]))) eo_none)) ?_) (el_listTt (tt_sl (K := K) (ev_var rfl) (ex_t e12 hy) (eo_some (ev_is (ev_cb (r := rLenQ K) (ea_cons (ev_var rfl) ea_nil) (rc_lenT (ex_t e12 hx))) (by rw [List.length_map]))) eo_none)) ?_) ?_) ?_) ?_) (kk.go e12)
      · rw [cutDrop', List.length_drop, List.length_map, List.length_map, List.length_range]
        simp only [List.length_map]
        omega
      · simp only [cutDrop', List.length_append, List.length_drop, List.length_map, List.length_range]
        omega
      · rw [cutDrop', cutDrop', List.map_append, List.map_append, List.map_drop, List.map_drop]
      · simp only [List.length_append, List.length_drop, List.length_map, List.length_range]
        omega
      · rw [pl_rows hq lx ly]
        rfl


def sp_row_opposite (K : PySem.W.Frag) : Sp := fun vs H Q _ => ∃ (a : Addr) (q : Nat) (xs : List Nat), vs = [N_ q, .ref a] ∧ Fq q ∧ SqT K H a (xs.map N_) ∧ Lq q xs ∧ xs.length ≤ 4000 ∧ RetTt K ((xs.map (oE q)).map N_) H Q

theorem ok_row_opposite {P : Program} {w : World} {K : PySem.W.Frag} {mg : Str → Option Value} {base : Heap} (T : Txt K mg) : FnOk P w K mg base CX0 1 T.a_row_opposite T.d_row_opposite ["q", "a"] (sp_row_opposite K) := by
  refine T.F_row_opposite.ok sc_row_opposite (fun vs H Q E h => ?_) (fun cdv A outer s H vs Q E hr h => ?_)
  · obtain ⟨a, q, xs, rfl, _⟩ := h
    rfl
  · obtain ⟨a, q, xs, rfl, hq, hx, lx, hl, kk⟩ := h
    refine ⟨_, (pss_cons (ps_set (i := 2) sc_row_opposite.nd rfl (Or.inr rfl) (pe_ix (r := rIxW K) ix_tab (pe_glob (v := .ref T.a_OPPOSITES) (by rfl) T.g_OPPOSITES rfl) (pv 0) (fun _ _ => rfl)))
      (pss_one (ps_ret (pe_callTy call_tuple_of (by rfl) T.z_tuple (by decide +kernel) (pa_cons (pe_lc (own := [("x", 3)]) (g := gName 3) rfl sc_row_opposite.nd (pi_tup (pv 1)) (blkOk_by (N := ["q", "a", "opposites", "x"]) (sc := defScope s_row_opposite) (by decide +kernel)) (fun _ _ _ _ _ => pg_name (i := 3) sc_row_opposite.nd rfl (Or.inl rfl)) (fun _ _ _ _ _ => pts_nil) (fun _ _ _ _ _ => (pe_ix (r := rIxT K) ix_tup (pv 2) (pv 3) (fun _ _ => rfl)))) pa_nil))))), ?_⟩
    have hq0 := hq.b
    obtain ⟨oa, w, hsw, hw, hrv⟩ := opps_row hq T.w_OPPOSITES
    refine q_asg (v := .ref oa) (ev_op ev_c (ev_var rfl) (hrv H)) fun H1 e1 => ?_
    have hx1 := ex_t e1 hx
    refine s_retT (tt_is (tt_new (eu_tupleN (el_lcT (K := K) (a := a) (xs := xs.map N_) (fun _ => true) (fun i => N_ (oE q (xs.getD i 0))) (ev_var rfl) hx1 (by rw [List.length_map]; omega) (fun _ => rfl) (fun _ _ _ _ _ => et_nil) (fun i x H2 e2 h5 _ => ?_)))) ?_) (kk.go e1)
    · have hi1 : i < xs.length := by
        have := (List.getElem?_eq_some_iff.mp h5).1
        rwa [List.length_map] at this
      rw [get_N hi1] at h5
      cases h5
      exact ev_op (ev_var rfl) (ev_var rfl) (rv_ixT (hsw H2) (atI_nat (by rw [List.getElem?_map, hw _ (lx.get (by omega) i)]; rfl)))
    · rw [given_range, List.length_map]
      refine List.ext_getElem? fun i => ?_
      rw [List.getElem?_map, List.getElem?_map, List.getElem?_map]
      by_cases hi : i < xs.length
      · rw [List.getElem?_range hi, getD_get hi]
        rfl
      · rw [List.getElem?_eq_none (by rw [List.length_range]; omega), List.getElem?_eq_none (by omega)]
        rfl


theorem opp_lq {q : Nat} (hq : Fq q) {xs : List Nat} (h : Lq q xs) : Lq q (xs.map (oE q)) := fun z hz => by
  obtain ⟨x, hx, rfl⟩ := List.mem_map.mp hz
  exact oE_lt hq (h x hx)
def leN (q : Nat) (xs ys : List Nat) : List Nat := plN q xs (ys.map (oE q))
def sp_row_less (K : PySem.W.Frag) : Sp := fun vs H Q _ => ∃ (a b : Addr) (q : Nat) (xs ys : List Nat), vs = [N_ q, .ref a, .ref b] ∧ Fq q ∧ SqT K H a (xs.map N_) ∧ SqT K H b (ys.map N_) ∧ Lq q xs ∧ Lq q ys ∧ xs.length ≤ 4000 ∧ ys.length ≤ 4000 ∧ RetTt K ((leN q xs ys).map N_) H Q

theorem ok_row_less {P : Program} {w : World} {K : PySem.W.Frag} {mg : Str → Option Value} {base : Heap} (T : Txt K mg) : FnOk P w K mg base CX0 3 T.a_row_less T.d_row_less ["q", "a", "b"] (sp_row_less K) := by
  refine T.F_row_less.ok sc_row_less (fun vs H Q E h => ?_) (fun cdv A outer s H vs Q E hr h => ?_)
  · obtain ⟨a, b, q, xs, ys, rfl, _⟩ := h
    rfl
  · obtain ⟨a, b, q, xs, ys, rfl, hq, hx, hy, lx, ly, hl, hm, kk⟩ := h
    refine ⟨_, (pss_one (ps_ret (pe_call (ok_row_sum T) (hr.mono (by decide)) (by rfl) T.g_row_sum T.F_row_sum.kp T.b_row_sum .nil pass0 (pa_cons (pv 0) (pa_cons (pv 1) (pa_cons (pe_call (ok_row_opposite T) (hr.mono (by decide)) (by rfl) T.g_row_opposite T.F_row_opposite.kp T.b_row_opposite .nil pass0 (pa_cons (pv 0) (pa_cons (pv 2) pa_nil))) pa_nil)))))), ?_⟩
    exact s_retT (tt_call2T (x := N_ q) (y := .ref a) (zs := (ys.map (oE q)).map N_) (ev_var rfl) (ev_var rfl) (tt_call (ea_cons (ev_var rfl) (ea_cons (ev_var rfl) ea_nil)) fun H1 e1 Q q1 E => ⟨b, q, ys, rfl, hq, ex_t e1 hy, ly, hm, q1⟩) fun p H1 e1 s1 Q q1 E => ⟨a, p, q, xs, ys.map (oE q), rfl, hq, ex_t e1 hx, s1, lx, opp_lq hq ly, hl, by rw [List.length_map]; exact hm, q1⟩) kk


end Own
/-! the package: products of brackets -/
namespace Own
open PySem PySem.Spec PyProof.Rows L2 Evl

def sp_whole_power (K : PySem.W.Frag) : Sp := fun vs H Q _ => ∃ (b e : Nat), vs = [N_ b, N_ e] ∧ b ≤ 9 ∧ e ≤ 10 ∧ RetV (N_ (b ^ e)) H Q
theorem sv_whole_power {K : PySem.W.Frag} {H : Hp} {b e : Nat} (hb : b ≤ 9) (he : e ≤ 10) : SpV (sp_whole_power K) [N_ b, N_ e] H (N_ (b ^ e)) := fun H1 _ Q q E => ⟨b, e, rfl, hb, he, q⟩
theorem pow9 {b e : Nat} (hb : b ≤ 9) (he : e ≤ 10) : b ^ e < 2 ^ 40 := Nat.lt_of_le_of_lt (Nat.pow_le_pow_left hb e) (Nat.lt_of_le_of_lt (Nat.pow_le_pow_right (by decide) he) (by decide))

theorem ok_whole_power {P : Program} {w : World} {K : PySem.W.Frag} {mg : Str → Option Value} {base : Heap} (T : Txt K mg) : FnOk P w K mg base CX0 1 T.a_whole_power T.d_whole_power ["base", "exponent"] (sp_whole_power K) := by
  refine T.F_whole_power.ok sc_whole_power (fun vs H Q E h => ?_) (fun cdv A outer s H vs Q E hr h => ?_)
  · obtain ⟨b, e, rfl, _⟩ := h
    rfl
  · obtain ⟨b, e, rfl, hb, he, kk⟩ := h
    refine ⟨_, (pss_cons (ps_set (i := 2) sc_whole_power.nd rfl (Or.inl rfl) pe_int)
      (pss_cons (ps_for PassesOwn.never rfl (pi_range1 rfl T.z_range (pa_cons (pv 1) pa_nil)) (pg_name (i := 3) sc_whole_power.nd rfl (Or.inl rfl)) (pss_one (ps_set (i := 2) sc_whole_power.nd rfl (Or.inl rfl) (pe_op op_mulW (pv 2) (pv 0)))))
      (pss_one (ps_ret (pv 2))))), ?_⟩
    refine q_asg (v := N_ (b ^ 0)) ev_c fun H1 e1 => ?_
    refine q_forR1 (n := (e : Int)) (ea_cons (ev_var rfl) ea_nil) ⟨by omega, by omega⟩ (fun i σ H' => ∃ y3, σ = [some (N_ b), some (N_ e), some (N_ (b ^ i)), y3] ∧ Ex H H') (fun H2 e2 => ⟨none, rfl, e1.trans e2⟩) (fun i σ H2 hi hw => ?_) (fun σ H2 hw => ?_)
    · obtain ⟨y3, rfl, e2⟩ := hw
      exact s_asg (v := N_ (b ^ (i + 1))) (ev_is (ev_op (ev_var rfl) (ev_var rfl) (rv_I (wide_mul (a := 40) (b := 10) (pow9 hb (by omega)) (by show b < 1024; omega) (by decide) (by decide) (by decide)))) (congrArg V.int (by rw [Nat.pow_succ, Int.natCast_mul]))) fun H3 e3 => ⟨_, rfl, e2.trans e3⟩
    · obtain ⟨y3, rfl, e2⟩ := hw
      rw [Int.toNat_natCast]
      exact s_ret (ev_var rfl) fun H3 e3 => kk H3 (e2.trans e3)


/-- the terms of a bracket's power: one pair for each unit of each base-p digit -/
def btI (p s : Nat) (ds : List Nat) : Nat → List (List Nat)
  | 0 => []
  | n + 1 => btI p s ds n ++ List.replicate (ds.getD n 0) [s * p ^ n, p ^ n]
def btN (q i t : Nat) : List (List Nat) := btI (prE q) (q ^ i) (dg (prE q) t) (dg (prE q) t).length
theorem btI_len (p s : Nat) (ds : List Nat) : ∀ n, ∀ x ∈ btI p s ds n, x.length = 2
  | 0, x, h => by cases h
  | n + 1, x, h => by
    rcases List.mem_append.mp (show x ∈ btI p s ds n ++ List.replicate (ds.getD n 0) [s * p ^ n, p ^ n] from h) with h | h
    · exact btI_len p s ds n x h
    · rw [(List.mem_replicate.mp h).2]
      rfl
/-- the sum of the high exponents -/
def hiS (L : List (List Nat)) : Nat := (L.map fun x => x.getD 0 0).sum
theorem hiS_app (a b : List (List Nat)) : hiS (a ++ b) = hiS a + hiS b := by unfold hiS; rw [List.map_append, List.sum_append]
theorem hiS_rep (n h l : Nat) : hiS (List.replicate n [h, l]) = n * h := by
  unfold hiS
  rw [List.map_replicate]
  induction n with
  | zero => rw [Nat.zero_mul]; rfl
  | succ n ih => rw [List.replicate_succ, List.sum_cons, ih, Nat.succ_mul, Nat.add_comm]; rfl
theorem btI_sum (p s : Nat) (ds : List Nat) : ∀ n, n ≤ ds.length → hiS (btI p s ds n) = s * od p (ds.take n)
  | 0, _ => by rw [List.take_zero]; rfl
  | n + 1, h => by
    have ot : od p (ds.take (n + 1)) = od p (ds.take n) + ds.getD n 0 * p ^ n := by
      rw [take_succ (show n < ds.length by omega), od_snoc, List.length_take, Nat.min_eq_left (by omega)]
    show hiS (btI p s ds n ++ _) = _
    rw [hiS_app, hiS_rep, btI_sum p s ds n (by omega), ot, Nat.mul_add, show ds.getD n 0 * (s * p ^ n) = s * (ds.getD n 0 * p ^ n) by rw [Nat.mul_left_comm]]
theorem btN_sum {q i t : Nat} (hq : Fq q) : hiS (btN q i t) = q ^ i * t := by
  unfold btN
  rw [btI_sum _ _ _ _ (Nat.le_refl _), List.take_length, od_dg (by have := (t0_of hq).p2; omega)]
theorem btI_cnt (p s : Nat) (ds : List Nat) : ∀ n, n ≤ ds.length → (btI p s ds n).length = (ds.take n).sum
  | 0, _ => by rw [List.take_zero]; rfl
  | n + 1, h => by
    show (btI p s ds n ++ List.replicate (ds.getD n 0) [s * p ^ n, p ^ n]).length = _
    rw [List.length_append, List.length_replicate, btI_cnt p s ds n (by omega), take_succ (show n < ds.length by omega), List.sum_append]
    simp
theorem dsum_le {p : Nat} (hp : 1 < p) : ∀ (t n : Nat), t ≤ n → (dg p t).sum ≤ t := by
  intro t n
  induction n generalizing t with
  | zero => intro h; rw [show t = 0 by omega, dg_zero]; exact Nat.le_refl _
  | succ n ih =>
    intro h
    by_cases h0 : t = 0
    · rw [h0, dg_zero]; exact Nat.le_refl _
    · rw [dg_pos hp (by omega), List.sum_cons]
      have h1 : t / p < t := Nat.div_lt_self (by omega) hp
      have h2 := ih (t / p) (by omega)
      have h3 := Nat.div_add_mod t p
      have h4 : 1 * (t / p) ≤ p * (t / p) := Nat.mul_le_mul_right _ (by omega)
      omega
def sp_bracket_terms (K : PySem.W.Frag) : Sp := fun vs H Q _ => ∃ (q i t : Nat), vs = [N_ q, N_ i, N_ t] ∧ Fq q ∧ i ≤ 10 ∧ t ≤ 1000 ∧ RetPs K (btN q i t) H Q

theorem ok_bracket_terms {P : Program} {w : World} {K : PySem.W.Frag} {mg : Str → Option Value} {base : Heap} (T : Txt K mg) : FnOk P w K mg base CX0 2 T.a_bracket_terms T.d_bracket_terms ["q", "i", "times"] (sp_bracket_terms K) := by
  refine T.F_bracket_terms.ok sc_bracket_terms (fun vs H Q E h => ?_) (fun cdv A outer s H vs Q E hr h => ?_)
  · obtain ⟨q, i, t, rfl, _⟩ := h
    rfl
  · obtain ⟨q, i, t, rfl, hq, hi, htt, kk⟩ := h
    refine ⟨_, (pss_cons (ps_set (i := 3) sc_bracket_terms.nd rfl (Or.inl rfl) (pe_ix (r := rIxW K) ix_tab (pe_glob (v := .ref T.a_PRIMES) (by rfl) T.g_PRIMES rfl) (pv 0) (fun _ _ => rfl)))
      (pss_cons (ps_set (i := 4) sc_bracket_terms.nd rfl (Or.inr rfl) (pe_call (ok_whole_power T) (hr.mono (by decide)) (by rfl) T.g_whole_power T.F_whole_power.kp T.b_whole_power .nil pass0 (pa_cons (pv 0) (pa_cons (pv 1) pa_nil))))
      (pss_cons (ps_set (i := 5) sc_bracket_terms.nd rfl (Or.inl rfl) (pe_lst pa_nil))
      (pss_cons (ps_set (i := 6) sc_bracket_terms.nd rfl (Or.inr rfl) pe_int)
      (pss_cons (ps_for PassesOwn.never rfl (pi_list (pe_call (ok_digit_row T) (hr.mono (by decide)) (by rfl) T.g_digit_row T.F_digit_row.kp T.b_digit_row .nil pass0 (pa_cons (pv 3) (pa_cons (pv 2) pa_nil)))) (pg_name (i := 7) sc_bracket_terms.nd rfl (Or.inl rfl)) (pss_cons (ps_set (i := 5) sc_bracket_terms.nd rfl (Or.inl rfl) (pe_op op_cat (pv 5) (pe_lc (own := [("_", 8)]) (g := gName 8) rfl sc_bracket_terms.nd (pi_range1 rfl T.z_range (pa_cons (pv 7) pa_nil)) (blkOk_by (N := ["q", "i", "times", "p", "size", "pairs", "worth", "digit", "_"]) (sc := defScope s_bracket_terms) (by decide +kernel)) (fun _ _ _ _ _ => pg_name (i := 8) sc_bracket_terms.nd rfl (Or.inl rfl)) (fun _ _ _ _ _ => pts_nil) (fun _ _ _ _ _ => (pe_tup (pa_cons (pe_op op_mulW (pv 4) (pv 6)) (pa_cons (pv 6) pa_nil)))))))
      (pss_one (ps_set (i := 6) sc_bracket_terms.nd rfl (Or.inr rfl) (pe_op op_mulW (pv 6) (pv 3))))))
      (pss_one (ps_ret (pv 5)))))))), ?_⟩
    have ht := t0_of hq
    have hq0 := hq.b
    have hp2 := ht.p2
    have hp7 := ht.p7
    have hqi : q ^ i < 2 ^ 40 := pow9 (by omega) hi
    have hGt : Gt t := Nat.lt_of_le_of_lt htt (Nat.lt_of_lt_of_le (show 1000 < 2 ^ 10 by decide) (Nat.pow_le_pow_right (by decide) (by decide)))
    have hdl : (dg (prE q) t).length ≤ 10 := dg_len (by omega) 10 t (by show t < 1024; omega)
    have hpw : ∀ n, n ≤ 10 → prE q ^ n < 2 ^ 30 := fun n hn => Nat.lt_of_le_of_lt (Nat.pow_le_pow_left hp7 n) (Nat.lt_of_le_of_lt (Nat.pow_le_pow_right (by decide) hn) (by decide))
    have hsum := dsum_le (p := prE q) (by omega) t t (Nat.le_refl _)
    refine q_asg (v := N_ (prE q)) (ev_tab0 T.w_PRIMES ht.pr (ev_var rfl)) fun H1 e1 => ?_
    refine q_asg (v := N_ (q ^ i)) (ev_call (ea_cons (ev_var rfl) (ea_cons (ev_var rfl) ea_nil)) (sv_whole_power (by omega) hi)) fun H2 e2 => ?_
    refine q_asgL (xs := []) (el_lst ea_nil (by decide)) fun l0 H3 nl0 e3 h3 => ?_
    refine q_asg (v := N_ (prE q ^ 0)) ev_c fun H4 e4 => ?_
    have e04 := ((e1.trans e2).trans e3).trans e4
    refine q_forNLn (K := K) (xs := (dg (prE q) t).map N_) (el_call (ea_cons (ev_var rfl) (ea_cons (ev_var rfl) ea_nil)) (sv_digit_row (show Bs (prE q) from ⟨by omega, by omega⟩) hGt)) (fun p n σ H' => ∃ (l : Addr) (rs : List Addr) (y7 y8 : Option V), σ = [some (N_ q), some (N_ i), some (N_ t), some (N_ (prE q)), some (N_ (q ^ i)), some (.ref l), some (N_ (prE q ^ n)), y7, y8] ∧ H l = none ∧ Ex H H' ∧ H' l = some (.lst (rs.map V.ref)) ∧ Tps K H' rs (btI (prE q) (q ^ i) (dg (prE q) t) n) ∧ SqL K H' p ((dg (prE q) t).map N_)) (fun p H5 np e5 h5 => ⟨l0, [], none, none, rfl, fresh_back (e1.trans e2) nl0, e04.trans e5, e5 _ _ (e4 _ _ h3), Tps.nil K H5, sq_of h5⟩) (fun p n σ H5 _ hw => ?_) (fun p n x σ H5 hn hw => ?_) (fun p σ H5 hw => ?_)
    · obtain ⟨l, rs, y7, y8, rfl, nl, e5, h5, t5, s5⟩ := hw
      exact s5
    · obtain ⟨l, rs, y7, y8, rfl, nl, e5, h5, t5, s5⟩ := hw
      have hnl : n < (dg (prE q) t).length := by
        have := (List.getElem?_eq_some_iff.mp hn).1
        rwa [List.length_map] at this
      rw [get_N hnl] at hn
      cases hn
      have hdn : (dg (prE q) t).getD n 0 < prE q := dg_lt (by omega) t _ (List.mem_of_getElem? (getD_get hnl))
      have hcnt := btI_cnt (prE q) (q ^ i) (dg (prE q) t) n (by omega)
      have hle : ((dg (prE q) t).take n).sum ≤ (dg (prE q) t).sum := by
        have := List.sum_append (l₁ := (dg (prE q) t).take n) (l₂ := (dg (prE q) t).drop n)
        rw [List.take_append_drop] at this
        omega
      have hrl : rs.length ≤ 1000 := by rw [t5.1, hcnt]; omega
      refine q_catR (l := l) (xs := rs.map V.ref) (n := (dg (prE q) t).getD n 0) (P := PRow K (fun _ => [q ^ i * prE q ^ n, prE q ^ n])) h5 (ev_var rfl) (lr_lcR1 (P := PRow K (fun _ => [q ^ i * prE q ^ n, prE q ^ n])) (kp_row K _) (ea_cons (ev_var rfl) ea_nil) (by omega) (fun _ => rfl) (fun m H6 e6 hm => ?_)) (by rw [List.length_map]; omega) (fun p2 rs2 H6 np2 e6 hl2 hP => ?_)
      · exact fun H7 e7 Q q7 => (eu_tup (σ := wipe [some (N_ q), some (N_ i), some (N_ t), some (N_ (prE q)), some (N_ (q ^ i)), some (.ref l), some (N_ (prE q ^ n)), some (N_ ((dg (prE q) t).getD n 0)), y8] [8] |>.set 8 (some (.int (m : Int)))) (H := H6) (vs := [N_ (q ^ i * prE q ^ n), N_ (prE q ^ n)]) (ea_cons (ev_is (ev_op (ev_var rfl) (ev_var rfl) (rv_I (wide_mul (a := 40) (b := 30) (by show q ^ i < 2 ^ 40; exact hqi) (by show prE q ^ n < 2 ^ 30; exact hpw n (by omega)) (by decide) (by decide) (by decide)))) (congrArg V.int (Int.natCast_mul _ _).symm)) (ea_cons (ev_var rfl) ea_nil)) (by show 2 ≤ 100000; decide)) H7 e7 Q fun r H8 nr e8 h8 => q7 r H8 e8 (st_of h8)
      · have tp2 : Tps K H6 rs2 (List.replicate ((dg (prE q) t).getD n 0) [q ^ i * prE q ^ n, prE q ^ n]) := ⟨by rw [hl2, List.length_replicate], fun j r xs ej ex => by
          rw [List.getElem?_replicate] at ex
          split at ex
          · cases ex
            exact hP j r ej
          · cases ex⟩
        have x6 : Ex H6 (upd H6 p2 (.lst (rs.map V.ref ++ rs2.map V.ref))) := Ex.new np2
        refine s_asg (v := N_ (prE q ^ (n + 1))) (ev_is (ev_op (ev_var rfl) (ev_var rfl) (rv_I (wide_mul (a := 30) (b := 10) (by show prE q ^ n < 2 ^ 30; exact hpw n (by omega)) (by show prE q < 1024; omega) (by decide) (by decide) (by decide)))) (congrArg V.int (by rw [Nat.pow_succ, Int.natCast_mul]))) fun H7 e7 => ?_
        exact ⟨p2, rs ++ rs2, _, _, rfl, fresh_back (e5.trans e6) np2, ((e5.trans e6).trans x6).trans e7, by rw [List.map_append]; exact e7 _ _ upd_same, ((t5.ex (e6.trans x6)).ex e7).app ((tp2.ex x6).ex e7), ex_l ((e6.trans x6).trans e7) s5⟩
    · obtain ⟨l, rs, y7, y8, rfl, nl, e5, h5, t5, s5⟩ := hw
      rw [List.length_map] at t5
      exact s_ret (ev_var rfl) fun H6 e6 => kk l rs H6 nl (e5.trans e6) (e6 _ _ h5) (t5.ex e6)


def tbS (q : Nat) (m x : List Nat) : List Nat := leN q (List.replicate (x.getD 0 0) 0 ++ m) (List.replicate (x.getD 1 0) 0 ++ m)
def tbN (q i t : Nat) (m : List Nat) : List Nat := (btN q i t).foldl (tbS q) m
theorem rep_lq {q n : Nat} {m : List Nat} (h0 : 0 < q) (h : Lq q m) : Lq q (List.replicate n 0 ++ m) := fun z hz => by
  rcases List.mem_append.mp hz with hz | hz
  · rw [(List.mem_replicate.mp hz).2]; exact h0
  · exact h z hz
theorem pl_lq {q : Nat} (hq : Fq q) {xs ys : List Nat} (hx : Lq q xs) (hy : Lq q ys) : Lq q (plN q xs ys) := fun z hz => by
  have h0 := hq.b
  unfold plN at hz
  obtain ⟨i, _, rfl⟩ := List.mem_map.mp (tr_mem hz)
  exact sE_lt hq (hx.get (by omega) i) (hy.get (by omega) i)
theorem pl_len (q : Nat) (xs ys : List Nat) : (plN q xs ys).length ≤ max xs.length ys.length := by
  unfold plN
  refine Nat.le_trans (tr_take _).2.1 ?_
  rw [List.length_map, List.length_range]
  exact Nat.le_refl _
theorem tbS_lq {q : Nat} (hq : Fq q) {m x : List Nat} (h : Lq q m) : Lq q (tbS q m x) := pl_lq hq (rep_lq (by have := hq.b; omega) h) (opp_lq hq (rep_lq (by have := hq.b; omega) h))
theorem tbS_len {q : Nat} {m x : List Nat} (h : x.getD 1 0 ≤ x.getD 0 0) : (tbS q m x).length ≤ x.getD 0 0 + m.length := by
  refine Nat.le_trans (pl_len _ _ _) ?_
  rw [List.length_map, List.length_append, List.length_append, List.length_replicate, List.length_replicate]
  omega
theorem fold_lq {q : Nat} (hq : Fq q) : ∀ (L : List (List Nat)) (m : List Nat), Lq q m → Lq q (L.foldl (tbS q) m)
  | [], m, h => h
  | x :: L, m, h => fold_lq hq L _ (tbS_lq hq h)
theorem fold_len {q : Nat} : ∀ (L : List (List Nat)) (m : List Nat), (∀ x ∈ L, x.getD 1 0 ≤ x.getD 0 0) → (L.foldl (tbS q) m).length ≤ hiS L + m.length
  | [], m, _ => by show m.length ≤ 0 + m.length; omega
  | x :: L, m, h => by
    have h1 := fold_len (q := q) L (tbS q m x) (fun y hy => h y (.tail _ hy))
    have h2 := tbS_len (q := q) (m := m) (h x (.head _))
    have h3 : hiS (x :: L) = x.getD 0 0 + hiS L := rfl
    show (L.foldl (tbS q) (tbS q m x)).length ≤ _
    omega
theorem btI_low {p s : Nat} (hs : 0 < s) (ds : List Nat) : ∀ n, ∀ x ∈ btI p s ds n, x.getD 1 0 ≤ x.getD 0 0
  | 0, x, h => by cases h
  | n + 1, x, h => by
    rcases List.mem_append.mp (show x ∈ btI p s ds n ++ List.replicate (ds.getD n 0) [s * p ^ n, p ^ n] from h) with h | h
    · exact btI_low hs ds n x h
    · rw [(List.mem_replicate.mp h).2]
      show p ^ n ≤ s * p ^ n
      have := Nat.mul_le_mul_right (p ^ n) hs
      omega
theorem hiS_take (L : List (List Nat)) (i : Nat) : hiS (L.take i) ≤ hiS L := by
  have := hiS_app (L.take i) (L.drop i)
  rw [List.take_append_drop] at this
  omega
theorem hiS_mem {L : List (List Nat)} {i : Nat} {x : List Nat} (h : L[i]? = some x) : hiS (L.take i) + x.getD 0 0 ≤ hiS L := by
  have h1 := hiS_take L (i + 1)
  rw [take_snocT h, hiS_app] at h1
  have h2 : hiS [x] = x.getD 0 0 := by
    show x.getD 0 0 + 0 = _
    omega
  omega
section
variable {K : PySem.W.Frag} {σ : L2.St} {H H' : Hp} {ta tb tc te tl tn : TE} {t : TT} {D : Ends} {tu tz : TS}
/-- (0,) * n + tuple -/
theorem tt_shift {a : Addr} {ms : List Nat} {n : Nat} (h1 : Ev tn σ H (N_ n)) (h2 : Ev ta σ H (.ref a)) (hm : SqT K H a (ms.map N_)) (hn : n ≤ 1000) (hl : ms.length ≤ 4000) : EvTt K (tOp (rCatA K) (tOp (rRepU K) (tTup (tCons (tC (.int 0)) tNil)) tn) ta) σ H ((List.replicate n 0 ++ ms).map N_) := fun H1 e Q q =>
  ⟨by show 1 ≤ sizeLine; decide, fun t1 n1 => h1 _ (e.trans (Ex.new n1)) _ fun H3 e3 => ⟨t1, n, [V.int 0], rfl, rfl, st_of (e3 _ _ upd_same), by simp, by omega, by omega, by show 1 ≤ 1000; decide, fun z H4 e4 hz => by
    have e14 := ((Ex.new n1).trans e3).trans e4
    exact h2 H4 (e.trans e14) _ fun H5 e5 => catA_go (K := K) (xs := (List.replicate (n : Int).toNat [V.int 0]).flatten) (ys := ms.map N_) (ex_t e5 hz) (ex_t ((e.trans e14).trans e5) hm) (by rw [Int.toNat_natCast, rep_flat, List.length_map, List.length_map, List.length_replicate]; omega) fun b H6 e6 sb => q b H6 ((e14.trans e5).trans e6) (by
      rw [Int.toNat_natCast, rep_flat] at sb
      rw [List.map_append]
      exact sb)⟩⟩
/-- f(x, tuple, tuple) -/
theorem tt_call3T {sp : Sp} {E : XK} {x : V} {xs ys zs : List V} (h1 : Ev ta σ H x) (h2 : EvTt K tb σ H xs) (h3 : EvTt K tc σ H ys) (hs : ∀ p r H1, Ex H H1 → SqT K H1 p xs → SqT K H1 r ys → ∀ Q : VK, RetTt K zs H1 Q → ∀ E, sp [x, .ref p, .ref r] H1 Q E) : EvTt K (tCall sp [] E (tCons ta (tCons tb (tCons tc tNil)))) σ H zs := fun H1 e Q q =>
  h1 H1 e _ fun H2 e2 => h2 H2 (e.trans e2) _ fun p H3 e3 hp => h3 H3 ((e.trans e2).trans e3) _ fun r H4 e4 hr => hs p r H4 (((e.trans e2).trans e3).trans e4) (ex_t e4 hp) hr Q (q.go ((e2.trans e3).trans e4)) _
end
def sp_times_bracket (K : PySem.W.Frag) : Sp := fun vs H Q _ => ∃ (q i t : Nat) (a : Addr) (m : List Nat), vs = [N_ q, N_ i, N_ t, .ref a] ∧ Fq q ∧ i ≤ 10 ∧ t ≤ 1000 ∧ SqT K H a (m.map N_) ∧ Lq q m ∧ q ^ i * t + m.length ≤ 900 ∧ RetTt K ((tbN q i t m).map N_) H Q

theorem ok_times_bracket {P : Program} {w : World} {K : PySem.W.Frag} {mg : Str → Option Value} {base : Heap} (T : Txt K mg) : FnOk P w K mg base CX0 4 T.a_times_bracket T.d_times_bracket ["q", "i", "times", "a"] (sp_times_bracket K) := by
  refine T.F_times_bracket.ok sc_times_bracket (fun vs H Q E h => ?_) (fun cdv A outer s H vs Q E hr h => ?_)
  · obtain ⟨q, i, t, a, m, rfl, _⟩ := h
    rfl
  · obtain ⟨q, i, t, a, m, rfl, hq, hi, htt, hm, lm, hlen, kk⟩ := h
    refine ⟨_, (pss_cons (ps_set (i := 4) sc_times_bracket.nd rfl (Or.inl rfl) (pv 3))
      (pss_cons (ps_for PassesOwn.never rfl (pi_list (pe_call (ok_bracket_terms T) (hr.mono (by decide)) (by rfl) T.g_bracket_terms T.F_bracket_terms.kp T.b_bracket_terms .nil pass0 (pa_cons (pv 0) (pa_cons (pv 1) (pa_cons (pv 2) pa_nil))))) (pg_tup (by rfl) (pgs_cons (pg_name (i := 5) sc_times_bracket.nd rfl (Or.inl rfl)) (pgs_cons (pg_name (i := 6) sc_times_bracket.nd rfl (Or.inl rfl)) pgs_nil))) (pss_one (ps_set (i := 4) sc_times_bracket.nd rfl (Or.inl rfl) (pe_call (ok_row_less T) (hr.mono (by decide)) (by rfl) T.g_row_less T.F_row_less.kp T.b_row_less .nil pass0 (pa_cons (pv 0) (pa_cons (pe_op (op_catAK (K := K) (by rfl)) (pe_op (op_repUK (K := K) (by rfl)) (pe_tup (pa_cons pe_int pa_nil)) (pv 5)) (pv 4)) (pa_cons (pe_op (op_catAK (K := K) (by rfl)) (pe_op (op_repUK (K := K) (by rfl)) (pe_tup (pa_cons pe_int pa_nil)) (pv 6)) (pv 4)) pa_nil)))))))
      (pss_one (ps_ret (pv 4))))), ?_⟩
    have hq0 := hq.b
    have hqi : 0 < q ^ i := Nat.pow_pos (by omega)
    have hsum := btN_sum (i := i) (t := t) hq
    have hlow : ∀ x ∈ btN q i t, x.getD 1 0 ≤ x.getD 0 0 := btI_low hqi _ _
    refine q_asg (v := .ref a) (ev_var rfl) fun H1 e1 => ?_
    refine q_forPp (K := K) (prs := btN q i t) (ep_call (ea_cons (ev_var rfl) (ea_cons (ev_var rfl) (ea_cons (ev_var rfl) ea_nil))) (fun H2 e2 Q q2 E => ⟨q, i, t, rfl, hq, hi, htt, q2⟩)) (btI_len _ _ _ _) (fun p rs n σ H' => ∃ (b : Addr) (y5 y6 : Option V), σ = [some (N_ q), some (N_ i), some (N_ t), some (.ref a), some (.ref b), y5, y6] ∧ Ex H H' ∧ SqT K H' b ((((btN q i t).take n).foldl (tbS q) m).map N_) ∧ SqL K H' p (rs.map V.ref) ∧ Tps K H' rs (btN q i t)) (fun p rs H2 np e2 h2 t2 => ⟨a, none, none, rfl, e1.trans e2, by rw [List.take_zero]; exact ex_t (e1.trans e2) hm, sq_of h2, t2⟩) (fun p rs n σ H2 _ hw => ?_) (fun p rs n x σ H2 hn hw => ?_) (fun p rs σ H2 hw => ?_)
    · obtain ⟨b, y5, y6, rfl, e2, sb, sl, t2⟩ := hw
      exact ⟨sl, t2⟩
    · obtain ⟨b, y5, y6, rfl, e2, sb, sl, t2⟩ := hw
      have hlq := fold_lq hq ((btN q i t).take n) m lm
      have hln := fold_len (q := q) ((btN q i t).take n) m (fun y hy => hlow y (List.mem_of_mem_take hy))
      have hmem := hiS_mem hn
      have hlx := hlow x (List.mem_of_getElem? hn)
      rw [hsum] at hmem
      have hstep : ((btN q i t).take (n + 1)).foldl (tbS q) m = tbS q (((btN q i t).take n).foldl (tbS q) m) x := by rw [take_snocT hn, List.foldl_append]; rfl
      generalize hM : ((btN q i t).take n).foldl (tbS q) m = M at *
      refine s_asgT (tt_call3T (K := K) (xs := (List.replicate (x.getD 0 0) 0 ++ M).map N_) (ys := (List.replicate (x.getD 1 0) 0 ++ M).map N_) (ev_var rfl) (tt_shift (K := K) (ev_var rfl) (ev_var rfl) sb (by omega) (by omega)) (tt_shift (K := K) (ev_var rfl) (ev_var rfl) sb (by omega) (by omega)) (fun p2 r2 H3 e3 s1 s2 Q q3 E => ⟨p2, r2, q, _, _, rfl, hq, s1, s2, rep_lq (by omega) hlq, rep_lq (by omega) hlq, by rw [List.length_append, List.length_replicate]; omega, by rw [List.length_append, List.length_replicate]; omega, q3⟩)) fun c H3 e3 sc => ⟨c, _, _, rfl, e2.trans e3, by rw [hstep]; exact sc, ex_l e3 sl, t2.ex e3⟩
    · obtain ⟨b, y5, y6, rfl, e2, sb, sl, t2⟩ := hw
      rw [List.take_length] at sb
      exact s_retT (tt_var (ev_var rfl) sb) (kk.go e2)


def sp_over_bracket (K : PySem.W.Frag) : Sp := fun _ _ _ _ => False
theorem ok_over_bracket {P : Program} {w : World} {K : PySem.W.Frag} {mg : Str → Option Value} {base : Heap} (T : Txt K mg) : FnOk P w K mg base CX0 3 T.a_over_bracket T.d_over_bracket ["q", "i", "times", "a"] (sp_over_bracket K) :=
  T.F_over_bracket.ok sc_over_bracket (fun vs H Q E h => h.elim) (fun cdv A outer s H vs Q E hr h => h.elim)

/-- a dict of exponents -/
def kvE (es : List (Nat × Nat)) : List (Key × V) := es.map fun x => ((Sum.inl (x.1 : Int) : Key), N_ x.2)
theorem key_nat {a b : Nat} : ((Sum.inl (a : Int) : Key) = Sum.inl (b : Int)) ↔ a = b := ⟨fun h => Int.ofNat.inj (Sum.inl.inj h), fun h => by rw [h]⟩
theorem val_kvE : ∀ (es : List (Nat × Nat)), (es.map (·.1)).Nodup → ∀ x ∈ es, valV (kvE es) (Sum.inl (x.1 : Int)) = some (N_ x.2)
  | [], _, x, h => by cases h
  | y :: es, hn, x, h => by
    show (List.find? (fun kv => decide (kv.1 = (Sum.inl (x.1 : Int) : Key))) ((Sum.inl (y.1 : Int), N_ y.2) :: kvE es)).map (·.2) = _
    rw [List.find?_cons]
    rw [List.map_cons, List.nodup_cons] at hn
    rcases List.mem_cons.mp h with rfl | h
    · rw [decide_eq_true rfl]
      rfl
    · have hne : y.1 ≠ x.1 := fun e => hn.1 (by rw [e]; exact List.mem_map.mpr ⟨x, h, rfl⟩)
      rw [decide_eq_false (fun z => hne (key_nat.mp z))]
      have ih := val_kvE es hn.2 x h
      unfold valV at ih
      exact ih
theorem put_kvE (es : List (Nat × Nat)) (i e : Nat) (h : ∀ x ∈ es, x.1 ≠ i) : putK (kvE es) (Sum.inl (i : Int)) (N_ e) = kvE (es ++ [(i, e)]) := by
  have hany : ((kvE es).any fun kv => decide (kv.1 = (Sum.inl (i : Int) : Key))) = false := by
    rw [List.any_eq_false]
    intro kv hk
    obtain ⟨x, hx, rfl⟩ := List.mem_map.mp hk
    rw [decide_eq_true_eq]
    exact fun z => h x hx (key_nat.mp z)
  unfold putK
  rw [hany, if_neg (by decide)]
  unfold kvE
  rw [List.map_append]
  rfl
theorem sqt_putD {K : PySem.W.Frag} {H H' : Hp} {p m : Addr} {kvs : List (Key × V)} {xs : List V} (hp : H p = some (.dK kvs)) (e : Exd p H H') (h : SqT K H m xs) : SqT K H' m xs := by
  rcases h with (h | ⟨o, h⟩) | h
  · exact .inl (.inl (e m _ (fun z => by rw [z, hp] at h; cases h) h))
  · exact .inl (.inr ⟨o, e m _ (fun z => by rw [z, hp] at h; cases h) h⟩)
  · exact .inr h
theorem sqt_unlock {K : PySem.W.Frag} {H : Hp} {d m : Addr} {od : Obj} {kvs : List (Key × V)} {xs : List V} (hd : H d = some (.frz od (.dK kvs))) (h : SqT K H m xs) : SqT K (upd H d (.dK kvs)) m xs := by
  rcases h with (h | ⟨o, h⟩) | h
  · refine .inl (.inl ?_)
    rw [upd_ne (fun z => by rw [z, hd] at h; cases h)]
    exact h
  · refine .inl (.inr ⟨o, ?_⟩)
    rw [upd_ne (fun z => by rw [z, hd] at h; cases h)]
    exact h
  · exact .inr h
theorem unlock_ex {H H1 : Hp} {d : Addr} {u v : HO} (h : H d = some u) (e : Ex (upd H d v) H1) : Ex H (upd H1 d u) := fun a o ha => by
  by_cases hd : a = d
  · subst hd
    rw [upd_same]
    rw [h] at ha
    exact ha
  · rw [upd_ne hd]
    exact e a o (by rw [upd_ne hd]; exact ha)
section
variable {K : PySem.W.Frag} {σ : L2.St} {H H' : Hp} {ta tb tc te tl tn td tk : TE} {t : TT} {D : Ends} {tu tz : TS} {v : V}
theorem ev_dgI {a : Addr} {kvs : List (Key × V)} {k : Key} (h : Ev td σ H (.ref a)) (hk : Ev tk σ H (kV k)) (hd : ∀ H1, Ex H H1 → Rd H1 a (.dK kvs)) (hv : valV kvs k = some v) : Ev (tDGet td tk) σ H v := fun H1 e Q q =>
  h H1 e _ fun H2 e2 => hk H2 (e.trans e2) _ fun H3 e3 => ⟨a, v, rfl, .inl ⟨kvs, k, hd H3 ((e.trans e2).trans e3), rfl, hv.symm⟩, q H3 (e2.trans e3)⟩
/-- for k in a dict of integers that nobody changes meanwhile -/
theorem q_forK {d : Addr} {es : List (Nat × Nat)} {j : Nat} (hd : H d = some (.dK (kvE es))) (h : ∀ H1, Ev te σ H1 (.ref d)) (Pv : Obj → Nat → L2.St → Hp → Prop) (h0 : ∀ od H1, Ex (upd H d (.frz od (.dK (kvE es)))) H1 → Pv od 0 σ H1) (hG : ∀ od i σ' H', i ≤ es.length → Pv od i σ' H' → H' d = some (.frz od (.dK (kvE es))))
    (hs : ∀ od i x σ' H' (D2 : Ends), D2.nx = Pv od (i + 1) → es[i]? = some x → Pv od i σ' H' → tu D2 (σ'.set j (some (N_ x.1))) H') (hz : ∀ od σ' H', Pv od es.length σ' H' → tz D σ' (upd H' d (.dK (kvE es)))) : tSeq (tLock (tFor (iKeys te) (gName j) tu)) tz D σ H :=
  ⟨d, _, hd, True.intro, fun od => (h (upd H d (.frz od (.dK (kvE es))))) _ (Ex.refl _) _ fun H1 e1 => ⟨d, od, rfl, .inl ⟨kvE es, e1 _ _ upd_same, for_it (walk_keys (kvs := kvE es)) (Pv od) (h0 od H1 e1) (fun i σ' H' hi w => hG od i σ' H' (by unfold kvE at hi; rwa [List.length_map] at hi) w) (fun i x σ' H' H'' hi w y => by
    obtain ⟨rfl, k, v, hk, rfl⟩ := y
    unfold kvE at hk
    rw [List.getElem?_map] at hk
    obtain ⟨z, hz, hkv⟩ := Option.map_eq_some_iff.mp hk
    obtain ⟨rfl, rfl⟩ := Prod.mk.inj hkv
    exact hs od i z σ' H'' _ rfl hz w) (fun σ' H' w => by
    have hl : (kvE es).length = es.length := by unfold kvE; rw [List.length_map]
    rw [hl] at w
    exact ⟨hG od es.length σ' H' (Nat.le_refl _) w, hz od σ' H' w⟩)⟩⟩⟩
end
def tbsN (q : Nat) (es : List (Nat × Nat)) (m : List Nat) : List Nat := es.foldl (fun m x => tbN q x.1 x.2 m) m
def dgE (q : Nat) (es : List (Nat × Nat)) : Nat := (es.map fun x => x.2 * q ^ x.1).sum
theorem tbN_lq {q i t : Nat} (hq : Fq q) {m : List Nat} (h : Lq q m) : Lq q (tbN q i t m) := fold_lq hq _ _ h
theorem tbN_len {q i t : Nat} (hq : Fq q) {m : List Nat} : (tbN q i t m).length ≤ q ^ i * t + m.length := by
  have h := fold_len (q := q) (btN q i t) m (btI_low (Nat.pow_pos (by have := hq.b; omega)) _ _)
  rw [btN_sum hq] at h
  exact h
theorem tbs_lq {q : Nat} (hq : Fq q) : ∀ (es : List (Nat × Nat)) (m : List Nat), Lq q m → Lq q (tbsN q es m)
  | [], m, h => h
  | x :: es, m, h => tbs_lq hq es _ (tbN_lq hq h)
theorem tbs_len {q : Nat} (hq : Fq q) : ∀ (es : List (Nat × Nat)) (m : List Nat), (tbsN q es m).length ≤ dgE q es + m.length
  | [], m => by show m.length ≤ 0 + m.length; omega
  | x :: es, m => by
    have h1 := tbs_len hq es (tbN q x.1 x.2 m)
    have h2 := tbN_len (i := x.1) (t := x.2) hq (m := m)
    have h3 : dgE q (x :: es) = x.2 * q ^ x.1 + dgE q es := rfl
    rw [Nat.mul_comm] at h2
    show (tbsN q es (tbN q x.1 x.2 m)).length ≤ _
    omega
theorem dgE_take (q : Nat) (es : List (Nat × Nat)) {i : Nat} {x : Nat × Nat} (h : es[i]? = some x) : dgE q (es.take i) + x.2 * q ^ x.1 ≤ dgE q es := by
  have h1 : es = es.take i ++ x :: es.drop (i + 1) := by
    obtain ⟨hi, hx⟩ := List.getElem?_eq_some_iff.mp h
    have h2 := List.take_append_drop i es
    rw [List.drop_eq_getElem_cons hi, hx] at h2
    exact h2.symm
  have h3 : dgE q es = dgE q (es.take i) + (x.2 * q ^ x.1 + dgE q (es.drop (i + 1))) := by
    have h4 : dgE q (es.take i ++ x :: es.drop (i + 1)) = dgE q (es.take i) + (x.2 * q ^ x.1 + dgE q (es.drop (i + 1))) := by
      unfold dgE
      rw [List.map_append, List.sum_append, List.map_cons, List.sum_cons]
    rw [← h1] at h4
    exact h4
  omega
def sp_times_brackets (K : PySem.W.Frag) : Sp := fun vs H Q _ => ∃ (q : Nat) (d a : Addr) (es : List (Nat × Nat)) (m : List Nat), vs = [N_ q, .ref d, .ref a] ∧ Fq q ∧ H d = some (.dK (kvE es)) ∧ (es.map (·.1)).Nodup ∧ (∀ x ∈ es, x.1 ≤ 10 ∧ 0 < x.2 ∧ x.2 ≤ 1000) ∧ SqT K H a (m.map N_) ∧ Lq q m ∧ dgE q es + m.length ≤ 900 ∧ RetTt K ((tbsN q es m).map N_) H Q

theorem ok_times_brackets {P : Program} {w : World} {K : PySem.W.Frag} {mg : Str → Option Value} {base : Heap} (T : Txt K mg) : FnOk P w K mg base CX0 5 T.a_times_brackets T.d_times_brackets ["q", "exponents", "a"] (sp_times_brackets K) := by
  refine T.F_times_brackets.ok sc_times_brackets (fun vs H Q E h => ?_) (fun cdv A outer s H vs Q E hr h => ?_)
  · obtain ⟨q, d, a, es, m, rfl, _⟩ := h
    rfl
  · obtain ⟨q, d, a, es, m, rfl, hq, hd, hnd, hes, hm, lm, hlen, kk⟩ := h
    refine ⟨_, (pss_cons (ps_set (i := 3) sc_times_brackets.nd rfl (Or.inl rfl) (pv 2))
      (pss_cons (ps_lock (ps_for PassesOwn.never rfl (pi_keys (pv 1)) (pg_name (i := 4) sc_times_brackets.nd rfl (Or.inl rfl)) (pss_one (ps_if (pt_cmpR op_gt (pe_dget (hu_of hr) (pv 1) (pv 4) (fun _ _ => rfl)) pe_int (nomark _)) (pss_one (ps_set (i := 3) sc_times_brackets.nd rfl (Or.inl rfl) (pe_call (ok_times_bracket T) (hr.mono (by decide)) (by rfl) T.g_times_bracket T.F_times_bracket.kp T.b_times_bracket .nil pass0 (pa_cons (pv 0) (pa_cons (pv 4) (pa_cons (pe_dget (hu_of hr) (pv 1) (pv 4) (fun _ _ => rfl)) (pa_cons (pv 3) pa_nil))))))) pss_nil))))
      (pss_cons (ps_lock (ps_for PassesOwn.never rfl (pi_keys (pv 1)) (pg_name (i := 4) sc_times_brackets.nd rfl (Or.inl rfl)) (pss_one (ps_if (pt_cmpR op_lt (pe_dget (hu_of hr) (pv 1) (pv 4) (fun _ _ => rfl)) pe_int (nomark _)) (pss_one (ps_set (i := 3) sc_times_brackets.nd rfl (Or.inl rfl) (pe_call (ok_over_bracket T) (hr.mono (by decide)) (by rfl) T.g_over_bracket T.F_over_bracket.kp T.b_over_bracket .nil pass0 (pa_cons (pv 0) (pa_cons (pv 4) (pa_cons (pe_un un_neg (pe_dget (hu_of hr) (pv 1) (pv 4) (fun _ _ => rfl))) (pa_cons (pv 3) pa_nil))))))) pss_nil))))
      (pss_one (ps_ret (pv 3)))))), ?_⟩
    have hq0 := hq.b
    refine q_asg (v := .ref a) (ev_var rfl) fun H1 e1 => ?_
    have hd1 := e1 _ _ hd
    refine q_forK (es := es) hd1 (fun _ => ev_var rfl) (fun od n σ H' => ∃ (b : Addr) (y4 : Option V), σ = [some (N_ q), some (.ref d), some (.ref a), some (.ref b), y4] ∧ Ex (upd H1 d (.frz od (.dK (kvE es)))) H' ∧ SqT K H' b ((tbsN q (es.take n) m).map N_)) (fun od H2 e2 => ⟨a, none, rfl, e2, by rw [List.take_zero]; exact ex_t e2 (sqt_putD hd1 Exd.put (ex_t e1 hm))⟩) (fun od n σ H2 _ hw => ?_) (fun od n x σ H2 D2 hn2 hn hw => ?_) (fun od σ H2 hw => ?_)
    · obtain ⟨b, y4, rfl, e2, sb⟩ := hw
      exact e2 _ _ upd_same
    · obtain ⟨b, y4, rfl, e2, sb⟩ := hw
      have hxm : x ∈ es := List.mem_of_getElem? hn
      obtain ⟨hx1, hx2, hx3⟩ := hes x hxm
      have hv := val_kvE es hnd x hxm
      have hget : ∀ H3, Ex H2 H3 → Ev (tDGet (tVar 1) (tVar 4)) [some (N_ q), some (.ref d), some (.ref a), some (.ref b), some (N_ x.1)] H3 (N_ x.2) := fun H3 e3 => ev_dgI (k := Sum.inl (x.1 : Int)) (ev_var rfl) (ev_var rfl) (fun H4 e4 => .inr ⟨od, ((e2.trans e3).trans e4) _ _ upd_same⟩) hv
      have hlt := dgE_take q es hn
      have hln := tbs_len hq (es.take n) m
      have hlq := tbs_lq hq (es.take n) m lm
      have hmc : q ^ x.1 * x.2 = x.2 * q ^ x.1 := Nat.mul_comm _ _
      refine s_when (b := true) (et_is (et_test (ev_op (hget H2 (Ex.refl H2)) ev_c rv_I0)) (decide_eq_true (by omega))) (fun _ H3 e3 => ?_) (fun h => nomatch h)
      refine s_asgT (tt_call (ea_cons (ev_var rfl) (ea_cons (ev_var rfl) (ea_cons (hget H3 e3) (ea_cons (ev_var rfl) ea_nil)))) (fun H4 e4 Q q4 E => ⟨q, x.1, x.2, b, tbsN q (es.take n) m, rfl, hq, hx1, hx3, ex_t (e3.trans e4) sb, hlq, by omega, q4⟩)) fun c H4 e4 sc => ?_
      rw [hn2]
      exact ⟨c, _, rfl, (e2.trans e3).trans e4, by rw [take_snocT hn]; unfold tbsN; rw [List.foldl_append]; exact sc⟩
    · obtain ⟨b, y4, rfl, e2, sb⟩ := hw
      rw [List.take_length] at sb
      have hfr := e2 _ _ (upd_same (H := H1) (a := d) (o := .frz od (.dK (kvE es))))
      have sb2 := sqt_unlock hfr sb
      have ex2 := unlock_ex hd1 e2
      generalize hH3 : upd H2 d (.dK (kvE es)) = H3 at *
      have hd3 : H3 d = some (.dK (kvE es)) := by rw [← hH3]; exact upd_same
      refine q_forK (es := es) hd3 (fun _ => ev_var rfl) (fun od n σ H' => ∃ (y4 : Option V), σ = [some (N_ q), some (.ref d), some (.ref a), some (.ref b), y4] ∧ Ex (upd H3 d (.frz od (.dK (kvE es)))) H') (fun od H4 e4 => ⟨_, rfl, e4⟩) (fun od n σ H4 _ hw => ?_) (fun od n x σ H4 D2 hn2 hn hw => ?_) (fun od σ H4 hw => ?_)
      · obtain ⟨y4, rfl, e4⟩ := hw
        exact e4 _ _ upd_same
      · obtain ⟨y4, rfl, e4⟩ := hw
        have hxm : x ∈ es := List.mem_of_getElem? hn
        have hv := val_kvE es hnd x hxm
        refine s_when (b := false) (et_is (et_test (ev_op (ev_dgI (k := Sum.inl (x.1 : Int)) (v := N_ x.2) (ev_var rfl) (ev_var rfl) (fun H5 e5 => .inr ⟨od, (e4.trans e5) _ _ upd_same⟩) hv) ev_c rv_I0)) (decide_eq_false (by omega))) (fun h => nomatch h) (fun _ H5 e5 => ?_)
        rw [hn2]
        exact ⟨_, rfl, e4.trans e5⟩
      · obtain ⟨y4, rfl, e4⟩ := hw
        have ex4 := unlock_ex hd3 e4
        exact s_retT (tt_var (ev_var rfl) (ex_t ex4 sb2)) (kk.go ((e1.trans ex2).trans ex4))


/-- a new dict of exponents -/
def RetE (es : List (Nat × Nat)) (H : Hp) (Q : VK) : Prop := ∀ (d : Addr) H', H d = none → Ex H H' → H' d = some (.dK (kvE es)) → Q (.ref d) H'
section
variable {K : PySem.W.Frag} {σ : L2.St} {H H' : Hp} {ta tb tc te tl tn td tk to ti tv : TE} {t : TT} {D : Ends} {tu tz : TS} {v : V} {tA : TA}
theorem q_asgD0 {i : Nat} (k : ∀ t, H t = none → tz D (σ.set i (some (.ref t))) (upd H t (.dK []))) : tSeq (tAsg tDNewK (gName i)) tz D σ H := k
theorem s_dputV {a : Addr} {kvs : List (Key × V)} {k : Key} (hv : Ev tv σ H v) (ho : Ev to σ H (.ref a)) (hi : Ev ti σ H (kV k)) (hd : H a = some (.dK kvs)) (hz : kvs.length < 100000) (kk : ∀ H1, Ex H H1 → D.nx σ (upd H1 a (.dK (putK kvs k v)))) : sDPut to ti tv D σ H :=
  hv H (Ex.refl H) _ fun H1 e1 => ho H1 e1 _ fun H2 e2 => hi H2 (e1.trans e2) _ fun H3 e3 => ⟨a, _, rfl, DPut.k (k := k) (((e1.trans e2).trans e3) _ _ hd) (sz_lt hz), kk H3 ((e1.trans e2).trans e3)⟩
theorem q_dputV {a : Addr} {kvs : List (Key × V)} {k : Key} (hv : Ev tv σ H v) (ho : Ev to σ H (.ref a)) (hi : Ev ti σ H (kV k)) (hd : H a = some (.dK kvs)) (hz : kvs.length < 100000) (kk : ∀ H1, Ex H H1 → tz D σ (upd H1 a (.dK (putK kvs k v)))) : tSeq (sDPut to ti tv) tz D σ H := s_dputV (D := { D with nx := tz D }) hv ho hi hd hz kk
theorem ev_lenD {a : Addr} {kvs : List (Key × V)} (h : Ev ta σ H (.ref a)) (hd : H a = some (.dK kvs)) : Ev (tCB (fun xs H Q => ∃ a kvs, xs = [V.ref a] ∧ H a = some (.dK kvs) ∧ Q (.int kvs.length) H) (tCons ta tNil)) σ H (.int (kvs.length : Nat)) := fun H1 e Q q =>
  h H1 e _ fun H2 e2 => ⟨a, kvs, rfl, e2 _ _ (e _ _ hd), q H2 e2⟩
theorem q_asgE {i : Nat} {es : List (Nat × Nat)} {sp : Sp} {vs : List V} {E : XK} (h : EvA tA σ H vs) (hs : ∀ H1, Ex H H1 → ∀ Q : VK, RetE es H1 Q → ∀ E, sp vs H1 Q E) (k : ∀ d H1, H d = none → Ex H H1 → H1 d = some (.dK (kvE es)) → tz D (σ.set i (some (.ref d))) H1) : tSeq (tAsg (tCall sp [] E tA) (gName i)) tz D σ H :=
  h H (Ex.refl H) _ fun H1 e1 => by
    rw [List.append_nil]
    exact hs H1 e1 _ (fun d H2 nd e2 hd => k d H2 (fresh_back e1 nd) (e1.trans e2) hd) _
end

section
variable {K : PySem.W.Frag} {σ : L2.St} {H H' : Hp} {ta tb tc te tl tn td tk to ti tv : TE} {t : TT} {D : Ends} {tu tz : TS} {v x y z : V} {tA : TA}
/-- [.. for k in a dict of integers that nobody changes meanwhile] -/
theorem el_lcK {d : Addr} {es : List (Nat × Nat)} {j : Nat} {vs : List Nat} (v : Nat → V) (hd : H d = some (.dK (kvE es))) (h : ∀ H1, Ev tl σ H1 (.ref d)) (hz : es.length ≤ 40000) (hw : ∀ x, wipe ((wipe σ vs).set j (some x)) vs = wipe σ vs)
    (he : ∀ od i x H0 H1, Ex (upd H0 d (.frz od (.dK (kvE es)))) H1 → es[i]? = some x → Ev te ((wipe σ vs).set j (some (N_ x.1))) H1 (v i)) : EvL (tLockE (tLc (iKeys tl) (gName j) tYes te vs)) σ H (given es.length (fun _ => true) v) := fun H1 e Q q =>
  ⟨d, _, e _ _ hd, True.intro, fun od => (h (upd H1 d (.frz od (.dK (kvE es))))) _ (Ex.refl _) _ fun H2 e2 => ⟨d, od, rfl, .inl ⟨kvE es, e2 _ _ upd_same, fun Dl nD => by
    have hl : (kvE es).length = es.length := by unfold kvE; rw [List.length_map]
    have hfr := e2 _ _ (upd_same (H := H1) (a := d) (o := .frz od (.dK (kvE es))))
    refine lc_it (walk_keys (kvs := kvE es)) (Cw H2 (fun _ => true) v Dl) ⟨nD, Ex.new nD, upd_same⟩ (fun i H' _ p => p.2.1 _ _ hfr) (fun i x H' H'' hi p y => ?_) (fun H' p => ?_)
    · obtain ⟨rfl, k, v', hk, rfl⟩ := y
      unfold kvE at hk
      rw [List.getElem?_map] at hk
      obtain ⟨z, hz2, hkv⟩ := Option.map_eq_some_iff.mp hk
      obtain ⟨rfl, rfl⟩ := Prod.mk.inj hkv
      exact ⟨hw _, cw_turn p (by omega) et_nil (fun _ => he od i z H1 H2 e2 hz2)⟩
    · obtain ⟨p1, p2, p3⟩ := p
      have hne : Dl ≠ d := fun z => by rw [z, hfr] at p1; cases p1
      have hn1 : H1 Dl = none := by
        have := fresh_back e2 p1
        rwa [upd_ne hne] at this
      exact ⟨p2 _ _ hfr, q Dl (upd H' d (.dK (kvE es))) hn1 (unlock_ex (e _ _ hd) (e2.trans p2)) (by rw [upd_ne hne, ← hl]; exact p3)⟩⟩⟩⟩
theorem q_par3V {i j l : Nat} (h1 : Ev ta σ H x) (h2 : Ev tb σ H y) (h3 : Ev tc σ H z) (k : ∀ H1, Ex H H1 → tz D (((σ.set i (some x)).set j (some y)).set l (some z)) H1) : tSeq (tPar3 i j l (tCons ta (tCons tb (tCons tc tNil)))) tz D σ H :=
  h1 H (Ex.refl H) _ fun H1 e1 => h2 H1 e1 _ fun H2 e2 => h3 H2 (e1.trans e2) _ fun H3 e3 => ⟨x, y, z, rfl, k H3 ((e1.trans e2).trans e3)⟩
end
theorem given_map {α : Type} (xs : List α) (d : α) (f : α → V) : given xs.length (fun _ => true) (fun i => f (xs.getD i d)) = xs.map f := by
  rw [given_range]
  refine List.ext_getElem? fun i => ?_
  rw [List.getElem?_map, List.getElem?_map]
  by_cases h : i < xs.length
  · rw [List.getElem?_range h]
    show some (f (xs.getD i d)) = _
    rw [List.getD_eq_getElem?_getD, List.getElem?_eq_getElem h]
    rfl
  · rw [List.getElem?_eq_none (by rw [List.length_range]; omega), List.getElem?_eq_none (by omega)]
    rfl
def sp_exponents_degree (K : PySem.W.Frag) : Sp := fun vs H Q _ => ∃ (q : Nat) (d : Addr) (es : List (Nat × Nat)), vs = [N_ q, .ref d] ∧ Fq q ∧ H d = some (.dK (kvE es)) ∧ (es.map (·.1)).Nodup ∧ (∀ x ∈ es, x.1 ≤ 10 ∧ 0 < x.2 ∧ x.2 ≤ 1000) ∧ es.length ≤ 100 ∧ RetV (N_ (dgE q es)) H Q
theorem sv_exponents_degree {K : PySem.W.Frag} {H : Hp} {q : Nat} {d : Addr} {es : List (Nat × Nat)} (hq : Fq q) (hd : H d = some (.dK (kvE es))) (hn : (es.map (·.1)).Nodup) (he : ∀ x ∈ es, x.1 ≤ 10 ∧ 0 < x.2 ∧ x.2 ≤ 1000) (hl : es.length ≤ 100) : SpV (sp_exponents_degree K) [N_ q, .ref d] H (N_ (dgE q es)) := fun H1 e Q k E => ⟨q, d, es, rfl, hq, e _ _ hd, hn, he, hl, k⟩

theorem ok_exponents_degree {P : Program} {w : World} {K : PySem.W.Frag} {mg : Str → Option Value} {base : Heap} (T : Txt K mg) : FnOk P w K mg base CX0 2 T.a_exponents_degree T.d_exponents_degree ["q", "exponents"] (sp_exponents_degree K) := by
  refine T.F_exponents_degree.ok sc_exponents_degree (fun vs H Q E h => ?_) (fun cdv A outer s H vs Q E hr h => ?_)
  · obtain ⟨q, d, es, rfl, _⟩ := h
    rfl
  · obtain ⟨q, d, es, rfl, hq, hd, hnd, hes, hl, kk⟩ := h
    refine ⟨_, (pss_one (ps_ret (pe_callB (cr_sum rfl) (by rfl) T.z_sum (by decide +kernel) (pa_cons (pe_lock (pe_lc (own := [("i", 2)]) (g := gName 2) rfl sc_exponents_degree.nd (pi_keys (pv 1)) (blkOk_by (N := ["q", "exponents", "i"]) (sc := defScope s_exponents_degree) (by decide +kernel)) (fun _ _ _ _ _ => pg_name (i := 2) sc_exponents_degree.nd rfl (Or.inl rfl)) (fun _ _ _ _ _ => pts_nil) (fun _ _ _ _ _ => (pe_op op_mulW (pe_dget (hu_of hr) (pv 1) (pv 2) (fun _ _ => rfl)) (pe_call (ok_whole_power T) (hr.mono (by decide)) (by rfl) T.g_whole_power T.F_whole_power.kp T.b_whole_power .nil pass0 (pa_cons (pv 0) (pa_cons (pv 2) pa_nil))))))) pa_nil)))), ?_⟩
    have hq0 := hq.b
    refine s_ret (ev_is (ev_sumN (ns := (es.map fun x => x.2 * q ^ x.1).map Int.ofNat) (el_is (el_lcK (es := es) (fun i => N_ ((es.getD i (0, 0)).2 * q ^ (es.getD i (0, 0)).1)) hd (fun _ => ev_var rfl) (by omega) (fun _ => rfl) (fun od i x H0 H1 e1 hx => ?_)) ?_)) (congrArg V.int (sumN _))) fun H1 e1 => kk H1 e1
    · have hxm : x ∈ es := List.mem_of_getElem? hx
      obtain ⟨hx1, hx2, hx3⟩ := hes x hxm
      have hpw := pow9 (b := q) (e := x.1) (by omega) hx1
      have hg : es.getD i (0, 0) = x := by rw [List.getD_eq_getElem?_getD, hx]; rfl
      rw [hg]
      exact ev_is (ev_op (ev_dgI (k := Sum.inl (x.1 : Int)) (v := N_ x.2) (ev_var rfl) (ev_var rfl) (fun H4 e4 => .inr ⟨od, (e1.trans e4) _ _ upd_same⟩) (val_kvE es hnd x hxm)) (ev_call (ea_cons (ev_var rfl) (ea_cons (ev_var rfl) ea_nil)) (sv_whole_power (by omega) hx1)) (rv_I (wide_mul (a := 10) (b := 40) (by show x.2 < 1024; omega) (by show q ^ x.1 < 2 ^ 40; exact hpw) (by decide) (by decide) (by decide)))) (congrArg V.int (Int.natCast_mul _ _).symm)
    · rw [given_map es (0, 0) (fun x => N_ (x.2 * q ^ x.1)), List.map_map, List.map_map]
      rfl


def sp_check_made (K : PySem.W.Frag) : Sp := fun vs H Q _ => ∃ (n : Nat), vs = [N_ n] ∧ n ≤ 2000 ∧ RetV .non H Q
theorem sv_check_made {K : PySem.W.Frag} {H : Hp} {n : Nat} (h : n ≤ 2000) : SpV (sp_check_made K) [N_ n] H .non := fun H1 e Q k E => ⟨n, rfl, h, k⟩

theorem ok_check_made {P : Program} {w : World} {K : PySem.W.Frag} {mg : Str → Option Value} {base : Heap} (T : Txt K mg) : FnOk P w K mg base CX0 1 T.a_check_made T.d_check_made ["degree"] (sp_check_made K) := by
  refine T.F_check_made.ok sc_check_made (fun vs H Q E h => ?_) (fun cdv A outer s H vs Q E hr h => ?_)
  · obtain ⟨n, rfl, _⟩ := h
    rfl
  · obtain ⟨n, rfl, hn, kk⟩ := h
    refine ⟨_, (pss_one (ps_if (pt_cmpR op_gt (pv 0) (pe_glob (v := .int 2000) (by rfl) T.c_MAX_MADE ⟨_, rfl⟩) (nomark _)) (pss_one ps_never) pss_nil)), ?_⟩
    exact s_when (b := false) (et_is (et_test (ev_op (ev_var rfl) ev_c rv_I0)) (decide_eq_false (by omega))) (fun h => nomatch h) fun _ H1 e1 => kk H1 e1


end Own
/-! the law's division, common divisors, brackets -/
namespace Own
open PySem PySem.Spec PyProof.Rows L2 Evl

theorem chk_pc : chkAll (fun q => all1 q fun a => all1 q fun b => decide (epF (prE q) (poE q) a b = epF (prE q) (poE q) b a)) = true := by decide +kernel
theorem pE_comm {q a b : Nat} (hq : Fq q) (ha : a < q) (hb : b < q) : pE q a b = pE q b a := by
  rw [pE_F hq ha hb, pE_F hq hb ha]
  exact of_decide_eq_true (all1_get (all1_get (chk_get chk_pc hq) ha) hb)
def ivE (q e : Nat) : Nat := ((List.range q).find? fun b => decide (epF (prE q) (poE q) e b = 1)).getD 0
theorem chk_iv : chkAll (fun q => all1 q fun e => decide (e = 0) || (decide (ivE q e < q) && decide (epF (prE q) (poE q) e (ivE q e) = 1) && all1 (ivE q e) fun b => decide (epF (prE q) (poE q) e b ≠ 1))) = true := by decide +kernel
theorem iv_ok {q e : Nat} (hq : Fq q) (he : e < q) (h0 : e ≠ 0) : ivE q e < q ∧ pE q e (ivE q e) = 1 ∧ ∀ b, b < ivE q e → pE q e b ≠ 1 := by
  have h := all1_get (chk_get chk_iv hq) he
  rw [Bool.or_eq_true, decide_eq_true_eq] at h
  rcases h with h | h
  · exact absurd h h0
  · rw [Bool.and_eq_true, Bool.and_eq_true, decide_eq_true_eq, decide_eq_true_eq] at h
    refine ⟨h.1.1, by rw [pE_F hq he h.1.1]; exact h.1.2, fun b hb => ?_⟩
    rw [pE_F hq he (by omega)]
    exact of_decide_eq_true (all1_get h.2 hb)
theorem chk_og : chkAll (fun q => all1 q fun a => all1 q fun b => decide (oE q (epF (prE q) (poE q) a b) = epF (prE q) (poE q) b (oE q a))) = true := by decide +kernel
theorem og_ok {q a b : Nat} (hq : Fq q) (ha : a < q) (hb : b < q) : oE q (pE q a b) = pE q b (oE q a) := by
  rw [pE_F hq ha hb, pE_F hq hb (oE_lt hq ha)]
  exact of_decide_eq_true (all1_get (all1_get (chk_get chk_og hq) ha) hb)
section
variable {K : PySem.W.Frag} {σ : L2.St} {H H' : Hp} {ta tb tc te tl tn : TE} {t : TT} {D : Ends} {tu tz : TS} {x y : V}
/-- mul[e].index(1) -/
theorem ev_inv {N : Addr → Prop} {a q e : Nat} (hq : Fq q) (h : LLt N H a (row2 pE q)) (ht : Ev tl σ H (.ref a)) (hv : Ev te σ H (N_ e)) (he : e < q) (h0 : e ≠ 0) : Ev (tBM K "list" (rIndex K) (tOp (rIxL K) tl te) (tCons (tC (.int 1)) tNil)) σ H (N_ (ivE q e)) := by
  obtain ⟨hi1, hi2, hi3⟩ := iv_ok hq he h0
  obtain ⟨rs, _, h1, hl, hr⟩ := h
  have hrow := row2_get (g := pE) he
  have hxl : e < rs.length := by rw [hl]; exact (List.getElem?_eq_some_iff.mp hrow).1
  have hxr : rs[e]? = some (rs.getD e 0) := getD_get (xs := rs) hxl
  have hrr := (hr e _ _ hxr hrow).2
  refine fun H1 e1 Q qq => (ev_op ht hv (rv_ixL (v := .ref (rs.getD e 0)) (sq_of h1) (atI_nat (by rw [List.getElem?_map, hxr]; rfl)))) H1 e1 _ fun H2 e2 => ⟨.inl ⟨rfl, _, sq_of ((e1.trans e2) _ _ hrr)⟩, ?_⟩
  refine ev_c H2 (Ex.refl _) _ fun H3 e3 => ⟨rs.getD e 0, _, .int 1, ivE q e, N_ (pE q e (ivE q e)), rfl, rfl, sq_of (((e1.trans e2).trans e3) _ _ hrr), rfl, ?_, ?_, ?_, fun m z' hm hz => ?_, qq H3 (e2.trans e3)⟩
  · rw [List.map_map]
    exact List.all_eq_true.mpr fun z hz => by
      obtain ⟨b, _, rfl⟩ := List.mem_map.mp hz
      rfl
  · rw [List.getElem?_map, col2_get hi1]
    rfl
  · rw [hi2]
    rfl
  · rw [List.getElem?_map, col2_get (by omega)] at hz
    cases hz
    have := hi3 m hm
    show (((pE q e m : Nat) : Int) == 1) = false
    exact beq_eq_false_iff_ne.mpr (by omega)
end

def scN (q e : Nat) (xs : List Nat) : List Nat := trN (xs.map (pE q e))
def sp__law_scaled (K : PySem.W.Frag) : Sp := fun vs H Q _ => ∃ (d a : Addr) (q e : Nat) (xs : List Nat), vs = [.ref d, N_ e, .ref a] ∧ Fq q ∧ FldAt (fun _ => True) H d q ∧ e < q ∧ SqT K H a (xs.map N_) ∧ Lq q xs ∧ xs.length ≤ 3000 ∧ RetU ((scN q e xs).map N_) H Q
theorem sv__law_scaled {K : PySem.W.Frag} {H : Hp} {d a : Addr} {q e : Nat} {xs : List Nat} (hq : Fq q) (hf : FldAt (fun _ => True) H d q) (he : e < q) (hx : SqT K H a (xs.map N_)) (lx : Lq q xs) (hl : xs.length ≤ 3000) : SpU (sp__law_scaled K) [.ref d, N_ e, .ref a] H ((scN q e xs).map N_) := fun H1 e1 Q kk E => ⟨d, a, q, e, xs, rfl, hq, hf.ex e1, he, ex_t e1 hx, lx, hl, kk⟩

theorem ok__law_scaled {P : Program} {w : World} {K : PySem.W.Frag} {mg : Str → Option Value} {base : Heap} (T : Txt K mg) : FnOk P w K mg base CX0 2 T.a__law_scaled T.d__law_scaled ["_law_field_here", "_law_element", "_law_one"] (sp__law_scaled K) := by
  refine T.F__law_scaled.ok sc__law_scaled (fun vs H Q E h => ?_) (fun cdv A outer s H vs Q E hr h => ?_)
  · obtain ⟨d, a, q, e, xs, rfl, _⟩ := h
    rfl
  · obtain ⟨d, a, q, e, xs, rfl, hq, hf, he, hx, lx, hl, kk⟩ := h
    refine ⟨_, (pss_one (ps_ret (pe_call (ok__law_trim T) (hr.mono (by decide)) (by rfl) T.g__law_trim T.F__law_trim.kp T.b__law_trim .nil pass0 (pa_cons (pe_lc (own := [("_law_a", 3)]) (g := gName 3) rfl sc__law_scaled.nd (pi_tup (pv 2)) (blkOk_by (N := ["_law_field_here", "_law_element", "_law_one", "_law_a"]) (sc := defScope s__law_scaled) (by decide +kernel)) (fun _ _ _ _ _ => pg_name (i := 3) sc__law_scaled.nd rfl (Or.inl rfl)) (fun _ _ _ _ _ => pts_nil) (fun _ _ _ _ _ => (pe_ix (r := rIxL K) ix_list (pe_ix (r := rIxL K) ix_list (pe_dget (hu_of hr) (pv 0) pe_str (fun _ _ => rfl)) (pv 1) (fun _ _ => rfl)) (pv 3) (fun _ _ => rfl)))) pa_nil)))), ?_⟩
    obtain ⟨_, kvs, a1, a2, a3, hdk, gq, gp, gf, g1, g2, g3, l1, l2, _, hm_⟩ := id hf
    refine s_retU (eu_call1L (xs := (xs.map (pE q e)).map N_) (el_is (el_lcT (K := K) (a := a) (xs := xs.map N_) (fun _ => true) (fun i => N_ (pE q e (xs.getD i 0))) (ev_var rfl) hx (by rw [List.length_map]; omega) (fun _ => rfl) (fun _ _ _ _ _ => et_nil) (fun i x H2 e2 h5 _ => ?_)) ?_) (fun p H4 e4 h4 => sv__law_trim (K := K) (sq_of h4) (by rw [List.length_map]; omega))) fun p H4 np e4 h4 => kk p H4 np e4 h4
    · have hi1 : i < xs.length := by
        have := (List.getElem?_eq_some_iff.mp h5).1
        rwa [List.length_map] at this
      rw [get_N hi1] at h5
      cases h5
      exact ev_t2 (N := fun _ => True) (l2.ex e2) (ev_dg (ev_var rfl) (e2 _ _ hdk) g2) (ev_var rfl) (ev_var rfl) he (lx.get (by have := hq.b; omega) i)
    · rw [given_range, List.length_map, List.map_map]
      refine List.ext_getElem? fun i => ?_
      rw [List.getElem?_map, List.getElem?_map]
      by_cases hi : i < xs.length
      · rw [List.getElem?_range hi, getD_get hi]
        rfl
      · rw [List.getElem?_eq_none (by rw [List.length_range]; omega), List.getElem?_eq_none (by omega)]
        rfl


theorem atI_lastN {xs : List V} {n : Nat} {v : V} (hl : xs.length = n + 1) (h : xs[n]? = some v) : atI xs (-1) = some v := by
  have e : xs = xs.take n ++ [v] := by
    rw [← take_snocT h, ← hl, List.take_length]
  rw [e]
  exact atI_last _ _
section
variable {K : PySem.W.Frag} {σ : L2.St} {H H' : Hp} {ta tb te : TE} {t : TT}
/-- a list, new or not -/
def EvLs (K : PySem.W.Frag) (te : TE) (σ : L2.St) (H : Hp) (xs : List V) : Prop := ∀ H1, Ex H H1 → ∀ Q : VK, (∀ p H2, Ex H1 H2 → SqL K H2 p xs → Q (.ref p) H2) → te σ H1 Q
theorem ls_new {xs : List V} (h : EvL te σ H xs) : EvLs K te σ H xs := fun H1 e Q q => h H1 e _ fun p H2 np e2 h2 => q p H2 e2 (sq_of h2)
theorem ls_var {a : Addr} {xs : List V} (h : Ev te σ H (.ref a)) (hx : SqL K H a xs) : EvLs K te σ H xs := fun H1 e Q q => h H1 e _ fun H2 e2 => q a H2 e2 (ex_l (e.trans e2) hx)
theorem ls_if {b : Bool} {xs : List V} (ht : EvT t σ H b) (h1 : b = true → ∀ H1, Ex H H1 → EvLs K ta σ H1 xs) (h2 : b = false → ∀ H1, Ex H H1 → EvLs K tb σ H1 xs) : EvLs K (tIf t ta tb) σ H xs := fun H1 e Q q =>
  ht H1 e _ fun H2 e2 => by
    cases b with
    | true => exact h1 rfl H2 (e.trans e2) H2 (Ex.refl H2) Q fun p H3 e3 h3 => q p H3 (e2.trans e3) h3
    | false => exact h2 rfl H2 (e.trans e2) H2 (Ex.refl H2) Q fun p H3 e3 h3 => q p H3 (e2.trans e3) h3
theorem tt_if {b : Bool} {xs : List V} (ht : EvT t σ H b) (h1 : b = true → ∀ H1, Ex H H1 → EvTt K ta σ H1 xs) (h2 : b = false → ∀ H1, Ex H H1 → EvTt K tb σ H1 xs) : EvTt K (tIf t ta tb) σ H xs := fun H1 e Q q =>
  ht H1 e _ fun H2 e2 => by
    cases b with
    | true => exact h1 rfl H2 (e.trans e2) H2 (Ex.refl H2) Q (q.go e2)
    | false => exact h2 rfl H2 (e.trans e2) H2 (Ex.refl H2) Q (q.go e2)
theorem eu_call1S {sp : Sp} {xs ys : List V} {E : XK} (h : EvLs K te σ H xs) (hs : ∀ p H1, Ex H H1 → SqL K H1 p xs → SpU sp [.ref p] H1 ys) : EvU (tCall sp [] E (tCons te tNil)) σ H ys := fun H1 e Q q =>
  h H1 e _ fun p H2 e2 hp => hs p H2 (e.trans e2) hp H2 (Ex.refl H2) Q (fun r H3 nr e3 hr => q r H3 (fresh_back e2 nr) (e2.trans e3) hr) _
end
/-- the division, from the top -/
def ptS (q : Nat) (ys : List Nat) (n bk : Nat) : Nat → List Nat → List Nat → List Nat × List Nat
  | 0, l, f => (l, f)
  | c + 1, l, f => ptS q ys n bk c (if pE q (l.getD (c + n - 1) 0) bk = 0 then l else adA q (oE q (pE q (l.getD (c + n - 1) 0) bk)) ys c l) (f.set c (pE q (l.getD (c + n - 1) 0) bk))
def bkQ (q : Nat) (ys : List Nat) : Nat := ivE q (ys.getD (ys.length - 1) 0)
def ptP (q : Nat) (xs ys : List Nat) : List Nat × List Nat := ptS q ys ys.length (bkQ q ys) (xs.length + 1 - ys.length) xs (List.replicate (xs.length + 1 - ys.length) 0)
def ptQ (q : Nat) (xs ys : List Nat) : List Nat := trN (ptP q xs ys).2
def ptR (q : Nat) (xs ys : List Nat) : List Nat := trN (if ys.length ≤ xs.length then (ptP q xs ys).1.take (ys.length - 1) else (ptP q xs ys).1)
section
variable {K : PySem.W.Frag} {σ : L2.St} {H H' : Hp} {ta tb tc te tl tn : TE} {t : TT} {D : Ends} {tu tz : TS} {x y : V}
theorem q_parLX {i j : Nat} {xs : List V} (h : EvL ta σ H xs) (h2 : Ev tb σ H y) (k : ∀ p H1, H p = none → Ex H H1 → H1 p = some (.lst xs) → tz D ((σ.set i (some (.ref p))).set j (some y)) H1) : tSeq (tPar i j (tCons ta (tCons tb tNil))) tz D σ H :=
  h H (Ex.refl H) _ fun p H1 np e1 hx => h2 H1 e1 _ fun H2 e2 => ⟨.ref p, y, rfl, k p H2 np (e1.trans e2) (e2 _ _ hx)⟩
end
def sp__law_parted (K : PySem.W.Frag) : Sp := fun vs H Q _ => ∃ (d a b : Addr) (q : Nat) (xs ys : List Nat), vs = [.ref d, .ref a, .ref b] ∧ Fq q ∧ FldAt (fun _ => True) H d q ∧ SqT K H a (xs.map N_) ∧ SqT K H b (ys.map N_) ∧ Lq q xs ∧ Lq q ys ∧ 1 ≤ ys.length ∧ ys.getD (ys.length - 1) 0 ≠ 0 ∧ xs.length ≤ 3000 ∧ ys.length ≤ 3000 ∧ ∀ (p r s : Addr) H', Ex H H' → H' p = some (.tup [.ref r, .ref s]) → SqT K H' r ((ptQ q xs ys).map N_) → SqT K H' s ((ptR q xs ys).map N_) → Q (.ref p) H'

theorem ok__law_parted {P : Program} {w : World} {K : PySem.W.Frag} {mg : Str → Option Value} {base : Heap} (T : Txt K mg) : FnOk P w K mg base CX0 2 T.a__law_parted T.d__law_parted ["_law_field_here", "_law_one", "_law_other"] (sp__law_parted K) := by
  refine T.F__law_parted.ok sc__law_parted (fun vs H Q E h => ?_) (fun cdv A outer s H vs Q E hr h => ?_)
  · obtain ⟨d, a, b, q, xs, ys, rfl, _⟩ := h
    rfl
  · obtain ⟨d, a, b, q, xs, ys, rfl, hq, hf, hx, hy, lx, ly, hy1, hne, hlx, hly, kk⟩ := h
    refine ⟨_, (pss_cons (ps_par (i := 3) (j := 4) (by rfl) sc__law_parted.nd rfl rfl (by decide) rfl rfl (pa_cons (pe_callTy call_list_of (by rfl) T.z_list (by decide +kernel) (pa_cons (pv 1) pa_nil)) (pa_cons (pe_callB call_len_seq (by rfl) T.z_len (by decide +kernel) (pa_cons (pv 2) pa_nil)) pa_nil)) (by rfl))
      (pss_cons (ps_set (i := 5) sc__law_parted.nd rfl (Or.inl rfl) (pe_bm PySem.F.plainAttrs_list PySem.F.slot_list_index PySem.F.type_list_index mt_index (pe_ix (r := rIxL K) ix_list (pe_dget (hu_of hr) (pv 0) pe_str (fun _ _ => rfl)) (pe_ix (r := rIxT K) ix_tup (pv 2) (pe_un un_neg pe_int) (fun _ _ => rfl)) (fun _ _ => rfl)) (pa_cons pe_int pa_nil)))
      (pss_cons (ps_set (i := 6) sc__law_parted.nd rfl (Or.inl rfl) (pe_op op_rep (pe_lst (pa_cons pe_int pa_nil)) (pe_callB (call_max2 rfl) (by rfl) T.z_max (by decide +kernel) (pa_cons pe_int (pa_cons (pe_op op_add (pe_op op_sub (pe_callB call_len_seq (by rfl) T.z_len (by decide +kernel) (pa_cons (pv 1) pa_nil)) (pv 4)) pe_int) pa_nil)))))
      (pss_cons (ps_for PassesOwn.never rfl (pi_range3 rfl T.z_range (pa_cons (pe_op op_sub (pe_callB call_len_seq (by rfl) T.z_len (by decide +kernel) (pa_cons (pv 6) pa_nil)) pe_int) (pa_cons (pe_un un_neg pe_int) (pa_cons (pe_un un_neg pe_int) pa_nil)))) (pg_name (i := 7) sc__law_parted.nd rfl (Or.inl rfl)) (pss_cons (ps_set (i := 8) sc__law_parted.nd rfl (Or.inl rfl) (pe_ix (r := rIxL K) ix_list (pe_ix (r := rIxL K) ix_list (pe_dget (hu_of hr) (pv 0) pe_str (fun _ _ => rfl)) (pe_ix (r := rIxL K) ix_list (pv 3) (pe_op op_sub (pe_op op_add (pv 7) (pv 4)) pe_int) (fun _ _ => rfl)) (fun _ _ => rfl)) (pv 5) (fun _ _ => rfl)))
      (pss_cons (ps_asg (pv 8) (pg_sub (pv 6) (pv 7) set_list))
      (pss_one (ps_if (pt_cmpR op_ne (pv 8) pe_int (nomark _)) (pss_one (ps_for PassesOwn.never rfl (pi_range1 rfl T.z_range (pa_cons (pv 4) pa_nil)) (pg_name (i := 9) sc__law_parted.nd rfl (Or.inl rfl)) (pss_one (ps_asg (pe_ix (r := rIxL K) ix_list (pe_ix (r := rIxL K) ix_list (pe_dget (hu_of hr) (pv 0) pe_str (fun _ _ => rfl)) (pe_ix (r := rIxL K) ix_list (pv 3) (pe_op op_add (pv 7) (pv 9)) (fun _ _ => rfl)) (fun _ _ => rfl)) (pe_ix (r := rIxL K) ix_list (pe_dget (hu_of hr) (pv 0) pe_str (fun _ _ => rfl)) (pe_ix (r := rIxL K) ix_list (pe_ix (r := rIxL K) ix_list (pe_dget (hu_of hr) (pv 0) pe_str (fun _ _ => rfl)) (pv 8) (fun _ _ => rfl)) (pe_ix (r := rIxT K) ix_tup (pv 2) (pv 9) (fun _ _ => rfl)) (fun _ _ => rfl)) (fun _ _ => rfl)) (fun _ _ => rfl)) (pg_sub (pv 3) (pe_op op_add (pv 7) (pv 9)) set_list))))) pss_nil)))))
      (pss_one (ps_ret (pe_tup (pa_cons (pe_call (ok__law_trim T) (hr.mono (by decide)) (by rfl) T.g__law_trim T.F__law_trim.kp T.b__law_trim .nil pass0 (pa_cons (pv 6) pa_nil)) (pa_cons (pe_call (ok__law_trim T) (hr.mono (by decide)) (by rfl) T.g__law_trim T.F__law_trim.kp T.b__law_trim .nil pass0 (pa_cons (pe_ifExp (pt_cmpR op_ge (pe_callB call_len_seq (by rfl) T.z_len (by decide +kernel) (pa_cons (pv 1) pa_nil)) (pv 4) (nomark _)) (pe_slice sl_list (pv 3) po_none (po_some (pe_op op_sub (pv 4) pe_int))) (pv 3)) pa_nil)) pa_nil))))))))), ?_⟩
    have hq0 := hq.b
    obtain ⟨_, kvs, a1, a2, a3, hdk, gq, gp, gf, g1, g2, g3, l1, l2, _, hmi⟩ := id hf
    have hlast : ys.getD (ys.length - 1) 0 < q := ly.get (by omega) _
    obtain ⟨hiv, _, _⟩ := iv_ok hq hlast hne
    refine q_parLX (xs := xs.map N_) (y := N_ ys.length) (el_listT (K := K) (ev_var rfl) hx) (ev_is (ev_cb (r := rLenQ K) (ea_cons (ev_var rfl) ea_nil) (rc_lenT hy)) (by rw [List.length_map])) fun l0 H1 nl0 e1 h1 => ?_
    refine q_asg (v := N_ (bkQ q ys)) (ev_inv (K := K) (N := fun _ => True) hq (l2.ex e1) (ev_dg (ev_var rfl) (e1 _ _ hdk) g2) (ev_op (ev_var rfl) (ev_un ev_c ru_neg) (rv_ixT (ex_t e1 hy) (v := N_ (ys.getD (ys.length - 1) 0)) ?_)) hlast hne) fun H2 e2 => ?_
    · show atI (ys.map N_) (-1) = some _
      exact atI_lastN (n := ys.length - 1) (by rw [List.length_map]; omega) (get_N (by omega))
    generalize hc : xs.length + 1 - ys.length = C at *
    refine q_asgL (xs := (List.replicate C 0).map N_) (el_is (el_rep (xs := [V.int 0]) (k := (C : Int)) (el_lst (ea_cons ev_c ea_nil) (by show 1 ≤ 100000; decide)) (ev_is (ev_cb (ea_cons ev_c (ea_cons (ev_op (ev_op (ev_is (ev_cb (r := rLenQ K) (ea_cons (ev_var rfl) ea_nil) (rc_lenT (ex_t (e1.trans e2) hx))) (by rw [List.length_map])) (ev_var rfl) rv_I0) ev_c rv_I0) ea_nil)) rc_max2) (congrArg V.int (by split <;> omega))) (by omega) (by show 1 * _ ≤ 100000; omega) (by omega)) (by rw [Int.toNat_natCast, rep_flat])) fun f0 H3 nf0 e3 h3 => ?_
    have hlf : l0 ≠ f0 := fun z => by
      have := (e2.trans e3) _ _ h1
      have hn := fresh_back (Ex.refl H) nl0
      rw [z] at h1
      have h9 := e2 _ _ h1
      rw [h9] at nf0
      cases nf0
    have e03 := (e1.trans e2).trans e3
    have hbk : bkQ q ys < q := hiv
    refine q_forRd (lo := (C : Int) - 1) (n := -1) (ea_cons (ev_op (ev_is (ev_cb (r := rLenQ K) (ea_cons (ev_var rfl) ea_nil) (rc_lenL (sq_of h3))) (by rw [List.length_map, List.length_replicate])) ev_c rv_I0) (ea_cons (ev_un ev_c ru_neg) (ea_cons (ev_un ev_c ru_neg) ea_nil))) ⟨by omega, by omega, by decide, by decide⟩ (fun i σ H' => ∃ (l f : List Nat) (y7 y8 y9 : Option V), σ = [some (.ref d), some (.ref a), some (.ref b), some (.ref l0), some (N_ ys.length), some (N_ (bkQ q ys)), some (.ref f0), y7, y8, y9] ∧ Ex H H' ∧ H' l0 = some (.lst (l.map N_)) ∧ H' f0 = some (.lst (f.map N_)) ∧ l.length = xs.length ∧ f.length = C ∧ Lq q l ∧ ptS q ys ys.length (bkQ q ys) (C - i) l f = ptP q xs ys) (fun H4 e4 => ⟨xs, List.replicate C 0, none, none, none, rfl, e03.trans e4, e4 _ _ ((e2.trans e3) _ _ h1), e4 _ _ h3, rfl, List.length_replicate, lx, by unfold ptP; rw [hc, Nat.sub_zero]⟩) (fun i σ H4 hi hw => ?_) (fun σ H4 hw => ?_)
    · obtain ⟨l, f, y7, y8, y9, rfl, e4, hl4, hf4, hll, hfl, lql, hpt⟩ := hw
      have hiC : i < C := by omega
      obtain ⟨c, hci⟩ : ∃ c, C - i = c + 1 := ⟨C - i - 1, by omega⟩
      rw [hci] at hpt
      have hcx : c + ys.length - 1 < l.length := by omega
      have hat : ((C : Int) - 1 - (i : Int)) = (c : Int) := by omega
      rw [hat]
      have hlc := lql.get (by omega) (c + ys.length - 1)
      generalize hF : pE q (l.getD (c + ys.length - 1) 0) (bkQ q ys) = F at *
      have hFq : F < q := by rw [← hF]; exact pE_lt hq hlc hbk
      have hstep : ptS q ys ys.length (bkQ q ys) (c + 1) l f = ptS q ys ys.length (bkQ q ys) c (if F = 0 then l else adA q (oE q F) ys c l) (f.set c F) := by
        show ptS q ys ys.length (bkQ q ys) c (if pE q (l.getD (c + ys.length - 1) 0) (bkQ q ys) = 0 then _ else _) _ = _
        rw [hF]
      rw [hstep] at hpt
      refine q_asg (v := N_ F) (ev_is (ev_t2 (N := fun _ => True) (l2.ex e4) (ev_dg (ev_var rfl) (e4 _ _ hdk) g2) (ev_op (ev_var rfl) (ev_op (ev_op (ev_var rfl) (ev_var rfl) rv_I0) ev_c rv_I0) (rv_ixL (v := N_ (l.getD (c + ys.length - 1) 0)) (sq_of hl4) (by rw [show ((c : Int) + (ys.length : Int) - 1) = ((c + ys.length - 1 : Nat) : Int) by omega]; exact atI_nat (get_N hcx)))) (ev_var rfl) hlc hbk) (by rw [hF])) fun H5 e5 => ?_
      refine q_setL (j := c) (v := N_ F) (e5 _ _ hf4) (ev_var rfl) (ev_var rfl) (ev_var rfl) (by rw [List.length_map]; omega) fun H6 e6 => ?_
      have e46 : Ex H (upd H6 f0 (.lst ((f.map N_).set c (N_ F)))) := Ex.mut ((e4.trans e5).trans e6) (fresh_back (e1.trans e2) nf0)
      have hl6 : (upd H6 f0 (.lst ((f.map N_).set c (N_ F)))) l0 = some (.lst (l.map N_)) := by rw [upd_ne hlf]; exact (e5.trans e6) _ _ hl4
      have hf6 : (upd H6 f0 (.lst ((f.map N_).set c (N_ F)))) f0 = some (.lst ((f.set c F).map N_)) := by rw [upd_same, List.map_set]
      generalize upd H6 f0 (.lst ((f.map N_).set c (N_ F))) = HX at *
      have hsub : C - (i + 1) = c := by omega
      refine s_when (b := !decide (F = 0)) (et_is (et_test (ev_op (ev_var rfl) ev_c (rv_ne rfl))) (congrArg (fun b => !b) (dec_int (y := 0)))) (fun hb2 H7 e7 => ?_) (fun hb2 H7 e7 => ?_)
      · have hF0 : F ≠ 0 := by
          rw [Bool.not_eq_true', decide_eq_false_iff_not] at hb2
          exact hb2
        rw [if_neg hF0] at hpt
        have hoF := oE_lt hq hFq
        refine s_forR1 (n := (ys.length : Int)) (ea_cons (ev_var rfl) ea_nil) ⟨by omega, by omega⟩ (fun j σ H' => ∃ (y9 : Option V), σ = [some (.ref d), some (.ref a), some (.ref b), some (.ref l0), some (N_ ys.length), some (N_ (bkQ q ys)), some (.ref f0), some (N_ c), some (N_ F), y9] ∧ Ex H H' ∧ H' l0 = some (.lst ((adA q (oE q F) (ys.take j) c l).map N_)) ∧ H' f0 = some (.lst ((f.set c F).map N_))) (fun H8 e8 => ⟨y9, rfl, (e46.trans e7).trans e8, by rw [List.take_zero, adA_zero]; exact (e7.trans e8) _ _ hl6, (e7.trans e8) _ _ hf6⟩) (fun j σ H8 hj hw => ?_) (fun σ H8 hw => ?_)
        · obtain ⟨y9, rfl, e8, hl8, hf8⟩ := hw
          have hjl : j < ys.length := by omega
          have hjc : j + c < l.length := by omega
          obtain ⟨hg, hs⟩ := adA_step q (oE q F) ys c l j _ _ (getD_get hjl) (getD_get hjc)
          have hla : (adA q (oE q F) (ys.take j) c l).length = l.length := adA_len ..
          have hga : (adA q (oE q F) (ys.take j) c l).getD (j + c) 0 = l.getD (j + c) 0 := by
            rw [List.getD_eq_getElem?_getD, hg]
            rfl
          have hyj := ly.get (by omega) j
          have hpl : ∀ H9, Ex H8 H9 → Ev (tOp (rI0 fun i j => V.int (i + j)) (tVar 7) (tVar 9)) [some (.ref d), some (.ref a), some (.ref b), some (.ref l0), some (N_ ys.length), some (N_ (bkQ q ys)), some (.ref f0), some (N_ c), some (N_ F), some (N_ j)] H9 (.int ((j + c : Nat) : Int)) := fun H9 e9 => ev_is (ev_op (ev_var rfl) (ev_var rfl) rv_I0) (congrArg V.int (by omega))
          have dk8 := e8 _ _ hdk
          refine s_setL (j := j + c) (v := N_ (sE q (l.getD (j + c) 0) (pE q (ys.getD j 0) (oE q F)))) hl8 (ev_is (ev_t2 (K := K) (N := fun _ => True) (l1.ex e8) (ev_dg (ev_var rfl) dk8 g1) (ev_op (ev_var rfl) (hpl H8 (Ex.refl H8)) (rv_ixL (v := N_ (l.getD (j + c) 0)) (sq_of hl8) (atI_nat (by rw [get_N (by rw [hla]; exact hjc), hga])))) (ev_op (ev_dg (ev_var rfl) dk8 g3) (ev_t2 (K := K) (N := fun _ => True) (l2.ex e8) (ev_dg (ev_var rfl) dk8 g2) (ev_var rfl) (ev_op (ev_var rfl) (ev_var rfl) (rv_ixT (v := N_ (ys.getD j 0)) (ex_t e8 hy) (atI_nat (get_N hjl)))) hFq hyj) (rv_ixL (v := N_ (oE q (pE q F (ys.getD j 0)))) (sq_of (e8 _ _ hmi)) (atI_nat (by rw [List.getElem?_map, List.getElem?_map, List.getElem?_range (pE_lt hq hFq hyj)]; rfl)))) (lql.get (by omega) _) (oE_lt hq (pE_lt hq hFq hyj))) (by rw [og_ok hq hFq hyj])) (ev_var rfl) (hpl H8 (Ex.refl H8)) (by rw [List.length_map, hla]; exact hjc) fun H9 e9 => ?_
          refine ⟨_, rfl, Ex.mut (e8.trans e9) nl0, ?_, by rw [upd_ne (Ne.symm hlf)]; exact e9 _ _ hf8⟩
          rw [upd_same, hs, List.map_set]
        · obtain ⟨y9, rfl, e8, hl8, hf8⟩ := hw
          rw [Int.toNat_natCast, List.take_length] at hl8
          refine ⟨adA q (oE q F) ys c l, f.set c F, _, _, _, rfl, e8, hl8, hf8, by rw [adA_len]; exact hll, by rw [List.length_set]; exact hfl, adA_lq hq hoF ly c l lql, by rw [hsub]; exact hpt⟩
      · have hF0 : F = 0 := by
          rw [Bool.not_eq_false', decide_eq_true_eq] at hb2
          exact hb2
        rw [if_pos hF0] at hpt
        exact ⟨l, f.set c F, _, _, _, rfl, e46.trans e7, e7 _ _ hl6, e7 _ _ hf6, hll, by rw [List.length_set]; exact hfl, lql, by rw [hsub]; exact hpt⟩
    · obtain ⟨l, f, y7, y8, y9, rfl, e4, hl4, hf4, hll, hfl, lql, hpt⟩ := hw
      rw [show ((C : Int) - 1 - -1).toNat = C by omega, Nat.sub_self] at hpt
      have hpt : (l, f) = ptP q xs ys := hpt
      have hQ : ptQ q xs ys = trN f := by unfold ptQ; rw [← hpt]
      have hR : ptR q xs ys = trN (if ys.length ≤ xs.length then l.take (ys.length - 1) else l) := by unfold ptR; rw [← hpt]
      refine (eu_call (ea_cons (ev_var rfl) ea_nil) (sv__law_trim (K := K) (xs := f) (sq_of hf4) (by omega))) H4 (Ex.refl _) _ fun r H5 nr e5 h5 => ?_
      have hl5 := e5 _ _ hl4
      refine (eu_call1S (K := K) (xs := (if ys.length ≤ xs.length then l.take (ys.length - 1) else l).map N_) (ls_if (b := decide (ys.length ≤ xs.length)) (et_is (et_test (ev_op (ev_is (ev_cb (r := rLenQ K) (ea_cons (ev_var rfl) ea_nil) (rc_lenT (ex_t (e4.trans e5) hx))) (by rw [List.length_map])) (ev_var rfl) rv_I0)) (decide_eq_decide.mpr (by omega))) (fun hb H6 e6 => ?_) (fun hb H6 e6 => ?_)) (fun p H6 e6 h6 => sv__law_trim (K := K) h6 ?_)) H5 (Ex.refl _) _ fun s H6 ns e6 h6 => ⟨by show 2 ≤ sizeLine; decide, fun p np => ?_⟩
      · rw [if_pos (of_decide_eq_true hb)]
        exact ls_new (el_is (el_sl (K := K) (ev_var rfl) eo_none (eo_some (ev_is (w := N_ (ys.length - 1)) (ev_op (ev_var rfl) ev_c rv_I0) (congrArg V.int (by omega)))) (sq_of (e6 _ _ hl5))) (by rw [cutTake, List.map_take]))
      · rw [if_neg (of_decide_eq_false hb)]
        exact ls_var (ev_var rfl) (sq_of (e6 _ _ hl5))
      · split
        · rw [List.length_take]; omega
        · omega
      · exact kk p r s _ (((e4.trans e5).trans e6).trans (Ex.new np)) upd_same (by rw [hQ]; exact ex_t (Ex.new np) (st_of (e6 _ _ h5))) (by rw [hR]; exact ex_t (Ex.new np) (st_of h6))


theorem pt_len {q : Nat} (ys : List Nat) (n bk : Nat) : ∀ (c : Nat) (l f : List Nat), (ptS q ys n bk c l f).1.length = l.length ∧ (ptS q ys n bk c l f).2.length = f.length
  | 0, l, f => ⟨rfl, rfl⟩
  | c + 1, l, f => by
    obtain ⟨h1, h2⟩ := pt_len (q := q) ys n bk c (if pE q (l.getD (c + n - 1) 0) bk = 0 then l else adA q (oE q (pE q (l.getD (c + n - 1) 0) bk)) ys c l) (f.set c (pE q (l.getD (c + n - 1) 0) bk))
    refine ⟨?_, ?_⟩
    · show (ptS q ys n bk c _ _).1.length = _
      rw [h1]
      split
      · rfl
      · rw [adA_len]
    · show (ptS q ys n bk c _ _).2.length = _
      rw [h2, List.length_set]
theorem pt_lq {q : Nat} (hq : Fq q) {ys : List Nat} (ly : Lq q ys) (n : Nat) {bk : Nat} (hb : bk < q) : ∀ (c : Nat) (l f : List Nat), Lq q l → Lq q f → Lq q (ptS q ys n bk c l f).1 ∧ Lq q (ptS q ys n bk c l f).2
  | 0, l, f, h1, h2 => ⟨h1, h2⟩
  | c + 1, l, f, h1, h2 => by
    have h0 : 0 < q := by have := hq.b; omega
    have hF := pE_lt hq (h1.get h0 (c + n - 1)) hb
    refine pt_lq hq ly n hb c _ _ ?_ ?_
    · split
      · exact h1
      · exact adA_lq hq (oE_lt hq hF) ly c l h1
    · intro z hz
      rcases List.mem_or_eq_of_mem_set hz with hz | hz
      · exact h2 z hz
      · rw [hz]; exact hF
theorem tr_lq {q : Nat} {xs : List Nat} (h : Lq q xs) : Lq q (trN xs) := fun z hz => h z (tr_mem hz)
theorem ptP_lq {q : Nat} (hq : Fq q) {xs ys : List Nat} (lx : Lq q xs) (ly : Lq q ys) (hy : 1 ≤ ys.length) (hne : ys.getD (ys.length - 1) 0 ≠ 0) : Lq q (ptQ q xs ys) ∧ Lq q (ptR q xs ys) := by
  have h0 : 0 < q := by have := hq.b; omega
  have hb := (iv_ok hq (ly.get h0 (ys.length - 1)) hne).1
  obtain ⟨h1, h2⟩ := pt_lq hq ly ys.length (bk := bkQ q ys) hb (xs.length + 1 - ys.length) xs (List.replicate (xs.length + 1 - ys.length) 0) lx (fun z hz => by rw [(List.mem_replicate.mp hz).2]; exact h0)
  refine ⟨tr_lq h2, tr_lq ?_⟩
  split
  · exact fun z hz => h1 z (List.mem_of_mem_take hz)
  · exact h1
theorem tr_le (xs : List Nat) : (trN xs).length ≤ xs.length := (tr_take xs).2.1
theorem ptR_len {q : Nat} (xs ys : List Nat) (hy : 1 ≤ ys.length) : (ptR q xs ys).length < ys.length := by
  unfold ptR
  refine Nat.lt_of_le_of_lt (tr_le _) ?_
  split
  · rw [List.length_take]; omega
  · rename_i h
    have := (pt_len (q := q) ys ys.length (bkQ q ys) (xs.length + 1 - ys.length) xs (List.replicate (xs.length + 1 - ys.length) 0)).1
    unfold ptP
    omega
theorem ptQ_len {q : Nat} (xs ys : List Nat) : (ptQ q xs ys).length ≤ xs.length + 1 - ys.length := by
  unfold ptQ
  refine Nat.le_trans (tr_le _) ?_
  have := (pt_len (q := q) ys ys.length (bkQ q ys) (xs.length + 1 - ys.length) xs (List.replicate (xs.length + 1 - ys.length) 0)).2
  rw [List.length_replicate] at this
  unfold ptP
  omega
def Tr (xs : List Nat) : Prop := xs.length ≠ 0 → xs.getD (xs.length - 1) 0 ≠ 0
theorem tr_tr (xs : List Nat) : Tr (trN xs) := fun h => by
  obtain ⟨_, _, h3, _⟩ := tr_take xs
  rw [tr_getD]
  exact h3 h
/-- a part of the division -/
theorem tt_parted {K : PySem.W.Frag} {σ : L2.St} {H : Hp} {ta : TA} {E : XK} {d a b : Addr} {q : Nat} {xs ys : List Nat} (one : Bool) (h : EvA ta σ H [.ref d, .ref a, .ref b]) (hq : Fq q) (hf : FldAt (fun _ => True) H d q) (hx : SqT K H a (xs.map N_)) (hy : SqT K H b (ys.map N_)) (lx : Lq q xs) (ly : Lq q ys) (hy1 : 1 ≤ ys.length) (hne : ys.getD (ys.length - 1) 0 ≠ 0) (hlx : xs.length ≤ 3000) (hly : ys.length ≤ 3000) :
    EvTt K (tOp (rIxT K) (tCall (sp__law_parted K) [] E ta) (tC (.int (if one then 1 else 0)))) σ H ((if one then ptR q xs ys else ptQ q xs ys).map N_) := fun H0 e0 Q kk =>
  h H0 e0 _ fun H1 e1 => ⟨d, a, b, q, xs, ys, rfl, hq, (hf.ex e0).ex e1, ex_t (e0.trans e1) hx, ex_t (e0.trans e1) hy, lx, ly, hy1, hne, hlx, hly, fun p r s H2 e2 h2 sr ss => by
    cases one with
    | true => exact (ev_op (σ := σ) (H := H2) (ta := tC (.ref p)) (tb := tC (.int 1)) ev_c ev_c (rv_ixT (K := K) (v := .ref s) (st_of h2) rfl)) H2 (Ex.refl _) _ fun H3 e3 => kk s H3 ((e1.trans e2).trans e3) (ex_t e3 ss)
    | false => exact (ev_op (σ := σ) (H := H2) (ta := tC (.ref p)) (tb := tC (.int 0)) ev_c ev_c (rv_ixT (K := K) (v := .ref r) (st_of h2) rfl)) H2 (Ex.refl _) _ fun H3 e3 => kk r H3 ((e1.trans e2).trans e3) (ex_t e3 sr)⟩
def sp__law_rest (K : PySem.W.Frag) : Sp := fun vs H Q _ => ∃ (d a b : Addr) (q : Nat) (xs ys : List Nat), vs = [.ref d, .ref a, .ref b] ∧ Fq q ∧ FldAt (fun _ => True) H d q ∧ SqT K H a (xs.map N_) ∧ SqT K H b (ys.map N_) ∧ Lq q xs ∧ Lq q ys ∧ 1 ≤ ys.length ∧ ys.getD (ys.length - 1) 0 ≠ 0 ∧ xs.length ≤ 3000 ∧ ys.length ≤ 3000 ∧ RetTt K ((ptR q xs ys).map N_) H Q
theorem sv__law_rest {K : PySem.W.Frag} {H : Hp} {d a b : Addr} {q : Nat} {xs ys : List Nat} (hq : Fq q) (hf : FldAt (fun _ => True) H d q) (hx : SqT K H a (xs.map N_)) (hy : SqT K H b (ys.map N_)) (lx : Lq q xs) (ly : Lq q ys) (hy1 : 1 ≤ ys.length) (hne : ys.getD (ys.length - 1) 0 ≠ 0) (hlx : xs.length ≤ 3000) (hly : ys.length ≤ 3000) : ∀ H1, Ex H H1 → ∀ Q : VK, RetTt K ((ptR q xs ys).map N_) H1 Q → ∀ E, sp__law_rest K [.ref d, .ref a, .ref b] H1 Q E := fun H1 e1 Q kk E => ⟨d, a, b, q, xs, ys, rfl, hq, hf.ex e1, ex_t e1 hx, ex_t e1 hy, lx, ly, hy1, hne, hlx, hly, kk⟩

theorem ok__law_rest {P : Program} {w : World} {K : PySem.W.Frag} {mg : Str → Option Value} {base : Heap} (T : Txt K mg) : FnOk P w K mg base CX0 3 T.a__law_rest T.d__law_rest ["_law_field_here", "_law_one", "_law_other"] (sp__law_rest K) := by
  refine T.F__law_rest.ok sc__law_rest (fun vs H Q E h => ?_) (fun cdv A outer s H vs Q E hr h => ?_)
  · obtain ⟨d, a, b, q, xs, ys, rfl, _⟩ := h
    rfl
  · obtain ⟨d, a, b, q, xs, ys, rfl, hq, hf, hx, hy, lx, ly, hy1, hne, hlx, hly, kk⟩ := h
    refine ⟨_, (pss_one (ps_ret (pe_ix (r := rIxT K) ix_tup (pe_call (ok__law_parted T) (hr.mono (by decide)) (by rfl) T.g__law_parted T.F__law_parted.kp T.b__law_parted .nil pass0 (pa_cons (pv 0) (pa_cons (pv 1) (pa_cons (pv 2) pa_nil)))) pe_int (fun _ _ => rfl)))), ?_⟩
    exact s_retT (tt_parted (K := K) true (ea_cons (ev_var rfl) (ea_cons (ev_var rfl) (ea_cons (ev_var rfl) ea_nil))) hq hf hx hy lx ly hy1 hne hlx hly) kk


def mcN (q : Nat) (xs : List Nat) : List Nat := if xs = [] then [] else scN q (ivE q (xs.getD (xs.length - 1) 0)) xs
def sp__law_monic_of (K : PySem.W.Frag) : Sp := fun vs H Q _ => ∃ (d a : Addr) (q : Nat) (xs : List Nat), vs = [.ref d, .ref a] ∧ Fq q ∧ FldAt (fun _ => True) H d q ∧ SqT K H a (xs.map N_) ∧ Lq q xs ∧ Tr xs ∧ xs.length ≤ 3000 ∧ RetTt K ((mcN q xs).map N_) H Q

theorem ok__law_monic_of {P : Program} {w : World} {K : PySem.W.Frag} {mg : Str → Option Value} {base : Heap} (T : Txt K mg) : FnOk P w K mg base CX0 3 T.a__law_monic_of T.d__law_monic_of ["_law_field_here", "_law_one"] (sp__law_monic_of K) := by
  refine T.F__law_monic_of.ok sc__law_monic_of (fun vs H Q E h => ?_) (fun cdv A outer s H vs Q E hr h => ?_)
  · obtain ⟨d, a, q, xs, rfl, _⟩ := h
    rfl
  · obtain ⟨d, a, q, xs, rfl, hq, hf, hx, lx, htr, hl, kk⟩ := h
    refine ⟨_, (pss_one (ps_ret (pe_ifExp (pt_cmpR (op_neD hr.units) (pv 1) (pe_tup pa_nil) (nomark _)) (pe_call (ok__law_scaled T) (hr.mono (by decide)) (by rfl) T.g__law_scaled T.F__law_scaled.kp T.b__law_scaled .nil pass0 (pa_cons (pv 0) (pa_cons (pe_bm PySem.F.plainAttrs_list PySem.F.slot_list_index PySem.F.type_list_index mt_index (pe_ix (r := rIxL K) ix_list (pe_dget (hu_of hr) (pv 0) pe_str (fun _ _ => rfl)) (pe_ix (r := rIxT K) ix_tup (pv 1) (pe_un un_neg pe_int) (fun _ _ => rfl)) (fun _ _ => rfl)) (pa_cons pe_int pa_nil)) (pa_cons (pv 1) pa_nil)))) (pe_tup pa_nil)))), ?_⟩
    have hq0 := hq.b
    refine (tt_if (K := K) (b := !decide (xs = [])) (et_test (ev_neNil (K := K) (ev_var rfl) hx)) (fun hb H1 e1 => ?_) (fun hb H1 e1 => ?_)) H (Ex.refl H) _ kk
    · rw [Bool.not_eq_true', decide_eq_false_iff_not] at hb
      have hlen := List.length_pos_iff.mpr hb
      have hlast := lx.get (by omega) (xs.length - 1)
      have hne := htr (by omega)
      obtain ⟨hi1, _, _⟩ := iv_ok hq hlast hne
      obtain ⟨_, kvs, a1, a2, a3, hdk, gq, gp, gf, g1, g2, g3, l1, l2, _, hmi⟩ := hf.ex e1
      have he : mcN q xs = scN q (ivE q (xs.getD (xs.length - 1) 0)) xs := by unfold mcN; rw [if_neg hb]
      rw [he]
      exact tt_new (eu_call (ea_cons (ev_var rfl) (ea_cons (ev_inv (K := K) (N := fun _ => True) hq l2 (ev_dg (ev_var rfl) hdk g2) (ev_op (ev_var rfl) (ev_un ev_c ru_neg) (rv_ixT (ex_t e1 hx) (v := N_ (xs.getD (xs.length - 1) 0)) (by
        show atI (xs.map N_) (-1) = some _
        exact atI_lastN (n := xs.length - 1) (by rw [List.length_map]; omega) (get_N (by omega))))) hlast hne) (ea_cons (ev_var rfl) ea_nil))) (sv__law_scaled (K := K) hq (hf.ex e1) hi1 (ex_t e1 hx) lx hl))
    · rw [Bool.not_eq_false', decide_eq_true_eq] at hb
      have he : mcN q xs = [] := by unfold mcN; rw [if_pos hb]
      rw [he]
      exact tt_new (eu_tup (vs := []) ea_nil (by decide))


/-- common divisors -/
def cmS (q : Nat) : Nat → List Nat → List Nat → List Nat
  | 0, xs, _ => xs
  | n + 1, xs, ys => if ys = [] then xs else cmS q n ys (ptR q xs ys)
def cmN (q : Nat) (xs ys : List Nat) : List Nat := mcN q (cmS q ys.length xs ys)
theorem tr_ne {xs : List Nat} (i : Nat) (h : xs.getD i 0 ≠ 0) : trN xs ≠ [] := fun z => by
  obtain ⟨_, _, _, h4⟩ := tr_take xs
  rw [z] at h4
  exact h (h4 i (Nat.zero_le _))
structure RowOk (q m : Nat) (xs : List Nat) : Prop where
  l : Lq q xs
  t : Tr xs
  n : xs ≠ []
  z : xs.length ≤ m
theorem RowOk.last {q m : Nat} {xs : List Nat} (h : RowOk q m xs) : xs.getD (xs.length - 1) 0 ≠ 0 := h.t (fun z => h.n (List.length_eq_zero_iff.mp z))
theorem RowOk.pos {q m : Nat} {xs : List Nat} (h : RowOk q m xs) : 1 ≤ xs.length := List.length_pos_iff.mpr h.n
theorem RowOk.le {q m n : Nat} {xs : List Nat} (h : RowOk q m xs) (e : m ≤ n) : RowOk q n xs := ⟨h.l, h.t, h.n, Nat.le_trans h.z e⟩
theorem mc_ok {q m : Nat} (hq : Fq q) {xs : List Nat} (h : RowOk q m xs) : RowOk q m (mcN q xs) := by
  have h0 : 0 < q := by have := hq.b; omega
  have hl := h.l.get h0 (xs.length - 1)
  obtain ⟨i1, i2, _⟩ := iv_ok hq hl h.last
  unfold mcN scN
  rw [if_neg h.n]
  refine ⟨tr_lq fun z hz => ?_, tr_tr _, tr_ne (xs.length - 1) ?_, Nat.le_trans (tr_le _) (by rw [List.length_map]; exact h.z)⟩
  · obtain ⟨y, hy, rfl⟩ := List.mem_map.mp hz
    exact pE_lt hq i1 (h.l y hy)
  · rw [List.getD_eq_getElem?_getD, List.getElem?_map, getD_get (show xs.length - 1 < xs.length by have := h.pos; omega)]
    show pE q _ _ ≠ 0
    rw [pE_comm hq i1 hl, i2]
    decide
theorem cm_ok {q m : Nat} (hq : Fq q) : ∀ (n : Nat) (xs ys : List Nat), ys.length ≤ n → Lq q xs → Lq q ys → Tr ys → xs.length ≤ m → ys.length ≤ m → (ys = [] → RowOk q m xs) → RowOk q m (cmS q n xs ys)
  | 0, xs, ys, hn, _, _, _, _, _, h => h (List.length_eq_zero_iff.mp (by omega))
  | n + 1, xs, ys, hn, lx, ly, ty, zx, zy, h => by
    show RowOk q m (if ys = [] then xs else cmS q n ys (ptR q xs ys))
    by_cases he : ys = []
    · rw [if_pos he]
      exact h he
    · rw [if_neg he]
      have hy : RowOk q m ys := ⟨ly, ty, he, zy⟩
      have hl := ptR_len (q := q) xs ys hy.pos
      exact cm_ok hq n ys (ptR q xs ys) (by omega) ly (ptP_lq hq lx ly hy.pos hy.last).2 (tr_tr _) zy (by omega) fun _ => hy
theorem cmN_ok {q m : Nat} (hq : Fq q) {xs ys : List Nat} (lx : Lq q xs) (zx : xs.length ≤ m) (hy : RowOk q m ys) : RowOk q m (cmN q xs ys) := mc_ok hq (cm_ok hq ys.length xs ys (Nat.le_refl _) lx hy.l hy.t zx hy.z fun z => absurd z hy.n)
section
variable {K : PySem.W.Frag} {σ : L2.St} {H H' : Hp} {ta tb : TE} {D : Ends} {x : V} {xs : List V}
theorem s_parVT {i j : Nat} (h : Ev ta σ H x) (h2 : EvTt K tb σ H xs) (k : ∀ p H1, Ex H H1 → SqT K H1 p xs → D.nx ((σ.set i (some x)).set j (some (.ref p))) H1) : tPar i j (tCons ta (tCons tb tNil)) D σ H :=
  h H (Ex.refl H) _ fun H1 e1 => h2 H1 e1 _ fun p H2 e2 hp => ⟨x, .ref p, rfl, k p H2 (e1.trans e2) hp⟩
end
def sp__law_common (K : PySem.W.Frag) : Sp := fun vs H Q _ => ∃ (d a b : Addr) (q : Nat) (xs ys : List Nat), vs = [.ref d, .ref a, .ref b] ∧ Fq q ∧ FldAt (fun _ => True) H d q ∧ SqT K H a (xs.map N_) ∧ SqT K H b (ys.map N_) ∧ Lq q xs ∧ xs.length ≤ 3000 ∧ RowOk q 3000 ys ∧ RetTt K ((cmN q xs ys).map N_) H Q
theorem sv__law_common {K : PySem.W.Frag} {H : Hp} {d a b : Addr} {q : Nat} {xs ys : List Nat} (hq : Fq q) (hf : FldAt (fun _ => True) H d q) (hx : SqT K H a (xs.map N_)) (hy : SqT K H b (ys.map N_)) (lx : Lq q xs) (zx : xs.length ≤ 3000) (oy : RowOk q 3000 ys) : ∀ H1, Ex H H1 → ∀ Q : VK, RetTt K ((cmN q xs ys).map N_) H1 Q → ∀ E, sp__law_common K [.ref d, .ref a, .ref b] H1 Q E := fun H1 e1 Q kk E => ⟨d, a, b, q, xs, ys, rfl, hq, hf.ex e1, ex_t e1 hx, ex_t e1 hy, lx, zx, oy, kk⟩

theorem ok__law_common {P : Program} {w : World} {K : PySem.W.Frag} {mg : Str → Option Value} {base : Heap} (T : Txt K mg) : FnOk P w K mg base CX0 4 T.a__law_common T.d__law_common ["_law_field_here", "_law_one", "_law_other"] (sp__law_common K) := by
  refine T.F__law_common.ok sc__law_common (fun vs H Q E h => ?_) (fun cdv A outer s H vs Q E hr h => ?_)
  · obtain ⟨d, a, b, q, xs, ys, rfl, _⟩ := h
    rfl
  · obtain ⟨d, a, b, q, xs, ys, rfl, hq, hf, hx, hy, lx, zx, oy, kk⟩ := h
    refine ⟨_, (pss_cons (ps_while PassesOwn.never (pt_cmpR (op_neD hr.units) (pv 2) (pe_tup pa_nil) (nomark _)) (pss_one (ps_par (i := 1) (j := 2) (by rfl) sc__law_common.nd rfl rfl (by decide) rfl rfl (pa_cons (pv 2) (pa_cons (pe_call (ok__law_rest T) (hr.mono (by decide)) (by rfl) T.g__law_rest T.F__law_rest.kp T.b__law_rest .nil pass0 (pa_cons (pv 0) (pa_cons (pv 1) (pa_cons (pv 2) pa_nil)))) pa_nil)) (by rfl))))
      (pss_one (ps_ret (pe_call (ok__law_monic_of T) (hr.mono (by decide)) (by rfl) T.g__law_monic_of T.F__law_monic_of.kp T.b__law_monic_of .nil pass0 (pa_cons (pv 0) (pa_cons (pv 1) pa_nil)))))), ?_⟩
    refine q_while (fun l σ H' => ∃ (a' b' : Addr) (xs' ys' : List Nat) (n : Nat), σ = [some (.ref d), some (.ref a'), some (.ref b')] ∧ ys'.length = l ∧ ys'.length ≤ n ∧ cmS q n xs' ys' = cmS q ys.length xs ys ∧ Ex H H' ∧ SqT K H' a' (xs'.map N_) ∧ SqT K H' b' (ys'.map N_) ∧ Lq q xs' ∧ Lq q ys' ∧ Tr ys' ∧ xs'.length ≤ 3000 ∧ ys'.length ≤ 3000 ∧ (ys' = [] → RowOk q 3000 xs')) ys.length ⟨a, b, xs, ys, ys.length, rfl, rfl, Nat.le_refl _, rfl, Ex.refl H, hx, hy, lx, oy.l, oy.t, zx, oy.z, fun z => absurd z oy.n⟩ fun l σ H1 hw => ?_
    obtain ⟨a', b', xs', ys', n, rfl, hl, hn, hc, e1, sx, sy, lx', ly', ty', zx', zy', he⟩ := hw
    refine ⟨!decide (ys' = []), et_test (ev_neNil (K := K) (ev_var rfl) sy), fun hb H2 e2 => ?_, fun hb H2 e2 => ?_⟩
    · rw [Bool.not_eq_true', decide_eq_false_iff_not] at hb
      have hy' : RowOk q 3000 ys' := ⟨ly', ty', hb, zy'⟩
      have hlen := ptR_len (q := q) xs' ys' hy'.pos
      obtain ⟨m, rfl⟩ : ∃ m, n = m + 1 := ⟨n - 1, by have := hy'.pos; omega⟩
      have hc2 : cmS q m ys' (ptR q xs' ys') = cmS q ys.length xs ys := by
        rw [← hc]
        show _ = if ys' = [] then xs' else cmS q m ys' (ptR q xs' ys')
        rw [if_neg hb]
      have e12 := e1.trans e2
      refine ⟨fun σ' H' => ∃ p, σ' = [some (.ref d), some (.ref b'), some (.ref p)] ∧ Ex H H' ∧ SqT K H' b' (ys'.map N_) ∧ SqT K H' p ((ptR q xs' ys').map N_), fun σ2 H2' hN => ?_, ?_⟩
      · obtain ⟨p, rfl, e5, s1, s2⟩ := hN
        exact ⟨(ptR q xs' ys').length, by omega, b', p, ys', ptR q xs' ys', m, rfl, rfl, by omega, hc2, e5, s1, s2, ly', (ptP_lq hq lx' ly' hy'.pos hy'.last).2, tr_tr _, zy', by omega, fun _ => hy'⟩
      · exact s_parVT (K := K) (ev_var rfl) (tt_call (K := K) (ea_cons (ev_var rfl) (ea_cons (ev_var rfl) (ea_cons (ev_var rfl) ea_nil))) (sv__law_rest (K := K) hq (hf.ex e12) (ex_t e2 sx) (ex_t e2 sy) lx' ly' hy'.pos hy'.last zx' zy')) fun p H3 e3 h3 => ⟨p, rfl, e12.trans e3, ex_t (e2.trans e3) sy, h3⟩
    · rw [Bool.not_eq_false', decide_eq_true_eq] at hb
      have ho := he hb
      subst hb
      have hx2 : cmS q n xs' [] = xs' := by cases n <;> rfl
      rw [hx2] at hc
      have e12 := e1.trans e2
      exact s_retT (tt_call (K := K) (xs := (cmN q xs ys).map N_) (ea_cons (ev_var rfl) (ea_cons (ev_var rfl) ea_nil)) (fun H3 e3 Q q1 E => ⟨d, a', q, xs', rfl, hq, (hf.ex e12).ex e3, ex_t (e2.trans e3) sx, lx', ho.t, zx', by unfold cmN at q1; rw [← hc] at q1; exact q1⟩)) (kk.go e12)


end Own
/-! rows over a field of q elements as a ring: what sums, products, division, common divisors, quotients are there -/
namespace Own
open PySem PySem.Spec PyProof.Rows L2 Evl
open Lean.Grind
structure FQt where
  q : Nat
  h : Fq q
structure El (Q : FQt) where
  v : Nat
  lt : v < Q.q
namespace El
variable {Q : FQt}
theorem ext {a b : El Q} (h : a.v = b.v) : a = b := by
  cases a
  cases b
  cases h
  rfl
theorem q2 : 1 < Q.q := by have := Q.h.b; omega
def ze : El Q := ⟨0, by have := q2 (Q := Q); omega⟩
def on : El Q := ⟨1, q2⟩
def plus (a b : El Q) : El Q := ⟨sE Q.q a.v b.v, sE_lt Q.h a.lt b.lt⟩
def mult (a b : El Q) : El Q := ⟨pE Q.q a.v b.v, pE_lt Q.h a.lt b.lt⟩
def opp (a : El Q) : El Q := ⟨oE Q.q a.v, oE_lt Q.h a.lt⟩
def nc : Nat → El Q
  | 0 => ze
  | n + 1 => plus (nc n) on
def ic : Int → El Q
  | .ofNat n => nc n
  | .negSucc n => opp (nc (n + 1))
def pw (a : El Q) : Nat → El Q
  | 0 => nc 1
  | n + 1 => mult (pw a n) a
theorem s_eq {a b : Nat} (ha : a < Q.q) (hb : b < Q.q) : sE Q.q a b = adQ Q.q a b := ((tab_of Q.h).s a b ha hb).symm
theorem p_eq {a b : Nat} (ha : a < Q.q) (hb : b < Q.q) : pE Q.q a b = muQ Q.q a b := ((tab_of Q.h).p a b ha hb).symm
theorem plus_comm (a b : El Q) : plus a b = plus b a := ext (by
  show sE Q.q a.v b.v = sE Q.q b.v a.v
  rw [s_eq a.lt b.lt, s_eq b.lt a.lt, (fa_of Q.h).adC _ _ a.lt b.lt])
theorem plus_assoc (a b c : El Q) : plus (plus a b) c = plus a (plus b c) := ext (by
  have F := fa_of Q.h
  show sE Q.q (sE Q.q a.v b.v) c.v = sE Q.q a.v (sE Q.q b.v c.v)
  rw [s_eq a.lt b.lt, s_eq b.lt c.lt, s_eq (F.adL _ _ a.lt b.lt) c.lt, s_eq a.lt (F.adL _ _ b.lt c.lt), F.adA _ _ _ a.lt b.lt c.lt])
theorem plus_ze (a : El Q) : plus a ze = a := ext (sE_zero Q.h a.lt).1
theorem mult_comm (a b : El Q) : mult a b = mult b a := ext (by
  show pE Q.q a.v b.v = pE Q.q b.v a.v
  rw [p_eq a.lt b.lt, p_eq b.lt a.lt, (fa_of Q.h).muC _ _ a.lt b.lt])
theorem mult_assoc (a b c : El Q) : mult (mult a b) c = mult a (mult b c) := ext (by
  have F := fa_of Q.h
  show pE Q.q (pE Q.q a.v b.v) c.v = pE Q.q a.v (pE Q.q b.v c.v)
  rw [p_eq a.lt b.lt, p_eq b.lt c.lt, p_eq (F.muL _ _ a.lt b.lt) c.lt, p_eq a.lt (F.muL _ _ b.lt c.lt), F.muA _ _ _ a.lt b.lt c.lt])
theorem dist (a b c : El Q) : mult a (plus b c) = plus (mult a b) (mult a c) := ext (by
  have F := fa_of Q.h
  show pE Q.q a.v (sE Q.q b.v c.v) = sE Q.q (pE Q.q a.v b.v) (pE Q.q a.v c.v)
  rw [p_eq a.lt b.lt, p_eq a.lt c.lt, s_eq b.lt c.lt, p_eq a.lt (F.adL _ _ b.lt c.lt), s_eq (F.muL _ _ a.lt b.lt) (F.muL _ _ a.lt c.lt), F.dis _ _ _ a.lt b.lt c.lt])
theorem mult_ze (a : El Q) : mult a ze = ze := ext (by
  show pE Q.q a.v 0 = 0
  rw [p_eq a.lt (by have := q2 (Q := Q); omega), (fa_of Q.h).mu0 _ a.lt])
theorem chk_m1 : chkAll (fun q => all1 q fun a => decide (epF (prE q) (poE q) a 1 = a) && (decide (sE q (oE q a) a = 0) && decide (oE q (oE q a) = a)) && all1 q fun b => decide (a = 0) || (decide (b = 0) || decide (epF (prE q) (poE q) a b ≠ 0))) = true := by decide +kernel
theorem m1 (a : El Q) : (pE Q.q a.v 1 = a.v ∧ sE Q.q (oE Q.q a.v) a.v = 0 ∧ oE Q.q (oE Q.q a.v) = a.v) ∧ ∀ b : El Q, a.v = 0 ∨ b.v = 0 ∨ pE Q.q a.v b.v ≠ 0 := by
  have h := all1_get (chk_get chk_m1 Q.h) a.lt
  rw [Bool.and_eq_true, Bool.and_eq_true, Bool.and_eq_true, decide_eq_true_eq, decide_eq_true_eq, decide_eq_true_eq] at h
  refine ⟨⟨by rw [pE_F Q.h a.lt q2]; exact h.1.1, h.1.2.1, h.1.2.2⟩, fun b => ?_⟩
  have h2 := all1_get h.2 b.lt
  rw [Bool.or_eq_true, Bool.or_eq_true, decide_eq_true_eq, decide_eq_true_eq, decide_eq_true_eq] at h2
  rw [pE_F Q.h a.lt b.lt]
  exact h2
theorem mult_on (a : El Q) : mult a on = a := ext (m1 a).1.1
theorem opp_plus (a : El Q) : plus (opp a) a = ze := ext (m1 a).1.2.1
theorem opp_opp (a : El Q) : opp (opp a) = a := ext (m1 a).1.2.2
theorem opp_ze : opp (ze : El Q) = ze := by
  have h := opp_plus (ze : El Q)
  rw [plus_ze] at h
  exact h
theorem nc1 : (nc 1 : El Q) = on := by
  show plus ze on = on
  rw [plus_comm, plus_ze]
theorem opp_mult (a b : El Q) : mult (opp a) b = opp (mult a b) := by
  have h1 : plus (mult (opp a) b) (mult a b) = ze := by rw [mult_comm (opp a), mult_comm a, ← dist, opp_plus, mult_ze]
  have h2 := congrArg (fun x => plus x (opp (mult a b))) h1
  rw [plus_assoc, plus_comm (mult a b) (opp (mult a b)), opp_plus, plus_ze, plus_comm ze, plus_ze] at h2
  exact h2
instance : CommRing (El Q) where
  add := plus
  mul := mult
  neg := opp
  sub a b := plus a (opp b)
  natCast := ⟨nc⟩
  ofNat n := ⟨nc n⟩
  nsmul := ⟨fun n a => mult (nc n) a⟩
  npow := ⟨pw⟩
  intCast := ⟨ic⟩
  zsmul := ⟨fun n a => mult (ic n) a⟩
  add_zero := plus_ze
  add_comm := plus_comm
  add_assoc := plus_assoc
  mul_assoc := mult_assoc
  mul_one a := by show mult a (nc 1) = a; rw [nc1, mult_on]
  one_mul a := by show mult (nc 1) a = a; rw [nc1, mult_comm, mult_on]
  left_distrib := dist
  right_distrib a b c := by show mult (plus a b) c = plus (mult a c) (mult b c); rw [mult_comm, dist, mult_comm c a, mult_comm c b]
  zero_mul a := by show mult ze a = ze; rw [mult_comm, mult_ze]
  mul_zero := mult_ze
  pow_zero a := rfl
  pow_succ a n := rfl
  ofNat_succ n := by show plus (nc n) on = plus (nc n) (nc 1); rw [nc1]
  ofNat_eq_natCast n := rfl
  nsmul_eq_natCast_mul n a := rfl
  neg_add_cancel := opp_plus
  sub_eq_add_neg a b := rfl
  neg_zsmul i a := by
    show mult (ic (-i)) a = opp (mult (ic i) a)
    rw [← opp_mult]
    congr 1
    cases i with
    | ofNat n =>
      cases n with
      | zero => exact opp_ze.symm
      | succ n => rfl
    | negSucc n => exact (opp_opp _).symm
  zsmul_natCast_eq_nsmul n a := rfl
  intCast_ofNat n := rfl
  intCast_neg i := by
    show ic (-i) = opp (ic i)
    cases i with
    | ofNat n =>
      cases n with
      | zero => exact opp_ze.symm
      | succ n => rfl
    | negSucc n => exact (opp_opp _).symm
  mul_comm := mult_comm
theorem v_add (a b : El Q) : (a + b).v = sE Q.q a.v b.v := rfl
theorem v_mul (a b : El Q) : (a * b).v = pE Q.q a.v b.v := rfl
theorem v_neg (a : El Q) : (-a).v = oE Q.q a.v := rfl
theorem v_zero : (0 : El Q).v = 0 := rfl
theorem v_one : (1 : El Q).v = 1 := by
  show (nc 1 : El Q).v = 1
  rw [nc1]
  rfl
theorem dom : Po.Dom (El Q) := fun a b h => by
  rcases (m1 a).2 b with z | z | z
  · exact .inl (ext z)
  · exact .inr (ext z)
  · exact absurd (show pE Q.q a.v b.v = 0 from congrArg El.v h) z
theorem ne_zero {a : El Q} : a ≠ 0 ↔ a.v ≠ 0 := ⟨fun h z => h (ext z), fun h z => h (by rw [z]; rfl)⟩
/-- the element of a number -/
def of (Q : FQt) (n : Nat) : El Q := if h : n < Q.q then ⟨n, h⟩ else 0
theorem of_v {n : Nat} (h : n < Q.q) : (of Q n).v = n := by
  unfold of
  rw [dif_pos h]
theorem of_zero : of Q 0 = 0 := ext (of_v (by have := q2 (Q := Q); omega))
end El
abbrev PQ (Q : FQt) := Po.PS (El Q)
/-- a row as a polynomial -/
def co (Q : FQt) (xs : List Nat) : PQ Q := fun i => El.of Q (xs.getD i 0)
section
variable {Q : FQt} {xs ys : List Nat}
theorem q0 : 0 < Q.q := by have := Q.h.b; omega
theorem co_v (lx : Lq Q.q xs) (i : Nat) : (co Q xs i).v = xs.getD i 0 := El.of_v (lx.get q0 i)
theorem co_bd (xs : List Nat) : Po.Bd (co Q xs) xs.length := fun i hi => by
  show El.of Q (xs.getD i 0) = 0
  rw [getD_zero hi, El.of_zero]
theorem co_ext (lx : Lq Q.q xs) {a : PQ Q} (h : ∀ i, xs.getD i 0 = (a i).v) : co Q xs = a := Po.ext fun i => El.ext (by rw [co_v lx, h])
theorem co_tr (xs : List Nat) : co Q (trN xs) = co Q xs := Po.ext fun i => by
  show El.of Q _ = El.of Q _
  rw [tr_getD]
theorem co_nil : co Q [] = 0 := Po.ext fun i => by
  rw [Po.at_zero]
  exact El.of_zero
theorem one_lq' : Lq Q.q [1] := fun z hz => by
  rw [List.mem_singleton.mp hz]
  exact El.q2
theorem co_one : co Q [1] = 1 := co_ext one_lq' fun i => by
  cases i with
  | zero => exact El.v_one.symm
  | succ i => rfl
theorem co_plus (lx : Lq Q.q xs) (ly : Lq Q.q ys) : co Q (plN Q.q xs ys) = co Q xs + co Q ys := co_ext (pl_lq Q.h lx ly) fun i => by
  rw [plN_get Q.h, Po.at_add, El.v_add, co_v lx, co_v ly]
theorem oE0 : oE Q.q 0 = 0 := congrArg El.v (El.opp_ze (Q := Q))
theorem co_opp (lx : Lq Q.q xs) : co Q (xs.map (oE Q.q)) = -co Q xs := co_ext (opp_lq Q.h lx) fun i => by
  rw [Po.at_neg, El.v_neg, co_v lx, List.getD_eq_getElem?_getD, List.getD_eq_getElem?_getD, List.getElem?_map]
  cases xs[i]? with
  | none => exact oE0.symm
  | some a => rfl
theorem pE0 {a : Nat} (ha : a < Q.q) : pE Q.q a 0 = 0 := congrArg El.v (El.mult_ze (Q := Q) ⟨a, ha⟩)
theorem pEc {a b : Nat} (ha : a < Q.q) (hb : b < Q.q) : pE Q.q a b = pE Q.q b a := congrArg El.v (El.mult_comm (Q := Q) ⟨a, ha⟩ ⟨b, hb⟩)
theorem sc_lq {e : Nat} (he : e < Q.q) (lx : Lq Q.q xs) : Lq Q.q (scN Q.q e xs) := tr_lq fun z hz => by
  obtain ⟨y, hy, rfl⟩ := List.mem_map.mp hz
  exact pE_lt Q.h he (lx y hy)
theorem co_sc {e : Nat} (he : e < Q.q) (lx : Lq Q.q xs) : co Q (scN Q.q e xs) = Po.cs (El.of Q e) * co Q xs := by
  unfold scN
  rw [co_tr]
  refine co_ext (fun z hz => ?_) fun i => ?_
  · obtain ⟨y, hy, rfl⟩ := List.mem_map.mp hz
    exact pE_lt Q.h he (lx y hy)
  · have h := Po.mn_mul (El.of Q e) (co Q xs) 0 i
    rw [if_neg (Nat.not_lt_zero i)] at h
    show _ = ((Po.mn (El.of Q e) 0 * co Q xs) i).v
    rw [h, El.v_mul, El.of_v he, Nat.sub_zero, co_v lx, List.getD_eq_getElem?_getD, List.getD_eq_getElem?_getD, List.getElem?_map]
    cases xs[i]? with
    | none => exact (pE0 he).symm
    | some a => rfl
/-- a scaled row onto what begins at a place -/
theorem co_adA {c j : Nat} {acc : List Nat} (hc : c < Q.q) (lx : Lq Q.q xs) (la : Lq Q.q acc) (h : xs.length + j ≤ acc.length) : co Q (adA Q.q c xs j acc) = co Q acc + Po.mn (El.of Q c) j * co Q xs := co_ext (adA_lq Q.h hc lx j acc la) fun i => by
  rw [adA_get xs j acc i h, Po.at_add, El.v_add, co_v la, Po.mn_mul]
  by_cases h1 : i < j
  · rw [if_pos h1, if_pos h1, El.v_zero, (sE_zero Q.h (la.get q0 i)).1]
  · rw [if_neg h1, if_neg h1, El.v_mul, El.of_v hc, co_v lx]
    by_cases h2 : i - j < xs.length
    · rw [if_pos h2, pEc (lx.get q0 _) hc]
    · have hz : xs.getD (i - j) 0 = 0 := getD_zero (Nat.le_of_not_lt h2)
      rw [if_neg h2, hz, pE0 hc, (sE_zero Q.h (la.get q0 i)).1]
theorem rep0_lq (n : Nat) : Lq Q.q (List.replicate n 0) := fun z hz => by
  rw [(List.mem_replicate.mp hz).2]
  exact q0
theorem co_rep0 (n : Nat) : co Q (List.replicate n 0) = 0 := co_ext (rep0_lq n) fun i => by rw [rep_getD, Po.at_zero]; rfl
theorem take_lq (lx : Lq Q.q xs) (j : Nat) : Lq Q.q (xs.take j) := fun z hz => lx z (List.mem_of_mem_take hz)
theorem co_take (ly : Lq Q.q ys) (j : Nat) : co Q (ys.take (j + 1)) = co Q (ys.take j) + Po.mn (El.of Q (ys.getD j 0)) j := co_ext (take_lq ly _) fun i => by
  rw [Po.at_add, El.v_add, co_v (take_lq ly j), Po.mn_at]
  have hg : ∀ n, (ys.take n).getD i 0 = if i < n then ys.getD i 0 else 0 := fun n => by
    by_cases h : i < n
    · rw [if_pos h, List.getD_eq_getElem?_getD, List.getElem?_take_of_lt h, ← List.getD_eq_getElem?_getD]
    · rw [if_neg h, getD_zero (by rw [List.length_take]; omega)]
  rw [hg, hg]
  have l0 := sE_zero Q.h (ly.get q0 i)
  by_cases h1 : i < j
  · rw [if_pos (by omega), if_pos h1, if_neg (by omega), El.v_zero, l0.1]
  · by_cases h2 : i = j
    · subst h2
      rw [if_pos (by omega), if_neg h1, if_pos rfl, El.of_v (ly.get q0 i), l0.2]
    · rw [if_neg (by omega), if_neg h1, if_neg h2, El.v_zero, (sE_zero Q.h q0).1]
theorem mn_zero (j : Nat) : (Po.mn (0 : El Q) j) = 0 := Po.ext fun i => by
  rw [Po.mn_at, Po.at_zero]
  split <;> rfl
theorem co_muS (lx : Lq Q.q xs) (ly : Lq Q.q ys) (nx : xs ≠ []) : ∀ j, j ≤ ys.length → co Q (muS Q.q xs ys j) = co Q xs * co Q (ys.take j)
  | 0, _ => by
    show co Q (List.replicate _ 0) = _
    rw [co_rep0, List.take_zero, co_nil]
    grind
  | j + 1, hj => by
    have ih := co_muS lx ly nx j (by omega)
    have hx := List.length_pos_iff.mpr nx
    rw [co_take ly]
    show co Q (if ys.getD j 0 = 0 then muS Q.q xs ys j else adA Q.q (ys.getD j 0) xs j (muS Q.q xs ys j)) = _
    by_cases h0 : ys.getD j 0 = 0
    · rw [if_pos h0, ih, h0, El.of_zero, mn_zero]
      grind
    · rw [if_neg h0, co_adA (ly.get q0 j) lx (muS_lq Q.h lx ly j) (by rw [muS_len]; omega), ih]
      grind
theorem co_mul (lx : Lq Q.q xs) (ly : Lq Q.q ys) : co Q (muN Q.q xs ys) = co Q xs * co Q ys := by
  unfold muN
  by_cases h : xs = [] ∨ ys = []
  · rw [if_pos h, co_nil]
    rcases h with h | h
    · rw [h, co_nil]; grind
    · rw [h, co_nil]; grind
  · rw [if_neg h, co_muS lx ly (fun z => h (.inl z)) ys.length (Nat.le_refl _), List.take_length]
/-- two rows without zeros on top are one, if they are one polynomial -/
theorem co_inj (lx : Lq Q.q xs) (ly : Lq Q.q ys) (tx : Tr xs) (ty : Tr ys) (h : co Q xs = co Q ys) : xs = ys := by
  have hg : ∀ i, xs.getD i 0 = ys.getD i 0 := fun i => by rw [← co_v lx, ← co_v ly, h]
  have hl : ∀ {xs ys : List Nat}, (∀ i, xs.getD i 0 = ys.getD i 0) → Tr xs → xs.length ≤ ys.length := fun {xs ys} hg tx => by
    apply Decidable.byContradiction
    intro hn
    exact tx (by omega) (by rw [hg, getD_zero (by omega)])
  exact ext_getD (Nat.le_antisymm (hl hg tx) (hl (fun i => (hg i).symm) ty)) fun t _ => hg t
end
end Own
/-! division, common divisors, quotients in lowest terms: what they are -/
namespace Own
open PySem PySem.Spec PyProof.Rows L2 Evl
open Lean.Grind
section
variable {Q : FQt} {xs ys : List Nat}
theorem of_mul {a b : Nat} (ha : a < Q.q) (hb : b < Q.q) : El.of Q (pE Q.q a b) = El.of Q a * El.of Q b := El.ext (by rw [El.of_v (pE_lt Q.h ha hb), El.v_mul, El.of_v ha, El.of_v hb])
theorem of_opp {a : Nat} (ha : a < Q.q) : El.of Q (oE Q.q a) = -El.of Q a := El.ext (by rw [El.of_v (oE_lt Q.h ha), El.v_neg, El.of_v ha])
theorem of_one : El.of Q 1 = 1 := El.ext (by rw [El.of_v El.q2, El.v_one])
theorem mn_neg (x : El Q) (j : Nat) : Po.mn (-x) j = -Po.mn x j := Po.ext fun i => by
  rw [Po.mn_at, Po.at_neg, Po.mn_at]
  split
  · rfl
  · exact El.opp_ze.symm
theorem set_lq {f : List Nat} {c F : Nat} (lf : Lq Q.q f) (hF : F < Q.q) : Lq Q.q (f.set c F) := fun z hz => by
  rcases List.mem_or_eq_of_mem_set hz with hz | hz
  · exact lf z hz
  · rw [hz]; exact hF
theorem co_set {f : List Nat} {c F : Nat} (lf : Lq Q.q f) (hF : F < Q.q) (hc : c < f.length) (h0 : f.getD c 0 = 0) : co Q (f.set c F) = co Q f + Po.mn (El.of Q F) c := co_ext (set_lq lf hF) fun i => by
  rw [Po.at_add, El.v_add, co_v lf, Po.mn_at, List.getD_eq_getElem?_getD, List.getElem?_set]
  by_cases h : c = i
  · subst h
    rw [if_pos rfl, if_pos hc, if_pos rfl, El.of_v hF, h0, (sE_zero Q.h hF).2]
    rfl
  · rw [if_neg h, if_neg (fun z => h z.symm), El.v_zero, (sE_zero Q.h (lf.get q0 i)).1, ← List.getD_eq_getElem?_getD]
/-- the steps of the division -/
theorem pt_sem (ly : Lq Q.q ys) {n bk : Nat} (hn : ys.length = n) (hn1 : 1 ≤ n) (hb : bk < Q.q) (hbk : pE Q.q (ys.getD (n - 1) 0) bk = 1) : ∀ (c : Nat) (l f : List Nat), Lq Q.q l → Lq Q.q f → c ≤ f.length → c + n ≤ l.length + 1 → (∀ i, i < c → f.getD i 0 = 0) → (∀ i, c + n - 1 ≤ i → l.getD i 0 = 0) →
    co Q (ptS Q.q ys n bk c l f).1 + co Q ys * co Q (ptS Q.q ys n bk c l f).2 = co Q l + co Q ys * co Q f ∧ Po.Bd (co Q (ptS Q.q ys n bk c l f).1) (n - 1)
  | 0, l, f, ll, lf, _, _, _, hz => ⟨rfl, fun i hi => by
    show El.of Q (l.getD i 0) = 0
    rw [hz i (by omega), El.of_zero]⟩
  | c + 1, l, f, ll, lf, hcf, hcl, hfz, hlz => by
    have hxt := ll.get q0 (c + n - 1)
    have hF := pE_lt Q.h hxt hb
    generalize hFe : pE Q.q (l.getD (c + n - 1) 0) bk = F at *
    have hstep : ptS Q.q ys n bk (c + 1) l f = ptS Q.q ys n bk c (if F = 0 then l else adA Q.q (oE Q.q F) ys c l) (f.set c F) := by
      show ptS Q.q ys n bk c (if pE Q.q (l.getD (c + n - 1) 0) bk = 0 then l else adA Q.q (oE Q.q (pE Q.q (l.getD (c + n - 1) 0) bk)) ys c l) (f.set c (pE Q.q (l.getD (c + n - 1) 0) bk)) = _
      rw [hFe]
    rw [hstep]
    have hl' : co Q (if F = 0 then l else adA Q.q (oE Q.q F) ys c l) = co Q l - Po.mn (El.of Q F) c * co Q ys := by
      by_cases h0 : F = 0
      · rw [if_pos h0, h0, El.of_zero, mn_zero]; grind
      · rw [if_neg h0, co_adA (oE_lt Q.h hF) ly ll (by omega), of_opp hF, mn_neg]; grind
    have hlq : Lq Q.q (if F = 0 then l else adA Q.q (oE Q.q F) ys c l) := by
      split
      · exact ll
      · exact adA_lq Q.h (oE_lt Q.h hF) ly c l ll
    have hlen : (if F = 0 then l else adA Q.q (oE Q.q F) ys c l).length = l.length := by
      split
      · rfl
      · exact adA_len ..
    have htop : ∀ i, c + n - 1 ≤ i → (if F = 0 then l else adA Q.q (oE Q.q F) ys c l).getD i 0 = 0 := fun i hi => by
      have h1 : (co Q (if F = 0 then l else adA Q.q (oE Q.q F) ys c l)) i = 0 := by
        rw [hl', Po.at_sub, Po.mn_mul, if_neg (by omega)]
        show El.of Q (l.getD i 0) - El.of Q F * El.of Q (ys.getD (i - c) 0) = 0
        by_cases h : i = c + n - 1
        · subst h
          rw [show c + n - 1 - c = n - 1 by omega, ← hFe, of_mul hxt hb]
          have h2 : El.of Q bk * El.of Q (ys.getD (n - 1) 0) = 1 := by
            have := of_mul (Q := Q) (ly.get q0 (n - 1)) hb
            rw [hbk, of_one] at this
            rw [this]
            grind
          grind
        · rw [hlz i (by omega), getD_zero (xs := ys) (t := i - c) (by omega), El.of_zero]; grind
      rw [← co_v hlq, h1]
      rfl
    obtain ⟨r1, r2⟩ := pt_sem ly hn hn1 hb hbk c _ (f.set c F) hlq (set_lq lf hF) (by rw [List.length_set]; omega) (by rw [hlen]; omega) (fun i hi => by
      rw [List.getD_eq_getElem?_getD, List.getElem?_set, if_neg (by omega), ← List.getD_eq_getElem?_getD]
      exact hfz i (by omega)) htop
    refine ⟨?_, r2⟩
    rw [r1, hl', co_set lf hF (by omega) (hfz c (by omega))]
    grind
theorem bk_ok (ly : Lq Q.q ys) (hne : ys.getD (ys.length - 1) 0 ≠ 0) : bkQ Q.q ys < Q.q ∧ pE Q.q (ys.getD (ys.length - 1) 0) (bkQ Q.q ys) = 1 := by
  obtain ⟨h1, h2, _⟩ := iv_ok Q.h (ly.get q0 (ys.length - 1)) hne
  exact ⟨h1, h2⟩
/-- the division -/
theorem pt_div (lx : Lq Q.q xs) (ly : Lq Q.q ys) (hy : 1 ≤ ys.length) (hne : ys.getD (ys.length - 1) 0 ≠ 0) : co Q xs = co Q ys * co Q (ptQ Q.q xs ys) + co Q (ptR Q.q xs ys) ∧ Po.Bd (co Q (ptR Q.q xs ys)) (ys.length - 1) := by
  obtain ⟨hb, hbk⟩ := bk_ok ly hne
  have h := pt_sem ly rfl hy hb hbk (xs.length + 1 - ys.length) xs (List.replicate (xs.length + 1 - ys.length) 0) lx (rep0_lq _) (by rw [List.length_replicate]; exact Nat.le_refl _)
  have hQ : co Q (ptQ Q.q xs ys) = co Q (ptP Q.q xs ys).2 := by unfold ptQ; exact co_tr _
  by_cases hle : ys.length ≤ xs.length
  · obtain ⟨h1, h2⟩ := h (by omega) (fun i _ => rep_getD _ i) (fun i hi => getD_zero (by omega))
    have hl := pt_lq Q.h ly ys.length (bk := bkQ Q.q ys) hb (xs.length + 1 - ys.length) xs (List.replicate (xs.length + 1 - ys.length) 0) lx (rep0_lq _)
    have hR : co Q (ptR Q.q xs ys) = co Q (ptP Q.q xs ys).1 := by
      unfold ptR
      rw [co_tr, if_pos hle]
      refine Po.ext fun i => ?_
      show El.of Q _ = El.of Q _
      by_cases hi : i < ys.length - 1
      · rw [List.getD_eq_getElem?_getD, List.getElem?_take_of_lt hi, ← List.getD_eq_getElem?_getD]
      · have h3 : (co Q (ptP Q.q xs ys).1) i = 0 := h2 i (by omega)
        rw [getD_zero (by rw [List.length_take]; omega), El.of_zero]
        exact h3.symm
    rw [hQ, hR]
    have h1 : co Q (ptP Q.q xs ys).1 + co Q ys * co Q (ptP Q.q xs ys).2 = co Q xs + co Q ys * co Q (List.replicate (xs.length + 1 - ys.length) 0) := h1
    rw [co_rep0] at h1
    exact ⟨by grind, h2⟩
  · have hP : ptP Q.q xs ys = (xs, []) := by
      unfold ptP
      rw [show xs.length + 1 - ys.length = 0 by omega]
      rfl
    have hR : co Q (ptR Q.q xs ys) = co Q xs := by
      unfold ptR
      rw [co_tr, if_neg hle, hP]
    rw [hQ, hR, hP]
    refine ⟨?_, (co_bd xs).le (by omega)⟩
    show co Q xs = co Q ys * co Q [] + co Q xs
    rw [co_nil]; grind
def Pl (a : PQ Q) : Prop := ∃ n, Po.Bd a n
theorem Pl.co (xs : List Nat) : Pl (co Q xs) := ⟨_, co_bd xs⟩
theorem Pl.add {a b : PQ Q} (h : Pl a) (h2 : Pl b) : Pl (a + b) := by
  obtain ⟨m, h⟩ := h
  obtain ⟨n, h2⟩ := h2
  exact ⟨max m n, (h.le (Nat.le_max_left m n)).add (h2.le (Nat.le_max_right m n))⟩
theorem Pl.neg {a : PQ Q} (h : Pl a) : Pl (-a) := let ⟨m, h⟩ := h; ⟨m, h.neg⟩
theorem Pl.sub {a b : PQ Q} (h : Pl a) (h2 : Pl b) : Pl (a - b) := by
  have := h.add h2.neg
  have e : a - b = a + -b := by grind
  rw [e]; exact this
theorem Pl.mul {a b : PQ Q} (h : Pl a) (h2 : Pl b) : Pl (a * b) := by
  obtain ⟨m, h⟩ := h
  obtain ⟨n, h2⟩ := h2
  exact ⟨m + n + 1, (h.le (Nat.le_succ m)).mul (h2.le (Nat.le_succ n))⟩
theorem Pl.one : Pl (1 : PQ Q) := by rw [← co_one]; exact Pl.co _
theorem Pl.zero : Pl (0 : PQ Q) := by rw [← co_nil]; exact Pl.co _
theorem Pl.cs (x : El Q) : Pl (Po.cs x) := ⟨1, fun i hi => by
  cases i with
  | zero => omega
  | succ i => rfl⟩
/-- common divisors -/
theorem cm_sem : ∀ (n : Nat) (xs ys : List Nat), ys.length ≤ n → Lq Q.q xs → Lq Q.q ys → Tr ys → ∃ u v a b : PQ Q, Pl u ∧ Pl v ∧ Pl a ∧ Pl b ∧ co Q (cmS Q.q n xs ys) = u * co Q xs + v * co Q ys ∧ co Q xs = a * co Q (cmS Q.q n xs ys) ∧ co Q ys = b * co Q (cmS Q.q n xs ys)
  | 0, xs, ys, hn, lx, ly, ty => by
    have : ys = [] := List.length_eq_zero_iff.mp (by omega)
    subst this
    refine ⟨1, 0, 1, 0, Pl.one, Pl.zero, Pl.one, Pl.zero, ?_, ?_, ?_⟩
    · show co Q xs = _; rw [co_nil]; grind
    · show co Q xs = 1 * co Q xs; grind
    · show co Q [] = 0 * co Q xs; rw [co_nil]; grind
  | n + 1, xs, ys, hn, lx, ly, ty => by
    have e : cmS Q.q (n + 1) xs ys = if ys = [] then xs else cmS Q.q n ys (ptR Q.q xs ys) := rfl
    by_cases he : ys = []
    · subst he
      rw [e, if_pos rfl]
      refine ⟨1, 0, 1, 0, Pl.one, Pl.zero, Pl.one, Pl.zero, ?_, ?_, ?_⟩
      · rw [co_nil]; grind
      · grind
      · rw [co_nil]; grind
    · rw [e, if_neg he]
      have hy := List.length_pos_iff.mpr he
      have hne : ys.getD (ys.length - 1) 0 ≠ 0 := ty (by omega)
      obtain ⟨d1, d2⟩ := pt_div lx ly hy hne
      have hl := ptR_len (q := Q.q) xs ys hy
      obtain ⟨u, v, a, b, pu, pv, pa, pb, h1, h2, h3⟩ := cm_sem n ys (ptR Q.q xs ys) (by omega) ly (ptP_lq Q.h lx ly hy hne).2 (tr_tr _)
      refine ⟨v, u - v * co Q (ptQ Q.q xs ys), a * co Q (ptQ Q.q xs ys) + b, a, pv, pu.sub (pv.mul (Pl.co _)), (pa.mul (Pl.co _)).add pb, pa, ?_, ?_, h2⟩
      · rw [h1]; grind
      · grind
theorem mc_sem {m : Nat} (h : RowOk Q.q m xs) : ∃ e : El Q, e * El.of Q (xs.getD (xs.length - 1) 0) = 1 ∧ co Q (mcN Q.q xs) = Po.cs e * co Q xs ∧ (mcN Q.q xs).length = xs.length ∧ (mcN Q.q xs).getD (xs.length - 1) 0 = 1 := by
  have hl := h.l.get q0 (xs.length - 1)
  obtain ⟨i1, i2, _⟩ := iv_ok Q.h hl h.last
  have he : mcN Q.q xs = scN Q.q (ivE Q.q (xs.getD (xs.length - 1) 0)) xs := by unfold mcN; rw [if_neg h.n]
  have hp := h.pos
  have hlast : (scN Q.q (ivE Q.q (xs.getD (xs.length - 1) 0)) xs).getD (xs.length - 1) 0 = 1 := by
    unfold scN
    rw [tr_getD, List.getD_eq_getElem?_getD, List.getElem?_map, getD_get (show xs.length - 1 < xs.length by omega)]
    show pE Q.q _ _ = 1
    rw [pE_comm Q.h i1 hl, i2]
  refine ⟨El.of Q (ivE Q.q (xs.getD (xs.length - 1) 0)), ?_, ?_, ?_, ?_⟩
  · rw [← of_mul i1 hl, pE_comm Q.h i1 hl, i2, of_one]
  · rw [he, co_sc i1 h.l]
  · rw [he]
    refine Nat.le_antisymm ?_ ?_
    · unfold scN
      exact Nat.le_trans (tr_le _) (by rw [List.length_map]; exact Nat.le_refl _)
    · apply Decidable.byContradiction
      intro hn
      rw [getD_zero (by omega)] at hlast
      cases hlast
  · rw [he, hlast]
theorem cs_mul (x y : El Q) : Po.cs x * Po.cs y = Po.cs (x * y) := Po.ext fun i => by
  have h := Po.mn_mul x (Po.cs y) 0 i
  rw [if_neg (Nat.not_lt_zero i), Nat.sub_zero] at h
  show (Po.mn x 0 * Po.cs y) i = _
  rw [h]
  cases i with
  | zero => rfl
  | succ i => exact El.mult_ze x
theorem cs_one : (Po.cs 1 : PQ Q) = 1 := rfl
/-- the common divisor of two rows: a sum of multiples, and a divisor of both -/
theorem cmN_sem {m : Nat} (lx : Lq Q.q xs) (zx : xs.length ≤ m) (hy : RowOk Q.q m ys) : ∃ u v a b : PQ Q, Pl u ∧ Pl v ∧ Pl a ∧ Pl b ∧ co Q (cmN Q.q xs ys) = u * co Q xs + v * co Q ys ∧ co Q xs = a * co Q (cmN Q.q xs ys) ∧ co Q ys = b * co Q (cmN Q.q xs ys) := by
  obtain ⟨u, v, a, b, pu, pv, pa, pb, h1, h2, h3⟩ := cm_sem ys.length xs ys (Nat.le_refl _) lx hy.l hy.t
  have hg := cm_ok Q.h ys.length xs ys (Nat.le_refl _) lx hy.l hy.t zx hy.z fun z => absurd z hy.n
  obtain ⟨e, e1, e2, _, _⟩ := mc_sem hg
  generalize El.of Q _ = w at e1
  have e3 : Po.cs e * Po.cs w = (1 : PQ Q) := by rw [cs_mul, e1]; rfl
  have hcm : co Q (cmN Q.q xs ys) = Po.cs e * co Q (cmS Q.q ys.length xs ys) := e2
  refine ⟨Po.cs e * u, Po.cs e * v, a * Po.cs w, b * Po.cs w, (Pl.cs e).mul pu, (Pl.cs e).mul pv, pa.mul (Pl.cs w), pb.mul (Pl.cs w), ?_, ?_, ?_⟩
  · rw [hcm, h1]; grind
  · rw [hcm]; grind
  · rw [hcm]; grind
/-- a quotient in lowest terms -/
structure NF (Q : FQt) (m : Nat) (t b : List Nat) : Prop where
  lt : Lq Q.q t
  tt : Tr t
  zt : t.length ≤ m
  ob : RowOk Q.q m b
  mon : b.getD (b.length - 1) 0 = 1
  cop : ∃ u v : PQ Q, Pl u ∧ Pl v ∧ u * co Q t + v * co Q b = 1
def qtN (q : Nat) (top bot : List Nat) : List Nat × List Nat :=
  if top = [] then ([], [1]) else
    (scN q (ivE q ((ptQ q bot (cmN q top bot)).getD ((ptQ q bot (cmN q top bot)).length - 1) 0)) (ptQ q top (cmN q top bot)), mcN q (ptQ q bot (cmN q top bot)))
theorem one_ok (m : Nat) (hm : 1 ≤ m) : RowOk Q.q m [1] := ⟨one_lq', fun _ => by decide, by decide, hm⟩
theorem lead_ne {m : Nat} (h : RowOk Q.q m xs) : (co Q xs) (xs.length - 1) ≠ 0 := El.ne_zero.mpr (by rw [co_v h.l]; exact h.last)
theorem bd_suc {m : Nat} (h : RowOk Q.q m xs) : Po.Bd (co Q xs) (xs.length - 1 + 1) := (co_bd xs).le (by have := h.pos; omega)
/-- a divisor leaves nothing -/
theorem pt_exact {m : Nat} (lx : Lq Q.q xs) (hy : RowOk Q.q m ys) {a : PQ Q} (pa : Pl a) (h : co Q xs = a * co Q ys) : co Q xs = co Q ys * co Q (ptQ Q.q xs ys) := by
  obtain ⟨d1, d2⟩ := pt_div lx hy.l hy.pos hy.last
  have e : co Q ys * (a - co Q (ptQ Q.q xs ys)) = co Q (ptR Q.q xs ys) := by grind
  obtain ⟨n, hn⟩ := pa.sub (Pl.co (ptQ Q.q xs ys))
  have := Po.small_zero El.dom (bd_suc hy) (lead_ne hy) hn (by rw [e]; exact d2)
  rw [e] at this
  rw [this] at d1
  grind
theorem ne_of_co (h : co Q xs ≠ 0) : xs ≠ [] := fun z => h (by rw [z]; exact co_nil)
theorem co_ne {m : Nat} (h : RowOk Q.q m xs) : co Q xs ≠ 0 := fun z => lead_ne h (by rw [z, Po.at_zero])
theorem can {m : Nat} (h : RowOk Q.q m xs) {x y : PQ Q} (e : x * co Q xs = y * co Q xs) : x = y := Po.cancel El.dom (lead_ne h) e
theorem qt_nf {m : Nat} (hm : 1 ≤ m) (lx : Lq Q.q xs) (tx : Tr xs) (zx : xs.length ≤ m) (hy : RowOk Q.q m ys) : NF Q m (qtN Q.q xs ys).1 (qtN Q.q xs ys).2 ∧ co Q (qtN Q.q xs ys).1 * co Q ys = co Q xs * co Q (qtN Q.q xs ys).2 := by
  unfold qtN
  by_cases hx : xs = []
  · rw [if_pos hx]
    refine ⟨⟨fun z hz => (nomatch hz), fun h => absurd rfl h, Nat.zero_le _, one_ok m hm, rfl, 0, 1, Pl.zero, Pl.one, ?_⟩, ?_⟩
    · show 0 * co Q [] + 1 * co Q [1] = 1
      rw [co_one]; grind
    · show co Q [] * co Q ys = co Q xs * co Q [1]
      rw [hx, co_nil]; grind
  · rw [if_neg hx]
    obtain ⟨u, v, a, b, pu, pv, pa, pb, h1, h2, h3⟩ := cmN_sem lx zx hy
    have hg : RowOk Q.q m (cmN Q.q xs ys) := cmN_ok Q.h lx zx hy
    generalize cmN Q.q xs ys = g at *
    have ex := pt_exact lx hg pa h2
    have ey := pt_exact hy.l hg pb h3
    have lhq := (ptP_lq Q.h lx hg.l hg.pos hg.last).1
    have llq := (ptP_lq Q.h hy.l hg.l hg.pos hg.last).1
    have hl0 : co Q (ptQ Q.q ys g) ≠ 0 := fun z => co_ne hy (by rw [ey, z]; grind)
    have zh : (ptQ Q.q xs g).length ≤ m := Nat.le_trans (ptQ_len xs g) (by have := hg.pos; omega)
    have zl : (ptQ Q.q ys g).length ≤ m := Nat.le_trans (ptQ_len ys g) (by have := hg.pos; have := hy.z; omega)
    have ol : RowOk Q.q m (ptQ Q.q ys g) := ⟨llq, tr_tr _, ne_of_co hl0, zl⟩
    obtain ⟨e, e1, e2, e3, e4⟩ := mc_sem ol
    have hll := ol.l.get q0 ((ptQ Q.q ys g).length - 1)
    obtain ⟨i1, i2, _⟩ := iv_ok Q.h hll ol.last
    have he : e = El.of Q (ivE Q.q ((ptQ Q.q ys g).getD ((ptQ Q.q ys g).length - 1) 0)) := by
      have h5 : El.of Q (ivE Q.q ((ptQ Q.q ys g).getD ((ptQ Q.q ys g).length - 1) 0)) * El.of Q ((ptQ Q.q ys g).getD ((ptQ Q.q ys g).length - 1) 0) = 1 := by rw [← of_mul i1 hll, pE_comm Q.h i1 hll, i2, of_one]
      grind
    have ec := co_sc (Q := Q) i1 lhq
    rw [← he] at ec
    have hcop : u * co Q (ptQ Q.q xs g) + v * co Q (ptQ Q.q ys g) = 1 := can hg (by grind)
    generalize El.of Q ((ptQ Q.q ys g).getD ((ptQ Q.q ys g).length - 1) 0) = w at e1
    have e5 : Po.cs w * Po.cs e = (1 : PQ Q) := by
      rw [cs_mul, show w * e = 1 by grind]; rfl
    refine ⟨⟨sc_lq i1 lhq, tr_tr _, ?_, mc_ok Q.h ol, by rw [e3]; exact e4, u * Po.cs w, v * Po.cs w, pu.mul (Pl.cs w), pv.mul (Pl.cs w), ?_⟩, ?_⟩
    · unfold scN
      exact Nat.le_trans (tr_le _) (by rw [List.length_map]; exact zh)
    · show u * Po.cs w * co Q (scN Q.q _ _) + v * Po.cs w * co Q (mcN Q.q _) = 1
      rw [ec, e2]; grind
    · show co Q (scN Q.q _ _) * co Q ys = co Q xs * co Q (mcN Q.q _)
      rw [ec, e2]; grind
/-- the top of a polynomial that is not 0 -/
theorem top_of {a : PQ Q} (p : Pl a) (h : a ≠ 0) : ∃ d, a d ≠ 0 ∧ Po.Bd a (d + 1) := by
  obtain ⟨n, hn⟩ := p
  induction n with
  | zero => exact absurd (Po.ext fun i => by rw [Po.at_zero]; exact hn i (Nat.zero_le i)) h
  | succ n ih =>
    by_cases h0 : a n = 0
    · exact ih fun i hi => by
        by_cases e : i = n
        · rw [e]; exact h0
        · exact hn i (by omega)
    · exact ⟨n, h0, hn⟩
theorem len_le {m : Nat} {b1 b2 : List Nat} (h1 : RowOk Q.q m b1) (h2 : RowOk Q.q m b2) {k : PQ Q} (pk : Pl k) (e : co Q b2 = co Q b1 * k) : b1.length ≤ b2.length ∧ (b1.length = b2.length → ∀ i, 1 ≤ i → k i = 0) := by
  have hk : k ≠ 0 := fun z => co_ne h2 (by rw [e, z]; grind)
  obtain ⟨d, d1, d2⟩ := top_of pk hk
  have ht := (Po.cv_top (b1.length - 1) (co Q b1) k d (bd_suc h1) d2).1
  have hne : (co Q b2) (b1.length - 1 + d) ≠ 0 := by
    rw [e]
    show Po.cv (co Q b1) k (b1.length - 1 + d) ≠ 0
    rw [ht]
    exact fun z => (El.dom _ _ z).elim (lead_ne h1) d1
  have hlt : b1.length - 1 + d < b2.length := Nat.lt_of_not_le fun z => hne (co_bd b2 _ z)
  have p1 := h1.pos
  refine ⟨by omega, fun he i hi => d2 i (by omega)⟩
/-- lowest terms are told by the value -/
theorem nf_inj {m : Nat} {t1 b1 t2 b2 : List Nat} (h1 : NF Q m t1 b1) (h2 : NF Q m t2 b2) (h : co Q t1 * co Q b2 = co Q t2 * co Q b1) : t1 = t2 ∧ b1 = b2 := by
  obtain ⟨u1, v1, pu1, pv1, c1⟩ := h1.cop
  obtain ⟨u2, v2, pu2, pv2, c2⟩ := h2.cop
  have k1 : co Q b2 = co Q b1 * (u1 * co Q t2 + v1 * co Q b2) := by grind
  have k2 : co Q b1 = co Q b2 * (u2 * co Q t1 + v2 * co Q b1) := by grind
  have pk1 : Pl (u1 * co Q t2 + v1 * co Q b2) := (pu1.mul (Pl.co _)).add (pv1.mul (Pl.co _))
  have pk2 : Pl (u2 * co Q t1 + v2 * co Q b1) := (pu2.mul (Pl.co _)).add (pv2.mul (Pl.co _))
  generalize u1 * co Q t2 + v1 * co Q b2 = k at k1 pk1
  obtain ⟨l1, l2⟩ := len_le h1.ob h2.ob pk1 k1
  have l3 := (len_le h2.ob h1.ob pk2 k2).1
  have hl : b1.length = b2.length := by omega
  have hk := l2 hl
  have hkc : k = Po.cs (k 0) := Po.ext fun i => by
    cases i with
    | zero => rfl
    | succ i => exact hk (i + 1) (by omega)
  have hlead : (co Q b2) (b2.length - 1) = (co Q b1) (b1.length - 1) * k 0 := by
    rw [hkc] at k1
    have h3 := (Po.cv_top (b1.length - 1) (co Q b1) (Po.cs (k 0)) 0 (bd_suc h1.ob) (fun i hi => by cases i with
      | zero => omega
      | succ i => rfl)).1
    rw [← hl]
    show _ = (co Q b1) (b1.length - 1) * (Po.cs (k 0)) 0
    rw [← h3, k1]
    rfl
  have m1 : (co Q b1) (b1.length - 1) = 1 := by
    show El.of Q _ = 1
    rw [h1.mon, of_one]
  have m2 : (co Q b2) (b2.length - 1) = 1 := by
    show El.of Q _ = 1
    rw [h2.mon, of_one]
  have hk0 : k 0 = 1 := by rw [m1, m2] at hlead; grind
  have hb : co Q b2 = co Q b1 := by
    rw [k1, hkc, hk0, cs_one]; grind
  have eb : b1 = b2 := co_inj h1.ob.l h2.ob.l h1.ob.t h2.ob.t hb.symm
  refine ⟨co_inj h1.lt h2.lt h1.tt h2.tt (can h1.ob ?_), eb⟩
  rw [hb] at h
  exact h
end
end Own
/-! the law's quotients -/
namespace Own
open PySem PySem.Spec PyProof.Rows L2 Evl

section
variable {K : PySem.W.Frag} {σ : L2.St} {H H' : Hp} {ta tb tc te tl tn : TE} {t : TT} {D : Ends} {tu tz : TS} {x y v : V} {tA : TA}
theorem dec_ints (xs ys : List Nat) : decide (xs.map Int.ofNat = ys.map Int.ofNat) = decide (xs = ys) := decide_eq_decide.mpr ⟨fun h => (List.map_inj_right (fun _ _ z => Int.ofNat.inj z)).mp h, fun h => by rw [h]⟩
theorem ev_neTT {xs ys : List Nat} (h1 : EvTt K ta σ H (xs.map N_)) (h2 : EvTt K tb σ H (ys.map N_)) : Ev (tOp (rNeD K) ta tb) σ H (.bl (!decide (xs = ys))) := fun H1 e Q q =>
  h1 H1 e _ fun p H2 e2 s2 => h2 H2 (e.trans e2) _ fun r H3 e3 s3 => rv_neT (K := K) (ns := xs.map Int.ofNat) (ms := ys.map Int.ofNat) (by rw [← mapN]; exact ex_t e3 s2) (by rw [← mapN]; exact s3) H3 (Ex.refl H3) Q fun H4 e4 => by
    rw [dec_ints]
    exact q H4 ((e2.trans e3).trans e4)
theorem ev_eqTT {xs ys : List Nat} (h1 : EvTt K ta σ H (xs.map N_)) (h2 : EvTt K tb σ H (ys.map N_)) : Ev (tOp (rEqD K) ta tb) σ H (.bl (decide (xs = ys))) := fun H1 e Q q =>
  h1 H1 e _ fun p H2 e2 s2 => h2 H2 (e.trans e2) _ fun r H3 e3 s3 => rv_eqT (K := K) (ns := xs.map Int.ofNat) (ms := ys.map Int.ofNat) (by rw [← mapN]; exact ex_t e3 s2) (by rw [← mapN]; exact s3) H3 (Ex.refl H3) Q fun H4 e4 => by
    rw [dec_ints]
    exact q H4 ((e2.trans e3).trans e4)
theorem q_parT {i j : Nat} {ys : List V} (h : Ev ta σ H x) (h2 : EvTt K tb σ H ys) (k : ∀ p H1, Ex H H1 → SqT K H1 p ys → tz D ((σ.set i (some x)).set j (some (.ref p))) H1) : tSeq (tPar i j (tCons ta (tCons tb tNil))) tz D σ H :=
  h H (Ex.refl H) _ fun H1 e1 => h2 H1 e1 _ fun p H2 e2 s2 => ⟨x, .ref p, rfl, k p H2 (e1.trans e2) s2⟩
theorem tt_call3M {sp : Sp} {E : XK} {xs zs : List V} (h1 : Ev ta σ H x) (h2 : EvTt K tb σ H xs) (h3 : Ev tc σ H y) (hs : ∀ p H1, Ex H H1 → SqT K H1 p xs → ∀ Q : VK, RetTt K zs H1 Q → ∀ E, sp [x, .ref p, y] H1 Q E) : EvTt K (tCall sp [] E (tCons ta (tCons tb (tCons tc tNil)))) σ H zs := fun H1 e Q q =>
  h1 H1 e _ fun H2 e2 => h2 H2 (e.trans e2) _ fun p H3 e3 hp => h3 H3 ((e.trans e2).trans e3) _ fun H4 e4 => hs p H4 (((e.trans e2).trans e3).trans e4) (ex_t e4 hp) Q (q.go ((e2.trans e3).trans e4)) _
theorem retU_T {xs : List V} {H : Hp} {Q : VK} (q : RetTt K xs H Q) : RetU xs H Q := fun p H1 _ e1 h1 => q p H1 e1 (st_of h1)
theorem q_parTT {i j : Nat} {xs ys : List V} (h : EvTt K ta σ H xs) (h2 : EvTt K tb σ H ys) (k : ∀ p r H1, Ex H H1 → SqT K H1 p xs → SqT K H1 r ys → tz D ((σ.set i (some (.ref p))).set j (some (.ref r))) H1) : tSeq (tAsg (tTup (tCons ta (tCons tb tNil))) (gTup K 2 (gCons (gName i) (gCons (gName j) gNil)))) tz D σ H :=
  h H (Ex.refl H) _ fun p H1 e1 hp => h2 H1 e1 _ fun r H2 e2 hr => ⟨by show 2 ≤ sizeLine; decide, fun t nt => ⟨t, [.ref p, .ref r], rfl, st_of upd_same, rfl, .ref p, [.ref r], rfl, .ref r, [], rfl, rfl, k p r _ ((e1.trans e2).trans (Ex.new nt)) (ex_t (e2.trans (Ex.new nt)) hp) (ex_t (Ex.new nt) hr)⟩⟩
theorem q_asgCall {sp : Sp} {E : XK} {i : Nat} {vs : List V} (hA : EvA tA σ H vs) (k : ∀ H1, Ex H H1 → sp vs H1 (fun v H2 => tz D (σ.set i (some v)) H2) E) : tSeq (tAsg (tCall sp [] E tA) (gName i)) tz D σ H := hA H (Ex.refl H) _ fun H1 e1 => by
  rw [List.append_nil]
  exact k H1 e1
end

def pdT (xss : List (List Nat)) : List PyData := xss.map fun xs => .tuple (pdI (xs.map Int.ofNat))
theorem canT : ∀ xss : List (List Nat), PyData.canLayAll0 (pdT xss) = true ∧ PyData.depthAll (pdT xss) ≤ 1
  | [] => ⟨rfl, Nat.zero_le _⟩
  | xs :: r => by
    obtain ⟨h1, h2⟩ := canT r
    refine ⟨?_, ?_⟩
    · show (PyData.canLayAll0 (pdI (xs.map Int.ofNat)) && PyData.canLayAll0 (pdT r)) = true
      rw [canI, h1]
      rfl
    · show max (PyData.depthAll (pdI (xs.map Int.ofNat)) + 1) (PyData.depthAll (pdT r)) ≤ 1
      rw [depthI]
      omega
theorem eqvTT : ∀ xss : List (List Nat), PyData.eqvAll (pdT xss) (pdT xss) = true
  | [] => rfl
  | xs :: r => by
    show (PyData.eqvAll (pdI (xs.map Int.ofNat)) (pdI (xs.map Int.ofNat)) && PyData.eqvAll (pdT r) (pdT r)) = true
    rw [eqvI, eqvTT r, decide_eq_true rfl]
    rfl
theorem dp_tps {K : PySem.W.Frag} {H : Hp} : ∀ (xss : List (List Nat)) (rs : List Addr), Tps K H rs xss → DpAll K H (rs.map V.ref) (pdT xss)
  | [], rs, h => by
    rw [List.length_eq_zero_iff.mp (show rs.length = 0 from h.1)]
    exact .nil
  | xs :: r, [], h => absurd h.1 (by simp)
  | xs :: r, a :: rs, h => .cons (.tup (by have := h.2 0 a xs rfl rfl; rw [mapN] at this; exact this) (dp_ints _)) (dp_tps r rs ⟨Nat.succ.inj h.1, fun i t y e1 e2 => h.2 (i + 1) t y e1 e2⟩)
theorem rv_neTT {K : PySem.W.Frag} {H : Hp} {a b : Addr} {rs ss : List Addr} {xss : List (List Nat)} (h1 : SqT K H a (rs.map V.ref)) (t1 : Tps K H rs xss) (h2 : SqT K H b (ss.map V.ref)) (t2 : Tps K H ss xss) : RV (rNeD K) (.ref a) (.ref b) H (.bl false) := fun H1 e _ q =>
  ⟨_, _, .tup (ex_t e h1) (dp_tps xss rs (t1.ex e)), .tup (ex_t e h2) (dp_tps xss ss (t2.ex e)), by
    obtain ⟨c1, c2⟩ := canT xss
    show (PyData.canLayAll0 (pdT xss) && decide (PyData.depthAll (pdT xss) + 1 ≤ 64)) = true
    rw [c1, decide_eq_true (by omega)]
    rfl, by
    obtain ⟨c1, c2⟩ := canT xss
    show (PyData.canLayAll0 (pdT xss) && decide (PyData.depthAll (pdT xss) + 1 ≤ 64)) = true
    rw [c1, decide_eq_true (by omega)]
    rfl, by
    have : PyData.eqv (.tuple (pdT xss)) (.tuple (pdT xss)) = true := eqvTT xss
    rw [this]
    exact q H1 (Ex.refl H1)⟩

/-- a pair of rows in the heap -/
def PrA (K : PySem.W.Frag) (H : Hp) (p : Addr) (x : List Nat × List Nat) : Prop := ∃ r s, SqT K H p [.ref r, .ref s] ∧ SqT K H r (x.1.map N_) ∧ SqT K H s (x.2.map N_)
def RetPr (K : PySem.W.Frag) (x : List Nat × List Nat) (H : Hp) (Q : VK) : Prop := ∀ p H', Ex H H' → PrA K H' p x → Q (.ref p) H'
def EvPr (K : PySem.W.Frag) (te : TE) (σ : L2.St) (H : Hp) (x : List Nat × List Nat) : Prop := ∀ H1, Ex H H1 → ∀ Q : VK, RetPr K x H1 Q → te σ H1 Q
section
variable {K : PySem.W.Frag} {σ : L2.St} {H H' H1 : Hp} {ta tb tc te tl tn : TE} {t : TT} {D : Ends} {tu tz : TS} {v : V} {tA : TA} {x y z : List Nat × List Nat} {p a d : Addr} {q : Nat} {xs ys : List Nat} {Q : VK} {E : XK}
theorem PrA.ex (h : PrA K H p x) (e : Ex H H') : PrA K H' p x := let ⟨r, s, a, b, c⟩ := h; ⟨r, s, ex_t e a, ex_t e b, ex_t e c⟩
theorem RetPr.go (h : RetPr K x H Q) (e : Ex H H1) : RetPr K x H1 Q := fun p H2 e2 h2 => h p H2 (e.trans e2) h2
theorem pr_tup (h1 : EvTt K ta σ H (xs.map N_)) (h2 : EvTt K tb σ H (ys.map N_)) : EvPr K (tTup (tCons ta (tCons tb tNil))) σ H (xs, ys) := fun H1 e Q q => h1 H1 e _ fun r H2 e2 s2 => h2 H2 (e.trans e2) _ fun s H3 e3 s3 => ⟨by show 2 ≤ sizeLine; decide, fun p np => q p _ ((e2.trans e3).trans (Ex.new np)) ⟨r, s, st_of upd_same, ex_t (e3.trans (Ex.new np)) s2, ex_t (Ex.new np) s3⟩⟩
theorem pr_var (h : Ev te σ H (.ref p)) (hp : PrA K H p x) : EvPr K te σ H x := fun H1 e Q q => h H1 e _ fun H2 e2 => q p H2 e2 (hp.ex (e.trans e2))
theorem tt_i0 (h : Ev ta σ H (.ref p)) (hp : PrA K H p x) : EvTt K (tOp (rIxT K) ta (tC (.int 0))) σ H (x.1.map N_) := by
  obtain ⟨r, s, h1, h2, h3⟩ := hp
  exact tt_var (ev_op h ev_c (rv_ixT (v := .ref r) h1 rfl)) h2
theorem tt_i1 (h : Ev ta σ H (.ref p)) (hp : PrA K H p x) : EvTt K (tOp (rIxT K) ta (tC (.int 1))) σ H (x.2.map N_) := by
  obtain ⟨r, s, h1, h2, h3⟩ := hp
  exact tt_var (ev_op h ev_c (rv_ixT (v := .ref s) h1 rfl)) h3
theorem s_retP (h : EvPr K te σ H x) (k : RetPr K x H fun v H => D.rt v H) : tRet te D σ H := h H (Ex.refl H) _ k
theorem q_asgPr {i : Nat} (h : EvPr K te σ H x) (k : ∀ p H1, Ex H H1 → PrA K H1 p x → tz D (σ.set i (some (.ref p))) H1) : tSeq (tAsg te (gName i)) tz D σ H := h H (Ex.refl H) _ fun p H1 e1 h1 => k p H1 e1 h1
theorem s_asgPr {i : Nat} (h : EvPr K te σ H x) (k : ∀ p H1, Ex H H1 → PrA K H1 p x → D.nx (σ.set i (some (.ref p))) H1) : tAsg te (gName i) D σ H := h H (Ex.refl H) _ fun p H1 e1 h1 => k p H1 e1 h1
theorem pr_is (h : EvPr K te σ H x) (e : x = y) : EvPr K te σ H y := e ▸ h
/-- f(d, pair, pair) -/
theorem pr_call3 {sp : Sp} (h1 : Ev ta σ H v) (h2 : EvPr K tb σ H x) (h3 : EvPr K tc σ H y) (hs : ∀ p r H1, Ex H H1 → PrA K H1 p x → PrA K H1 r y → ∀ Q : VK, RetPr K z H1 Q → ∀ E, sp [v, .ref p, .ref r] H1 Q E) : EvPr K (tCall sp [] E (tCons ta (tCons tb (tCons tc tNil)))) σ H z := fun H1 e Q q =>
  h1 H1 e _ fun H2 e2 => h2 H2 (e.trans e2) _ fun p H3 e3 hp => h3 H3 ((e.trans e2).trans e3) _ fun r H4 e4 hr => hs p r H4 (((e.trans e2).trans e3).trans e4) (hp.ex e4) hr Q (q.go ((e2.trans e3).trans e4)) _
/-- f(d, row, row), a pair told -/
theorem pr_call3T {sp : Sp} {us ws : List V} (h1 : Ev ta σ H v) (h2 : EvTt K tb σ H us) (h3 : EvTt K tc σ H ws) (hs : ∀ p r H1, Ex H H1 → SqT K H1 p us → SqT K H1 r ws → ∀ Q : VK, RetPr K z H1 Q → ∀ E, sp [v, .ref p, .ref r] H1 Q E) : EvPr K (tCall sp [] E (tCons ta (tCons tb (tCons tc tNil)))) σ H z := fun H1 e Q q =>
  h1 H1 e _ fun H2 e2 => h2 H2 (e.trans e2) _ fun p H3 e3 hp => h3 H3 ((e.trans e2).trans e3) _ fun r H4 e4 hr => hs p r H4 (((e.trans e2).trans e3).trans e4) (ex_t e4 hp) hr Q (q.go ((e2.trans e3).trans e4)) _
/-- f(n, pair, i), a pair told -/
theorem pr_call3M {sp : Sp} {w : V} (h1 : Ev ta σ H v) (h2 : EvPr K tb σ H x) (h3 : Ev tc σ H w) (hs : ∀ p H1, Ex H H1 → PrA K H1 p x → ∀ Q : VK, RetPr K z H1 Q → ∀ E, sp [v, .ref p, w] H1 Q E) : EvPr K (tCall sp [] E (tCons ta (tCons tb (tCons tc tNil)))) σ H z := fun H1 e Q q =>
  h1 H1 e _ fun H2 e2 => h2 H2 (e.trans e2) _ fun p H3 e3 hp => h3 H3 ((e.trans e2).trans e3) _ fun H4 e4 => hs p H4 (((e.trans e2).trans e3).trans e4) (hp.ex e4) Q (q.go ((e2.trans e3).trans e4)) _
theorem tt_mul (hq : Fq q) (hf : FldAt (fun _ => True) H d q) (h1 : Ev ta σ H (.ref d)) (h2 : EvTt K tb σ H (xs.map N_)) (h3 : EvTt K tc σ H (ys.map N_)) (lx : Lq q xs) (ly : Lq q ys) (hl : xs.length ≤ 3000) (hm : ys.length ≤ 3000) : EvTt K (tCall (sp__law_product K) [] E (tCons ta (tCons tb (tCons tc tNil)))) σ H ((muN q xs ys).map N_) :=
  tt_call3T h1 h2 h3 fun p r H1 e1 s1 s2 Q q1 E => ⟨d, p, r, q, xs, ys, rfl, hq, hf.ex e1, s1, s2, lx, ly, hl, hm, retU_T q1⟩
theorem tt_plus (hq : Fq q) (hf : FldAt (fun _ => True) H d q) (h1 : Ev ta σ H (.ref d)) (h2 : EvTt K tb σ H (xs.map N_)) (h3 : EvTt K tc σ H (ys.map N_)) (lx : Lq q xs) (ly : Lq q ys) (hl : xs.length ≤ 5000) (hm : ys.length ≤ 5000) : EvTt K (tCall (sp__law_plus K) [] E (tCons ta (tCons tb (tCons tc tNil)))) σ H ((plN q xs ys).map N_) :=
  tt_call3T h1 h2 h3 fun p r H1 e1 s1 s2 Q q1 E => ⟨d, p, r, q, xs, ys, rfl, hq, hf.ex e1, s1, s2, lx, ly, hl, hm, retU_T q1⟩
/-- pairs compared -/
theorem rv_nePr (h1 : PrA K H p x) (h2 : PrA K H a x) : RV (rNeD K) (.ref p) (.ref a) H (.bl false) := by
  obtain ⟨r, s, a1, a2, a3⟩ := h1
  obtain ⟨r', s', b1, b2, b3⟩ := h2
  have tp : ∀ {r s : Addr}, SqT K H r (x.1.map N_) → SqT K H s (x.2.map N_) → Tps K H [r, s] [x.1, x.2] := fun {r s} h1 h2 => ⟨rfl, fun j t ys ej ey => by
    rcases j with _ | _ | j
    · cases ej; cases ey; exact h1
    · cases ej; cases ey; exact h2
    · cases ej⟩
  exact rv_neTT (K := K) (rs := [r, s]) (ss := [r', s']) (xss := [x.1, x.2]) a1 (tp a2 a3) b1 (tp b2 b3)
theorem et_nePr (h1 : EvPr K ta σ H x) (h2 : EvPr K tb σ H x) : EvT (tTest (tOp (rNeD K) ta tb)) σ H false := fun H1 e Q q =>
  h1 H1 e _ fun p H2 e2 p2 => h2 H2 (e.trans e2) _ fun r H3 e3 p3 => rv_nePr (p2.ex e3) p3 H3 (Ex.refl H3) _ fun H4 e4 => ⟨false, rfl, q H4 ((e2.trans e3).trans e4)⟩
end
section
variable {K : PySem.W.Frag} {σ : L2.St} {H : Hp} {ta tb : TE} {D : Ends} {tz : TS}
theorem q_parTT2 {i j : Nat} {xs ys : List V} (h : EvTt K ta σ H xs) (h2 : EvTt K tb σ H ys) (k : ∀ p r H1, Ex H H1 → SqT K H1 p xs → SqT K H1 r ys → tz D ((σ.set i (some (.ref p))).set j (some (.ref r))) H1) : tSeq (tPar i j (tCons ta (tCons tb tNil))) tz D σ H :=
  h H (Ex.refl H) _ fun p H1 e1 hp => h2 H1 e1 _ fun r H2 e2 hr => ⟨.ref p, .ref r, rfl, k p r H2 (e1.trans e2) (ex_t e2 hp) hr⟩
end
/-! what may stand in a quotient -/
structure GP (q m : Nat) (x : List Nat × List Nat) : Prop where
  lt : Lq q x.1
  tt : Tr x.1
  zt : x.1.length ≤ m
  ob : RowOk q m x.2
theorem GP.le {q m n : Nat} {x : List Nat × List Nat} (h : GP q m x) (e : m ≤ n) : GP q n x := ⟨h.lt, h.tt, Nat.le_trans h.zt e, h.ob.le e⟩
theorem NF.gp {Q : FQt} {m : Nat} {x : List Nat × List Nat} (h : NF Q m x.1 x.2) : GP Q.q m x := ⟨h.lt, h.tt, h.zt, h.ob⟩
def qpN (q : Nat) (x y : List Nat × List Nat) : List Nat × List Nat := qtN q (plN q (muN q x.1 y.2) (muN q y.1 x.2)) (muN q x.2 y.2)
def qmN (q : Nat) (x y : List Nat × List Nat) : List Nat × List Nat := qtN q (muN q x.1 y.1) (muN q x.2 y.2)
def rpN (q : Nat) (x : List Nat × List Nat) (i : Nat) : List Nat × List Nat := (skN (q ^ i) x.1, skN (q ^ i) x.2)
section
variable {q : Nat} {xs ys : List Nat}
theorem mu_leng {q : Nat} {xs ys : List Nat} (hx : xs ≠ []) (hy : ys ≠ []) : (muN q xs ys).length = xs.length + ys.length - 1 := by
  unfold muN
  rw [if_neg (fun z => z.elim hx hy), muS_len]
theorem mu_row {m n : Nat} (hq : Fq q) (hx : RowOk q m xs) (hy : RowOk q n ys) : RowOk q (m + n - 1) (muN q xs ys) := by
  have hl := mu_leng (q := q) hx.n hy.n
  have h1 := hx.pos
  have h2 := hy.pos
  have h3 := hx.z
  have h4 := hy.z
  refine ⟨mu_lq hq hx.l hy.l, fun _ => ?_, List.length_pos_iff.mp (by omega), by omega⟩
  have h5 := (Po.cv_top (xs.length - 1) (co ⟨q, hq⟩ xs) (co ⟨q, hq⟩ ys) (ys.length - 1) (bd_suc (Q := ⟨q, hq⟩) hx) (bd_suc (Q := ⟨q, hq⟩) hy)).1
  have h6 : (co ⟨q, hq⟩ (muN q xs ys)) ((muN q xs ys).length - 1) ≠ 0 := by
    rw [co_mul (Q := ⟨q, hq⟩) hx.l hy.l, hl, show xs.length + ys.length - 1 - 1 = xs.length - 1 + (ys.length - 1) by omega]
    show Po.cv _ _ _ ≠ 0
    rw [h5]
    exact fun z => (El.dom _ _ z).elim (lead_ne (Q := ⟨q, hq⟩) hx) (lead_ne (Q := ⟨q, hq⟩) hy)
  have h7 := El.ne_zero.mp h6
  rwa [co_v (Q := ⟨q, hq⟩) (mu_lq hq hx.l hy.l)] at h7
theorem mu_tr (hq : Fq q) (lx : Lq q xs) (ly : Lq q ys) (tx : Tr xs) (ty : Tr ys) : Tr (muN q xs ys) := by
  by_cases h : xs = [] ∨ ys = []
  · have : muN q xs ys = [] := by unfold muN; rw [if_pos h]
    rw [this]
    exact fun h => absurd rfl h
  · have hx : RowOk q xs.length xs := ⟨lx, tx, fun z => h (.inl z), Nat.le_refl _⟩
    have hy : RowOk q ys.length ys := ⟨ly, ty, fun z => h (.inr z), Nat.le_refl _⟩
    exact (mu_row hq hx hy).t
theorem mu_le {m n : Nat} (hx : xs.length ≤ m) (hy : ys.length ≤ n) (hn : 1 ≤ n) : (muN q xs ys).length ≤ m + n - 1 := by
  have := mu_len q xs ys
  omega
theorem gp_mul {m n : Nat} {x y : List Nat × List Nat} (hq : Fq q) (hx : GP q m x) (hy : GP q n y) : NF ⟨q, hq⟩ (m + n - 1) (qmN q x y).1 (qmN q x y).2 ∧ co ⟨q, hq⟩ (qmN q x y).1 * co ⟨q, hq⟩ (muN q x.2 y.2) = co ⟨q, hq⟩ (muN q x.1 y.1) * co ⟨q, hq⟩ (qmN q x y).2 := by
  have h1 := hx.ob.pos
  have h2 := hy.ob.pos
  have h3 := hx.ob.z
  have h4 := hy.ob.z
  exact qt_nf (Q := ⟨q, hq⟩) (by omega) (mu_lq hq hx.lt hy.lt) (mu_tr hq hx.lt hy.lt hx.tt hy.tt) (mu_le hx.zt hy.zt (by omega)) (mu_row hq hx.ob hy.ob)
theorem gp_add {m n : Nat} {x y : List Nat × List Nat} (hq : Fq q) (hx : GP q m x) (hy : GP q n y) : NF ⟨q, hq⟩ (m + n - 1) (qpN q x y).1 (qpN q x y).2 ∧ co ⟨q, hq⟩ (qpN q x y).1 * co ⟨q, hq⟩ (muN q x.2 y.2) = co ⟨q, hq⟩ (plN q (muN q x.1 y.2) (muN q y.1 x.2)) * co ⟨q, hq⟩ (qpN q x y).2 := by
  have h1 := hx.ob.pos
  have h2 := hy.ob.pos
  have h3 := hx.ob.z
  have h4 := hy.ob.z
  have a1 := mu_le (q := q) hx.zt hy.ob.z (by omega)
  have a2 := mu_le (q := q) hy.zt hx.ob.z (by omega)
  refine qt_nf (Q := ⟨q, hq⟩) (by omega) (pl_lq hq (mu_lq hq hx.lt hy.ob.l) (mu_lq hq hy.lt hx.ob.l)) (by unfold plN; exact tr_tr _) (Nat.le_trans (pl_len _ _ _) ?_) (mu_row hq hx.ob hy.ob)
  omega
theorem sk_last {s : Nat} (hs : 0 < s) (hx : xs ≠ []) : (skN s xs).length = s * (xs.length - 1) + 1 ∧ (skN s xs).getD (s * (xs.length - 1)) 0 = xs.getD (xs.length - 1) 0 := by
  have hp := List.length_pos_iff.mpr hx
  unfold skN
  rw [if_neg hx]
  refine ⟨skF_len _ _ _, ?_⟩
  unfold skF
  rw [List.getD_eq_getElem?_getD, List.getElem?_map, List.getElem?_range (by omega)]
  show (if _ then _ else 0) = _
  rw [Nat.mul_mod_right, Nat.mul_div_cancel_left _ hs, if_pos ⟨rfl, by omega⟩]
theorem sk_tr {s : Nat} (hs : 0 < s) (tx : Tr xs) : Tr (skN s xs) := by
  by_cases h : xs = []
  · have : skN s xs = [] := by unfold skN; rw [if_pos h]
    rw [this]
    exact fun h => absurd rfl h
  · obtain ⟨h1, h2⟩ := sk_last hs h
    intro _
    rw [h1, Nat.add_sub_cancel, h2]
    exact tx (by have := List.length_pos_iff.mpr h; omega)
theorem gp_root {m n i : Nat} {x : List Nat × List Nat} (hq : Fq q) (hx : GP q m x) (h1 : q ^ i * (x.1.length - 1) + 1 ≤ n) (h2 : q ^ i * (x.2.length - 1) + 1 ≤ n) : GP q n (rpN q x i) := by
  have h0 : 0 < q := by have := hq.b; omega
  have hs : 0 < q ^ i := Nat.pow_pos h0
  have ho := (sk_last hs hx.ob.n).1
  refine ⟨skN_lq h0 hx.lt, sk_tr hs hx.tt, Nat.le_trans (skN_len _ _) h1, skN_lq h0 hx.ob.l, sk_tr hs hx.ob.t, List.length_pos_iff.mp (by show 0 < (skN _ _).length; omega), ?_⟩
  show (skN _ _).length ≤ n
  omega
end

def sp__law_quotient (K : PySem.W.Frag) : Sp := fun vs H Q _ => ∃ (d a b : Addr) (q m : Nat) (xs ys : List Nat), vs = [.ref d, .ref a, .ref b] ∧ Fq q ∧ FldAt (fun _ => True) H d q ∧ SqT K H a (xs.map N_) ∧ SqT K H b (ys.map N_) ∧ Lq q xs ∧ Tr xs ∧ xs.length ≤ 3000 ∧ RowOk q 3000 ys ∧ RetPr K (qtN q xs ys) H Q
theorem lowr_ok {q m : Nat} (hq : Fq q) {xs ys : List Nat} (lx : Lq q xs) (zx : xs.length ≤ m) (hy : RowOk q m ys) : RowOk q m (ptQ q ys (cmN q xs ys)) := by
  obtain ⟨u, v, a, b, pu, pv, pa, pb, h1, h2, h3⟩ := cmN_sem (Q := ⟨q, hq⟩) lx zx hy
  have hg : RowOk q m (cmN q xs ys) := cmN_ok hq lx zx hy
  have ey := pt_exact (Q := ⟨q, hq⟩) hy.l hg pb h3
  refine ⟨(ptP_lq hq hy.l hg.l hg.pos hg.last).1, tr_tr _, fun z => co_ne (Q := ⟨q, hq⟩) hy ?_, Nat.le_trans (ptQ_len ys _) (by have := hg.pos; have := hy.z; omega)⟩
  rw [ey]
  show _ * co ⟨q, hq⟩ (ptQ q ys (cmN q xs ys)) = 0
  rw [z, co_nil]
  grind
theorem mc_sc {q : Nat} {xs : List Nat} (h : xs ≠ []) : mcN q xs = scN q (ivE q (xs.getD (xs.length - 1) 0)) xs := by unfold mcN; rw [if_neg h]

theorem ok__law_quotient {P : Program} {w : World} {K : PySem.W.Frag} {mg : Str → Option Value} {base : Heap} (T : Txt K mg) : FnOk P w K mg base CX0 5 T.a__law_quotient T.d__law_quotient ["_law_field_here", "_law_top", "_law_bottom"] (sp__law_quotient K) := by
  refine T.F__law_quotient.ok sc__law_quotient (fun vs H Q E h => ?_) (fun cdv A outer s H vs Q E hr h => ?_)
  · obtain ⟨d, a, b, q, m, xs, ys, rfl, _⟩ := h
    rfl
  · obtain ⟨d, a, b, q, m, xs, ys, rfl, hq, hf, hx, hy, lx, tx, zx, oy, kk⟩ := h
    refine ⟨_, (pss_cons (ps_if (pt_cmpR (op_eqD hr.units) (pv 1) (pe_tup pa_nil) (nomark _)) (pss_one (ps_ret (pe_tup (pa_cons (pe_tup pa_nil) (pa_cons (pe_tup (pa_cons pe_int pa_nil)) pa_nil))))) pss_nil)
      (pss_cons (ps_set (i := 3) sc__law_quotient.nd rfl (Or.inl rfl) (pe_call (ok__law_common T) (hr.mono (by decide)) (by rfl) T.g__law_common T.F__law_common.kp T.b__law_common .nil pass0 (pa_cons (pv 0) (pa_cons (pv 1) (pa_cons (pv 2) pa_nil)))))
      (pss_cons (ps_par (i := 4) (j := 5) (by rfl) sc__law_quotient.nd rfl rfl (by decide) rfl rfl (pa_cons (pe_ix (r := rIxT K) ix_tup (pe_call (ok__law_parted T) (hr.mono (by decide)) (by rfl) T.g__law_parted T.F__law_parted.kp T.b__law_parted .nil pass0 (pa_cons (pv 0) (pa_cons (pv 1) (pa_cons (pv 3) pa_nil)))) pe_int (fun _ _ => rfl)) (pa_cons (pe_ix (r := rIxT K) ix_tup (pe_call (ok__law_parted T) (hr.mono (by decide)) (by rfl) T.g__law_parted T.F__law_parted.kp T.b__law_parted .nil pass0 (pa_cons (pv 0) (pa_cons (pv 2) (pa_cons (pv 3) pa_nil)))) pe_int (fun _ _ => rfl)) pa_nil)) (by rfl))
      (pss_cons (ps_set (i := 6) sc__law_quotient.nd rfl (Or.inl rfl) (pe_bm PySem.F.plainAttrs_list PySem.F.slot_list_index PySem.F.type_list_index mt_index (pe_ix (r := rIxL K) ix_list (pe_dget (hu_of hr) (pv 0) pe_str (fun _ _ => rfl)) (pe_ix (r := rIxT K) ix_tup (pv 5) (pe_un un_neg pe_int) (fun _ _ => rfl)) (fun _ _ => rfl)) (pa_cons pe_int pa_nil)))
      (pss_one (ps_ret (pe_tup (pa_cons (pe_call (ok__law_scaled T) (hr.mono (by decide)) (by rfl) T.g__law_scaled T.F__law_scaled.kp T.b__law_scaled .nil pass0 (pa_cons (pv 0) (pa_cons (pv 6) (pa_cons (pv 4) pa_nil)))) (pa_cons (pe_call (ok__law_scaled T) (hr.mono (by decide)) (by rfl) T.g__law_scaled T.F__law_scaled.kp T.b__law_scaled .nil pass0 (pa_cons (pv 0) (pa_cons (pv 6) (pa_cons (pv 5) pa_nil)))) pa_nil))))))))), ?_⟩
    have hq0 := hq.b
    refine q_when (b := decide (xs = [])) (et_test (ev_eqNil (K := K) (ev_var rfl) hx)) (fun hb H1 e1 => ?_) (fun hb H1 e1 => ?_)
    · rw [decide_eq_true_eq] at hb
      have he : qtN q xs ys = ([], [1]) := by unfold qtN; rw [if_pos hb]
      rw [he] at kk
      exact s_retP (pr_tup (xs := []) (ys := [1]) (tt_new (eu_tup (vs := []) ea_nil (by decide))) (tt_new (eu_tup (vs := [N_ 1]) (ea_cons ev_c ea_nil) (by show 1 ≤ 100000; decide)))) (kk.go e1)
    · rw [decide_eq_false_iff_not] at hb
      have hg : RowOk q 3000 (cmN q xs ys) := cmN_ok hq lx zx oy
      have ol := lowr_ok hq lx zx oy
      have he : qtN q xs ys = (scN q (ivE q ((ptQ q ys (cmN q xs ys)).getD ((ptQ q ys (cmN q xs ys)).length - 1) 0)) (ptQ q xs (cmN q xs ys)), scN q (ivE q ((ptQ q ys (cmN q xs ys)).getD ((ptQ q ys (cmN q xs ys)).length - 1) 0)) (ptQ q ys (cmN q xs ys))) := by unfold qtN; rw [if_neg hb, mc_sc ol.n]
      rw [he] at kk
      have lhq := (ptP_lq hq lx hg.l hg.pos hg.last).1
      have zh : (ptQ q xs (cmN q xs ys)).length ≤ 3000 := Nat.le_trans (ptQ_len xs _) (by have := hg.pos; omega)
      refine q_asgT (tt_call (K := K) (xs := (cmN q xs ys).map N_) (ea_cons (ev_var rfl) (ea_cons (ev_var rfl) (ea_cons (ev_var rfl) ea_nil))) (sv__law_common (K := K) hq (hf.ex e1) (ex_t e1 hx) (ex_t e1 hy) lx zx oy)) fun g H2 e2 sg => ?_
      have e12 := e1.trans e2
      generalize cmN q xs ys = G at *
      refine q_parTT2 (K := K) (xs := (ptQ q xs G).map N_) (ys := (ptQ q ys G).map N_) (tt_parted (K := K) false (ea_cons (ev_var rfl) (ea_cons (ev_var rfl) (ea_cons (ev_var rfl) ea_nil))) hq (hf.ex e12) (ex_t e12 hx) sg lx hg.l hg.pos hg.last zx hg.z) (tt_parted (K := K) false (ea_cons (ev_var rfl) (ea_cons (ev_var rfl) (ea_cons (ev_var rfl) ea_nil))) hq (hf.ex e12) (ex_t e12 hy) sg oy.l hg.l hg.pos hg.last oy.z hg.z) fun h l H3 e3 sh sl => ?_
      have e13 := e12.trans e3
      obtain ⟨_, kvs, a1, a2, a3, hdk, gq, gp, gf, g1, g2, g3, l1, l2, _, hmi⟩ := hf.ex e13
      have hlast := ol.l.get (by omega) ((ptQ q ys G).length - 1)
      have hpos := ol.pos
      obtain ⟨i1, _, _⟩ := iv_ok hq hlast ol.last
      refine q_asg (v := N_ (ivE q ((ptQ q ys G).getD ((ptQ q ys G).length - 1) 0))) (ev_inv (K := K) (N := fun _ => True) hq l2 (ev_dg (ev_var rfl) hdk g2) (ev_op (ev_var rfl) (ev_un ev_c ru_neg) (rv_ixT sl (v := N_ ((ptQ q ys G).getD ((ptQ q ys G).length - 1) 0)) (by
        show atI ((ptQ q ys G).map N_) (-1) = some _
        exact atI_lastN (n := (ptQ q ys G).length - 1) (by rw [List.length_map]; omega) (get_N (by omega))))) hlast ol.last) fun H4 e4 => ?_
      have e14 := e13.trans e4
      exact s_retP (pr_tup (K := K) (tt_new (eu_call (ea_cons (ev_var rfl) (ea_cons (ev_var rfl) (ea_cons (ev_var rfl) ea_nil))) (sv__law_scaled (K := K) hq (hf.ex e14) i1 (ex_t e4 sh) lhq zh))) (tt_new (eu_call (ea_cons (ev_var rfl) (ea_cons (ev_var rfl) (ea_cons (ev_var rfl) ea_nil))) (sv__law_scaled (K := K) hq (hf.ex e14) i1 (ex_t e4 sl) ol.l ol.z)))) (kk.go e14)


def sp__law_quotient_plus (K : PySem.W.Frag) : Sp := fun vs H Q _ => ∃ (d a b : Addr) (q : Nat) (x y : List Nat × List Nat), vs = [.ref d, .ref a, .ref b] ∧ Fq q ∧ FldAt (fun _ => True) H d q ∧ PrA K H a x ∧ PrA K H b y ∧ (∃ m n, m + n ≤ 3000 ∧ GP q m x ∧ GP q n y) ∧ RetPr K (qpN q x y) H Q
def sp__law_quotient_product (K : PySem.W.Frag) : Sp := fun vs H Q _ => ∃ (d a b : Addr) (q : Nat) (x y : List Nat × List Nat), vs = [.ref d, .ref a, .ref b] ∧ Fq q ∧ FldAt (fun _ => True) H d q ∧ PrA K H a x ∧ PrA K H b y ∧ (∃ m n, m + n ≤ 3000 ∧ GP q m x ∧ GP q n y) ∧ RetPr K (qmN q x y) H Q

theorem ok__law_quotient_plus {P : Program} {w : World} {K : PySem.W.Frag} {mg : Str → Option Value} {base : Heap} (T : Txt K mg) : FnOk P w K mg base CX0 6 T.a__law_quotient_plus T.d__law_quotient_plus ["_law_field_here", "_law_one", "_law_other"] (sp__law_quotient_plus K) := by
  refine T.F__law_quotient_plus.ok sc__law_quotient_plus (fun vs H Q E h => ?_) (fun cdv A outer s H vs Q E hr h => ?_)
  · obtain ⟨d, a, b, q, x, y, rfl, _⟩ := h
    rfl
  · obtain ⟨d, a, b, q, x, y, rfl, hq, hf, hx, hy, ⟨m, n, hmn, gx, gy⟩, kk⟩ := h
    refine ⟨_, (pss_cons (ps_set (i := 3) sc__law_quotient_plus.nd rfl (Or.inl rfl) (pe_call (ok__law_plus T) (hr.mono (by decide)) (by rfl) T.g__law_plus T.F__law_plus.kp T.b__law_plus .nil pass0 (pa_cons (pv 0) (pa_cons (pe_call (ok__law_product T) (hr.mono (by decide)) (by rfl) T.g__law_product T.F__law_product.kp T.b__law_product .nil pass0 (pa_cons (pv 0) (pa_cons (pe_ix (r := rIxT K) ix_tup (pv 1) pe_int (fun _ _ => rfl)) (pa_cons (pe_ix (r := rIxT K) ix_tup (pv 2) pe_int (fun _ _ => rfl)) pa_nil)))) (pa_cons (pe_call (ok__law_product T) (hr.mono (by decide)) (by rfl) T.g__law_product T.F__law_product.kp T.b__law_product .nil pass0 (pa_cons (pv 0) (pa_cons (pe_ix (r := rIxT K) ix_tup (pv 2) pe_int (fun _ _ => rfl)) (pa_cons (pe_ix (r := rIxT K) ix_tup (pv 1) pe_int (fun _ _ => rfl)) pa_nil)))) pa_nil)))))
      (pss_one (ps_ret (pe_call (ok__law_quotient T) (hr.mono (by decide)) (by rfl) T.g__law_quotient T.F__law_quotient.kp T.b__law_quotient .nil pass0 (pa_cons (pv 0) (pa_cons (pv 3) (pa_cons (pe_call (ok__law_product T) (hr.mono (by decide)) (by rfl) T.g__law_product T.F__law_product.kp T.b__law_product .nil pass0 (pa_cons (pv 0) (pa_cons (pe_ix (r := rIxT K) ix_tup (pv 1) pe_int (fun _ _ => rfl)) (pa_cons (pe_ix (r := rIxT K) ix_tup (pv 2) pe_int (fun _ _ => rfl)) pa_nil)))) pa_nil))))))), ?_⟩
    have hq0 := hq.b
    have z1 := gx.zt
    have z2 := gy.zt
    have z3 := gx.ob.z
    have z4 := gy.ob.z
    have p3 := gx.ob.pos
    have p4 := gy.ob.pos
    have a1 := mu_le (q := q) gx.zt gy.ob.z (by omega)
    have a2 := mu_le (q := q) gy.zt gx.ob.z (by omega)
    refine q_asgT (tt_plus (K := K) hq hf (ev_var rfl) (tt_mul hq hf (ev_var rfl) (tt_i0 (ev_var rfl) hx) (tt_i1 (ev_var rfl) hy) gx.lt gy.ob.l (by omega) (by omega)) (tt_mul hq hf (ev_var rfl) (tt_i0 (ev_var rfl) hy) (tt_i1 (ev_var rfl) hx) gy.lt gx.ob.l (by omega) (by omega)) (mu_lq hq gx.lt gy.ob.l) (mu_lq hq gy.lt gx.ob.l) (by omega) (by omega)) fun h H1 e1 sh => ?_
    have lp := pl_lq hq (mu_lq hq gx.lt gy.ob.l) (mu_lq hq gy.lt gx.ob.l)
    have zp := pl_len q (muN q x.1 y.2) (muN q y.1 x.2)
    exact s_retP (pr_call3T (K := K) (v := .ref d) (us := (plN q (muN q x.1 y.2) (muN q y.1 x.2)).map N_) (ws := (muN q x.2 y.2).map N_) (ev_var rfl) (tt_var (ev_var rfl) sh) (tt_mul hq (hf.ex e1) (ev_var rfl) (tt_i1 (ev_var rfl) (hx.ex e1)) (tt_i1 (ev_var rfl) (hy.ex e1)) gx.ob.l gy.ob.l (by omega) (by omega)) fun p r H2 e2 s1 s2 Q q2 E => ⟨d, p, r, q, 0, _, _, rfl, hq, (hf.ex e1).ex e2, s1, s2, lp, by unfold plN; exact tr_tr _, by omega, (mu_row hq gx.ob gy.ob).le (by omega), q2⟩) (kk.go e1)


theorem ok__law_quotient_product {P : Program} {w : World} {K : PySem.W.Frag} {mg : Str → Option Value} {base : Heap} (T : Txt K mg) : FnOk P w K mg base CX0 6 T.a__law_quotient_product T.d__law_quotient_product ["_law_field_here", "_law_one", "_law_other"] (sp__law_quotient_product K) := by
  refine T.F__law_quotient_product.ok sc__law_quotient_product (fun vs H Q E h => ?_) (fun cdv A outer s H vs Q E hr h => ?_)
  · obtain ⟨d, a, b, q, x, y, rfl, _⟩ := h
    rfl
  · obtain ⟨d, a, b, q, x, y, rfl, hq, hf, hx, hy, ⟨m, n, hmn, gx, gy⟩, kk⟩ := h
    refine ⟨_, (pss_one (ps_ret (pe_call (ok__law_quotient T) (hr.mono (by decide)) (by rfl) T.g__law_quotient T.F__law_quotient.kp T.b__law_quotient .nil pass0 (pa_cons (pv 0) (pa_cons (pe_call (ok__law_product T) (hr.mono (by decide)) (by rfl) T.g__law_product T.F__law_product.kp T.b__law_product .nil pass0 (pa_cons (pv 0) (pa_cons (pe_ix (r := rIxT K) ix_tup (pv 1) pe_int (fun _ _ => rfl)) (pa_cons (pe_ix (r := rIxT K) ix_tup (pv 2) pe_int (fun _ _ => rfl)) pa_nil)))) (pa_cons (pe_call (ok__law_product T) (hr.mono (by decide)) (by rfl) T.g__law_product T.F__law_product.kp T.b__law_product .nil pass0 (pa_cons (pv 0) (pa_cons (pe_ix (r := rIxT K) ix_tup (pv 1) pe_int (fun _ _ => rfl)) (pa_cons (pe_ix (r := rIxT K) ix_tup (pv 2) pe_int (fun _ _ => rfl)) pa_nil)))) pa_nil)))))), ?_⟩
    have hq0 := hq.b
    have z1 := gx.zt
    have z2 := gy.zt
    have z3 := gx.ob.z
    have z4 := gy.ob.z
    have p3 := gx.ob.pos
    have p4 := gy.ob.pos
    have a1 := mu_le (q := q) gx.zt gy.zt (by omega)
    exact s_retP (pr_call3T (K := K) (v := .ref d) (us := (muN q x.1 y.1).map N_) (ws := (muN q x.2 y.2).map N_) (ev_var rfl) (tt_mul hq hf (ev_var rfl) (tt_i0 (ev_var rfl) hx) (tt_i0 (ev_var rfl) hy) gx.lt gy.lt (by omega) (by omega)) (tt_mul hq hf (ev_var rfl) (tt_i1 (ev_var rfl) hx) (tt_i1 (ev_var rfl) hy) gx.ob.l gy.ob.l (by omega) (by omega)) fun p r H2 e2 s1 s2 Q q2 E => ⟨d, p, r, q, 0, _, _, rfl, hq, hf.ex e2, s1, s2, mu_lq hq gx.lt gy.lt, mu_tr hq gx.lt gy.lt gx.tt gy.tt, by omega, (mu_row hq gx.ob gy.ob).le (by omega), q2⟩) kk


def sp__law_root_power (K : PySem.W.Frag) : Sp := fun vs H Q _ => ∃ (a : Addr) (q i : Nat) (x : List Nat × List Nat), vs = [N_ q, .ref a, N_ i] ∧ Fq q ∧ PrA K H a x ∧ i ≤ 300 ∧ q ^ i ≤ 3000 ∧ q ^ i * (x.1.length - 1) ≤ 2999 ∧ q ^ i * (x.2.length - 1) ≤ 2999 ∧ x.1.length ≤ 3000 ∧ x.2.length ≤ 3000 ∧ RetPr K (rpN q x i) H Q

theorem ok__law_root_power {P : Program} {w : World} {K : PySem.W.Frag} {mg : Str → Option Value} {base : Heap} (T : Txt K mg) : FnOk P w K mg base CX0 3 T.a__law_root_power T.d__law_root_power ["_law_q_here", "_law_one", "_law_i"] (sp__law_root_power K) := by
  refine T.F__law_root_power.ok sc__law_root_power (fun vs H Q E h => ?_) (fun cdv A outer s H vs Q E hr h => ?_)
  · obtain ⟨a, q, i, x, rfl, _⟩ := h
    rfl
  · obtain ⟨a, q, i, x, rfl, hq, hx, hi, hs, h1, h2, h3, h4, kk⟩ := h
    refine ⟨_, (pss_one (ps_ret (pe_tup (pa_cons (pe_call (ok__law_stretched T) (hr.mono (by decide)) (by rfl) T.g__law_stretched T.F__law_stretched.kp T.b__law_stretched .nil pass0 (pa_cons (pv 0) (pa_cons (pe_ix (r := rIxT K) ix_tup (pv 1) pe_int (fun _ _ => rfl)) (pa_cons (pv 2) pa_nil)))) (pa_cons (pe_call (ok__law_stretched T) (hr.mono (by decide)) (by rfl) T.g__law_stretched T.F__law_stretched.kp T.b__law_stretched .nil pass0 (pa_cons (pv 0) (pa_cons (pe_ix (r := rIxT K) ix_tup (pv 1) pe_int (fun _ _ => rfl)) (pa_cons (pv 2) pa_nil)))) pa_nil))))), ?_⟩
    exact s_retP (pr_tup (K := K) (tt_call3M (K := K) (x := N_ q) (y := N_ i) (xs := x.1.map N_) (ev_var rfl) (tt_i0 (ev_var rfl) hx) (ev_var rfl) fun p H1 e1 s1 Q q1 E => ⟨p, q, i, x.1, rfl, hq, s1, hi, hs, h1, h3, retU_T q1⟩) (tt_call3M (K := K) (x := N_ q) (y := N_ i) (xs := x.2.map N_) (ev_var rfl) (tt_i1 (ev_var rfl) hx) (ev_var rfl) fun p H1 e1 s1 Q q1 E => ⟨p, q, i, x.2, rfl, hq, s1, hi, hs, h2, h4, retU_T q1⟩)) kk


theorem one_lq {q : Nat} (hq : Fq q) : Lq q [1] := fun z hz => by
  rw [List.mem_singleton.mp hz]
  have := hq.b
  omega
section
variable {K : PySem.W.Frag} {σ : L2.St} {H : Hp} {tn : TE}
theorem tt_rep {n : Nat} (h1 : Ev tn σ H (N_ n)) (hn : n ≤ 1000) : EvTt K (tOp (rRepU K) (tTup (tCons (tC (.int 0)) tNil)) tn) σ H ((List.replicate n 0).map N_) := fun H1 e Q q =>
  ⟨by show 1 ≤ sizeLine; decide, fun t1 n1 => h1 _ (e.trans (Ex.new n1)) _ fun H3 e3 => ⟨t1, n, [V.int 0], rfl, rfl, st_of (e3 _ _ upd_same), by simp, by omega, by omega, by show 1 ≤ 1000; decide, fun z H4 e4 hz => q z H4 (((Ex.new n1).trans e3).trans e4) (by
    rw [Int.toNat_natCast, rep_flat] at hz
    exact hz)⟩⟩
end

theorem pow_2 {q i : Nat} (hq : 2 ≤ q) (hi : 1 ≤ i) : 2 ≤ q ^ i := by
  have := Nat.pow_le_pow_right (show 0 < q by omega) hi
  rw [Nat.pow_one] at this
  omega
def brN (q i : Nat) : List Nat := [0, oE q 1] ++ List.replicate (q ^ i - 2) 0 ++ [1]
theorem br_len {q i : Nat} (hq : Fq q) (hi : 1 ≤ i) : (brN q i).length = q ^ i + 1 := by
  have := pow_2 (q := q) (by have := hq.b; omega) hi
  unfold brN
  rw [List.length_append, List.length_append, List.length_replicate]
  show 2 + (q ^ i - 2) + 1 = _
  omega
theorem br_lq {q i : Nat} (hq : Fq q) : Lq q (brN q i) := fun z hz => by
  have hb := hq.b
  unfold brN at hz
  rcases List.mem_append.mp hz with hz | hz
  · rcases List.mem_append.mp hz with hz | hz
    · rcases List.mem_cons.mp hz with rfl | hz
      · omega
      · rw [List.mem_singleton.mp hz]
        exact oE_lt hq (by omega)
    · rw [(List.mem_replicate.mp hz).2]; omega
  · rw [List.mem_singleton.mp hz]; omega

def laI (q d : Nat) : Nat → List Nat
  | 0 => [1]
  | j + 1 => muN q (laI q d j) (skN (q ^ j) (brN q (d - j)))
def laN (q d : Nat) : List Nat := laI q d d
def lmI (q : Nat) : Nat → List Nat
  | 0 => [1]
  | n + 1 => muN q (lmI q n) (brN q (n + 1))
theorem br_ne {q i : Nat} (hq : Fq q) (hi : 1 ≤ i) : brN q i ≠ [] := List.length_pos_iff.mp (by rw [br_len hq hi]; omega)
theorem sk_ne {s : Nat} {xs : List Nat} (h : xs ≠ []) : skN s xs ≠ [] := by
  refine List.length_pos_iff.mp ?_
  unfold skN
  rw [if_neg h, skF_len]
  exact Nat.succ_pos _
theorem sk_len {s : Nat} {xs : List Nat} (h : xs ≠ []) : (skN s xs).length = s * (xs.length - 1) + 1 := by
  unfold skN
  rw [if_neg h, skF_len]

def mdN (q n : Nat) : Nat := ((List.range n).map fun i => q ^ (i + 1)).sum
theorem md_succ (q n : Nat) : mdN q (n + 1) = mdN q n + q ^ (n + 1) := by
  unfold mdN
  rw [List.range_succ, List.map_append, List.sum_append]
  rfl
theorem md_le (q : Nat) : ∀ {m n : Nat}, m ≤ n → mdN q m ≤ mdN q n := fun {m n} h => by
  induction n with
  | zero => rw [show m = 0 by omega]; exact Nat.le_refl _
  | succ n ih =>
    by_cases hm : m = n + 1
    · rw [hm]; exact Nat.le_refl _
    · have := ih (by omega)
      rw [md_succ]
      omega

theorem la_ok {q d : Nat} (hq : Fq q) : ∀ j, j ≤ d → Lq q (laI q d j) ∧ (laI q d j).length = 1 + j * q ^ d
  | 0, _ => ⟨one_lq hq, by rw [Nat.zero_mul]; rfl⟩
  | j + 1, h => by
    obtain ⟨h1, h2⟩ := la_ok (q := q) (d := d) hq j (by omega)
    have h0 : 0 < q := by have := hq.b; omega
    have hb := br_ne (q := q) (i := d - j) hq (by omega)
    have hpw : q ^ j * q ^ (d - j) = q ^ d := by rw [← Nat.pow_add]; congr 1; omega
    refine ⟨mu_lq hq h1 (skN_lq h0 (br_lq hq)), ?_⟩
    show (muN q (laI q d j) (skN (q ^ j) (brN q (d - j)))).length = _
    rw [mu_leng (List.length_pos_iff.mp (by omega)) (sk_ne hb), h2, sk_len hb, br_len hq (by omega), Nat.add_sub_cancel, hpw, Nat.succ_mul]
    omega
theorem lm_ok {q : Nat} (hq : Fq q) : ∀ n, Lq q (lmI q n) ∧ (lmI q n).length = 1 + mdN q n
  | 0 => ⟨one_lq hq, rfl⟩
  | n + 1 => by
    obtain ⟨h1, h2⟩ := lm_ok hq n
    have hb := br_ne (q := q) (i := n + 1) hq (by omega)
    refine ⟨mu_lq hq h1 (br_lq hq), ?_⟩
    show (muN q (lmI q n) (brN q (n + 1))).length = _
    rw [mu_leng (List.length_pos_iff.mp (by omega)) hb, h2, br_len hq (by omega), md_succ]
    omega

def sp__law_bracket (K : PySem.W.Frag) : Sp := fun vs H Q _ => ∃ (d : Addr) (q i : Nat), vs = [.ref d, N_ i] ∧ Fq q ∧ FldAt (fun _ => True) H d q ∧ 1 ≤ i ∧ i ≤ 300 ∧ q ^ i ≤ 900 ∧ RetTt K ((brN q i).map N_) H Q

theorem ok__law_bracket {P : Program} {w : World} {K : PySem.W.Frag} {mg : Str → Option Value} {base : Heap} (T : Txt K mg) : FnOk P w K mg base CX0 2 T.a__law_bracket T.d__law_bracket ["_law_field_here", "_law_j"] (sp__law_bracket K) := by
  refine T.F__law_bracket.ok sc__law_bracket (fun vs H Q E h => ?_) (fun cdv A outer s H vs Q E hr h => ?_)
  · obtain ⟨d, q, i, rfl, _⟩ := h
    rfl
  · obtain ⟨d, q, i, rfl, hq, hf, hi, hi3, hpw, kk⟩ := h
    refine ⟨_, (pss_one (ps_ret (pe_op (op_catAK (K := K) (by rfl)) (pe_op (op_catAK (K := K) (by rfl)) (pe_tup (pa_cons pe_int (pa_cons (pe_ix (r := rIxL K) ix_list (pe_dget (hu_of hr) (pv 0) pe_str (fun _ _ => rfl)) pe_int (fun _ _ => rfl)) pa_nil))) (pe_op (op_repUK (K := K) (by rfl)) (pe_tup (pa_cons pe_int pa_nil)) (pe_op op_sub (pe_call (ok__law_raised T) (hr.mono (by decide)) (by rfl) T.g__law_raised T.F__law_raised.kp T.b__law_raised .nil pass0 (pa_cons (pe_dget (hu_of hr) (pv 0) pe_str (fun _ _ => rfl)) (pa_cons (pv 1) pa_nil))) pe_int))) (pe_tup (pa_cons pe_int pa_nil))))), ?_⟩
    have hq0 := hq.b
    have hp2 := pow_2 (q := q) (by omega) hi
    obtain ⟨_, kvs, a1, a2, a3, hdk, gq, gp, gf, g1, g2, g3, _, _, _, hm⟩ := id hf
    refine s_retT (tt_is (tt_cat (K := K) (xs := (([0, oE q 1] ++ List.replicate (q ^ i - 2) 0).map N_)) (ys := [1].map N_) (tt_is (tt_cat (K := K) (xs := [0, oE q 1].map N_) (ys := (List.replicate (q ^ i - 2) 0).map N_) (tt_new (eu_tup (ea_cons ev_c (ea_cons (ev_op (ev_dg (ev_var rfl) hdk g3) ev_c (rv_ixL (sq_of hm) (atI_nat (j := 1) (v := N_ (oE q 1)) (by rw [List.getElem?_map, List.getElem?_map, List.getElem?_range (show 1 < q by omega)]; rfl)))) ea_nil)) (by show 2 ≤ 100000; decide))) (tt_rep (K := K) (ev_is (ev_op (ev_call (ea_cons (ev_dg (ev_var rfl) hdk gq) (ea_cons (ev_var rfl) ea_nil)) (sv_raised (by omega) (by omega))) ev_c rv_I0) (congrArg V.int (by omega))) (by omega)) (by rw [List.length_map, List.length_map, List.length_replicate]; show 2 + _ ≤ _; omega)) (by rw [List.map_append])) (tt_new (eu_tup (ea_cons ev_c ea_nil) (by show 1 ≤ 100000; decide))) (by rw [List.length_map, List.length_map, List.length_append, List.length_replicate]; show 2 + _ + 1 ≤ _; omega)) (by unfold brN; rw [List.map_append (l₁ := [0, oE q 1] ++ List.replicate (q ^ i - 2) 0)])) kk


/-- the degrees of the law -/
def Sz (q e : Nat) : Prop := e ≤ 6 ∧ q ^ e ≤ 300 ∧ e * q ^ e ≤ 700 ∧ mdN q e ≤ 400
def sp__law_all_product (K : PySem.W.Frag) : Sp := fun vs H Q _ => ∃ (d : Addr) (q e : Nat), vs = [.ref d, N_ e] ∧ Fq q ∧ FldAt (fun _ => True) H d q ∧ Sz q e ∧ RetTt K ((laN q e).map N_) H Q
def sp__law_least_multiple (K : PySem.W.Frag) : Sp := fun vs H Q _ => ∃ (d : Addr) (q e : Nat), vs = [.ref d, N_ e] ∧ Fq q ∧ FldAt (fun _ => True) H d q ∧ Sz q e ∧ RetTt K ((lmI q e).map N_) H Q

theorem ok__law_all_product {P : Program} {w : World} {K : PySem.W.Frag} {mg : Str → Option Value} {base : Heap} (T : Txt K mg) : FnOk P w K mg base CX0 3 T.a__law_all_product T.d__law_all_product ["_law_field_here", "_law_d"] (sp__law_all_product K) := by
  refine T.F__law_all_product.ok sc__law_all_product (fun vs H Q E h => ?_) (fun cdv A outer s H vs Q E hr h => ?_)
  · obtain ⟨d, q, e, rfl, _⟩ := h
    rfl
  · obtain ⟨d, q, e, rfl, hq, hf, he, kk⟩ := h
    refine ⟨_, (pss_cons (ps_set (i := 2) sc__law_all_product.nd rfl (Or.inl rfl) (pe_tup (pa_cons pe_int pa_nil)))
      (pss_cons (ps_for PassesOwn.never rfl (pi_range1 rfl T.z_range (pa_cons (pv 1) pa_nil)) (pg_name (i := 3) sc__law_all_product.nd rfl (Or.inl rfl)) (pss_one (ps_set (i := 2) sc__law_all_product.nd rfl (Or.inl rfl) (pe_call (ok__law_product T) (hr.mono (by decide)) (by rfl) T.g__law_product T.F__law_product.kp T.b__law_product .nil pass0 (pa_cons (pv 0) (pa_cons (pv 2) (pa_cons (pe_call (ok__law_stretched T) (hr.mono (by decide)) (by rfl) T.g__law_stretched T.F__law_stretched.kp T.b__law_stretched .nil pass0 (pa_cons (pe_dget (hu_of hr) (pv 0) pe_str (fun _ _ => rfl)) (pa_cons (pe_call (ok__law_bracket T) (hr.mono (by decide)) (by rfl) T.g__law_bracket T.F__law_bracket.kp T.b__law_bracket .nil pass0 (pa_cons (pv 0) (pa_cons (pe_op op_sub (pv 1) (pv 3)) pa_nil))) (pa_cons (pv 3) pa_nil)))) pa_nil)))))))
      (pss_one (ps_ret (pv 2))))), ?_⟩
    have hq0 := hq.b
    obtain ⟨he6, hpw, hpe, _⟩ := he
    obtain ⟨_, kvs, a1, a2, a3, hdk, gq, gp, gf, g1, g2, g3, l1, l2, _, hm_⟩ := id hf
    refine q_asgT (K := K) (xs := [1].map N_) (tt_new (eu_tup (vs := [N_ 1]) (ea_cons ev_c ea_nil) (by show 1 ≤ 100000; decide))) fun m0 H1 e1 h1 => ?_
    refine q_forR1 (n := (e : Int)) (ea_cons (ev_var rfl) ea_nil) ⟨by omega, by omega⟩ (fun j σ H' => ∃ (m : Addr) (y3 : Option V), σ = [some (.ref d), some (N_ e), some (.ref m), y3] ∧ Ex H H' ∧ SqT K H' m ((laI q e j).map N_)) (fun H2 e2 => ⟨m0, none, rfl, e1.trans e2, ex_t e2 h1⟩) (fun j σ H2 hj hw => ?_) (fun σ H2 hw => ?_)
    · obtain ⟨m, y3, rfl, e2, h2⟩ := hw
      have hje : j < e := by omega
      obtain ⟨hl1, hl2⟩ := la_ok (q := q) (d := e) hq j (by omega)
      have hbl := br_len (q := q) (i := e - j) hq (by omega)
      have hpj : q ^ j ≤ q ^ e := Nat.pow_le_pow_right (by omega) (by omega)
      have hpd : q ^ (e - j) ≤ q ^ e := Nat.pow_le_pow_right (by omega) (by omega)
      have hpm : q ^ j * q ^ (e - j) = q ^ e := by rw [← Nat.pow_add]; congr 1; omega
      have hje2 : j * q ^ e ≤ e * q ^ e := Nat.mul_le_mul_right _ (by omega)
      have hsl := sk_len (s := q ^ j) (br_ne (q := q) (i := e - j) hq (by omega))
      rw [hbl, Nat.add_sub_cancel, hpm] at hsl
      refine s_asgT (tt_call3T (K := K) (x := .ref d) (xs := (laI q e j).map N_) (ys := (skN (q ^ j) (brN q (e - j))).map N_) (ev_var rfl) (tt_var (ev_var rfl) h2) (tt_call3M (K := K) (x := N_ q) (y := N_ j) (xs := (brN q (e - j)).map N_) (ev_dg (ev_var rfl) (e2 _ _ hdk) gq) (tt_call (ea_cons (ev_var rfl) (ea_cons (ev_is (ev_op (ev_var rfl) (ev_var rfl) rv_I0) (congrArg V.int (by omega))) ea_nil)) (fun H3 e3 Q q3 E => ⟨d, q, e - j, rfl, hq, (hf.ex e2).ex e3, by omega, by omega, by omega, q3⟩)) (ev_var rfl) (fun p H3 e3 s3 Q q3 E => ⟨p, q, j, _, rfl, hq, s3, by omega, by omega, by rw [hbl, Nat.add_sub_cancel, hpm]; omega, by omega, retU_T q3⟩)) (fun p r H3 e3 s1 s2 Q q3 E => ⟨d, p, r, q, laI q e j, skN (q ^ j) (brN q (e - j)), rfl, hq, (hf.ex e2).ex e3, s1, s2, hl1, skN_lq (by omega) (br_lq hq), by omega, by omega, retU_T q3⟩)) fun m2 H3 e3 h3 => ⟨m2, _, rfl, e2.trans e3, h3⟩
    · obtain ⟨m, y3, rfl, e2, h2⟩ := hw
      rw [Int.toNat_natCast] at h2
      exact s_retT (tt_var (ev_var rfl) h2) (kk.go e2)


theorem ok__law_least_multiple {P : Program} {w : World} {K : PySem.W.Frag} {mg : Str → Option Value} {base : Heap} (T : Txt K mg) : FnOk P w K mg base CX0 3 T.a__law_least_multiple T.d__law_least_multiple ["_law_field_here", "_law_d"] (sp__law_least_multiple K) := by
  refine T.F__law_least_multiple.ok sc__law_least_multiple (fun vs H Q E h => ?_) (fun cdv A outer s H vs Q E hr h => ?_)
  · obtain ⟨d, q, e, rfl, _⟩ := h
    rfl
  · obtain ⟨d, q, e, rfl, hq, hf, he, kk⟩ := h
    refine ⟨_, (pss_cons (ps_set (i := 2) sc__law_least_multiple.nd rfl (Or.inl rfl) (pe_tup (pa_cons pe_int pa_nil)))
      (pss_cons (ps_for PassesOwn.never rfl (pi_range2 rfl T.z_range (pa_cons pe_int (pa_cons (pe_op op_add (pv 1) pe_int) pa_nil))) (pg_name (i := 3) sc__law_least_multiple.nd rfl (Or.inl rfl)) (pss_one (ps_set (i := 2) sc__law_least_multiple.nd rfl (Or.inl rfl) (pe_call (ok__law_product T) (hr.mono (by decide)) (by rfl) T.g__law_product T.F__law_product.kp T.b__law_product .nil pass0 (pa_cons (pv 0) (pa_cons (pv 2) (pa_cons (pe_call (ok__law_bracket T) (hr.mono (by decide)) (by rfl) T.g__law_bracket T.F__law_bracket.kp T.b__law_bracket .nil pass0 (pa_cons (pv 0) (pa_cons (pv 3) pa_nil))) pa_nil)))))))
      (pss_one (ps_ret (pv 2))))), ?_⟩
    have hq0 := hq.b
    obtain ⟨he6, hpw, hpe, hmd⟩ := he
    refine q_asgT (K := K) (xs := [1].map N_) (tt_new (eu_tup (vs := [N_ 1]) (ea_cons ev_c ea_nil) (by show 1 ≤ 100000; decide))) fun m0 H1 e1 h1 => ?_
    refine q_forR2 (lo := 1) (n := ((e : Int) + 1)) (ea_cons ev_c (ea_cons (ev_op (ev_var rfl) ev_c rv_I0) ea_nil)) ⟨by omega, by omega, by omega, by omega⟩ (fun j σ H' => ∃ (m : Addr) (y3 : Option V), σ = [some (.ref d), some (N_ e), some (.ref m), y3] ∧ Ex H H' ∧ SqT K H' m ((lmI q j).map N_)) (fun H2 e2 => ⟨m0, none, rfl, e1.trans e2, ex_t e2 h1⟩) (fun j σ H2 hj hw => ?_) (fun σ H2 hw => ?_)
    · obtain ⟨m, y3, rfl, e2, h2⟩ := hw
      have hje : j + 1 ≤ e := by omega
      obtain ⟨hl1, hl2⟩ := lm_ok hq j
      have hbl := br_len (q := q) (i := j + 1) hq (by omega)
      have hpd : q ^ (j + 1) ≤ q ^ e := Nat.pow_le_pow_right (by omega) (by omega)
      have hb := md_le q (show j ≤ e by omega)
      refine s_asgT (tt_call3T (K := K) (x := .ref d) (xs := (lmI q j).map N_) (ys := (brN q (j + 1)).map N_) (ev_var rfl) (tt_var (ev_var rfl) h2) (tt_call (ea_cons (ev_var rfl) (ea_cons (ev_is (ev_var rfl) (congrArg V.int (by omega))) ea_nil)) (fun H3 e3 Q q3 E => ⟨d, q, j + 1, rfl, hq, (hf.ex e2).ex e3, by omega, by omega, by omega, q3⟩)) (fun p r H3 e3 s1 s2 Q q3 E => ⟨d, p, r, q, lmI q j, brN q (j + 1), rfl, hq, (hf.ex e2).ex e3, s1, s2, hl1, br_lq hq, by omega, by omega, retU_T q3⟩)) fun m2 H3 e3 h3 => ⟨m2, _, rfl, e2.trans e3, h3⟩
    · obtain ⟨m, y3, rfl, e2, h2⟩ := hw
      rw [show ((e : Int) + 1 - 1).toNat = e by omega] at h2
      exact s_retT (tt_var (ev_var rfl) h2) (kk.go e2)


section
variable {K : PySem.W.Frag} {σ : L2.St} {H H' : Hp} {ta tb tk tv te : TE} {D : Ends} {tz : TS} {tA : TA}
/-- a new dict of exponents -/
def EvD (te : TE) (σ : L2.St) (H : Hp) (es : List (Nat × Nat)) : Prop := ∀ H1, Ex H H1 → ∀ Q : VK, RetE es H1 Q → te σ H1 Q
/-- {j: .. for j in range(1, n + 1)} -/
theorem ed_dc {j n : Nat} {vs : List Nat} (v : Nat → Nat) (h : EvA tA σ H [.int 1, .int ((n : Int) + 1)]) (hn : n ≤ 100) (hw : ∀ x, wipe ((wipe σ vs).set j (some x)) vs = wipe σ vs)
    (hk : ∀ i H1, Ex H H1 → i < n → Ev tk ((wipe σ vs).set j (some (N_ (i + 1)))) H1 (N_ (i + 1))) (hv : ∀ i H1, Ex H H1 → i < n → Ev tv ((wipe σ vs).set j (some (N_ (i + 1)))) H1 (N_ (v i))) : EvD (tDc (iRng2 tA) (gName j) tYes tk tv vs) σ H ((List.range n).map fun i => (i + 1, v i)) := fun H0 e Q q =>
  h H0 e _ fun H1 e1 => ⟨1, (n : Int) + 1, rfl, by omega, fun Dd nD => by
    have hnn : ((n : Int) + 1 - 1).toNat = n := by omega
    rw [hnn]
    refine wit (walk_range (lo := 1) (n := n)) (B := fun x H' Nx => gName j x (wipe σ vs) H' fun σ2 H2 => wipe σ2 vs = wipe σ vs ∧ tYes σ2 H2 fun b H3 => if b = true then tk σ2 H3 fun y H4 => tv σ2 H4 fun z H5 => ∃ kvs k, y = kV k ∧ H5 Dd = some (.dK kvs) ∧ kvs.length < sizeLine ∧ Nx (upd H5 Dd (.dK (putK kvs k z))) else Nx H3) (fun i H' => Ex H1 H' ∧ H' Dd = some (.dK (kvE ((List.range i).map fun i => (i + 1, v i))))) ⟨Ex.new nD, upd_same⟩ (fun _ _ _ _ => True.intro) (fun i x H' H'' hi p y => ?_) (fun H' p => q Dd H' (fresh_back e1 nD) (e1.trans p.1) p.2)
    obtain ⟨rfl, hx⟩ := y
    obtain ⟨p1, p2⟩ := p
    have hx : x = N_ (i + 1) := Eq.trans hx (congrArg V.int (by omega))
    subst hx
    refine ⟨hw _, ?_⟩
    refine hk i H'' (e.trans (e1.trans p1)) hi H'' (Ex.refl H'') _ fun H4 e4 => hv i H4 (e.trans ((e1.trans p1).trans e4)) hi H4 (Ex.refl H4) _ fun H5 e5 => ⟨_, Sum.inl ((i + 1 : Nat) : Int), rfl, (e4.trans e5) _ _ p2, by unfold kvE; rw [List.length_map, List.length_map, List.length_range]; exact Nat.lt_of_le_of_lt (Nat.le_of_lt hi) (sz_lt (by omega)), Ex.mut ((p1.trans e4).trans e5) nD, ?_⟩
    rw [upd_same, put_kvE _ _ _ (fun x hx => by
      obtain ⟨m, hm, rfl⟩ := List.mem_map.mp hx
      have := List.mem_range.mp hm
      show m + 1 ≠ i + 1
      omega), List.range_succ, List.map_append]
    rfl⟩
theorem s_retE {es : List (Nat × Nat)} (h : EvD te σ H es) (k : RetE es H fun v H => D.rt v H) : tRet te D σ H := h H (Ex.refl H) _ k
theorem q_asgED {i : Nat} {es : List (Nat × Nat)} (h : EvD te σ H es) (k : ∀ d H1, H d = none → Ex H H1 → H1 d = some (.dK (kvE es)) → tz D (σ.set i (some (.ref d))) H1) : tSeq (tAsg te (gName i)) tz D σ H := h H (Ex.refl H) _ fun d H1 nd e1 h1 => k d H1 nd e1 h1
end
def peN (q i : Nat) : List (Nat × Nat) := (List.range i).map fun m => (m + 1, q ^ (i - (m + 1)))
def loN (i : Nat) : List (Nat × Nat) := (List.range i).map fun m => (m + 1, 1)
theorem rng_nodup (i : Nat) (f : Nat → Nat) : (((List.range i).map fun m => (m + 1, f m)).map (·.1)).Nodup := by
  rw [List.map_map]
  refine List.Pairwise.map _ (fun a b h => ?_) (List.nodup_range (n := i))
  show a + 1 ≠ b + 1
  omega
def sp_product_exponents (K : PySem.W.Frag) : Sp := fun vs H Q _ => ∃ (q i : Nat), vs = [N_ q, N_ i] ∧ Fq q ∧ i ≤ 6 ∧ RetE (peN q i) H Q
def sp_check_index (K : PySem.W.Frag) : Sp := fun vs H Q _ => ∃ (q i : Nat), vs = [N_ q, N_ i] ∧ Fq q ∧ i ≤ 6 ∧ RetV .non H Q
theorem sv_check_index {K : PySem.W.Frag} {H : Hp} {q i : Nat} (hq : Fq q) (hi : i ≤ 6) : SpV (sp_check_index K) [N_ q, N_ i] H .non := fun H1 e Q k E => ⟨q, i, rfl, hq, hi, k⟩

theorem ok_product_exponents {P : Program} {w : World} {K : PySem.W.Frag} {mg : Str → Option Value} {base : Heap} (T : Txt K mg) : FnOk P w K mg base CX0 2 T.a_product_exponents T.d_product_exponents ["q", "i"] (sp_product_exponents K) := by
  refine T.F_product_exponents.ok sc_product_exponents (fun vs H Q E h => ?_) (fun cdv A outer s H vs Q E hr h => ?_)
  · obtain ⟨q, i, rfl, _⟩ := h
    rfl
  · obtain ⟨q, i, rfl, hq, hi, kk⟩ := h
    refine ⟨_, (pss_one (ps_ret (pe_dc (own := [("j", 2)]) (g := gName 2) rfl sc_product_exponents.nd (pi_range2 rfl T.z_range (pa_cons pe_int (pa_cons (pe_op op_add (pv 1) pe_int) pa_nil))) (blkOk_by (N := ["q", "i", "j"]) (sc := defScope s_product_exponents) (by decide +kernel)) (fun _ _ _ _ _ => pg_name (i := 2) sc_product_exponents.nd rfl (Or.inl rfl)) (fun _ _ _ _ _ => pts_nil) (fun _ _ _ _ _ => (pv 2)) (fun _ _ _ _ _ => (pe_call (ok_whole_power T) (hr.mono (by decide)) (by rfl) T.g_whole_power T.F_whole_power.kp T.b_whole_power .nil pass0 (pa_cons (pv 0) (pa_cons (pe_op op_sub (pv 1) (pv 2)) pa_nil))))))), ?_⟩
    have hq0 := hq.b
    exact s_retE (ed_dc (fun m => q ^ (i - (m + 1))) (ea_cons ev_c (ea_cons (ev_op (ev_var rfl) ev_c rv_I0) ea_nil)) (by omega) (fun _ => rfl) (fun m H1 e1 hm => ev_var rfl) (fun m H1 e1 hm => ev_call (ea_cons (ev_var rfl) (ea_cons (ev_is (ev_op (ev_var rfl) (ev_var rfl) rv_I0) (congrArg V.int (by omega))) ea_nil)) (sv_whole_power (e := i - (m + 1)) (by omega) (by omega)))) kk


theorem ok_check_index {P : Program} {w : World} {K : PySem.W.Frag} {mg : Str → Option Value} {base : Heap} (T : Txt K mg) : FnOk P w K mg base CX0 4 T.a_check_index T.d_check_index ["q", "i"] (sp_check_index K) := by
  refine T.F_check_index.ok sc_check_index (fun vs H Q E h => ?_) (fun cdv A outer s H vs Q E hr h => ?_)
  · obtain ⟨q, i, rfl, _⟩ := h
    rfl
  · obtain ⟨q, i, rfl, hq, hi, kk⟩ := h
    refine ⟨_, (pss_cons (ps_expr (pe_call (ok_check_field T) (hr.mono (by decide)) (by rfl) T.g_check_field T.F_check_field.kp T.b_check_field .nil pass0 (pa_cons (pv 0) pa_nil)))
      (pss_cons (ps_expr (pe_call (ok_check_from T) (hr.mono (by decide)) (by rfl) T.g_check_from T.F_check_from.kp T.b_check_from .nil pass0 (pa_cons (pv 1) (pa_cons pe_int pa_nil))))
      (pss_one (ps_if (pt_cmpR op_gt (pv 1) (pe_glob (v := .int 10) (by rfl) T.c_MOST_BRACKET ⟨_, rfl⟩) (nomark _)) (pss_one ps_never) pss_nil)))), ?_⟩
    have hsm : Sm (i : Int) := sm_n (Nat.lt_of_le_of_lt hi (by decide))
    refine q_drop (ev_call (ea_cons (ev_var rfl) ea_nil) (sv_check_field hq)) fun H1 e1 => ?_
    refine q_drop (ev_call (ea_cons (ev_var rfl) (ea_cons ev_c ea_nil)) (sv_check_from hsm (by omega))) fun H2 e2 => ?_
    exact s_when (b := false) (et_is (et_test (ev_op (ev_var rfl) ev_c rv_I0)) (decide_eq_false (by omega))) (fun h => nomatch h) fun _ H3 e3 => kk H3 ((e1.trans e2).trans e3)


/-- a coefficient of the exponential, of the logarithm -/
def exN (q i : Nat) : List Nat × List Nat := ([1], tbsN q (peN q i) [1])
def lgN (q i : Nat) : List Nat × List Nat := (if i % 2 = 0 then [1] else [oE q 1], tbsN q (loN i) [1])
def EOk (q : Nat) (es : List (Nat × Nat)) : Prop := (es.map (·.1)).Nodup ∧ (∀ x ∈ es, x.1 ≤ 10 ∧ 0 < x.2 ∧ x.2 ≤ 1000) ∧ es.length ≤ 100 ∧ dgE q es ≤ 700
def sp_exp_coefficient (K : PySem.W.Frag) : Sp := fun vs H Q _ => ∃ (q i : Nat), vs = [N_ q, N_ i] ∧ Fq q ∧ i ≤ 6 ∧ EOk q (peN q i) ∧ RetPr K (exN q i) H Q
def sp_log_coefficient (K : PySem.W.Frag) : Sp := fun vs H Q _ => ∃ (q i : Nat), vs = [N_ q, N_ i] ∧ Fq q ∧ i ≤ 6 ∧ EOk q (loN i) ∧ RetPr K (lgN q i) H Q
theorem tt_one {K : PySem.W.Frag} {σ : L2.St} {H : Hp} : EvTt K (tTup (tCons (tC (.int 1)) tNil)) σ H ([1].map N_) := tt_new (eu_tup (vs := [N_ 1]) (ea_cons ev_c ea_nil) (by show 1 ≤ 100000; decide))

theorem ok_exp_coefficient {P : Program} {w : World} {K : PySem.W.Frag} {mg : Str → Option Value} {base : Heap} (T : Txt K mg) : FnOk P w K mg base CX0 6 T.a_exp_coefficient T.d_exp_coefficient ["q", "i"] (sp_exp_coefficient K) := by
  refine T.F_exp_coefficient.ok sc_exp_coefficient (fun vs H Q E h => ?_) (fun cdv A outer s H vs Q E hr h => ?_)
  · obtain ⟨q, i, rfl, _⟩ := h
    rfl
  · obtain ⟨q, i, rfl, hq, hi, ho, kk⟩ := h
    refine ⟨_, (pss_cons (ps_expr (pe_call (ok_check_index T) (hr.mono (by decide)) (by rfl) T.g_check_index T.F_check_index.kp T.b_check_index .nil pass0 (pa_cons (pv 0) (pa_cons (pv 1) pa_nil))))
      (pss_cons (ps_set (i := 2) sc_exp_coefficient.nd rfl (Or.inl rfl) (pe_call (ok_product_exponents T) (hr.mono (by decide)) (by rfl) T.g_product_exponents T.F_product_exponents.kp T.b_product_exponents .nil pass0 (pa_cons (pv 0) (pa_cons (pv 1) pa_nil))))
      (pss_cons (ps_expr (pe_call (ok_check_made T) (hr.mono (by decide)) (by rfl) T.g_check_made T.F_check_made.kp T.b_check_made .nil pass0 (pa_cons (pe_call (ok_exponents_degree T) (hr.mono (by decide)) (by rfl) T.g_exponents_degree T.F_exponents_degree.kp T.b_exponents_degree .nil pass0 (pa_cons (pv 0) (pa_cons (pv 2) pa_nil))) pa_nil)))
      (pss_one (ps_ret (pe_tup (pa_cons (pe_tup (pa_cons pe_int pa_nil)) (pa_cons (pe_call (ok_times_brackets T) (hr.mono (by decide)) (by rfl) T.g_times_brackets T.F_times_brackets.kp T.b_times_brackets .nil pass0 (pa_cons (pv 0) (pa_cons (pv 2) (pa_cons (pe_tup (pa_cons pe_int pa_nil)) pa_nil)))) pa_nil)))))))), ?_⟩
    refine q_drop (ev_call (ea_cons (ev_var rfl) (ea_cons (ev_var rfl) ea_nil)) (sv_check_index hq hi)) fun H1 e1 => ?_
    refine q_asgE (es := peN q i) (ea_cons (ev_var rfl) (ea_cons (ev_var rfl) ea_nil)) (fun H2 e2 Q q2 E => ⟨q, i, rfl, hq, hi, q2⟩) fun d H2 nd e2 hd => ?_
    refine q_drop (ev_call (ea_cons (ev_call (ea_cons (ev_var rfl) (ea_cons (ev_var rfl) ea_nil)) (sv_exponents_degree hq hd ho.1 ho.2.1 ho.2.2.1)) ea_nil) (sv_check_made (n := dgE q (peN q i)) (by have := ho.2.2.2; omega))) fun H3 e3 => ?_
    exact s_retP (pr_tup (K := K) tt_one (tt_call2T (K := K) (x := N_ q) (y := .ref d) (zs := [1].map N_) (ev_var rfl) (ev_var rfl) tt_one fun p H5 e5 s5 Q q5 E => ⟨q, d, p, peN q i, [1], rfl, hq, (e3.trans e5) _ _ hd, ho.1, ho.2.1, s5, one_lq hq, by have := ho.2.2.2; show _ + 1 ≤ 900; omega, q5⟩)) (kk.go ((e1.trans e2).trans e3))


theorem ok_log_coefficient {P : Program} {w : World} {K : PySem.W.Frag} {mg : Str → Option Value} {base : Heap} (T : Txt K mg) : FnOk P w K mg base CX0 6 T.a_log_coefficient T.d_log_coefficient ["q", "i"] (sp_log_coefficient K) := by
  refine T.F_log_coefficient.ok sc_log_coefficient (fun vs H Q E h => ?_) (fun cdv A outer s H vs Q E hr h => ?_)
  · obtain ⟨q, i, rfl, _⟩ := h
    rfl
  · obtain ⟨q, i, rfl, hq, hi, ho, kk⟩ := h
    refine ⟨_, (pss_cons (ps_expr (pe_call (ok_check_index T) (hr.mono (by decide)) (by rfl) T.g_check_index T.F_check_index.kp T.b_check_index .nil pass0 (pa_cons (pv 0) (pa_cons (pv 1) pa_nil))))
      (pss_cons (ps_setDc (i := 2) (own := [("j", 3)]) (g := gName 3) (by rfl) sc_log_coefficient.nd rfl rfl (sw_trueD rfl rfl rfl (by decide +kernel)) (pi_range2 rfl T.z_range (pa_cons pe_int (pa_cons (pe_op op_add (pv 1) pe_int) pa_nil))) (blkOk_by (N := ["q", "i", "exponents", "j", "top"]) (sc := defScope s_log_coefficient) (by decide +kernel)) (fun _ _ _ _ _ => pg_name (i := 3) sc_log_coefficient.nd rfl (Or.inl rfl)) (fun _ _ _ _ _ => pts_nil) (fun _ _ _ _ _ => (pv 3)) (fun _ _ _ _ _ => pe_int))
      (pss_cons (ps_expr (pe_call (ok_check_made T) (hr.mono (by decide)) (by rfl) T.g_check_made T.F_check_made.kp T.b_check_made .nil pass0 (pa_cons (pe_call (ok_exponents_degree T) (hr.mono (by decide)) (by rfl) T.g_exponents_degree T.F_exponents_degree.kp T.b_exponents_degree .nil pass0 (pa_cons (pv 0) (pa_cons (pv 2) pa_nil))) pa_nil)))
      (pss_cons (ps_set (i := 4) sc_log_coefficient.nd rfl (Or.inl rfl) (pe_ifExp (pt_cmpR op_eq (pe_op op_mod (pv 1) pe_int) pe_int (nomark _)) (pe_tup (pa_cons pe_int pa_nil)) (pe_tup (pa_cons (pe_ix (r := rIxT K) ix_tup (pe_ix (r := rIxW K) ix_tab (pe_glob (v := .ref T.a_OPPOSITES) (by rfl) T.g_OPPOSITES rfl) (pv 0) (fun _ _ => rfl)) pe_int (fun _ _ => rfl)) pa_nil))))
      (pss_one (ps_ret (pe_tup (pa_cons (pv 4) (pa_cons (pe_call (ok_times_brackets T) (hr.mono (by decide)) (by rfl) T.g_times_brackets T.F_times_brackets.kp T.b_times_brackets .nil pass0 (pa_cons (pv 0) (pa_cons (pv 2) (pa_cons (pe_tup (pa_cons pe_int pa_nil)) pa_nil)))) pa_nil))))))))), ?_⟩
    have hq0 := hq.b
    refine q_drop (ev_call (ea_cons (ev_var rfl) (ea_cons (ev_var rfl) ea_nil)) (sv_check_index hq hi)) fun H1 e1 => ?_
    refine q_asgED (es := loN i) (ed_dc (fun m => 1) (ea_cons ev_c (ea_cons (ev_op (ev_var rfl) ev_c rv_I0) ea_nil)) (by omega) (fun _ => rfl) (fun m H2 e2 hm => ev_var rfl) (fun m H2 e2 hm => ev_c)) fun d H2 nd e2 hd => ?_
    refine q_drop (ev_call (ea_cons (ev_call (ea_cons (ev_var rfl) (ea_cons (ev_var rfl) ea_nil)) (sv_exponents_degree hq hd ho.1 ho.2.1 ho.2.2.1)) ea_nil) (sv_check_made (n := dgE q (loN i)) (by have := ho.2.2.2; omega))) fun H3 e3 => ?_
    obtain ⟨oa, w, hsw, hw, hrv⟩ := opps_row hq T.w_OPPOSITES
    refine q_asgT (K := K) (xs := (lgN q i).1.map N_) (tt_if (K := K) (b := decide (i % 2 = 0)) (et_is (et_test (ev_op (ev_is (w := N_ (i % 2)) (ev_op (ev_var rfl) ev_c (rv_I (by decide))) rfl) ev_c (rv_eq rfl))) (dec_int (y := 0))) (fun hb H4 e4 => ?_) (fun hb H4 e4 => ?_)) fun p H4 e4 s4 => ?_
    · have he : (lgN q i).1 = [1] := by unfold lgN; rw [if_pos (of_decide_eq_true hb)]
      rw [he]
      exact tt_one
    · have he : (lgN q i).1 = [oE q 1] := by unfold lgN; rw [if_neg (of_decide_eq_false hb)]
      rw [he]
      exact tt_new (eu_tup (vs := [N_ (oE q 1)]) (ea_cons (ev_op (ev_op ev_c (ev_var rfl) (hrv H4)) ev_c (rv_ixT (hsw H4) (atI_nat (j := 1) (by rw [List.getElem?_map, hw 1 (by omega)]; rfl)))) ea_nil) (by show 1 ≤ 100000; decide))
    exact s_retP (pr_tup (K := K) (xs := (lgN q i).1) (ys := (lgN q i).2) (tt_var (ev_var rfl) s4) (tt_call2T (K := K) (x := N_ q) (y := .ref d) (zs := [1].map N_) (ev_var rfl) (ev_var rfl) tt_one fun p H5 e5 s5 Q q5 E => ⟨q, d, p, loN i, [1], rfl, hq, ((e3.trans e4).trans e5) _ _ hd, ho.1, ho.2.1, s5, one_lq hq, by have := ho.2.2.2; show _ + 1 ≤ 900; omega, q5⟩)) (kk.go (((e1.trans e2).trans e3).trans e4))


end Own
/-! C of a polynomial, what is undone, what acts -/
namespace Own
open PySem PySem.Spec PyProof.Rows L2 Evl

/-! C of a polynomial, by its coefficients -/
def caF (q e : Nat) (here : List (List Nat)) : Nat → List (List Nat) → List (List Nat)
  | 0, f => f
  | i + 1, f => (caF q e here i f).set i (plN q ((caF q e here i f).getD i []) (scN q e (here.getD i [])))
def caM (q : Nat) (here : List (List Nat)) : Nat → List (List Nat) → List (List Nat)
  | 0, m => m
  | i + 1, m => (caM q here i m).set (i + 1) (plN q ((caM q here i m).getD (i + 1) []) (skN (q ^ 1) (here.getD i [])))
def mvN (q : Nat) (here : List (List Nat)) : List (List Nat) := here.map (fun one => muN q one [0, 1]) ++ [[]]
def caS (q : Nat) (a : List Nat) : Nat → List (List Nat) × List (List Nat)
  | 0 => ([[1]], List.replicate a.length [])
  | j + 1 => (caM q (caS q a j).1 (caS q a j).1.length (mvN q (caS q a j).1), caF q (a.getD j 0) (caS q a j).1 (caS q a j).1.length (caS q a j).2)
def caN (q : Nat) (a : List Nat) : List (List Nat) := (caS q a a.length).2
/-- rows over the field, none longer than m -/
def RwX (q m : Nat) (xss : List (List Nat)) : Prop := ∀ xs ∈ xss, Lq q xs ∧ xs.length ≤ m
theorem RwX.get {q m : Nat} {xss : List (List Nat)} (h : RwX q m xss) (i : Nat) : Lq q (xss.getD i []) ∧ (xss.getD i []).length ≤ m := by
  by_cases hi : i < xss.length
  · rw [List.getD_eq_getElem?_getD, List.getElem?_eq_getElem hi]
    exact h _ (List.getElem_mem hi)
  · rw [List.getD_eq_getElem?_getD, List.getElem?_eq_none (by omega)]
    exact ⟨fun z hz => (nomatch hz), Nat.zero_le _⟩
theorem RwX.le {q m n : Nat} {xss : List (List Nat)} (h : RwX q m xss) (e : m ≤ n) : RwX q n xss := fun xs hx => ⟨(h xs hx).1, Nat.le_trans (h xs hx).2 e⟩
theorem RwX.set {q m : Nat} {xss : List (List Nat)} {i : Nat} {xs : List Nat} (h : RwX q m xss) (l : Lq q xs) (z : xs.length ≤ m) : RwX q m (xss.set i xs) := fun ys hy => by
  rcases List.mem_or_eq_of_mem_set hy with hy | hy
  · exact h ys hy
  · rw [hy]; exact ⟨l, z⟩
theorem scl_lq {q e : Nat} (hq : Fq q) (he : e < q) {xs : List Nat} (lx : Lq q xs) : Lq q (scN q e xs) := tr_lq fun z hz => by
  obtain ⟨y, hy, rfl⟩ := List.mem_map.mp hz
  exact pE_lt hq he (lx y hy)
theorem sc_len (q e : Nat) (xs : List Nat) : (scN q e xs).length ≤ xs.length := by
  unfold scN
  exact Nat.le_trans (tr_le _) (by rw [List.length_map]; exact Nat.le_refl _)
theorem caF_ok {q e m : Nat} (hq : Fq q) (he : e < q) {here : List (List Nat)} (hh : RwX q m here) : ∀ i f, RwX q m f → RwX q m (caF q e here i f) ∧ (caF q e here i f).length = f.length
  | 0, f, h => ⟨h, rfl⟩
  | i + 1, f, h => by
    obtain ⟨h1, h2⟩ := caF_ok hq he hh i f h
    have g1 := h1.get i
    have g2 := hh.get i
    have l := sc_len q e (here.getD i [])
    have p := pl_len q ((caF q e here i f).getD i []) (scN q e (here.getD i []))
    refine ⟨h1.set (pl_lq hq g1.1 (scl_lq hq he g2.1)) (by omega), ?_⟩
    show ((caF q e here i f).set i _).length = _
    rw [List.length_set, h2]
theorem caM_ok {q m : Nat} (hq : Fq q) {here : List (List Nat)} (hh : RwX q m here) : ∀ i f, RwX q (q * m + 2) f → RwX q (q * m + 2) (caM q here i f) ∧ (caM q here i f).length = f.length
  | 0, f, h => ⟨h, rfl⟩
  | i + 1, f, h => by
    obtain ⟨h1, h2⟩ := caM_ok hq hh i f h
    have g1 := h1.get (i + 1)
    have g2 := hh.get i
    have l := skN_len (q ^ 1) (here.getD i [])
    have h0 : q ^ 1 * ((here.getD i []).length - 1) ≤ q * m := by rw [Nat.pow_one]; exact Nat.mul_le_mul_left q (by omega)
    have p := pl_len q ((caM q here i f).getD (i + 1) []) (skN (q ^ 1) (here.getD i []))
    refine ⟨h1.set (pl_lq hq g1.1 (skN_lq (by have := hq.b; omega) g2.1)) (by omega), ?_⟩
    show ((caM q here i f).set (i + 1) _).length = _
    rw [List.length_set, h2]
theorem x_lq {q : Nat} (hq : Fq q) : Lq q [0, 1] := fun z hz => by
  have := hq.b
  rcases List.mem_cons.mp hz with rfl | hz
  · omega
  · rw [List.mem_singleton.mp hz]; omega
theorem mv_ok {q m : Nat} (hq : Fq q) {here : List (List Nat)} (hh : RwX q m here) : RwX q (q * m + 2) (mvN q here) ∧ (mvN q here).length = here.length + 1 := by
  have hb := hq.b
  have hm : m ≤ q * m := Nat.le_mul_of_pos_left m (by omega)
  refine ⟨fun xs hx => ?_, by unfold mvN; rw [List.length_append, List.length_map]; rfl⟩
  rcases List.mem_append.mp (show xs ∈ here.map (fun one => muN q one [0, 1]) ++ [[]] from hx) with hx | hx
  · obtain ⟨y, hy, rfl⟩ := List.mem_map.mp hx
    have h1 := hh y hy
    have h2 := mu_len q y [0, 1]
    exact ⟨mu_lq hq h1.1 (x_lq hq), Nat.le_trans h2 (by show y.length + 1 ≤ _; omega)⟩
  · rw [List.mem_singleton.mp hx]
    exact ⟨fun z hz => (nomatch hz), Nat.zero_le _⟩
/-- the bounds, step by step -/
def caB (q : Nat) : Nat → Nat
  | 0 => 1
  | j + 1 => q * caB q j + 2
theorem caS_ok {q : Nat} (hq : Fq q) {a : List Nat} (la : Lq q a) : ∀ j, RwX q (caB q j) (caS q a j).1 ∧ (caS q a j).1.length = j + 1 ∧ RwX q (caB q j) (caS q a j).2 ∧ (caS q a j).2.length = a.length
  | 0 => ⟨fun xs hx => by
      rw [List.mem_singleton.mp hx]
      exact ⟨one_lq hq, Nat.le_refl _⟩, rfl, fun xs hx => by
      rw [(List.mem_replicate.mp hx).2]
      exact ⟨fun z hz => (nomatch hz), Nat.zero_le _⟩, List.length_replicate⟩
  | j + 1 => by
    obtain ⟨h1, h2, h3, h4⟩ := caS_ok hq la j
    obtain ⟨m1, m2⟩ := mv_ok hq h1
    obtain ⟨c1, c2⟩ := caM_ok hq h1 (caS q a j).1.length _ m1
    obtain ⟨f1, f2⟩ := caF_ok hq (la.get (by have := hq.b; omega) j) h1 (caS q a j).1.length _ h3
    have hm : caB q j ≤ q * caB q j := Nat.le_mul_of_pos_left _ (by have := hq.b; omega)
    exact ⟨c1, by show (caM q _ _ _).length = _; rw [c2, m2, h2], f1.le (by show _ ≤ q * caB q j + 2; omega), by show (caF q _ _ _ _).length = _; rw [f2, h4]⟩
theorem chk_caB : chkAll (fun q => all1 4 fun j => decide (caB q j ≤ 950)) = true := by decide +kernel
section
variable {K : PySem.W.Frag} {σ : L2.St} {H H' : Hp} {ta tb te to ti : TE} {D : Ends} {tu tz : TS} {tA : TA}
theorem s_forEL {a : Addr} {xs : List V} {i1 i2 : Nat} (h : EvA tA σ H [.ref a]) (hx : SqL K H a xs) (Pv : Nat → L2.St → Hp → Prop) (h0 : ∀ H1, Ex H H1 → Pv 0 σ H1) (hl : ∀ i σ' H', i ≤ xs.length → Pv i σ' H' → SqL K H' a xs)
    (hs : ∀ i x σ' H' H2, xs[i]? = some x → Pv i σ' H' → Ex H' H2 → tu { D with nx := Pv (i + 1), ct := Pv (i + 1), bk := D.nx } ((σ'.set i1 (some (.int (i : Nat)))).set i2 (some x)) H2) (hd : ∀ σ' H', Pv xs.length σ' H' → D.nx σ' H') :
    tFor (iEnum K tA) (gTup K 2 (gCons (gName i1) (gCons (gName i2) gNil))) tu D σ H :=
  h H (Ex.refl H) _ fun H1 e => ⟨a, xs, rfl, ex_l e hx, for_it (walk_enum (xs := xs)) Pv (h0 H1 e) hl (fun i x σ' H' H'' hi hp y => by
    obtain ⟨T, u, u', rfl, nT, rfl, g1, g2⟩ := y
    cases g1
    exact ⟨T, [.int (i : Nat), u'], rfl, st_of upd_same, rfl, .int (i : Nat), [u'], rfl, u', [], rfl, rfl, hs i u' σ' H' _ g2 hp (Ex.new nT)⟩) hd⟩
theorem q_forEL {a : Addr} {xs : List V} {i1 i2 : Nat} (h : EvA tA σ H [.ref a]) (hx : SqL K H a xs) (Pv : Nat → L2.St → Hp → Prop) (h0 : ∀ H1, Ex H H1 → Pv 0 σ H1) (hl : ∀ i σ' H', i ≤ xs.length → Pv i σ' H' → SqL K H' a xs)
    (hs : ∀ i x σ' H' H2, xs[i]? = some x → Pv i σ' H' → Ex H' H2 → tu { D with nx := Pv (i + 1), ct := Pv (i + 1), bk := tz D } ((σ'.set i1 (some (.int (i : Nat)))).set i2 (some x)) H2) (hd : ∀ σ' H', Pv xs.length σ' H' → tz D σ' H') :
    tSeq (tFor (iEnum K tA) (gTup K 2 (gCons (gName i1) (gCons (gName i2) gNil))) tu) tz D σ H := s_forEL (D := { D with nx := tz D }) h hx Pv h0 hl hs hd
/-- l[i] = a tuple -/
theorem s_setT {l : Addr} {ys xs : List V} {j : Nat} (hl : H l = some (.lst ys)) (h : EvTt K te σ H xs) (ho : ∀ H1, Ev to σ H1 (.ref l)) (hi : ∀ H1, Ev ti σ H1 (.int (j : Int))) (hj : j < ys.length) (k : ∀ p H1, Ex H H1 → SqT K H1 p xs → D.nx σ (upd H1 l (.lst (ys.set j (.ref p))))) : tAsg te (gSub to ti rSetL) D σ H :=
  h H (Ex.refl H) _ fun p H1 e1 sp => ho H1 H1 (Ex.refl _) _ fun H2 e2 => hi H2 H2 (Ex.refl _) _ fun H3 e3 => ⟨l, ys, (j : Int), j, rfl, rfl, ((e1.trans e2).trans e3) _ _ hl, ixN_nat hj, k p H3 ((e1.trans e2).trans e3) (ex_t (e2.trans e3) sp)⟩
/-- a list of tuples, at an address that H0 doesn't know -/
structure LRx (K : PySem.W.Frag) (H0 H : Hp) (l : Addr) (rs : List Addr) (xss : List (List Nat)) : Prop where
  n : H0 l = none
  h : H l = some (.lst (rs.map V.ref))
  t : Tps K H rs xss
theorem LRx.ex {H0 H1 H2 : Hp} {l : Addr} {rs : List Addr} {xss : List (List Nat)} (h : LRx K H0 H1 l rs xss) (e : Ex H1 H2) : LRx K H0 H2 l rs xss := ⟨h.n, e _ _ h.h, h.t.ex e⟩
/-- another list is written -/
theorem LRx.other {H0 H1 : Hp} {l m : Addr} {rs : List Addr} {xss : List (List Nat)} {ys zs : List V} (h : LRx K H0 H1 l rs xss) (hm : H1 m = some (.lst ys)) (hn : l ≠ m) : LRx K H0 (upd H1 m (.lst zs)) l rs xss := ⟨h.n, by rw [upd_ne hn]; exact h.h, h.t.put hm Exd.put⟩
/-- a place is written -/
theorem LRx.set {H0 H1 : Hp} {l p : Addr} {rs : List Addr} {xss : List (List Nat)} {xs : List Nat} {i : Nat} (h : LRx K H0 H1 l rs xss) (sp : SqT K H1 p (xs.map N_)) : LRx K H0 (upd H1 l (.lst ((rs.map V.ref).set i (.ref p)))) l (rs.set i p) (xss.set i xs) := by
  have hp := h.t.put h.h (Exd.put (o := .lst ((rs.map V.ref).set i (.ref p))))
  have sp' := sqt_put h.h (Exd.put (o := .lst ((rs.map V.ref).set i (.ref p)))) sp
  refine ⟨h.n, by rw [upd_same, List.map_set], by rw [List.length_set, List.length_set, hp.1], fun j r ys e1 e2 => ?_⟩
  rw [List.getElem?_set] at e1 e2
  by_cases hij : i = j
  · subst hij
    rw [if_pos rfl] at e1 e2
    split at e1
    · cases e1
      split at e2
      · cases e2; exact sp'
      · cases e2
    · cases e1
  · rw [if_neg hij] at e1 e2
    exact hp.2 j r ys e1 e2
theorem tt_ixR {H0 : Hp} {l : Addr} {rs : List Addr} {xss : List (List Nat)} {i : Nat} (h : Ev ta σ H (.ref l)) (hl : LRx K H0 H l rs xss) (hi : Ev tb σ H (N_ i)) (hil : i < xss.length) : EvTt K (tOp (rIxL K) ta tb) σ H ((xss.getD i []).map N_) := by
  have hr : i < rs.length := by rw [hl.t.1]; exact hil
  have hx : xss[i]? = some (xss.getD i []) := by rw [List.getD_eq_getElem?_getD, List.getElem?_eq_getElem hil]; rfl
  have hrr : rs[i]? = some (rs.getD i 0) := by rw [List.getD_eq_getElem?_getD, List.getElem?_eq_getElem hr]; rfl
  exact tt_var (ev_op h hi (rv_ixL (v := .ref (rs.getD i 0)) (sq_of hl.h) (atI_nat (by rw [List.getElem?_map, hrr]; rfl)))) (hl.t.2 i _ _ hrr hx)
/-- a new list, n times one tuple -/
def EvL1 (K : PySem.W.Frag) (te : TE) (σ : L2.St) (H : Hp) (n : Nat) (xs : List V) : Prop := ∀ H1, Ex H H1 → ∀ Q : VK, (∀ l t H2, H1 l = none → Ex H1 H2 → H2 l = some (.lst (List.replicate n (.ref t))) → SqT K H2 t xs → Q (.ref l) H2) → te σ H1 Q
theorem l1_one {xs : List V} (h : EvTt K te σ H xs) : EvL1 K (tLst (tCons te tNil)) σ H 1 xs := fun H1 e Q q => h H1 e _ fun t H2 e2 st => ⟨by show 1 ≤ sizeLine; decide, fun l nl => q l t _ (fresh_back e2 nl) (e2.trans (Ex.new nl)) upd_same (ex_t (Ex.new nl) st)⟩
theorem rep_one (v : V) : ∀ n, (List.replicate n [v]).flatten = List.replicate n v
  | 0 => rfl
  | n + 1 => by rw [List.replicate_succ, List.flatten_cons, rep_one v n, List.replicate_succ]; rfl
theorem l1_rep {xs : List V} {n : Nat} (h : EvL1 K ta σ H 1 xs) (hn : Ev tb σ H (N_ n)) (hb : n ≤ 100000) : EvL1 K (tOp rRep ta tb) σ H n xs := fun H1 e Q q => h H1 e _ fun l t H2 nl e2 h2 st => hn H2 (e.trans e2) _ fun H3 e3 => ⟨l, (n : Int), [.ref t], rfl, rfl, e3 _ _ h2, by omega, by omega, sz_of (by show 1 * (n : Int).toNat ≤ 100000; omega), fun p np => q p t _ (fresh_back (e2.trans e3) np) ((e2.trans e3).trans (Ex.new np)) (by rw [upd_same, Int.toNat_natCast, rep_one]) (ex_t (e3.trans (Ex.new np)) st)⟩
theorem q_par3LL {i j l : Nat} {xs ys : List V} {n m : Nat} (h : Ev ta σ H x) (h2 : EvL1 K tb σ H n xs) (h3 : EvL1 K tc σ H m ys) (k : ∀ a t b u H1, H a = none → H b = none → a ≠ b → Ex H H1 → H1 a = some (.lst (List.replicate n (.ref t))) → SqT K H1 t xs → H1 b = some (.lst (List.replicate m (.ref u))) → SqT K H1 u ys → tz D (((σ.set i (some x)).set j (some (.ref a))).set l (some (.ref b))) H1) : tSeq (tPar3 i j l (tCons ta (tCons tb (tCons tc tNil)))) tz D σ H :=
  h H (Ex.refl H) _ fun H1 e1 => h2 H1 e1 _ fun a t H2 na e2 ha st => h3 H2 (e1.trans e2) _ fun b u H3 nb e3 hb su => ⟨x, .ref a, .ref b, rfl, k a t b u H3 (fresh_back e1 na) (fresh_back (e1.trans e2) nb) (fun z => by rw [z, nb] at ha; cases ha) ((e1.trans e2).trans e3) (e3 _ _ ha) (ex_t e3 st) hb su⟩
theorem lrx_rep {H0 H1 : Hp} {l t : Addr} {n : Nat} {xs : List Nat} (hn : H0 l = none) (h : H1 l = some (.lst (List.replicate n (.ref t)))) (s : SqT K H1 t (xs.map N_)) : LRx K H0 H1 l (List.replicate n t) (List.replicate n xs) := ⟨hn, by rw [List.map_replicate]; exact h, by rw [List.length_replicate, List.length_replicate], fun j r ys ej ex => by
  rw [List.getElem?_replicate] at ej ex
  split at ej
  · cases ej
    rename_i hj
    rw [if_pos hj] at ex
    cases ex; exact s
  · cases ej⟩
/-- a list of new tuples, and one more behind -/
theorem q_asgCat {i n : Nat} {bs : List (List Nat)} {c : List Nat} (h : EvLR ta σ H n (PRow K fun i => bs.getD i [])) (hc : EvL1 K tb σ H 1 (c.map N_)) (hb : bs.length = n) (hz : n ≤ 40000) (k : ∀ l rs H1, Ex H H1 → (∀ H0, Ex H0 H → LRx K H0 H1 l rs (bs ++ [c])) → tz D (σ.set i (some (.ref l))) H1) : tSeq (tAsg (tOp rCat ta tb) (gName i)) tz D σ H :=
  h H (Ex.refl H) _ fun lm rm H1 nm e1 h1 hl1 hP1 => hc H1 e1 _ fun l t H2 nl e2 h2 st => ⟨lm, l, rm.map V.ref, [.ref t], rfl, rfl, e2 _ _ h1, h2, sz_of (by rw [List.length_map, hl1]; show n + 1 ≤ 100000; omega), fun p np => by
    have tp := tps_of (K := K) (bs := bs) (by rw [hl1, hb]) hP1
    exact k p (rm ++ [t]) _ ((e1.trans e2).trans (Ex.new np)) fun H0 e0 => ⟨fresh_back ((e0.trans e1).trans e2) np, by rw [upd_same, List.map_append]; rfl, (tp.ex (e2.trans (Ex.new np))).app ⟨rfl, fun j r xs ej ex => by
      rcases j with _ | j
      · cases ej; cases ex; exact ex_t (Ex.new np) st
      · cases ej⟩⟩⟩
end
def sp__law_carlitz (K : PySem.W.Frag) : Sp := fun vs H Q _ => ∃ (d p : Addr) (q : Nat) (a : List Nat), vs = [.ref d, .ref p] ∧ Fq q ∧ FldAt (fun _ => True) H d q ∧ SqT K H p (a.map N_) ∧ Lq q a ∧ a.length ≤ 3 ∧ ∀ l rs H', Ex H H' → LRx K H H' l rs (caN q a) → Q (.ref l) H'

theorem ok__law_carlitz {P : Program} {w : World} {K : PySem.W.Frag} {mg : Str → Option Value} {base : Heap} (T : Txt K mg) : FnOk P w K mg base CX0 3 T.a__law_carlitz T.d__law_carlitz ["_law_field_here", "_law_a"] (sp__law_carlitz K) := by
  refine T.F__law_carlitz.ok sc__law_carlitz (fun vs H Q E h => ?_) (fun cdv A outer s H vs Q E hr h => ?_)
  · obtain ⟨d, p, q, a, rfl, _⟩ := h
    rfl
  · obtain ⟨d, p, q, a, rfl, hq, hf, hp, la, hal, kk⟩ := h
    refine ⟨_, (pss_cons (ps_par3 (i := 2) (j := 3) (l := 4) (by rfl) sc__law_carlitz.nd rfl rfl rfl (by decide) (by decide) (by decide) rfl rfl rfl (pa_cons (pe_dget (hu_of hr) (pv 0) pe_str (fun _ _ => rfl)) (pa_cons (pe_lst (pa_cons (pe_tup (pa_cons pe_int pa_nil)) pa_nil)) (pa_cons (pe_op op_rep (pe_lst (pa_cons (pe_tup pa_nil) pa_nil)) (pe_callB call_len_seq (by rfl) T.z_len (by decide +kernel) (pa_cons (pv 1) pa_nil))) pa_nil))) (by rfl))
      (pss_cons (ps_for PassesOwn.never rfl (pi_tup (pv 1)) (pg_name (i := 5) sc__law_carlitz.nd rfl (Or.inl rfl)) (pss_cons (ps_for PassesOwn.never rfl (pi_enum (by rfl) T.z_enumerate (pa_cons (pv 3) pa_nil)) (pg_tup (by rfl) (pgs_cons (pg_name (i := 6) sc__law_carlitz.nd rfl (Or.inl rfl)) (pgs_cons (pg_name (i := 7) sc__law_carlitz.nd rfl (Or.inl rfl)) pgs_nil))) (pss_one (ps_asg (pe_call (ok__law_plus T) (hr.mono (by decide)) (by rfl) T.g__law_plus T.F__law_plus.kp T.b__law_plus .nil pass0 (pa_cons (pv 0) (pa_cons (pe_ix (r := rIxL K) ix_list (pv 4) (pv 6) (fun _ _ => rfl)) (pa_cons (pe_call (ok__law_scaled T) (hr.mono (by decide)) (by rfl) T.g__law_scaled T.F__law_scaled.kp T.b__law_scaled .nil pass0 (pa_cons (pv 0) (pa_cons (pv 5) (pa_cons (pv 7) pa_nil)))) pa_nil)))) (pg_sub (pv 4) (pv 6) set_list))))
      (pss_cons (ps_set (i := 8) sc__law_carlitz.nd rfl (Or.inl rfl) (pe_op op_cat (pe_lc (own := [("_law_one", 7)]) (g := gName 7) rfl sc__law_carlitz.nd (pi_list (pv 3)) (blkOk_by (N := ["_law_field_here", "_law_a", "_law_q_here", "_law_here", "_law_found", "_law_element", "_law_i", "_law_one", "_law_moved"]) (sc := defScope s__law_carlitz) (by decide +kernel)) (fun _ _ _ _ _ => pg_name (i := 7) sc__law_carlitz.nd rfl (Or.inl rfl)) (fun _ _ _ _ _ => pts_nil) (fun _ _ _ _ _ => (pe_call (ok__law_product T) (hr.mono (by decide)) (by rfl) T.g__law_product T.F__law_product.kp T.b__law_product .nil pass0 (pa_cons (pv 0) (pa_cons (pv 7) (pa_cons (pe_tup (pa_cons pe_int (pa_cons pe_int pa_nil))) pa_nil)))))) (pe_lst (pa_cons (pe_tup pa_nil) pa_nil))))
      (pss_cons (ps_for PassesOwn.never rfl (pi_enum (by rfl) T.z_enumerate (pa_cons (pv 3) pa_nil)) (pg_tup (by rfl) (pgs_cons (pg_name (i := 6) sc__law_carlitz.nd rfl (Or.inl rfl)) (pgs_cons (pg_name (i := 7) sc__law_carlitz.nd rfl (Or.inl rfl)) pgs_nil))) (pss_one (ps_asg (pe_call (ok__law_plus T) (hr.mono (by decide)) (by rfl) T.g__law_plus T.F__law_plus.kp T.b__law_plus .nil pass0 (pa_cons (pv 0) (pa_cons (pe_ix (r := rIxL K) ix_list (pv 8) (pe_op op_add (pv 6) pe_int) (fun _ _ => rfl)) (pa_cons (pe_call (ok__law_stretched T) (hr.mono (by decide)) (by rfl) T.g__law_stretched T.F__law_stretched.kp T.b__law_stretched .nil pass0 (pa_cons (pv 2) (pa_cons (pv 7) (pa_cons pe_int pa_nil)))) pa_nil)))) (pg_sub (pv 8) (pe_op op_add (pv 6) pe_int) set_list))))
      (pss_one (ps_set (i := 3) sc__law_carlitz.nd rfl (Or.inl rfl) (pv 8)))))))
      (pss_one (ps_ret (pv 4))))), ?_⟩
    have hq0 := hq.b
    obtain ⟨_, kvs, a1, a2, a3, hdk, gq, gp, gf, g1, g2, g3, l1, l2, _, hmi⟩ := id hf
    have hB : ∀ j, j ≤ 3 → caB q j ≤ 950 := fun j hj => of_decide_eq_true (all1_get (chk_get chk_caB hq) (by omega))
    refine q_par3LL (K := K) (x := N_ q) (n := 1) (m := a.length) (xs := [1].map N_) (ys := ([] : List Nat).map N_) (ev_dg (ev_var rfl) hdk gq) (l1_one tt_one) (l1_rep (l1_one (tt_new (eu_tup (vs := []) ea_nil (by show 0 ≤ 100000; decide)))) (ev_is (ev_cb (r := rLenQ K) (ea_cons (ev_var rfl) ea_nil) (rc_lenT hp)) (by rw [List.length_map])) (by omega)) fun lh t1 lf t2 HS nh nf hne eS hlh st1 hlf st2 => ?_
    have LH : LRx K H HS lh (List.replicate 1 t1) (caS q a 0).1 := lrx_rep nh hlh st1
    have LF : LRx K H HS lf (List.replicate a.length t2) (caS q a 0).2 := lrx_rep nf hlf st2
    refine q_forT (K := K) (a := p) (xs := a.map N_) (ev_var rfl) (ex_t eS hp) (fun j σ H' => ∃ (lh lf : Addr) (rh rf : List Addr) (y5 y6 y7 y8 : Option V), σ = [some (.ref d), some (.ref p), some (N_ q), some (.ref lh), some (.ref lf), y5, y6, y7, y8] ∧ Ex H H' ∧ LRx K H H' lh rh (caS q a j).1 ∧ LRx K H H' lf rf (caS q a j).2 ∧ lh ≠ lf) (fun H5 e5 => ⟨lh, lf, _, _, none, none, none, none, rfl, eS.trans e5, LH.ex e5, LF.ex e5, hne⟩) (fun j σ H5 _ hw => ?_) (fun j x σ H5 hj hw => ?_) (fun σ H5 hw => ?_)
    · obtain ⟨lh, lf, rh, rf, y5, y6, y7, y8, rfl, e5, _, _, _⟩ := hw
      exact ex_t e5 hp
    · obtain ⟨lh, lf, rh, rf, y5, y6, y7, y8, rfl, e5, Lh, Lf, hne⟩ := hw
      have hjl : j < a.length := by
        have := (List.getElem?_eq_some_iff.mp hj).1
        rwa [List.length_map] at this
      rw [get_N hjl] at hj
      cases hj
      have hel := la.get (by omega) j
      obtain ⟨ok1, ok2, ok3, ok4⟩ := caS_ok hq la j
      have hb := hB j (by omega)
      have hb1 := hB (j + 1) (by omega)
      have hcm : caB q (j + 1) = q * caB q j + 2 := rfl
      generalize hHere : (caS q a j).1 = here at *
      generalize hFnd : (caS q a j).2 = found at *
      generalize hEl : a.getD j 0 = el at *
      have hS1 : (caS q a (j + 1)).1 = caM q here here.length (mvN q here) := by rw [← hHere]; rfl
      have hS2 : (caS q a (j + 1)).2 = caF q el here here.length found := by rw [← hHere, ← hFnd, ← hEl]; rfl
      have hrl : rh.length = here.length := Lh.t.1
      refine q_forEL (K := K) (a := lh) (xs := rh.map V.ref) (ea_cons (ev_var rfl) ea_nil) (sq_of Lh.h) (fun i σ H' => ∃ (rf : List Addr) (y6 y7 : Option V), σ = [some (.ref d), some (.ref p), some (N_ q), some (.ref lh), some (.ref lf), some (N_ el), y6, y7, y8] ∧ Ex H H' ∧ LRx K H H' lh rh here ∧ LRx K H H' lf rf (caF q el here i found)) (fun H6 e6 => ⟨rf, y6, y7, rfl, e5.trans e6, Lh.ex e6, Lf.ex e6⟩) (fun i σ H6 _ hw => ?_) (fun i x σ H6 H7 hi hw e7 => ?_) (fun σ H6 hw => ?_)
      · obtain ⟨rf, y6, y7, rfl, e6, L1, L2⟩ := hw
        exact sq_of L1.h
      · obtain ⟨rf, y6, y7, rfl, e6, L1, L2⟩ := hw
        have hir : i < rh.length := by
          have := (List.getElem?_eq_some_iff.mp hi).1
          rwa [List.length_map] at this
        rw [List.getElem?_map, List.getElem?_eq_getElem hir] at hi
        cases hi
        have L1' := L1.ex e7
        have L2' := L2.ex e7
        have hih : i < here.length := by omega
        have so := L1'.t.2 i _ _ (List.getElem?_eq_getElem hir) (show here[i]? = some (here.getD i []) by rw [List.getD_eq_getElem?_getD, List.getElem?_eq_getElem hih]; rfl)
        obtain ⟨f1, f2⟩ := caF_ok hq hel ok1 i found ok3
        have gf := f1.get i
        have gh := ok1.get i
        have hsl := sc_len q el (here.getD i [])
        refine s_setT (K := K) (l := lf) (j := i) (xs := (plN q ((caF q el here i found).getD i []) (scN q el (here.getD i []))).map N_) L2'.h (tt_plus (K := K) hq (hf.ex (e6.trans e7)) (ev_var rfl) (tt_ixR (ev_var rfl) L2' (ev_var rfl) (by rw [f2, ok4]; omega)) (tt_new (eu_call (ea_cons (ev_var rfl) (ea_cons (ev_var rfl) (ea_cons (ev_var rfl) ea_nil))) (sv__law_scaled (K := K) hq (hf.ex (e6.trans e7)) hel so gh.1 (by omega)))) gf.1 (scl_lq hq hel gh.1) (by omega) (by omega)) (fun _ => ev_var rfl) (fun _ => ev_var rfl) (by rw [List.length_map, L2'.t.1, f2, ok4]; omega) fun r H8 e8 sr => ?_
        exact ⟨_, _, _, rfl, Ex.mut ((e6.trans e7).trans e8) L2'.n, (L1'.ex e8).other (e8 _ _ L2'.h) hne, (L2'.ex e8).set sr⟩
      obtain ⟨rf2, y6, y7, rfl, e6, L1, L2⟩ := hw
      rw [List.length_map, hrl] at L2
      obtain ⟨m1, m2⟩ := mv_ok hq ok1
      refine q_asgCat (K := K) (i := 8) (n := (rh.map V.ref).length) (bs := here.map (fun one => muN q one [0, 1])) (c := []) (lr_lcL (K := K) (P := PRow K (fun i => (here.map (fun one => muN q one [0, 1])).getD i [])) (a := lh) (xs := rh.map V.ref) (j := 7) (vs := [7]) (kp_row K _) (ev_var rfl) (sq_of L1.h) (by rw [List.length_map, hrl, ok2]; omega) (fun _ => rfl) (fun i x H7 e7 hi H8 e8 Q8 q8 => ?_)) (l1_one (tt_new (eu_tup (vs := []) ea_nil (by show 0 ≤ 100000; decide)))) (by rw [List.length_map, List.length_map, hrl]) (by rw [List.length_map, hrl, ok2]; omega) (fun l4 rm HM eM hLM => ?_)
      · have hir : i < rh.length := by
          have := (List.getElem?_eq_some_iff.mp hi).1
          rwa [List.length_map] at this
        rw [List.getElem?_map, List.getElem?_eq_getElem hir] at hi
        cases hi
        have hih : i < here.length := by omega
        have so := (L1.ex e7).t.2 i _ _ (List.getElem?_eq_getElem hir) (show here[i]? = some (here.getD i []) by rw [List.getD_eq_getElem?_getD, List.getElem?_eq_getElem hih]; rfl)
        have gh := ok1.get i
        refine (tt_mul (K := K) (σ := (wipe [some (.ref d), some (.ref p), some (N_ q), some (.ref lh), some (.ref lf), some (N_ el), y6, y7, y8] [7]).set 7 (some (.ref rh[i]))) (H := H7) hq (hf.ex (e6.trans e7)) (ev_var rfl) (tt_var (ev_var rfl) so) (tt_new (eu_tup (vs := [N_ 0, N_ 1]) (ea_cons ev_c (ea_cons ev_c ea_nil)) (by show 2 ≤ 100000; decide))) gh.1 (x_lq hq) (by omega) (by show 2 ≤ 3000; decide)) H8 e8 _ fun r H9 e9 sr => q8 r H9 e9 ?_
        show SqT K H9 r (((here.map (fun one => muN q one [0, 1])).getD i []).map N_)
        rw [List.getD_eq_getElem?_getD, List.getElem?_map, List.getElem?_eq_getElem hih]
        rw [List.getD_eq_getElem?_getD, List.getElem?_eq_getElem hih] at sr
        exact sr
      · have LM : LRx K H HM l4 rm (mvN q here) := hLM H e6
        have e6M := e6.trans eM
        have L1M := L1.ex eM
        have L2M := L2.ex eM
        have hn1 : lh ≠ l4 := fun z => by have h1 := (hLM H6 (Ex.refl H6)).n; rw [← z, L1.h] at h1; cases h1
        have hn2 : lf ≠ l4 := fun z => by have h1 := (hLM H6 (Ex.refl H6)).n; rw [← z, L2.h] at h1; cases h1
        refine q_forEL (K := K) (a := lh) (xs := rh.map V.ref) (ea_cons (ev_var rfl) ea_nil) (sq_of L1M.h) (fun i σ H' => ∃ (rm : List Addr) (y6 y7 : Option V), σ = [some (.ref d), some (.ref p), some (N_ q), some (.ref lh), some (.ref lf), some (N_ el), y6, y7, some (.ref l4)] ∧ Ex H H' ∧ LRx K H H' lh rh here ∧ LRx K H H' lf rf2 (caF q el here here.length found) ∧ LRx K H H' l4 rm (caM q here i (mvN q here))) (fun H8 e8 => ⟨_, y6, y7, rfl, e6M.trans e8, L1M.ex e8, L2M.ex e8, LM.ex e8⟩) (fun i σ H8 _ hw => ?_) (fun i x σ H8 H9 hi hw e9' => ?_) (fun σ H8 hw => ?_)
        · obtain ⟨rm, y6, y7, rfl, e8, M1, M2, M3⟩ := hw
          exact sq_of M1.h
        · obtain ⟨rm, y6, y7, rfl, e8, M1, M2, M3⟩ := hw
          have hir : i < rh.length := by
            have := (List.getElem?_eq_some_iff.mp hi).1
            rwa [List.length_map] at this
          rw [List.getElem?_map, List.getElem?_eq_getElem hir] at hi
          cases hi
          have M1' := M1.ex e9'
          have M2' := M2.ex e9'
          have M3' := M3.ex e9'
          have hih : i < here.length := by omega
          have so := M1'.t.2 i _ _ (List.getElem?_eq_getElem hir) (show here[i]? = some (here.getD i []) by rw [List.getD_eq_getElem?_getD, List.getElem?_eq_getElem hih]; rfl)
          obtain ⟨c1, c2⟩ := caM_ok hq ok1 i _ m1
          have gm := c1.get (i + 1)
          have gh := ok1.get i
          have hskl := skN_len (q ^ 1) (here.getD i [])
          have hq1 : q ^ 1 = q := Nat.pow_one q
          have hmul : q ^ 1 * ((here.getD i []).length - 1) ≤ q * caB q j := by rw [hq1]; exact Nat.mul_le_mul_left q (by omega)
          have hix : ∀ HH, Ev (tOp (rI0 fun i j => V.int (i + j)) (tVar 6) (tC (.int 1))) [some (.ref d), some (.ref p), some (N_ q), some (.ref lh), some (.ref lf), some (N_ el), some (.int (i : Nat)), some (.ref rh[i]), some (.ref l4)] HH (N_ (i + 1)) := fun HH => ev_is (ev_op (ev_var rfl) ev_c rv_I0) rfl
          refine s_setT (K := K) (l := l4) (j := i + 1) (xs := (plN q ((caM q here i (mvN q here)).getD (i + 1) []) (skN (q ^ 1) (here.getD i []))).map N_) M3'.h (tt_plus (K := K) hq (hf.ex (e8.trans e9')) (ev_var rfl) (tt_ixR (ev_var rfl) M3' (hix _) (by rw [c2, m2]; omega)) (tt_call3M (K := K) (x := N_ q) (y := N_ 1) (xs := (here.getD i []).map N_) (ev_var rfl) (tt_var (ev_var rfl) so) ev_c fun r H10 e10 sr Q q10 E => ⟨r, q, 1, _, rfl, hq, sr, by omega, by omega, by omega, by omega, retU_T q10⟩) gm.1 (skN_lq (by omega) gh.1) (by omega) (by omega)) (fun _ => ev_var rfl) (fun _ => hix _) (by rw [List.length_map, M3'.t.1, c2, m2]; omega) fun r H10 e10 sr => ?_
          exact ⟨_, _, _, rfl, Ex.mut ((e8.trans e9').trans e10) M3'.n, (M1'.ex e10).other (e10 _ _ M3'.h) hn1, (M2'.ex e10).other (e10 _ _ M3'.h) hn2, (M3'.ex e10).set sr⟩
        · obtain ⟨rm, y6, y7, rfl, e8, M1, M2, M3⟩ := hw
          rw [List.length_map, hrl] at M3
          exact s_asg (v := .ref l4) (ev_var rfl) fun H9 e9' => ⟨l4, lf, _, _, _, _, _, _, rfl, e8.trans e9', by rw [hS1]; exact M3.ex e9', by rw [hS2]; exact M2.ex e9', Ne.symm hn2⟩
    · obtain ⟨lh, lf, rh, rf, y5, y6, y7, y8, rfl, e5, Lh, Lf, hne⟩ := hw
      rw [List.length_map] at Lf
      exact s_ret (ev_var rfl) fun H6 e6 => kk lf rf H6 (e5.trans e6) (Lf.ex e6)


/-! sums of parts; lists of quotients -/
def P1 : List Nat × List Nat := ([], [1])
def suS (q : Nat) (A C : Nat → List Nat × List Nat) : Nat → List Nat × List Nat
  | 0 => P1
  | i + 1 => qpN q (suS q A C i) (qmN q (A i) (C i))
theorem one_row {q m : Nat} (hq : Fq q) (hm : 1 ≤ m) : RowOk q m [1] := ⟨one_lq hq, fun _ => by show (1 : Nat) ≠ 0; decide, by decide, hm⟩
theorem nf_P1 {q : Nat} (hq : Fq q) : NF ⟨q, hq⟩ 1 P1.1 P1.2 := ⟨(fun z hz => nomatch hz), (fun h => absurd rfl h), Nat.zero_le _, one_row hq (Nat.le_refl _), rfl, 0, 1, Pl.zero, Pl.one, by show 0 * co _ [] + 1 * co ⟨q, hq⟩ [1] = 1; rw [co_one, co_nil]; grind⟩
theorem su_nf {q N : Nat} (hq : Fq q) {A C : Nat → List Nat × List Nat} (h : ∀ i, i < N → GP q 100 (A i) ∧ GP q 100 (C i)) : ∀ i, i ≤ N → NF ⟨q, hq⟩ (1 + 198 * i) (suS q A C i).1 (suS q A C i).2
  | 0, _ => nf_P1 hq
  | i + 1, hi => by
    have ih := su_nf hq h i (by omega)
    obtain ⟨g1, g2⟩ := h i (by omega)
    have := (gp_add hq ih.gp (gp_mul hq g1 g2).1.gp).1
    rwa [show 1 + 198 * i + (100 + 100 - 1) - 1 = 1 + 198 * (i + 1) by omega] at this
/-- a list of quotients -/
def LPr (K : PySem.W.Frag) (H : Hp) (l : Addr) (xs : List (List Nat × List Nat)) : Prop := ∃ rs : List Addr, SqL K H l (rs.map V.ref) ∧ rs.length = xs.length ∧ ∀ (j : Nat) (r : Addr), rs[j]? = some r → PrA K H r (xs.getD j P1)
section
variable {K : PySem.W.Frag} {σ : L2.St} {H H' : Hp} {ta tb tc te : TE} {D : Ends} {tu tz : TS} {tA : TA} {vs : List V}
theorem LPr.ex {l : Addr} {xs : List (List Nat × List Nat)} (h : LPr K H l xs) (e : Ex H H') : LPr K H' l xs := let ⟨rs, a, b, c⟩ := h; ⟨rs, ex_l e a, b, fun j r hj => (c j r hj).ex e⟩
theorem pr_ixL {l : Addr} {i : Nat} {xs : List (List Nat × List Nat)} (h : Ev ta σ H (.ref l)) (hl : LPr K H l xs) (hi : Ev tb σ H (N_ i)) (hil : i < xs.length) : EvPr K (tOp (rIxL K) ta tb) σ H (xs.getD i P1) := by
  obtain ⟨rs, h1, h2, h3⟩ := hl
  have hr : rs[i]? = some (rs.getD i 0) := by rw [List.getD_eq_getElem?_getD, List.getElem?_eq_getElem (by omega)]; rfl
  exact pr_var (ev_op h hi (rv_ixL (v := .ref (rs.getD i 0)) h1 (atI_nat (by rw [List.getElem?_map, hr]; rfl)))) (h3 i _ hr)
theorem tt_nilT : EvTt K (tTup tNil) σ H (([] : List Nat).map N_) := tt_new (eu_tup (vs := []) ea_nil (by show 0 ≤ 100000; decide))
/-- a call that makes a list of rows -/
theorem q_asgC {sp : Sp} {E0 : XK} {i : Nat} {xss : List (List Nat)} (h : EvA tA σ H vs) (hs : ∀ H1, Ex H H1 → ∀ Q : VK, (∀ l rs H2, Ex H1 H2 → LRx K H1 H2 l rs xss → Q (.ref l) H2) → ∀ E, sp (vs ++ []) H1 Q E) (k : ∀ l rs H1, Ex H H1 → LRx K H H1 l rs xss → tz D (σ.set i (some (.ref l))) H1) : tSeq (tAsg (tCall sp [] E0 tA) (gName i)) tz D σ H :=
  h H (Ex.refl H) _ fun H1 e1 => hs H1 e1 _ (fun l rs H2 e2 hl => k l rs H2 (e1.trans e2) ⟨fresh_back e1 hl.n, hl.h, hl.t⟩) _
end
structure UnOk (q : Nat) (A B : List (List Nat × List Nat)) (n : Nat) : Prop where
  n5 : n ≤ 5
  nA : n < A.length
  nB : n < B.length
  g : ∀ i, i ≤ n → GP q 100 (A.getD i P1) ∧ GP q 100 (B.getD i P1) ∧ q ^ i ≤ 3000 ∧ q ^ i * ((B.getD (n - i) P1).1.length - 1) + 1 ≤ 100 ∧ q ^ i * ((B.getD (n - i) P1).2.length - 1) + 1 ≤ 100
theorem UnOk.gp {q n : Nat} (hq : Fq q) {A B : List (List Nat × List Nat)} (h : UnOk q A B n) : ∀ i, i < n + 1 → GP q 100 (A.getD i P1) ∧ GP q 100 (rpN q (B.getD (n - i) P1) i) := fun i hi => by
  obtain ⟨g1, _, g3, g4, g5⟩ := h.g i (by omega)
  exact ⟨g1, gp_root hq (h.g (n - i) (by omega)).2.1 g4 g5⟩
def sp__law_undone (K : PySem.W.Frag) : Sp := fun vs H Q _ => ∃ (d pa pb : Addr) (q n : Nat) (A B : List (List Nat × List Nat)), vs = [.ref d, .ref pa, .ref pb, N_ n] ∧ Fq q ∧ FldAt (fun _ => True) H d q ∧ LPr K H pa A ∧ LPr K H pb B ∧ UnOk q A B n ∧ RetPr K (suS q (fun i => A.getD i P1) (fun i => rpN q (B.getD (n - i) P1) i) (n + 1)) H Q

theorem ok__law_undone {P : Program} {w : World} {K : PySem.W.Frag} {mg : Str → Option Value} {base : Heap} (T : Txt K mg) : FnOk P w K mg base CX0 7 T.a__law_undone T.d__law_undone ["_law_field_here", "_law_outer", "_law_inner", "_law_n"] (sp__law_undone K) := by
  refine T.F__law_undone.ok sc__law_undone (fun vs H Q E h => ?_) (fun cdv A outer s H vs Q E hr h => ?_)
  · obtain ⟨d, pa, pb, q, n, A, B, rfl, _⟩ := h
    rfl
  · obtain ⟨d, pa, pb, q, n, A, B, rfl, hq, hf, hA, hB, ho, kk⟩ := h
    refine ⟨_, (pss_cons (ps_set (i := 4) sc__law_undone.nd rfl (Or.inl rfl) (pe_tup (pa_cons (pe_tup pa_nil) (pa_cons (pe_tup (pa_cons pe_int pa_nil)) pa_nil))))
      (pss_cons (ps_for PassesOwn.never rfl (pi_range1 rfl T.z_range (pa_cons (pe_op op_add (pv 3) pe_int) pa_nil)) (pg_name (i := 5) sc__law_undone.nd rfl (Or.inl rfl)) (pss_cons (ps_set (i := 6) sc__law_undone.nd rfl (Or.inl rfl) (pe_call (ok__law_quotient_product T) (hr.mono (by decide)) (by rfl) T.g__law_quotient_product T.F__law_quotient_product.kp T.b__law_quotient_product .nil pass0 (pa_cons (pv 0) (pa_cons (pe_ix (r := rIxL K) ix_list (pv 1) (pv 5) (fun _ _ => rfl)) (pa_cons (pe_call (ok__law_root_power T) (hr.mono (by decide)) (by rfl) T.g__law_root_power T.F__law_root_power.kp T.b__law_root_power .nil pass0 (pa_cons (pe_dget (hu_of hr) (pv 0) pe_str (fun _ _ => rfl)) (pa_cons (pe_ix (r := rIxL K) ix_list (pv 2) (pe_op op_sub (pv 3) (pv 5)) (fun _ _ => rfl)) (pa_cons (pv 5) pa_nil)))) pa_nil)))))
      (pss_one (ps_set (i := 4) sc__law_undone.nd rfl (Or.inl rfl) (pe_call (ok__law_quotient_plus T) (hr.mono (by decide)) (by rfl) T.g__law_quotient_plus T.F__law_quotient_plus.kp T.b__law_quotient_plus .nil pass0 (pa_cons (pv 0) (pa_cons (pv 4) (pa_cons (pv 6) pa_nil))))))))
      (pss_one (ps_ret (pv 4))))), ?_⟩
    have hq0 := hq.b
    obtain ⟨_, kvs, a1, a2, a3, hdk, gq, gp, gf, g1, g2, g3, l1, l2, _, hmi⟩ := id hf
    have hn5 := ho.n5
    have hgp := ho.gp hq
    have hnf := su_nf hq hgp
    refine q_asgPr (K := K) (x := P1) (pr_tup tt_nilT tt_one) fun t H1 e1 ht => ?_
    refine q_forR1 (n := ((n + 1 : Nat) : Int)) (ea_cons (ev_is (ev_op (ev_var rfl) ev_c rv_I0) rfl) ea_nil) ⟨by omega, by omega⟩ (fun i σ H' => ∃ (t : Addr) (y5 y6 : Option V), σ = [some (.ref d), some (.ref pa), some (.ref pb), some (N_ n), some (.ref t), y5, y6] ∧ Ex H H' ∧ PrA K H' t (suS q (fun i => A.getD i P1) (fun i => rpN q (B.getD (n - i) P1) i) i)) (fun H2 e2 => ⟨t, none, none, rfl, e1.trans e2, ht.ex e2⟩) (fun i σ H2 hi hw => ?_) (fun σ H2 hw => ?_)
    · obtain ⟨t, y5, y6, rfl, e2, ht⟩ := hw
      have hin : i ≤ n := by omega
      have hb := ho.nB
      have ha := ho.nA
      obtain ⟨gA, _, g3, g4, g5⟩ := ho.g i hin
      have gB := (ho.g (n - i) (by omega)).2.1
      have gg := hgp i (by omega)
      have hT := (hnf i (by omega)).gp
      refine q_asgPr (K := K) (x := qmN q (A.getD i P1) (rpN q (B.getD (n - i) P1) i)) (pr_call3 (ev_var rfl) (pr_ixL (ev_var rfl) (hA.ex e2) (ev_var rfl) (by omega)) (pr_call3M (K := K) (v := N_ q) (w := N_ i) (x := B.getD (n - i) P1) (ev_dg (ev_var rfl) (e2 _ _ hdk) gq) (pr_ixL (ev_var rfl) (hB.ex e2) (ev_is (ev_op (ev_var rfl) (ev_var rfl) rv_I0) (congrArg V.int (by omega))) (by omega)) (ev_var rfl) fun p H4 e4 hp Q q4 E => ⟨p, q, i, B.getD (n - i) P1, rfl, hq, hp, by omega, g3, by omega, by omega, by have := gB.zt; omega, by have := gB.ob.z; omega, q4⟩) (fun p r H4 e4 h1 h2 Q q4 E => ⟨d, p, r, q, _, _, rfl, hq, hf.ex (e2.trans e4), h1, h2, ⟨100, 100, by omega, gg.1, gg.2⟩, q4⟩)) fun u H4 e4 hu => ?_
      refine s_asgPr (K := K) (x := suS q (fun i => A.getD i P1) (fun i => rpN q (B.getD (n - i) P1) i) (i + 1)) (pr_call3 (ev_var rfl) (pr_var (ev_var rfl) (ht.ex e4)) (pr_var (ev_var rfl) hu) (fun p r H5 e5 h1 h2 Q q5 E => ⟨d, p, r, q, _, _, rfl, hq, hf.ex ((e2.trans e4).trans e5), h1, h2, ⟨_, _, by omega, hT, (gp_mul hq gg.1 gg.2).1.gp⟩, q5⟩)) fun v H5 e5 hv => ?_
      exact ⟨v, _, _, rfl, (e2.trans e4).trans e5, hv⟩
    · obtain ⟨t, y5, y6, rfl, e2, ht⟩ := hw
      exact s_retP (pr_var (ev_var rfl) ht) (kk.go e2)


structure ActOk (q : Nat) (B : List (List Nat × List Nat)) (a : List Nat) (s : Nat) : Prop where
  s5 : s ≤ 5
  sB : s ≤ B.length
  g : ∀ n, n < s → GP q 100 (skN (q ^ n) a, [1]) ∧ GP q 100 (B.getD n P1) ∧ q ^ n ≤ 3000 ∧ q ^ n * (a.length - 1) ≤ 2999
  r : ∀ i, i < a.length → GP q 100 ((caN q a).getD i [], [1])
  p : ∀ n, n < s → ∀ i, i ≤ n → q ^ i * ((B.getD (n - i) P1).1.length - 1) + 1 ≤ 100 ∧ q ^ i * ((B.getD (n - i) P1).2.length - 1) + 1 ≤ 100
  e : ∀ n, n < s → suS q (fun i => ((caN q a).getD i [], [1])) (fun i => rpN q (B.getD (n - i) P1) i) (min (n + 1) a.length) = qmN q (skN (q ^ n) a, [1]) (B.getD n P1)
def sp__law_acts_right (K : PySem.W.Frag) : Sp := fun vs H Q _ => ∃ (d pb pa : Addr) (q s : Nat) (B : List (List Nat × List Nat)) (a : List Nat), vs = [.ref d, .ref pb, .ref pa, N_ s] ∧ Fq q ∧ FldAt (fun _ => True) H d q ∧ LPr K H pb B ∧ SqT K H pa (a.map N_) ∧ Lq q a ∧ a.length ≤ 3 ∧ ActOk q B a s ∧ RetV (.bl true) H Q

theorem ok__law_acts_right {P : Program} {w : World} {K : PySem.W.Frag} {mg : Str → Option Value} {base : Heap} (T : Txt K mg) : FnOk P w K mg base CX0 7 T.a__law_acts_right T.d__law_acts_right ["_law_field_here", "_law_exps", "_law_a", "_law_size"] (sp__law_acts_right K) := by
  refine T.F__law_acts_right.ok sc__law_acts_right (fun vs H Q E h => ?_) (fun cdv A outer s H vs Q E hr h => ?_)
  · obtain ⟨d, pb, pa, q, s, B, a, rfl, _⟩ := h
    rfl
  · obtain ⟨d, pb, pa, q, s, B, a, rfl, hq, hf, hB, hp, la, hal, ho, kk⟩ := h
    refine ⟨_, (pss_cons (ps_set (i := 4) sc__law_acts_right.nd rfl (Or.inl rfl) (pe_call (ok__law_carlitz T) (hr.mono (by decide)) (by rfl) T.g__law_carlitz T.F__law_carlitz.kp T.b__law_carlitz .nil pass0 (pa_cons (pv 0) (pa_cons (pv 2) pa_nil))))
      (pss_cons (ps_for PassesOwn.never rfl (pi_range1 rfl T.z_range (pa_cons (pv 3) pa_nil)) (pg_name (i := 5) sc__law_acts_right.nd rfl (Or.inl rfl)) (pss_cons (ps_set (i := 6) sc__law_acts_right.nd rfl (Or.inl rfl) (pe_tup (pa_cons (pe_tup pa_nil) (pa_cons (pe_tup (pa_cons pe_int pa_nil)) pa_nil))))
      (pss_cons (ps_for PassesOwn.never rfl (pi_range1 rfl T.z_range (pa_cons (pe_callB (call_min2 rfl) (by rfl) T.z_min (by decide +kernel) (pa_cons (pe_op op_add (pv 5) pe_int) (pa_cons (pe_callB call_len_seq (by rfl) T.z_len (by decide +kernel) (pa_cons (pv 4) pa_nil)) pa_nil))) pa_nil)) (pg_name (i := 7) sc__law_acts_right.nd rfl (Or.inl rfl)) (pss_cons (ps_set (i := 8) sc__law_acts_right.nd rfl (Or.inl rfl) (pe_call (ok__law_quotient_product T) (hr.mono (by decide)) (by rfl) T.g__law_quotient_product T.F__law_quotient_product.kp T.b__law_quotient_product .nil pass0 (pa_cons (pv 0) (pa_cons (pe_tup (pa_cons (pe_ix (r := rIxL K) ix_list (pv 4) (pv 7) (fun _ _ => rfl)) (pa_cons (pe_tup (pa_cons pe_int pa_nil)) pa_nil))) (pa_cons (pe_call (ok__law_root_power T) (hr.mono (by decide)) (by rfl) T.g__law_root_power T.F__law_root_power.kp T.b__law_root_power .nil pass0 (pa_cons (pe_dget (hu_of hr) (pv 0) pe_str (fun _ _ => rfl)) (pa_cons (pe_ix (r := rIxL K) ix_list (pv 1) (pe_op op_sub (pv 5) (pv 7)) (fun _ _ => rfl)) (pa_cons (pv 7) pa_nil)))) pa_nil)))))
      (pss_one (ps_set (i := 6) sc__law_acts_right.nd rfl (Or.inl rfl) (pe_call (ok__law_quotient_plus T) (hr.mono (by decide)) (by rfl) T.g__law_quotient_plus T.F__law_quotient_plus.kp T.b__law_quotient_plus .nil pass0 (pa_cons (pv 0) (pa_cons (pv 6) (pa_cons (pv 8) pa_nil))))))))
      (pss_cons (ps_set (i := 9) sc__law_acts_right.nd rfl (Or.inl rfl) (pe_call (ok__law_quotient_product T) (hr.mono (by decide)) (by rfl) T.g__law_quotient_product T.F__law_quotient_product.kp T.b__law_quotient_product .nil pass0 (pa_cons (pv 0) (pa_cons (pe_tup (pa_cons (pe_call (ok__law_stretched T) (hr.mono (by decide)) (by rfl) T.g__law_stretched T.F__law_stretched.kp T.b__law_stretched .nil pass0 (pa_cons (pe_dget (hu_of hr) (pv 0) pe_str (fun _ _ => rfl)) (pa_cons (pv 2) (pa_cons (pv 5) pa_nil)))) (pa_cons (pe_tup (pa_cons pe_int pa_nil)) pa_nil))) (pa_cons (pe_ix (r := rIxL K) ix_list (pv 1) (pv 5) (fun _ _ => rfl)) pa_nil)))))
      (pss_one (ps_if (pt_cmpR (op_neD hr.units) (pv 6) (pv 9) (nomark _)) (pss_one (ps_ret pe_bl)) pss_nil))))))
      (pss_one (ps_ret pe_bl)))), ?_⟩
    have hq0 := hq.b
    obtain ⟨_, kvs, a1, a2, a3, hdk, gq, gp, gf, g1, g2, g3, l1, l2, _, hmi⟩ := id hf
    have hs5 := ho.s5
    have hsB := ho.sB
    have hcl : (caN q a).length = a.length := (caS_ok hq la a.length).2.2.2
    have hgp : ∀ n, n < s → ∀ i, i < min (n + 1) a.length → GP q 100 ((caN q a).getD i [], [1]) ∧ GP q 100 (rpN q (B.getD (n - i) P1) i) := fun n hn i hi => ⟨ho.r i (by omega), by
      obtain ⟨g4, g5⟩ := ho.p n hn i (by omega)
      exact gp_root hq (ho.g (n - i) (by omega)).2.1 g4 g5⟩
    refine q_asgC (K := K) (xss := caN q a) (ea_cons (ev_var rfl) (ea_cons (ev_var rfl) ea_nil)) (fun H1 e1 Q q1 E => ⟨d, pa, q, a, rfl, hq, hf.ex e1, ex_t e1 hp, la, hal, q1⟩) fun l rs H1 e1 hl => ?_
    refine q_forR1 (n := (s : Int)) (ea_cons (ev_var rfl) ea_nil) ⟨by omega, by omega⟩ (fun i σ H' => ∃ (y5 y6 y7 y8 y9 : Option V), σ = [some (.ref d), some (.ref pb), some (.ref pa), some (N_ s), some (.ref l), y5, y6, y7, y8, y9] ∧ Ex H H' ∧ Ex H1 H') (fun H2 e2 => ⟨none, none, none, none, none, rfl, e1.trans e2, e2⟩) (fun n σ H2 hn hw => ?_) (fun σ H2 hw => ?_)
    · obtain ⟨y5, y6, y7, y8, y9, rfl, e2, e12⟩ := hw
      have hns : n < s := by omega
      have hgn := hgp n hns
      have hnf := su_nf hq hgn
      refine q_asgPr (K := K) (x := P1) (pr_tup tt_nilT tt_one) fun t H3 e3 ht => ?_
      refine q_forR1 (n := ((min (n + 1) a.length : Nat) : Int)) (ea_cons (ev_is (ev_cb (ea_cons (ev_op (ev_var rfl) ev_c rv_I0) (ea_cons (ev_cb (r := rLenQ K) (ea_cons (ev_var rfl) ea_nil) (rc_lenL (sq_of ((hl.ex (e12.trans e3)).h)))) ea_nil)) rc_min2) (congrArg V.int ?_)) ea_nil) ⟨by omega, by omega⟩ (fun i σ H' => ∃ (t : Addr) (y7 y8 : Option V), σ = [some (.ref d), some (.ref pb), some (.ref pa), some (N_ s), some (.ref l), some (N_ n), some (.ref t), y7, y8, y9] ∧ Ex H2 H' ∧ PrA K H' t (suS q (fun i => ((caN q a).getD i [], [1])) (fun i => rpN q (B.getD (n - i) P1) i) i)) (fun H4 e4 => ⟨t, y7, y8, rfl, e3.trans e4, ht.ex e4⟩) (fun i σ H4 hi hw => ?_) (fun σ H4 hw => ?_)
      · rw [List.length_map, hl.t.1, hcl]
        split <;> omega
      · obtain ⟨t, y7, y8, rfl, e4, ht⟩ := hw
        have him : i < min (n + 1) a.length := by omega
        have gg := hgn i him
        obtain ⟨g4, g5⟩ := ho.p n hns i (by omega)
        have g3 := (ho.g i (by omega)).2.2.1
        have gB := (ho.g (n - i) (by omega)).2.1
        have hT := (hnf i (by omega)).gp
        have e24 := e2.trans e4
        refine q_asgPr (K := K) (x := qmN q ((caN q a).getD i [], [1]) (rpN q (B.getD (n - i) P1) i)) (pr_call3 (ev_var rfl) (pr_tup (tt_ixR (H0 := H) (ev_var rfl) (hl.ex (e12.trans e4)) (ev_var rfl) (by omega)) tt_one) (pr_call3M (K := K) (v := N_ q) (w := N_ i) (x := B.getD (n - i) P1) (ev_dg (ev_var rfl) (e24 _ _ hdk) gq) (pr_ixL (ev_var rfl) (hB.ex e24) (ev_is (ev_op (ev_var rfl) (ev_var rfl) rv_I0) (congrArg V.int (by omega))) (by omega)) (ev_var rfl) fun p H4 e4 hp Q q4 E => ⟨p, q, i, B.getD (n - i) P1, rfl, hq, hp, by omega, g3, by omega, by omega, by have := gB.zt; omega, by have := gB.ob.z; omega, q4⟩) (fun p r H6 e6 h1 h2 Q q4 E => ⟨d, p, r, q, _, _, rfl, hq, hf.ex (e24.trans e6), h1, h2, ⟨100, 100, by omega, gg.1, gg.2⟩, q4⟩)) fun u H6 e6 hu => ?_
        refine s_asgPr (K := K) (x := suS q (fun i => ((caN q a).getD i [], [1])) (fun i => rpN q (B.getD (n - i) P1) i) (i + 1)) (pr_call3 (ev_var rfl) (pr_var (ev_var rfl) (ht.ex e6)) (pr_var (ev_var rfl) hu) (fun p r H5 e5 h1 h2 Q q5 E => ⟨d, p, r, q, _, _, rfl, hq, hf.ex ((e24.trans e6).trans e5), h1, h2, ⟨_, _, by omega, hT, (gp_mul hq gg.1 gg.2).1.gp⟩, q5⟩)) fun v H5 e5 hv => ?_
        exact ⟨v, _, _, rfl, (e4.trans e6).trans e5, hv⟩
      · obtain ⟨t, y7, y8, rfl, e4, ht⟩ := hw
        obtain ⟨gs, gBn, g3, g6⟩ := ho.g n hns
        have e24 := e2.trans e4
        have ht : PrA K H4 t (suS q (fun i => ((caN q a).getD i [], [1])) (fun i => rpN q (B.getD (n - i) P1) i) (min (n + 1) a.length)) := ht
        rw [ho.e n hns] at ht
        refine q_asgPr (K := K) (x := qmN q (skN (q ^ n) a, [1]) (B.getD n P1)) (pr_call3 (ev_var rfl) (pr_tup (tt_call3M (K := K) (x := N_ q) (y := N_ n) (xs := a.map N_) (ev_dg (ev_var rfl) (e24 _ _ hdk) gq) (tt_var (ev_var rfl) (ex_t e24 hp)) (ev_var rfl) fun p H6 e6 s1 Q q1 E => ⟨p, q, n, a, rfl, hq, s1, by omega, g3, g6, by omega, retU_T q1⟩) tt_one) (pr_ixL (ev_var rfl) (hB.ex e24) (ev_var rfl) (by omega)) (fun p r H6 e6 h1 h2 Q q4 E => ⟨d, p, r, q, _, _, rfl, hq, hf.ex (e24.trans e6), h1, h2, ⟨100, 100, by omega, gs, gBn⟩, q4⟩)) fun u H6 e6 hu => ?_
        exact s_when (b := false) (et_nePr (pr_var (ev_var rfl) (ht.ex e6)) (pr_var (ev_var rfl) hu)) (fun h => nomatch h) fun _ H7 e7 => ⟨_, _, _, _, _, rfl, (e24.trans e6).trans e7, ((e12.trans e4).trans e6).trans e7⟩
    · obtain ⟨y5, y6, y7, y8, y9, rfl, e2, e12⟩ := hw
      exact s_ret ev_c fun H3 e3 => kk H3 (e2.trans e3)


def sp__law_poly (K : PySem.W.Frag) : Sp := fun vs H Q _ => ∃ (p : Addr) (q : Nat), vs = [.ref p, N_ q, N_ 3] ∧ Fq q ∧ IsDice H p ∧ ∀ t xs H', Exd p H H' → IsDice H' p → SqT K H' t (xs.map N_) → Lq q xs → Tr xs → xs.length ≤ 3 → Q (.ref t) H'
def sp__law_monic (K : PySem.W.Frag) : Sp := fun vs H Q _ => ∃ (p : Addr) (q : Nat), vs = [.ref p, N_ q, N_ 1] ∧ Fq q ∧ IsDice H p ∧ ∀ t x H', Exd p H H' → IsDice H' p → SqT K H' t ([x, 1].map N_) → x < q → Q (.ref t) H'
/-- one more drawn -/
def Drw (p : Addr) (H : Hp) (q : Nat) (Dl : Addr) (i : Nat) (H' : Hp) : Prop := ∃ ys : List Nat, ys.length = i ∧ Lq q ys ∧ H' Dl = some (.lst (ys.map N_)) ∧ H Dl = none ∧ Dl ≠ p ∧ Exd p H H' ∧ IsDice H' p

theorem ok__law_poly {P : Program} {w : World} {K : PySem.W.Frag} {mg : Str → Option Value} {base : Heap} (T : Txt K mg) : FnOk P w K mg base CX0 2 T.a__law_poly T.d__law_poly ["_law_dice_here", "_law_q_here", "_law_size"] (sp__law_poly K) := by
  refine T.F__law_poly.ok sc__law_poly (fun vs H Q E h => ?_) (fun cdv A outer s H vs Q E hr h => ?_)
  · obtain ⟨p, q, rfl, _⟩ := h
    rfl
  · obtain ⟨p, q, rfl, hq, hd, kk⟩ := h
    refine ⟨_, (pss_one (ps_ret (pe_call (ok__law_trim T) (hr.mono (by decide)) (by rfl) T.g__law_trim T.F__law_trim.kp T.b__law_trim .nil pass0 (pa_cons (pe_lc (own := [("_law_turn", 3)]) (g := gName 3) rfl sc__law_poly.nd (pi_range1 rfl T.z_range (pa_cons (pe_call (ok__law_roll T) (hr.mono (by decide)) (by rfl) T.g__law_roll T.F__law_roll.kp T.b__law_roll .nil pass0 (pa_cons (pv 0) (pa_cons (pe_op op_add (pv 2) pe_int) pa_nil))) pa_nil)) (blkOk_by (N := ["_law_dice_here", "_law_q_here", "_law_size", "_law_turn"]) (sc := defScope s__law_poly) (by decide +kernel)) (fun _ _ _ _ _ => pg_name (i := 3) sc__law_poly.nd rfl (Or.inl rfl)) (fun _ _ _ _ _ => pts_nil) (fun _ _ _ _ _ => (pe_call (ok__law_roll T) (hr.mono (by decide)) (by rfl) T.g__law_roll T.F__law_roll.kp T.b__law_roll .nil pass0 (pa_cons (pv 0) (pa_cons (pv 1) pa_nil))))) pa_nil)))), ?_⟩
    have hqb := hq.b
    refine ⟨.ref p, rfl, N_ 3, rfl, 3, 1, rfl, rfl, p, 4, rfl, hd, by decide, lt1000 (by decide), fun r H1 hr x1 d1 => ⟨(r : Int), rfl, by omega, by omega, fun Dl hD => ?_⟩⟩
    · rw [Int.toNat_natCast]
      refine lc_range (lo := 0) (n := r) (fun i H' => Drw p H q Dl i H') ⟨[], rfl, fun y hy => (by cases hy), upd_same, x1.free hD (new_ne hD d1), new_ne hD d1, x1.trans (Exd.of (Ex.new hD)), d1.ex (Ex.new hD)⟩ (fun i H' hi p1 => ?_) (fun H' p1 => ?_)
      · obtain ⟨ys, hl, hy, hlst, hnD, hne, xx, dd⟩ := p1
        refine ⟨rfl, ?_⟩
        refine ⟨.ref p, rfl, N_ q, rfl, p, q, rfl, dd, by omega, lt1000 (by omega), fun r2 H10 hr2 x10 d10 => ⟨ys.map N_, x10 _ _ hne hlst, by rw [List.length_map]; exact Nat.lt_of_lt_of_le (show ys.length < 10 by omega) (by decide), ys ++ [r2], by rw [List.length_append, hl]; rfl, fun y h => ?_, ?_, hnD, hne, Exd.newI (xx.trans x10) hnD, ?_⟩⟩
        · rcases List.mem_append.mp h with h | h
          · exact hy y h
          · rw [List.mem_singleton.mp h]
            exact hr2
        · rw [upd_same, List.map_append]
          rfl
        · obtain ⟨u1, u2, u3, hu⟩ := d10
          exact ⟨u1, u2, u3, by rw [upd_ne hne.symm]; exact hu⟩
      · obtain ⟨ys, hl, hy, hlst, hnD, hne, xx, dd⟩ := p1
        refine sv__law_trim (K := K) (sq_of hlst) (by omega) H' (Ex.refl H') _ (fun t H2 nt e2 ht => kk t (trN ys) H2 (xx.trans (Exd.of e2)) (dd.ex e2) (st_of ht) (tr_lq hy) (tr_tr ys) (Nat.le_trans (tr_le ys) (by omega))) ?_
        exact fun _ _ _ => True


theorem ok__law_monic {P : Program} {w : World} {K : PySem.W.Frag} {mg : Str → Option Value} {base : Heap} (T : Txt K mg) : FnOk P w K mg base CX0 2 T.a__law_monic T.d__law_monic ["_law_dice_here", "_law_q_here", "_law_d"] (sp__law_monic K) := by
  refine T.F__law_monic.ok sc__law_monic (fun vs H Q E h => ?_) (fun cdv A outer s H vs Q E hr h => ?_)
  · obtain ⟨p, q, rfl, _⟩ := h
    rfl
  · obtain ⟨p, q, rfl, hq, hd, kk⟩ := h
    refine ⟨_, (pss_one (ps_ret (pe_op op_catA (pe_callTy call_tuple_of (by rfl) T.z_tuple (by decide +kernel) (pa_cons (pe_lc (own := [("_law_turn", 3)]) (g := gName 3) rfl sc__law_monic.nd (pi_range1 rfl T.z_range (pa_cons (pv 2) pa_nil)) (blkOk_by (N := ["_law_dice_here", "_law_q_here", "_law_d", "_law_turn"]) (sc := defScope s__law_monic) (by decide +kernel)) (fun _ _ _ _ _ => pg_name (i := 3) sc__law_monic.nd rfl (Or.inl rfl)) (fun _ _ _ _ _ => pts_nil) (fun _ _ _ _ _ => (pe_call (ok__law_roll T) (hr.mono (by decide)) (by rfl) T.g__law_roll T.F__law_roll.kp T.b__law_roll .nil pass0 (pa_cons (pv 0) (pa_cons (pv 1) pa_nil))))) pa_nil)) (pe_tup (pa_cons pe_int pa_nil))))), ?_⟩
    have hqb := hq.b
    refine ⟨N_ 1, rfl, 1, rfl, by omega, by omega, fun Dl hD => ?_⟩
    · refine lc_range (lo := 0) (n := 1) (fun i H' => Drw p H q Dl i H') ⟨[], rfl, fun y hy => (by cases hy), upd_same, hD, new_ne hD hd, Exd.of (Ex.new hD), hd.ex (Ex.new hD)⟩ (fun i H' hi p1 => ?_) (fun H' p1 => ?_)
      · obtain ⟨ys, hl, hy, hlst, hnD, hne, xx, dd⟩ := p1
        refine ⟨rfl, ?_⟩
        refine ⟨.ref p, rfl, N_ q, rfl, p, q, rfl, dd, by omega, lt1000 (by omega), fun r2 H10 hr2 x10 d10 => ⟨ys.map N_, x10 _ _ hne hlst, by rw [List.length_map]; exact Nat.lt_of_lt_of_le (show ys.length < 10 by omega) (by decide), ys ++ [r2], by rw [List.length_append, hl]; rfl, fun y h => ?_, ?_, hnD, hne, Exd.newI (xx.trans x10) hnD, ?_⟩⟩
        · rcases List.mem_append.mp h with h | h
          · exact hy y h
          · rw [List.mem_singleton.mp h]
            exact hr2
        · rw [upd_same, List.map_append]
          rfl
        · obtain ⟨u1, u2, u3, hu⟩ := d10
          exact ⟨u1, u2, u3, by rw [upd_ne hne.symm]; exact hu⟩
      · obtain ⟨ys, hl, hy, hlst, hnD, hne, xx, dd⟩ := p1
        obtain ⟨x, rfl⟩ : ∃ x, ys = [x] := by
          rcases ys with _ | ⟨x, _ | ⟨y, ys⟩⟩
          · cases hl
          · exact ⟨x, rfl⟩
          · cases hl
        refine ⟨Dl, [N_ x], rfl, .inl ⟨sq_of hlst, fun l nl => ⟨by show 1 ≤ sizeLine; decide, fun t nt => ⟨l, t, [N_ x], [N_ 1], rfl, rfl, st_of ((Ex.new nt) _ _ upd_same), st_of upd_same, by show 2 ≤ sizeLine; decide, (fun z => nomatch z), (fun _ z => nomatch z), fun _ _ r nr => ?_⟩⟩⟩⟩
        have e1 := ((Ex.new (o := .tup [N_ x]) nl).trans (Ex.new (o := .tup [N_ 1]) nt)).trans (Ex.new (o := .tup ([N_ x] ++ [N_ 1])) nr)
        exact kk r x _ (xx.trans (Exd.of e1)) (dd.ex e1) (st_of upd_same) (hy x (List.mem_singleton.mpr rfl))


end Own
/-! the sums of the law, cross-multiplied: what they are -/
namespace Own
open PySem PySem.Spec PyProof.Rows L2 Evl
open Lean.Grind
def adT (S P q c : Nat) : List Nat → List Nat → List Nat
  | x :: xs, a :: acc => opT S q a (opT P q x c) :: adT S P q c xs acc
  | _, acc => acc
def aaT (S P q c : Nat) (xs : List Nat) : Nat → List Nat → List Nat
  | 0, acc => adT S P q c xs acc
  | j + 1, a :: acc => a :: aaT S P q c xs j acc
  | _ + 1, [] => []
def muTI (S P q : Nat) (xs : List Nat) : List Nat → Nat → List Nat → List Nat
  | [], _, acc => acc
  | y :: ys, j, acc => muTI S P q xs ys (j + 1) (if y = 0 then acc else aaT S P q y xs j acc)
def muT (S P q : Nat) (xs ys : List Nat) : List Nat := muTI S P q xs ys 0 (List.replicate (xs.length + ys.length - 1) 0)
theorem adT_eq {S P q c : Nat} (hq : Fq q) (t : Tab S P q) (hc : c < q) : ∀ (xs acc : List Nat), Lq q xs → Lq q acc → adT S P q c xs acc = adR q c xs acc
  | [], acc, _, _ => by unfold adT adR; rfl
  | x :: xs, [], _, _ => rfl
  | x :: xs, a :: acc, hx, ha => by
    have h1 := hx x (.head _)
    show opT S q a (opT P q x c) :: adT S P q c xs acc = sE q a (pE q x c) :: adR q c xs acc
    rw [t.p x c h1 hc, t.s a _ (ha a (.head _)) (pE_lt hq h1 hc), adT_eq hq t hc xs acc (fun y hy => hx y (.tail _ hy)) (fun y hy => ha y (.tail _ hy))]
theorem aaT_eq {S P q c : Nat} (hq : Fq q) (t : Tab S P q) (hc : c < q) {xs : List Nat} (hx : Lq q xs) : ∀ (j : Nat) (acc : List Nat), Lq q acc → aaT S P q c xs j acc = adA q c xs j acc
  | 0, acc, ha => adT_eq hq t hc xs acc hx ha
  | j + 1, [], _ => rfl
  | j + 1, a :: acc, ha => by
    show a :: aaT S P q c xs j acc = a :: adA q c xs j acc
    rw [aaT_eq hq t hc hx j acc (fun y hy => ha y (.tail _ hy))]
theorem muTI_eq {S P q : Nat} (hq : Fq q) (t : Tab S P q) {xs : List Nat} (hx : Lq q xs) {ys : List Nat} (hy : Lq q ys) : ∀ (zs : List Nat) (j : Nat), ys.drop j = zs → j ≤ ys.length → muTI S P q xs zs j (muS q xs ys j) = muS q xs ys ys.length
  | [], j, h, hj => by
    have : ys.length ≤ j := List.drop_eq_nil_iff.mp h
    have : j = ys.length := by omega
    subst this
    rfl
  | z :: zs, j, h, hj => by
    have hlt : j < ys.length := by
      apply Decidable.byContradiction
      intro n
      rw [List.drop_eq_nil_iff.mpr (by omega)] at h
      cases h
    have hz : ys.getD j 0 = z := by
      have h2 : (ys.drop j)[0]? = some z := by rw [h]; rfl
      rw [List.getElem?_drop, Nat.add_zero] at h2
      rw [List.getD_eq_getElem?_getD, h2]
      rfl
    have hd : ys.drop (j + 1) = zs := by
      rw [← List.drop_drop, h]
      rfl
    show muTI S P q xs zs (j + 1) (if z = 0 then muS q xs ys j else aaT S P q z xs j (muS q xs ys j)) = _
    have hstep : (if z = 0 then muS q xs ys j else aaT S P q z xs j (muS q xs ys j)) = muS q xs ys (j + 1) := by
      show _ = (if ys.getD j 0 = 0 then muS q xs ys j else adA q (ys.getD j 0) xs j (muS q xs ys j))
      rw [hz]
      have hzq : z < q := by rw [← hz]; exact hy.get (by have := hq.b; omega) j
      rw [aaT_eq hq t hzq hx j _ (muS_lq hq hx hy j)]
    rw [hstep]
    exact muTI_eq hq t hx hy zs (j + 1) hd hlt
theorem muT_eq {S P q : Nat} (hq : Fq q) (t : Tab S P q) {xs ys : List Nat} (hx : Lq q xs) (hy : Lq q ys) (nx : xs ≠ []) (ny : ys ≠ []) : muT S P q xs ys = muN q xs ys := by
  unfold muT muN
  rw [if_neg (fun z => z.elim nx ny)]
  exact muTI_eq hq t hx hy ys 0 rfl (Nat.zero_le _)

def mu2 (q : Nat) (xs ys : List Nat) : List Nat := if xs = [] ∨ ys = [] then [] else muT (SN q) (PN q) q xs ys
theorem mu2_eq {q : Nat} (hq : Fq q) {xs ys : List Nat} (hx : Lq q xs) (hy : Lq q ys) : mu2 q xs ys = muN q xs ys := by
  unfold mu2
  split
  · rename_i h
    unfold muN
    rw [if_pos h]
  · rename_i h
    exact muT_eq hq (tab_of hq) hx hy (fun z => h (.inl z)) (fun z => h (.inr z))
def plZ (q : Nat) : List Nat → List Nat → List Nat
  | [], ys => ys
  | x :: xs, [] => x :: xs
  | x :: xs, y :: ys => opT (SN q) q x y :: plZ q xs ys
theorem plZ_get {q : Nat} (hq : Fq q) : ∀ (xs ys : List Nat) (i : Nat), Lq q xs → Lq q ys → (plZ q xs ys).getD i 0 = sE q (xs.getD i 0) (ys.getD i 0)
  | [], ys, i, _, ly => by
    show ys.getD i 0 = sE q 0 (ys.getD i 0)
    rw [(sE_zero hq (ly.get (by have := hq.b; omega) i)).2]
  | x :: xs, [], i, lx, _ => by
    show (x :: xs).getD i 0 = sE q ((x :: xs).getD i 0) 0
    rw [(sE_zero hq (lx.get (by have := hq.b; omega) i)).1]
  | x :: xs, y :: ys, 0, lx, ly => (tab_of hq).s x y (lx x (.head _)) (ly y (.head _))
  | x :: xs, y :: ys, i + 1, lx, ly => plZ_get hq xs ys i (fun z hz => lx z (.tail _ hz)) (fun z hz => ly z (.tail _ hz))
theorem plZ_lq {q : Nat} (hq : Fq q) : ∀ (xs ys : List Nat), Lq q xs → Lq q ys → Lq q (plZ q xs ys)
  | [], ys, _, ly => ly
  | x :: xs, [], lx, _ => lx
  | x :: xs, y :: ys, lx, ly => fun z hz => by
    rcases List.mem_cons.mp (show z ∈ opT (SN q) q x y :: plZ q xs ys from hz) with rfl | hz
    · rw [(tab_of hq).s x y (lx x (.head _)) (ly y (.head _))]
      exact sE_lt hq (lx x (.head _)) (ly y (.head _))
    · exact plZ_lq hq xs ys (fun z hz => lx z (.tail _ hz)) (fun z hz => ly z (.tail _ hz)) z hz
theorem co_plZ {Q : FQt} {xs ys : List Nat} (lx : Lq Q.q xs) (ly : Lq Q.q ys) : co Q (plZ Q.q xs ys) = co Q xs + co Q ys := co_ext (plZ_lq Q.h _ _ lx ly) fun i => by
  rw [plZ_get Q.h _ _ i lx ly, Po.at_add, El.v_add, co_v lx, co_v ly]
/-- one part more -/
def crT (q : Nat) (top bot : List Nat) (s : List Nat × List Nat) : List Nat × List Nat := (plZ q (mu2 q s.1 bot) (mu2 q top s.2), mu2 q s.2 bot)
def crS (q : Nat) (A C : Nat → List Nat × List Nat) : Nat → List Nat × List Nat
  | 0 => P1
  | i + 1 => crT q (mu2 q (A i).1 (C i).1) (mu2 q (A i).2 (C i).2) (crS q A C i)
structure CrOk (Q : FQt) (m : Nat) (s u : List Nat × List Nat) : Prop where
  l : Lq Q.q s.1
  b : RowOk Q.q m s.2
  e : co Q u.1 * co Q s.2 = co Q s.1 * co Q u.2
theorem cr_ok {q N : Nat} (hq : Fq q) {A C : Nat → List Nat × List Nat} (h : ∀ i, i < N → GP q 100 (A i) ∧ GP q 100 (C i)) : ∀ i, i ≤ N → CrOk ⟨q, hq⟩ (1 + 198 * i) (crS q A C i) (suS q A C i)
  | 0, _ => ⟨(fun z hz => nomatch hz), one_row hq (Nat.le_refl _), rfl⟩
  | i + 1, hi => by
    have ih := cr_ok hq h i (by omega)
    have hu := su_nf hq h i (by omega)
    obtain ⟨g1, g2⟩ := h i (by omega)
    obtain ⟨p1, p2⟩ := gp_mul hq g1 g2
    obtain ⟨a1, a2⟩ := gp_add hq hu.gp p1.gp
    have lT := mu_lq hq g1.lt g2.lt
    have rB := mu_row hq g1.ob g2.ob
    have e1 := mu2_eq hq g1.lt g2.lt
    have e2 := mu2_eq hq g1.ob.l g2.ob.l
    have hu2 := hu.ob
    have hp2 := p1.ob
    have ee := ih.e
    generalize hX : crS q A C i = s at *
    generalize hU : suS q A C i = u at *
    generalize hP : qmN q (A i) (C i) = p at *
    have e3 := mu2_eq hq ih.l rB.l
    have e4 := mu2_eq hq lT ih.b.l
    have e5 := mu2_eq hq ih.b.l rB.l
    have hS : crS q A C (i + 1) = (plZ q (muN q s.1 (muN q (A i).2 (C i).2)) (muN q (muN q (A i).1 (C i).1) s.2), muN q s.2 (muN q (A i).2 (C i).2)) := by
      show crT q (mu2 q (A i).1 (C i).1) (mu2 q (A i).2 (C i).2) (crS q A C i) = _
      rw [hX, e1, e2]
      unfold crT
      rw [e3, e4, e5]
    have hV : suS q A C (i + 1) = qpN q u p := by
      show qpN q (suS q A C i) (qmN q (A i) (C i)) = _
      rw [hU, hP]
    rw [hS, hV]
    have l1 := mu_lq hq ih.l rB.l
    have l2 := mu_lq hq lT ih.b.l
    refine ⟨plZ_lq hq _ _ l1 l2, ?_, ?_⟩
    · have := mu_row hq ih.b rB
      rwa [show 1 + 198 * i + (100 + 100 - 1) - 1 = 1 + 198 * (i + 1) by omega] at this
    · show co ⟨q, hq⟩ (qpN q u p).1 * co ⟨q, hq⟩ (muN q s.2 (muN q (A i).2 (C i).2)) = co ⟨q, hq⟩ (plZ q (muN q s.1 (muN q (A i).2 (C i).2)) (muN q (muN q (A i).1 (C i).1) s.2)) * co ⟨q, hq⟩ (qpN q u p).2
      have c1 := co_plZ (Q := ⟨q, hq⟩) l1 l2
      have c2 := co_mul (Q := ⟨q, hq⟩) ih.l rB.l
      have c3 := co_mul (Q := ⟨q, hq⟩) lT ih.b.l
      have c4 := co_mul (Q := ⟨q, hq⟩) ih.b.l rB.l
      have hux := hu.lt
      have hpx := p1.lt
      have c5 := co_mul (Q := ⟨q, hq⟩) hu2.l hp2.l
      have c6 := co_mul (Q := ⟨q, hq⟩) hux hp2.l
      have c7 := co_mul (Q := ⟨q, hq⟩) hpx hu2.l
      have c8 := co_plus (Q := ⟨q, hq⟩) (mu_lq hq hux hp2.l) (mu_lq hq hpx hu2.l)
      have rUP := mu_row hq hu2 hp2
      refine can (Q := ⟨q, hq⟩) rUP ?_
      rw [c8, c6, c7, c5] at a2
      rw [c1, c2, c3, c4, c5]
      grind
theorem NF.le {Q : FQt} {m n : Nat} {t b : List Nat} (h : NF Q m t b) (e : m ≤ n) : NF Q n t b := ⟨h.lt, h.tt, Nat.le_trans h.zt e, h.ob.le e, h.mon, h.cop⟩
theorem nf_one {q : Nat} (hq : Fq q) : NF ⟨q, hq⟩ 1 [1] [1] := ⟨one_lq hq, (fun _ => by show (1 : Nat) ≠ 0; decide), Nat.le_refl _, one_row hq (Nat.le_refl _), rfl, 0, 1, Pl.zero, Pl.one, by show 0 * co _ [1] + 1 * co ⟨q, hq⟩ [1] = 1; rw [co_one]; grind⟩
/-- nothing is left -/
theorem su_nil {q N : Nat} (hq : Fq q) {A C : Nat → List Nat × List Nat} (h : ∀ i, i < N → GP q 100 (A i) ∧ GP q 100 (C i)) (hz : trN (crS q A C N).1 = []) : suS q A C N = P1 := by
  have c := cr_ok hq h N (Nat.le_refl _)
  have n := su_nf hq h N (Nat.le_refl _)
  have e := c.e
  have h0 : co ⟨q, hq⟩ (crS q A C N).1 = 0 := by rw [← co_tr, hz, co_nil]
  rw [h0] at e
  have h1 : co ⟨q, hq⟩ (suS q A C N).1 = 0 := can (Q := ⟨q, hq⟩) c.b (by rw [e]; grind)
  obtain ⟨r1, r2⟩ := nf_inj n ((nf_P1 hq).le (by omega)) (by rw [h1]; show 0 * _ = co _ [] * _; rw [co_nil]; grind)
  exact Prod.ext r1 r2
theorem su_one {q N : Nat} (hq : Fq q) {A C : Nat → List Nat × List Nat} (h : ∀ i, i < N → GP q 100 (A i) ∧ GP q 100 (C i)) (hz : trN (crS q A C N).1 = trN (crS q A C N).2) : suS q A C N = ([1], [1]) := by
  have c := cr_ok hq h N (Nat.le_refl _)
  have n := su_nf hq h N (Nat.le_refl _)
  have e := c.e
  have h0 : co ⟨q, hq⟩ (crS q A C N).1 = co ⟨q, hq⟩ (crS q A C N).2 := by rw [← co_tr, hz, co_tr]
  rw [h0] at e
  have h1 : co ⟨q, hq⟩ (suS q A C N).1 = co ⟨q, hq⟩ (suS q A C N).2 := can (Q := ⟨q, hq⟩) c.b (by rw [e]; grind)
  obtain ⟨r1, r2⟩ := nf_inj n ((nf_one hq).le (by omega)) (by rw [h1]; show _ * co _ [1] = co _ [1] * _; grind)
  exact Prod.ext r1 r2
/-- what is due -/
theorem su_due {q N : Nat} (hq : Fq q) {A C : Nat → List Nat × List Nat} {x y : List Nat × List Nat} (h : ∀ i, i < N → GP q 100 (A i) ∧ GP q 100 (C i)) (hx : GP q 100 x) (hy : GP q 100 y) (hz : trN (mu2 q (crS q A C N).1 (mu2 q x.2 y.2)) = trN (mu2 q (mu2 q x.1 y.1) (crS q A C N).2)) : suS q A C N = qmN q x y := by
  have c := cr_ok hq h N (Nat.le_refl _)
  have n := su_nf hq h N (Nat.le_refl _)
  have e := c.e
  obtain ⟨d1, d2⟩ := gp_mul hq hx hy
  have lT := mu_lq hq hx.lt hy.lt
  have rB := mu_row hq hx.ob hy.ob
  rw [mu2_eq hq hx.lt hy.lt, mu2_eq hq hx.ob.l hy.ob.l, mu2_eq hq c.l rB.l, mu2_eq hq lT c.b.l] at hz
  have h0 : co ⟨q, hq⟩ (crS q A C N).1 * co ⟨q, hq⟩ (muN q x.2 y.2) = co ⟨q, hq⟩ (muN q x.1 y.1) * co ⟨q, hq⟩ (crS q A C N).2 := by
    rw [← co_mul (Q := ⟨q, hq⟩) c.l rB.l, ← co_mul (Q := ⟨q, hq⟩) lT c.b.l, ← co_tr, hz, co_tr]
  have rr := mu_row hq c.b rB
  have h1 : co ⟨q, hq⟩ (suS q A C N).1 * co ⟨q, hq⟩ (qmN q x y).2 = co ⟨q, hq⟩ (qmN q x y).1 * co ⟨q, hq⟩ (suS q A C N).2 := can (Q := ⟨q, hq⟩) rr (by
    rw [co_mul (Q := ⟨q, hq⟩) c.b.l rB.l]
    grind)
  obtain ⟨r1, r2⟩ := nf_inj (m := 1 + 198 * N + 199) (n.le (by omega)) (d1.le (by omega)) h1
  exact Prod.ext r1 r2
theorem su_congr {q : Nat} {A C A' C' : Nat → List Nat × List Nat} : ∀ N, (∀ i, i < N → A i = A' i ∧ C i = C' i) → suS q A C N = suS q A' C' N ∧ crS q A C N = crS q A' C' N
  | 0, _ => ⟨rfl, rfl⟩
  | N + 1, h => by
    obtain ⟨h1, h2⟩ := su_congr N fun i hi => h i (by omega)
    obtain ⟨h3, h4⟩ := h N (Nat.lt_succ_self N)
    exact ⟨by show qpN q (suS q A C N) (qmN q (A N) (C N)) = qpN q (suS q A' C' N) (qmN q (A' N) (C' N)); rw [h1, h3, h4], by show crT q (mu2 q (A N).1 (C N).1) (mu2 q (A N).2 (C N).2) (crS q A C N) = crT q (mu2 q (A' N).1 (C' N).1) (mu2 q (A' N).2 (C' N).2) (crS q A' C' N); rw [h2, h3, h4]⟩

end Own
/-! what the kernel looks at -/
namespace Own
open PySem PySem.Spec PyProof.Rows L2 Evl

def siQ (q : Nat) : Nat := if q = 2 then 5 else if q = 3 then 4 else if q = 4 then 3 else if q = 5 then 3 else 2
def la2I (q d : Nat) : Nat → List Nat
  | 0 => [1]
  | j + 1 => mu2 q (la2I q d j) (skN (q ^ j) (brN q (d - j)))
def la2 (q d : Nat) : List Nat := la2I q d d
def lm2 (q : Nat) : Nat → List Nat
  | 0 => [1]
  | n + 1 => mu2 q (lm2 q n) (brN q (n + 1))
theorem la2I_eq {q d : Nat} (hq : Fq q) : ∀ j, j ≤ d → la2I q d j = laI q d j
  | 0, _ => rfl
  | j + 1, h => by
    show mu2 q (la2I q d j) (skN (q ^ j) (brN q (d - j))) = muN q (laI q d j) (skN (q ^ j) (brN q (d - j)))
    rw [la2I_eq hq j (by omega), mu2_eq hq (la_ok hq j (by omega)).1 (skN_lq (by have := hq.b; omega) (br_lq hq))]
theorem la2_eq {q d : Nat} (hq : Fq q) : la2 q d = laN q d := la2I_eq hq d (Nat.le_refl d)
theorem lm2_eq {q : Nat} (hq : Fq q) : ∀ n, lm2 q n = lmI q n
  | 0 => rfl
  | n + 1 => by
    show mu2 q (lm2 q n) (brN q (n + 1)) = muN q (lmI q n) (brN q (n + 1))
    rw [lm2_eq hq n, mu2_eq hq (lm_ok hq n).1 (br_lq hq)]
def rowB (q : Nat) (xs : List Nat) : Bool := xs.all (fun z => decide (z < q)) && (decide (xs.length ≤ 100) && decide (xs.getD (xs.length - 1) 0 ≠ 0))
def rowE (q : Nat) (xs : List Nat) : Bool := decide (xs = []) || rowB q xs
theorem rowB_ok {q : Nat} {xs : List Nat} (h : rowB q xs = true) : RowOk q 100 xs := by
  unfold rowB at h
  rw [Bool.and_eq_true, Bool.and_eq_true, decide_eq_true_eq, decide_eq_true_eq] at h
  exact ⟨fun z hz => of_decide_eq_true (List.all_eq_true.mp h.1 z hz), fun _ => h.2.2, fun z => by rw [z] at h; exact h.2.2 rfl, h.2.1⟩
theorem rowE_gp {q : Nat} {xs ys : List Nat} (h : rowE q xs = true) (hy : RowOk q 100 ys) : GP q 100 (xs, ys) := by
  unfold rowE at h
  rw [Bool.or_eq_true, decide_eq_true_eq] at h
  rcases h with rfl | h
  · exact ⟨(fun z hz => nomatch hz), (fun h => absurd rfl h), Nat.zero_le _, hy⟩
  · have r := rowB_ok h
    exact ⟨r.l, r.t, r.z, hy⟩
def eokB (q : Nat) (es : List (Nat × Nat)) : Bool := es.all (fun x => decide (x.1 ≤ 10) && (decide (0 < x.2) && decide (x.2 ≤ 1000))) && (decide (es.length ≤ 100) && decide (dgE q es ≤ 700))
theorem eokB_ok {q : Nat} {es : List (Nat × Nat)} (h : eokB q es = true) (hn : (es.map (·.1)).Nodup) : EOk q es := by
  unfold eokB at h
  rw [Bool.and_eq_true, Bool.and_eq_true, decide_eq_true_eq, decide_eq_true_eq] at h
  refine ⟨hn, fun x hx => ?_, h.2.1, h.2.2⟩
  have := List.all_eq_true.mp h.1 x hx
  rw [Bool.and_eq_true, Bool.and_eq_true, decide_eq_true_eq, decide_eq_true_eq, decide_eq_true_eq] at this
  exact this
def sgF (q i : Nat) : List Nat := if i % 2 = 0 then [1] else [oE q 1]
def exF (q i : Nat) : List Nat × List Nat := ([1], la2 q i)
def lgF (q i : Nat) : List Nat × List Nat := (sgF q i, lm2 q i)
def cfB (q i : Nat) : Bool := (decide (tbsN q (peN q i) [1] = la2 q i) && decide (tbsN q (loN i) [1] = lm2 q i)) && ((rowB q (la2 q i) && rowB q (lm2 q i)) && ((eokB q (peN q i) && eokB q (loN i)) && ((decide (i ≤ 6) && (decide (q ^ i ≤ 300) && (decide (i * q ^ i ≤ 700) && decide (mdN q i ≤ 400)))) && rowB q (sgF q i))))
theorem chk_cf : chkAll (fun q => all1 (siQ q) fun i => cfB q i) = true := by decide +kernel
def rtB (q n i : Nat) : Bool := decide (q ^ i * ((la2 q (n - i)).length - 1) + 1 ≤ 100) && decide (q ^ i * ((lm2 q (n - i)).length - 1) + 1 ≤ 100)
theorem chk_rt : chkAll (fun q => all1 (siQ q) fun n => all1 (n + 1) fun i => rtB q n i) = true := by decide +kernel
def unB (q n : Nat) (s : List Nat × List Nat) : Bool := if n = 0 then decide (trN s.1 = trN s.2) else decide (trN s.1 = [])
theorem chk_un1 : chkAll (fun q => all1 (siQ q) fun n => unB q n (crS q (exF q) (fun i => rpN q (lgF q (n - i)) i) (n + 1))) = true := by decide +kernel
theorem chk_un2 : chkAll (fun q => all1 (siQ q) fun n => unB q n (crS q (lgF q) (fun i => rpN q (exF q (n - i)) i) (n + 1))) = true := by decide +kernel
def pl2 (q : Nat) (xs ys : List Nat) : List Nat := trN (plZ q xs ys)
def sc2 (q e : Nat) (xs : List Nat) : List Nat := trN (xs.map (opT (PN q) q e))
theorem pl2_eq {q : Nat} (hq : Fq q) {xs ys : List Nat} (hx : Lq q xs) (hy : Lq q ys) : pl2 q xs ys = plN q xs ys := co_inj (Q := ⟨q, hq⟩) (tr_lq (plZ_lq hq _ _ hx hy)) (pl_lq hq hx hy) (tr_tr _) (by unfold plN; exact tr_tr _) (by
  unfold pl2
  rw [co_tr, co_plZ (Q := ⟨q, hq⟩) hx hy, co_plus (Q := ⟨q, hq⟩) hx hy])
theorem sc2_eq {q e : Nat} (hq : Fq q) (he : e < q) {xs : List Nat} (hx : Lq q xs) : sc2 q e xs = scN q e xs := by
  unfold sc2 scN
  congr 1
  exact List.map_congr_left fun a ha => (tab_of hq).p _ _ he (hx a ha)
def ca2F (q e : Nat) (here : List (List Nat)) : Nat → List (List Nat) → List (List Nat)
  | 0, f => f
  | i + 1, f => (fun g => g.set i (pl2 q (g.getD i []) (sc2 q e (here.getD i [])))) (ca2F q e here i f)
def ca2M (q : Nat) (here : List (List Nat)) : Nat → List (List Nat) → List (List Nat)
  | 0, m => m
  | i + 1, m => (fun g => g.set (i + 1) (pl2 q (g.getD (i + 1) []) (skN (q ^ 1) (here.getD i [])))) (ca2M q here i m)
def mv2 (q : Nat) (here : List (List Nat)) : List (List Nat) := here.map (fun one => mu2 q one [0, 1]) ++ [[]]
def ca2S (q : Nat) (a : List Nat) : Nat → List (List Nat) × List (List Nat)
  | 0 => ([[1]], List.replicate a.length [])
  | j + 1 => (fun s => (ca2M q s.1 s.1.length (mv2 q s.1), ca2F q (a.getD j 0) s.1 s.1.length s.2)) (ca2S q a j)
def ca2 (q : Nat) (a : List Nat) : List (List Nat) := (ca2S q a a.length).2
theorem ca2F_eq {q e m : Nat} (hq : Fq q) (he : e < q) {here : List (List Nat)} (hh : RwX q m here) : ∀ i f, RwX q m f → ca2F q e here i f = caF q e here i f
  | 0, f, h => rfl
  | i + 1, f, h => by
    show (fun g => List.set g i (pl2 q (g.getD i []) (sc2 q e (here.getD i [])))) (ca2F q e here i f) = _
    rw [ca2F_eq hq he hh i f h]
    show (caF q e here i f).set i _ = (caF q e here i f).set i _
    rw [sc2_eq hq he (hh.get i).1, pl2_eq hq ((caF_ok hq he hh i f h).1.get i).1 (scl_lq hq he (hh.get i).1)]
theorem ca2M_eq {q m : Nat} (hq : Fq q) {here : List (List Nat)} (hh : RwX q m here) : ∀ i f, RwX q (q * m + 2) f → ca2M q here i f = caM q here i f
  | 0, f, h => rfl
  | i + 1, f, h => by
    show (fun g => List.set g (i + 1) (pl2 q (g.getD (i + 1) []) (skN (q ^ 1) (here.getD i [])))) (ca2M q here i f) = _
    rw [ca2M_eq hq hh i f h]
    show (caM q here i f).set (i + 1) _ = (caM q here i f).set (i + 1) _
    rw [pl2_eq hq ((caM_ok hq hh i f h).1.get (i + 1)).1 (skN_lq (by have := hq.b; omega) (hh.get i).1)]
theorem ca2S_eq {q : Nat} (hq : Fq q) {a : List Nat} (la : Lq q a) : ∀ j, ca2S q a j = caS q a j
  | 0 => rfl
  | j + 1 => by
    obtain ⟨h1, h2, h3, h4⟩ := caS_ok hq la j
    obtain ⟨m1, m2⟩ := mv_ok hq h1
    have hm : mv2 q (caS q a j).1 = mvN q (caS q a j).1 := by
      unfold mv2 mvN
      congr 1
      exact List.map_congr_left fun x hx => mu2_eq hq (h1 x hx).1 (x_lq hq)
    show (fun s => (ca2M q (Prod.fst s) (Prod.fst s).length (mv2 q (Prod.fst s)), ca2F q (a.getD j 0) (Prod.fst s) (Prod.fst s).length (Prod.snd s))) (ca2S q a j) = _
    rw [ca2S_eq hq la j]
    show (ca2M q (caS q a j).1 (caS q a j).1.length (mv2 q (caS q a j).1), ca2F q (a.getD j 0) (caS q a j).1 (caS q a j).1.length (caS q a j).2) = (caM q (caS q a j).1 (caS q a j).1.length (mvN q (caS q a j).1), caF q (a.getD j 0) (caS q a j).1 (caS q a j).1.length (caS q a j).2)
    rw [hm, ca2M_eq hq h1 _ _ m1, ca2F_eq hq (la.get (by have := hq.b; omega) j) h1 _ _ h3]
theorem ca2_eq {q : Nat} (hq : Fq q) {a : List Nat} (la : Lq q a) : ca2 q a = caN q a := by
  unfold ca2 caN
  rw [ca2S_eq hq la]
def sW (q n : Nat) (row : List (List Nat)) : Nat → List Nat
  | 0 => []
  | i + 1 => plZ q (sW q n row i) (mu2 q (row.getD i []) (la2I q n i))
theorem chk_W : chkAll (fun q => all1 (siQ q) fun n => all1 (n + 1) fun i => decide (trN (mu2 q (skN (q ^ i) (la2 q (n - i))) (la2I q n i)) = trN (la2 q n)) && decide (skN (q ^ i) [1] = [1])) = true := by decide +kernel
def acN (q : Nat) (a : List Nat) (row : List (List Nat)) (n : Nat) : Bool := rowE q (skN (q ^ n) a) && (decide (q ^ n * (a.length - 1) ≤ 2999) && decide (trN (sW q n row (min (n + 1) a.length)) = skN (q ^ n) a))
def acB (q : Nat) (a : List Nat) : Bool := (fun row => (List.range a.length).all (fun i => rowE q (row.getD i [])) && all1 (siQ q) (acN q a row)) (ca2 q a)

theorem chk_ac0 : chkAll (fun q => acB q []) = true := by decide +kernel
theorem chk_ac1 : chkAll (fun q => all1 q fun x => decide (x = 0) || acB q [x]) = true := by decide +kernel
theorem chk_ac2 : chkAll (fun q => all1 q fun x => all1 q fun y => decide (y = 0) || acB q [x, y]) = true := by decide +kernel
def acC (q : Nat) : Bool := all1 q fun x => all1 q fun y => all1 q fun z => decide (z = 0) || acB q [x, y, z]
theorem chk_c2 : acC 2 = true := by decide +kernel
theorem chk_c3 : acC 3 = true := by decide +kernel
theorem chk_c4 : acC 4 = true := by decide +kernel
theorem chk_c5 : acC 5 = true := by decide +kernel
theorem chk_c7 : acC 7 = true := by decide +kernel
theorem chk_c8 : acC 8 = true := by decide +kernel
theorem chk_c9 : acC 9 = true := by decide +kernel
theorem chk_ac3 {q : Nat} (hq : Fq q) : acC q = true := by
  unfold Fq FQ at hq
  simp only [List.mem_cons, List.not_mem_nil, or_false] at hq
  rcases hq with rfl | rfl | rfl | rfl | rfl | rfl | rfl
  · exact chk_c2
  · exact chk_c3
  · exact chk_c4
  · exact chk_c5
  · exact chk_c7
  · exact chk_c8
  · exact chk_c9

end Own
/-! what follows of the looks -/
namespace Own
open PySem PySem.Spec PyProof.Rows L2 Evl
open Lean.Grind

theorem ac_get {q : Nat} (hq : Fq q) {a : List Nat} (la : Lq q a) (ta : Tr a) (hal : a.length ≤ 3) : acB q a = true := by
  have no : ∀ {z : Nat} {b : Bool}, (decide (z = 0) || b) = true → z ≠ 0 → b = true := fun h hz => by
    rw [Bool.or_eq_true, decide_eq_true_eq] at h
    exact h.resolve_left hz
  rcases a with _ | ⟨x, _ | ⟨y, _ | ⟨z, _ | ⟨w, a⟩⟩⟩⟩
  · exact chk_get chk_ac0 hq
  · exact no (all1_get (chk_get chk_ac1 hq) (la x (.head _))) (ta (by show 1 ≠ 0; decide))
  · exact no (all1_get (all1_get (chk_get chk_ac2 hq) (la x (.head _))) (la y (.tail _ (.head _)))) (ta (by show 2 ≠ 0; decide))
  · exact no (all1_get (all1_get (all1_get (chk_ac3 hq) (la x (.head _))) (la y (.tail _ (.head _)))) (la z (.tail _ (.tail _ (.head _))))) (ta (by show 3 ≠ 0; decide))
  · have h4 : (x :: y :: z :: w :: a).length = a.length + 4 := rfl
    omega
theorem si_5 {q : Nat} : 2 ≤ siQ q ∧ siQ q ≤ 5 := by
  unfold siQ
  repeat' split
  all_goals decide
theorem chk_pw : chkAll (fun q => all1 (siQ q) fun i => decide (q ^ i ≤ 300)) = true := by decide +kernel
theorem ex_eq {q i : Nat} (hq : Fq q) (hi : i < siQ q) : exN q i = exF q i := by
  have h := all1_get (chk_get chk_cf hq) hi
  unfold cfB at h
  rw [Bool.and_eq_true, Bool.and_eq_true, decide_eq_true_eq, decide_eq_true_eq] at h
  unfold exN exF
  rw [h.1.1]
theorem lg_eq {q i : Nat} (hq : Fq q) (hi : i < siQ q) : lgN q i = lgF q i := by
  have h := all1_get (chk_get chk_cf hq) hi
  unfold cfB at h
  rw [Bool.and_eq_true, Bool.and_eq_true, decide_eq_true_eq, decide_eq_true_eq] at h
  unfold lgN lgF sgF
  rw [h.1.2]
structure CfOk (q i : Nat) : Prop where
  ge : GP q 100 (exF q i)
  gl : GP q 100 (lgF q i)
  ep : EOk q (peN q i)
  el : EOk q (loN i)
  sz : Sz q i
  i6 : i ≤ 6
theorem cf_ok {q i : Nat} (hq : Fq q) (hi : i < siQ q) : CfOk q i := by
  have h := all1_get (chk_get chk_cf hq) hi
  unfold cfB at h
  simp only [Bool.and_eq_true, decide_eq_true_eq] at h
  obtain ⟨_, ⟨r1, r2⟩, ⟨e1, e2⟩, ⟨z1, z2, z3, z4⟩, sg⟩ := h
  have r1 := rowB_ok r1
  have r2 := rowB_ok r2
  have sg := rowB_ok sg
  exact ⟨⟨one_lq hq, fun _ => by show (1 : Nat) ≠ 0; decide, by show 1 ≤ 100; decide, r1⟩, ⟨sg.l, sg.t, sg.z, r2⟩, eokB_ok e1 (rng_nodup _ _), eokB_ok e2 (rng_nodup _ _), ⟨z1, z2, z3, z4⟩, z1⟩
def exL (q : Nat) : List (List Nat × List Nat) := (List.range (siQ q)).map (exN q)
def lgL (q : Nat) : List (List Nat × List Nat) := (List.range (siQ q)).map (lgN q)
theorem exL_get {q i : Nat} (hq : Fq q) (hi : i < siQ q) : (exL q).getD i P1 = exF q i := by
  unfold exL
  rw [List.getD_eq_getElem?_getD, List.getElem?_map, List.getElem?_range hi]
  exact ex_eq hq hi
theorem lgL_get {q i : Nat} (hq : Fq q) (hi : i < siQ q) : (lgL q).getD i P1 = lgF q i := by
  unfold lgL
  rw [List.getD_eq_getElem?_getD, List.getElem?_map, List.getElem?_range hi]
  exact lg_eq hq hi
theorem exL_len (q : Nat) : (exL q).length = siQ q := by unfold exL; rw [List.length_map, List.length_range]
theorem lgL_len (q : Nat) : (lgL q).length = siQ q := by unfold lgL; rw [List.length_map, List.length_range]
theorem sg_len (q i : Nat) : (sgF q i).length = 1 := by unfold sgF; split <;> rfl
theorem rt_get {q n i : Nat} (hq : Fq q) (hn : n < siQ q) (hi : i ≤ n) : q ^ i * ((la2 q (n - i)).length - 1) + 1 ≤ 100 ∧ q ^ i * ((lm2 q (n - i)).length - 1) + 1 ≤ 100 := by
  have h := all1_get (all1_get (chk_get chk_rt hq) hn) (show i < n + 1 by omega)
  unfold rtB at h
  rw [Bool.and_eq_true, decide_eq_true_eq, decide_eq_true_eq] at h
  exact h
theorem pw_get {q i : Nat} (hq : Fq q) (hi : i < siQ q) : q ^ i ≤ 300 := of_decide_eq_true (all1_get (chk_get chk_pw hq) hi)
theorem un_el {q n : Nat} (hq : Fq q) (hn : n < siQ q) : UnOk q (exL q) (lgL q) n := by
  have h5 := (si_5 (q := q)).2
  refine ⟨by omega, by rw [exL_len]; exact hn, by rw [lgL_len]; exact hn, fun i hi => ?_⟩
  have hi' : i < siQ q := by omega
  have hp := pw_get hq hi'
  have hr := rt_get hq hn hi
  rw [exL_get hq hi', lgL_get hq hi', lgL_get hq (show n - i < siQ q by omega)]
  refine ⟨(cf_ok hq hi').ge, (cf_ok hq hi').gl, by omega, ?_, hr.2⟩
  show q ^ i * ((sgF q (n - i)).length - 1) + 1 ≤ 100
  rw [sg_len, Nat.sub_self, Nat.mul_zero]
  decide
theorem un_le {q n : Nat} (hq : Fq q) (hn : n < siQ q) : UnOk q (lgL q) (exL q) n := by
  have h5 := (si_5 (q := q)).2
  refine ⟨by omega, by rw [lgL_len]; exact hn, by rw [exL_len]; exact hn, fun i hi => ?_⟩
  have hi' : i < siQ q := by omega
  have hp := pw_get hq hi'
  have hr := rt_get hq hn hi
  rw [exL_get hq hi', lgL_get hq hi', exL_get hq (show n - i < siQ q by omega)]
  refine ⟨(cf_ok hq hi').gl, (cf_ok hq hi').ge, by omega, ?_, hr.1⟩
  show q ^ i * (1 - 1) + 1 ≤ 100
  rw [Nat.sub_self, Nat.mul_zero]
  decide
/-- what undoing leaves -/
def noN (n : Nat) : List Nat × List Nat := if n = 0 then ([1], [1]) else ([], [1])
theorem un_val {q n : Nat} (hq : Fq q) {A B : List (List Nat × List Nat)} {A' B' : Nat → List Nat × List Nat} (h : UnOk q A B n) (hA : ∀ i, i ≤ n → A.getD i P1 = A' i ∧ B.getD i P1 = B' i) (hc : unB q n (crS q A' (fun i => rpN q (B' (n - i)) i) (n + 1)) = true) : suS q (fun i => A.getD i P1) (fun i => rpN q (B.getD (n - i) P1) i) (n + 1) = noN n := by
  have hg := h.gp hq
  have cg := (su_congr (q := q) (A := fun i => A.getD i P1) (C := fun i => rpN q (B.getD (n - i) P1) i) (A' := A') (C' := fun i => rpN q (B' (n - i)) i) (n + 1) (fun i hi => ⟨(hA i (by omega)).1, by show rpN q (B.getD (n - i) P1) i = _; rw [(hA (n - i) (by omega)).2]⟩)).2
  rw [← cg] at hc
  unfold unB at hc
  unfold noN
  by_cases h0 : n = 0
  · rw [if_pos h0, decide_eq_true_eq] at hc
    rw [if_pos h0]
    exact su_one hq hg hc
  · rw [if_neg h0, decide_eq_true_eq] at hc
    rw [if_neg h0]
    exact su_nil hq hg hc
theorem un_el_val {q n : Nat} (hq : Fq q) (hn : n < siQ q) : suS q (fun i => (exL q).getD i P1) (fun i => rpN q ((lgL q).getD (n - i) P1) i) (n + 1) = noN n := un_val hq (un_el hq hn) (fun i hi => ⟨exL_get hq (by omega), lgL_get hq (by omega)⟩) (all1_get (chk_get chk_un1 hq) hn)
theorem un_le_val {q n : Nat} (hq : Fq q) (hn : n < siQ q) : suS q (fun i => (lgL q).getD i P1) (fun i => rpN q ((exL q).getD (n - i) P1) i) (n + 1) = noN n := un_val hq (un_le hq hn) (fun i hi => ⟨lgL_get hq (by omega), exL_get hq (by omega)⟩) (all1_get (chk_get chk_un2 hq) hn)
theorem su_W {q n : Nat} (hq : Fq q) (hn : n < siQ q) {row : List (List Nat)} {N : Nat} (hN : N ≤ n + 1) (hr : ∀ i, i < N → GP q 100 (row.getD i [], [1])) (hg : ∀ i, i < N → GP q 100 (row.getD i [], [1]) ∧ GP q 100 (rpN q (exF q (n - i)) i)) : ∀ i, i ≤ N → Lq q (sW q n row i) ∧ co ⟨q, hq⟩ (suS q (fun i => (row.getD i [], [1])) (fun i => rpN q (exF q (n - i)) i) i).1 * co ⟨q, hq⟩ (la2 q n) = co ⟨q, hq⟩ (sW q n row i) * co ⟨q, hq⟩ (suS q (fun i => (row.getD i [], [1])) (fun i => rpN q (exF q (n - i)) i) i).2
  | 0, _ => ⟨(fun z hz => nomatch hz), by show co _ [] * _ = co _ [] * co _ [1]; rw [co_nil]; grind⟩
  | i + 1, hi => by
    obtain ⟨lS, ih⟩ := su_W hq hn hN hr hg i (by omega)
    have hu := su_nf hq hg i (by omega)
    obtain ⟨g1, g2⟩ := hg i (by omega)
    obtain ⟨p1, p2⟩ := gp_mul hq g1 g2
    obtain ⟨a1, a2⟩ := gp_add hq hu.gp p1.gp
    have hc := all1_get (all1_get (chk_get chk_W hq) hn) (show i < n + 1 by omega)
    rw [Bool.and_eq_true, decide_eq_true_eq, decide_eq_true_eq] at hc
    have lW : Lq q (la2I q n i) := by rw [la2I_eq hq i (by omega)]; exact (la_ok hq i (by omega)).1
    have lB : Lq q (skN (q ^ i) (la2 q (n - i))) := g2.ob.l
    have cW : co ⟨q, hq⟩ (skN (q ^ i) (la2 q (n - i))) * co ⟨q, hq⟩ (la2I q n i) = co ⟨q, hq⟩ (la2 q n) := by
      rw [← co_mul (Q := ⟨q, hq⟩) lB lW, ← mu2_eq hq lB lW, ← co_tr (mu2 _ _ _), hc.1, co_tr]
    have hr2 : rpN q (exF q (n - i)) i = ([1], skN (q ^ i) (la2 q (n - i))) := by
      show (skN (q ^ i) [1], skN (q ^ i) (la2 q (n - i))) = _
      rw [hc.2]
    have lR := g1.lt
    have e1 := mu2_eq hq lR lW
    have hS : sW q n row (i + 1) = plZ q (sW q n row i) (muN q (row.getD i []) (la2I q n i)) := by
      show plZ q (sW q n row i) (mu2 q (row.getD i []) (la2I q n i)) = _
      rw [e1]
    have l2 := mu_lq hq lR lW
    rw [hS]
    refine ⟨plZ_lq hq _ _ lS l2, ?_⟩
    have c1 := co_plZ (Q := ⟨q, hq⟩) lS l2
    have c2 := co_mul (Q := ⟨q, hq⟩) lR lW
    have hV : suS q (fun i => (row.getD i [], [1])) (fun i => rpN q (exF q (n - i)) i) (i + 1) = qpN q (suS q (fun i => (row.getD i [], [1])) (fun i => rpN q (exF q (n - i)) i) i) (qmN q (row.getD i [], [1]) (rpN q (exF q (n - i)) i)) := rfl
    rw [hV]
    have hu2 := hu.ob
    have hp2 := p1.ob
    generalize hU : suS q (fun i => (row.getD i [], [1])) (fun i => rpN q (exF q (n - i)) i) i = u at *
    generalize hP : qmN q (row.getD i [], [1]) (rpN q (exF q (n - i)) i) = p at *
    have p3 : co ⟨q, hq⟩ p.1 * co ⟨q, hq⟩ (skN (q ^ i) (la2 q (n - i))) = co ⟨q, hq⟩ (row.getD i []) * co ⟨q, hq⟩ p.2 := by
      have d1 : co ⟨q, hq⟩ (muN q [1] (rpN q (exF q (n - i)) i).2) = co ⟨q, hq⟩ (skN (q ^ i) (la2 q (n - i))) := by
        rw [co_mul (Q := ⟨q, hq⟩) (one_lq hq) g2.ob.l, co_one]
        show 1 * co ⟨q, hq⟩ (skN (q ^ i) (la2 q (n - i))) = _
        grind
      have d2 : co ⟨q, hq⟩ (muN q (row.getD i []) (rpN q (exF q (n - i)) i).1) = co ⟨q, hq⟩ (row.getD i []) := by
        rw [hr2]
        rw [co_mul (Q := ⟨q, hq⟩) lR (one_lq hq), co_one]
        grind
      have p4 : co ⟨q, hq⟩ p.1 * co ⟨q, hq⟩ (muN q [1] (rpN q (exF q (n - i)) i).2) = co ⟨q, hq⟩ (muN q (row.getD i []) (rpN q (exF q (n - i)) i).1) * co ⟨q, hq⟩ p.2 := p2
      rw [d1, d2] at p4
      exact p4
    have hux := hu.lt
    have hpx := p1.lt
    have c5 := co_mul (Q := ⟨q, hq⟩) hu2.l hp2.l
    have c6 := co_mul (Q := ⟨q, hq⟩) hux hp2.l
    have c7 := co_mul (Q := ⟨q, hq⟩) hpx hu2.l
    have c8 := co_plus (Q := ⟨q, hq⟩) (mu_lq hq hux hp2.l) (mu_lq hq hpx hu2.l)
    have rUP := mu_row hq hu2 hp2
    refine can (Q := ⟨q, hq⟩) rUP ?_
    rw [c8, c6, c7, c5] at a2
    rw [c1, c2, c5]
    grind
theorem act_ok {q : Nat} (hq : Fq q) {a : List Nat} (la : Lq q a) (ta : Tr a) (hal : a.length ≤ 3) : ActOk q (exL q) a (siQ q) := by
  have h := ac_get hq la ta hal
  have h5 := (si_5 (q := q)).2
  unfold acB at h
  rw [ca2_eq hq la, Bool.and_eq_true] at h
  obtain ⟨hr, ha⟩ := h
  have o1 : RowOk q 100 [1] := one_row hq (by decide)
  have rr : ∀ i, i < a.length → GP q 100 ((caN q a).getD i [], [1]) := fun i hi => rowE_gp (List.all_eq_true.mp hr i (List.mem_range.mpr hi)) o1
  have hn : ∀ n, n < siQ q → GP q 100 (skN (q ^ n) a, [1]) ∧ q ^ n * (a.length - 1) ≤ 2999 ∧ trN (sW q n (caN q a) (min (n + 1) a.length)) = skN (q ^ n) a := fun n hn => by
    have h := all1_get ha hn
    unfold acN at h
    rw [Bool.and_eq_true, Bool.and_eq_true, decide_eq_true_eq, decide_eq_true_eq] at h
    exact ⟨rowE_gp h.1 o1, h.2.1, h.2.2⟩
  have rp : ∀ n, n < siQ q → ∀ i, i ≤ n → q ^ i * (((exL q).getD (n - i) P1).1.length - 1) + 1 ≤ 100 ∧ q ^ i * (((exL q).getD (n - i) P1).2.length - 1) + 1 ≤ 100 := fun n hn i hi => by
    rw [exL_get hq (by omega)]
    refine ⟨?_, (rt_get hq hn hi).1⟩
    show q ^ i * (1 - 1) + 1 ≤ 100
    rw [Nat.sub_self, Nat.mul_zero]
    decide
  refine ⟨h5, by rw [exL_len]; exact Nat.le_refl _, fun n h => ?_, rr, rp, fun n h => ?_⟩
  · have hp := pw_get hq h
    exact ⟨(hn n h).1, by rw [exL_get hq h]; exact (cf_ok hq h).ge, by omega, (hn n h).2.1⟩
  · have hg : ∀ i, i < min (n + 1) a.length → GP q 100 ((caN q a).getD i [], [1]) ∧ GP q 100 (rpN q ((exL q).getD (n - i) P1) i) := fun i hi => ⟨rr i (by omega), by
      obtain ⟨g4, g5⟩ := rp n h i (by omega)
      exact gp_root hq (by rw [exL_get hq (by omega)]; exact (cf_ok hq (by omega)).ge) g4 g5⟩
    have cg := (su_congr (q := q) (A := fun i => ((caN q a).getD i [], [1])) (C := fun i => rpN q ((exL q).getD (n - i) P1) i) (A' := fun i => ((caN q a).getD i [], [1])) (C' := fun i => rpN q (exF q (n - i)) i) (min (n + 1) a.length) (fun i hi => ⟨rfl, by show rpN q ((exL q).getD (n - i) P1) i = _; rw [exL_get hq (by omega)]⟩)).1
    have hgF : ∀ i, i < min (n + 1) a.length → GP q 100 ((caN q a).getD i [], [1]) ∧ GP q 100 (rpN q (exF q (n - i)) i) := fun i hi => by
      have := hg i hi
      rwa [exL_get hq (show n - i < siQ q by omega)] at this
    have h3 := (hn n h).2.2
    obtain ⟨lS, w⟩ := su_W hq h (row := caN q a) (N := min (n + 1) a.length) (by omega) (fun i hi => rr i (by omega)) hgF _ (Nat.le_refl _)
    rw [exL_get hq h, cg]
    have nu := su_nf hq hgF _ (Nat.le_refl _)
    have gs := (hn n h).1
    have ge := (cf_ok hq h).ge
    obtain ⟨d1, d2⟩ := gp_mul hq gs ge
    generalize hU : suS q (fun i => ((caN q a).getD i [], [1])) (fun i => rpN q (exF q (n - i)) i) (min (n + 1) a.length) = u at *
    generalize hD : qmN q (skN (q ^ n) a, [1]) (exF q n) = v at *
    have cs : co ⟨q, hq⟩ (sW q n (caN q a) (min (n + 1) a.length)) = co ⟨q, hq⟩ (skN (q ^ n) a) := by rw [← co_tr, h3]
    have rD : RowOk q 100 (la2 q n) := ge.ob
    have k1 : co ⟨q, hq⟩ (muN q [1] (la2 q n)) = co ⟨q, hq⟩ (la2 q n) := by rw [co_mul (Q := ⟨q, hq⟩) (one_lq hq) rD.l, co_one]; grind
    have k2 : co ⟨q, hq⟩ (muN q (skN (q ^ n) a) [1]) = co ⟨q, hq⟩ (skN (q ^ n) a) := by rw [co_mul (Q := ⟨q, hq⟩) gs.lt (one_lq hq), co_one]; grind
    have d3 : co ⟨q, hq⟩ v.1 * co ⟨q, hq⟩ (muN q [1] (la2 q n)) = co ⟨q, hq⟩ (muN q (skN (q ^ n) a) [1]) * co ⟨q, hq⟩ v.2 := d2
    rw [k1, k2] at d3
    rw [cs] at w
    have e : co ⟨q, hq⟩ u.1 * co ⟨q, hq⟩ v.2 = co ⟨q, hq⟩ v.1 * co ⟨q, hq⟩ u.2 := can (Q := ⟨q, hq⟩) (show RowOk q 100 (la2 q n) from rD) (by grind)
    obtain ⟨r1, r2⟩ := nf_inj (m := 1 + 198 * min (n + 1) a.length + 199) (nu.le (by omega)) (d1.le (by omega)) e
    exact Prod.ext r1 r2

end Own
/-! the law -/
namespace Own
open PySem PySem.Spec PyProof.Rows L2 Evl

section
variable {K : PySem.W.Frag} {σ : L2.St} {H H' : Hp} {t : TT} {ta tb tk te : TE} {D : Ends} {tu tz : TS} {tA : TA} {vs : List V} {P P' : Nat → Addr → Hp → Prop} {x z : List Nat × List Nat}
theorem ev_si {q : Nat} (hq : Fq q) (hk : Ev tk σ H (N_ q)) (hs : ∀ H1, Ex H H1 → Ev tk σ H1 (N_ q)) : Ev (tDGet (tDisp [(tC (.int 2), tC (.int 5)), (tC (.int 3), tC (.int 4)), (tC (.int 4), tC (.int 3)), (tC (.int 5), tC (.int 3)), (tC (.int 7), tC (.int 2)), (tC (.int 8), tC (.int 2)), (tC (.int 9), tC (.int 2))]) tk) σ H (N_ (siQ q)) := fun H1 e Q qq p np => by
  have hv : valV (mergeK [] ([(Sum.inl 2, .int 5), (Sum.inl 3, .int 4), (Sum.inl 4, .int 3), (Sum.inl 5, .int 3), (Sum.inl 7, .int 2), (Sum.inl 8, .int 2), (Sum.inl 9, .int 2)] : List (Key × V))) (Sum.inl (q : Int)) = some (N_ (siQ q)) := by
    unfold Fq FQ at hq
    simp only [List.mem_cons, List.not_mem_nil, or_false] at hq
    rcases hq with rfl | rfl | rfl | rfl | rfl | rfl | rfl <;> exact valV_merge _ _ _ _ rfl
  refine ⟨upd_same, [(Sum.inl 2, .int 5), (Sum.inl 3, .int 4), (Sum.inl 4, .int 3), (Sum.inl 5, .int 3), (Sum.inl 7, .int 2), (Sum.inl 8, .int 2), (Sum.inl 9, .int 2)], rfl, by show 7 ≤ 15; decide, ?_⟩
  have e1 : Ex H1 (upd (upd H1 p (.dK [])) p (.dK (mergeK [] [(Sum.inl 2, .int 5), (Sum.inl 3, .int 4), (Sum.inl 4, .int 3), (Sum.inl 5, .int 3), (Sum.inl 7, .int 2), (Sum.inl 8, .int 2), (Sum.inl 9, .int 2)]))) := Ex.mut (Ex.new np) np
  exact (hs _ (e.trans e1)) _ (Ex.refl _) _ fun H3 e3 => ⟨p, N_ (siQ q), rfl, hv ▸ DGet.k (k := Sum.inl (q : Int)) (e3 _ _ upd_same), qq H3 (e1.trans e3)⟩
theorem pr_if {b : Bool} (ht : EvT t σ H b) (h1 : b = true → ∀ H1, Ex H H1 → EvPr K ta σ H1 x) (h2 : b = false → ∀ H1, Ex H H1 → EvPr K tb σ H1 x) : EvPr K (tIf t ta tb) σ H x := fun H1 e Q q =>
  ht H1 e _ fun H2 e2 => by
    cases b with
    | true => exact h1 rfl H2 (e.trans e2) H2 (Ex.refl H2) Q (q.go e2)
    | false => exact h2 rfl H2 (e.trans e2) H2 (Ex.refl H2) Q (q.go e2)
theorem pr_callA {sp : Sp} {E : XK} (h : EvA tA σ H vs) (hs : ∀ H1, Ex H H1 → ∀ Q : VK, RetPr K z H1 Q → ∀ E, sp (vs ++ []) H1 Q E) : EvPr K (tCall sp [] E tA) σ H z := fun H1 e Q q => h H1 e _ fun H2 e2 => hs H2 (e.trans e2) Q (q.go e2) _
theorem kp_pr (f : Nat → List Nat × List Nat) : Kp (fun i r H => PrA K H r (f i)) := ⟨fun i r H H' h e => h.ex e, fun i r H H' p ys hp x ⟨a, b, h1, h2, h3⟩ => ⟨a, b, sqt_put hp x h1, sqt_put hp x h2, sqt_put hp x h3⟩⟩
theorem q_parLR {i j n m : Nat} (kp : Kp P) (h : EvLR ta σ H n P) (h2 : EvLR tb σ H m P') (k : ∀ (p : Addr) (rs : List Addr) (r : Addr) (ss : List Addr) H1, Ex H H1 → H1 p = some (.lst (rs.map V.ref)) → rs.length = n → (∀ (j : Nat) (r : Addr), rs[j]? = some r → P j r H1) → H1 r = some (.lst (ss.map V.ref)) → ss.length = m → (∀ (j : Nat) (r : Addr), ss[j]? = some r → P' j r H1) → tz D ((σ.set i (some (.ref p))).set j (some (.ref r))) H1) : tSeq (tPar i j (tCons ta (tCons tb tNil))) tz D σ H :=
  h H (Ex.refl H) _ fun p rs H1 np e1 h1 hn hP => h2 H1 e1 _ fun r ss H2 nr e2 h2 hm hP' => ⟨.ref p, .ref r, rfl, k p rs r ss H2 (e1.trans e2) (e2 _ _ h1) hn (fun j r hj => kp.ex _ _ _ _ (hP j r hj) e2) h2 hm hP'⟩
theorem lpr_exd {l p : Addr} {rs : List Addr} {xs : List (List Nat × List Nat)} (hl : H l = some (.lst (rs.map V.ref))) (hn : 0 < rs.length) (hs : rs.length = xs.length) (hP : ∀ (j : Nat) (r : Addr), rs[j]? = some r → PrA K H r (xs.getD j P1)) (d : IsDice H p) (x : Exd p H H') : LPr K H' l xs := by
  obtain ⟨u1, u2, u3, hd⟩ := d
  have hne : l ≠ p := fun z => by
    rw [z, hd] at hl
    rcases rs with _ | ⟨r, rs⟩
    · cases hn
    · cases hl
  exact ⟨rs, sq_of (x _ _ hne hl), hs, fun j r hj => by
    obtain ⟨b, c, h1, h2, h3⟩ := hP j r hj
    exact ⟨b, c, sqt_put hd x h1, sqt_put hd x h2, sqt_put hd x h3⟩⟩
end
def sp_law (K : PySem.W.Frag) : Sp := fun vs H Q _ => ∃ (a : Addr) (ns : List Int), vs = [.ref a] ∧ SqL K H a (ns.map V.int) ∧ ns.length ≤ 63 ∧ ∀ H', Q (.bl true) H'

theorem ok_law {P : Program} {w : World} {K : PySem.W.Frag} {mg : Str → Option Value} {base : Heap} (T : Txt K mg) : FnOk P w K mg base CX0 8 T.a_law T.d_law ["_law_script"] (sp_law K) := by
  refine T.F_law.ok sc_law (fun vs H Q E h => ?_) (fun cdv A outer s H vs Q E hr h => ?_)
  · obtain ⟨a, ns, rfl, _⟩ := h
    rfl
  · obtain ⟨a, ns, rfl, hx, hlen, k⟩ := h
    refine ⟨_, (pss_cons (ps_for PassesOwn.never rfl (pi_range1 rfl T.z_range (pa_cons (pe_callB (call_max2 rfl) (by rfl) T.z_max (by decide +kernel) (pa_cons pe_int (pa_cons (pe_callB (call_min2 rfl) (by rfl) T.z_min (by decide +kernel) (pa_cons pe_int (pa_cons (pe_callB call_len_seq (by rfl) T.z_len (by decide +kernel) (pa_cons (pv 0) pa_nil)) pa_nil))) pa_nil))) pa_nil)) (pg_name (i := 1) sc_law.nd rfl (Or.inl rfl)) (pss_cons (ps_set (i := 2) sc_law.nd rfl (Or.inl rfl) (pe_call (ok__law_dice T) (hr.mono (by decide)) (by rfl) T.g__law_dice T.F__law_dice.kp T.b__law_dice .nil pass0 (pa_cons (pv 0) (pa_cons (pv 1) pa_nil))))
      (pss_cons (ps_set (i := 3) sc_law.nd rfl (Or.inl rfl) (pe_call (ok__law_field T) (hr.mono (by decide)) (by rfl) T.g__law_field T.F__law_field.kp T.b__law_field .nil pass0 (pa_cons (pe_call (ok__law_q T) (hr.mono (by decide)) (by rfl) T.g__law_q T.F__law_q.kp T.b__law_q .nil pass0 (pa_cons (pv 2) pa_nil)) pa_nil)))
      (pss_cons (ps_set (i := 4) sc_law.nd rfl (Or.inr rfl) (pe_dget (hu_of hr) (pv 3) pe_str (fun _ _ => rfl)))
      (pss_cons (ps_set (i := 5) sc_law.nd rfl (Or.inl rfl) (pe_dget (hu_of hr) (pe_disp (pps_cons pe_int pe_int (pps_cons pe_int pe_int (pps_cons pe_int pe_int (pps_cons pe_int pe_int (pps_cons pe_int pe_int (pps_cons pe_int pe_int (pps_cons pe_int pe_int pps_nil))))))) (by rfl) (by rfl) (fun z => by cases z) (by decide)) (pv 4) (fun _ _ => rfl)))
      (pss_cons (ps_par (i := 6) (j := 7) (by rfl) sc_law.nd rfl rfl (by decide) rfl rfl (pa_cons (pe_lc (own := [("_law_i", 8)]) (g := gName 8) rfl sc_law.nd (pi_range1 rfl T.z_range (pa_cons (pv 5) pa_nil)) (blkOk_by (N := ["_law_script", "_law_at", "_law_dice_here", "_law_field_here", "_law_q_here", "_law_size", "_law_exps", "_law_logs", "_law_i", "_law_sign", "_law_nothing", "_law_a", "_law_b"]) (sc := defScope s_law) (by decide +kernel)) (fun _ _ _ _ _ => pg_name (i := 8) sc_law.nd rfl (Or.inl rfl)) (fun _ _ _ _ _ => pts_nil) (fun _ _ _ _ _ => (pe_call (ok_exp_coefficient T) (hr.mono (by decide)) (by rfl) T.g_exp_coefficient T.F_exp_coefficient.kp T.b_exp_coefficient .nil pass0 (pa_cons (pv 4) (pa_cons (pv 8) pa_nil))))) (pa_cons (pe_lc (own := [("_law_i", 8)]) (g := gName 8) rfl sc_law.nd (pi_range1 rfl T.z_range (pa_cons (pv 5) pa_nil)) (blkOk_by (N := ["_law_script", "_law_at", "_law_dice_here", "_law_field_here", "_law_q_here", "_law_size", "_law_exps", "_law_logs", "_law_i", "_law_sign", "_law_nothing", "_law_a", "_law_b"]) (sc := defScope s_law) (by decide +kernel)) (fun _ _ _ _ _ => pg_name (i := 8) sc_law.nd rfl (Or.inl rfl)) (fun _ _ _ _ _ => pts_nil) (fun _ _ _ _ _ => (pe_call (ok_log_coefficient T) (hr.mono (by decide)) (by rfl) T.g_log_coefficient T.F_log_coefficient.kp T.b_log_coefficient .nil pass0 (pa_cons (pv 4) (pa_cons (pv 8) pa_nil))))) pa_nil)) (by rfl))
      (pss_cons (ps_for PassesOwn.never rfl (pi_range1 rfl T.z_range (pa_cons (pv 5) pa_nil)) (pg_name (i := 8) sc_law.nd rfl (Or.inl rfl)) (pss_cons (ps_set (i := 9) sc_law.nd rfl (Or.inl rfl) (pe_ifExp (pt_cmpR op_eq (pe_op op_mod (pv 8) pe_int) pe_int (nomark _)) (pe_ix (r := rIxL K) ix_list (pe_dget (hu_of hr) (pv 3) pe_str (fun _ _ => rfl)) pe_int (fun _ _ => rfl)) pe_int))
      (pss_cons (ps_if (PW.pt (pw_or (pt_cmpR (op_neD hr.units) (pe_ix (r := rIxL K) ix_list (pv 6) (pv 8) (fun _ _ => rfl)) (pe_tup (pa_cons (pe_tup (pa_cons pe_int pa_nil)) (pa_cons (pe_call (ok__law_all_product T) (hr.mono (by decide)) (by rfl) T.g__law_all_product T.F__law_all_product.kp T.b__law_all_product .nil pass0 (pa_cons (pv 3) (pa_cons (pv 8) pa_nil))) pa_nil))) (nomark _)) (pw_or1 (pt_cmpR (op_neD hr.units) (pe_ix (r := rIxL K) ix_list (pv 7) (pv 8) (fun _ _ => rfl)) (pe_tup (pa_cons (pe_tup (pa_cons (pv 9) pa_nil)) (pa_cons (pe_call (ok__law_least_multiple T) (hr.mono (by decide)) (by rfl) T.g__law_least_multiple T.F__law_least_multiple.kp T.b__law_least_multiple .nil pass0 (pa_cons (pv 3) (pa_cons (pv 8) pa_nil))) pa_nil))) (nomark _))))) (pss_one (ps_ret pe_bl)) pss_nil)
      (pss_cons (ps_set (i := 10) sc_law.nd rfl (Or.inl rfl) (pe_ifExp (pt_cmpR op_eq (pv 8) pe_int (nomark _)) (pe_tup (pa_cons (pe_tup (pa_cons pe_int pa_nil)) (pa_cons (pe_tup (pa_cons pe_int pa_nil)) pa_nil))) (pe_tup (pa_cons (pe_tup pa_nil) (pa_cons (pe_tup (pa_cons pe_int pa_nil)) pa_nil)))))
      (pss_one (ps_if (PW.pt (pw_or (pt_cmpR (op_neD hr.units) (pe_call (ok__law_undone T) (hr.mono (by decide)) (by rfl) T.g__law_undone T.F__law_undone.kp T.b__law_undone .nil pass0 (pa_cons (pv 3) (pa_cons (pv 6) (pa_cons (pv 7) (pa_cons (pv 8) pa_nil))))) (pv 10) (nomark _)) (pw_or1 (pt_cmpR (op_neD hr.units) (pe_call (ok__law_undone T) (hr.mono (by decide)) (by rfl) T.g__law_undone T.F__law_undone.kp T.b__law_undone .nil pass0 (pa_cons (pv 3) (pa_cons (pv 7) (pa_cons (pv 6) (pa_cons (pv 8) pa_nil))))) (pv 10) (nomark _))))) (pss_one (ps_ret pe_bl)) pss_nil))))))
      (pss_cons (ps_par (i := 11) (j := 12) (by rfl) sc_law.nd rfl rfl (by decide) rfl rfl (pa_cons (pe_call (ok__law_poly T) (hr.mono (by decide)) (by rfl) T.g__law_poly T.F__law_poly.kp T.b__law_poly .nil pass0 (pa_cons (pv 2) (pa_cons (pv 4) (pa_cons pe_int pa_nil)))) (pa_cons (pe_call (ok__law_monic T) (hr.mono (by decide)) (by rfl) T.g__law_monic T.F__law_monic.kp T.b__law_monic .nil pass0 (pa_cons (pv 2) (pa_cons (pv 4) (pa_cons pe_int pa_nil)))) pa_nil)) (by rfl))
      (pss_one (ps_if (PW.pt (pw_or (pt_not (pt_val (pe_call (ok__law_acts_right T) (hr.mono (by decide)) (by rfl) T.g__law_acts_right T.F__law_acts_right.kp T.b__law_acts_right .nil pass0 (pa_cons (pv 3) (pa_cons (pv 6) (pa_cons (pv 11) (pa_cons (pv 5) pa_nil))))))) (pw_or1 (pt_not (pt_val (pe_call (ok__law_acts_right T) (hr.mono (by decide)) (by rfl) T.g__law_acts_right T.F__law_acts_right.kp T.b__law_acts_right .nil pass0 (pa_cons (pv 3) (pa_cons (pv 6) (pa_cons (pv 12) (pa_cons (pv 5) pa_nil)))))))))) (pss_one (ps_ret pe_bl)) pss_nil))))))))))
      (pss_one (ps_ret pe_bl))), ?_⟩
    have hm := minmax 3 ⟨by decide, by decide⟩ ((ns.map V.int).length)
    obtain ⟨n, hn, en⟩ := hm
    refine q_forR1 (n := (n : Int)) (ea_cons (ev_is (ev_cb (ea_cons ev_c (ea_cons (ev_cb (ea_cons ev_c (ea_cons (ev_cb (ea_cons (ev_var rfl) ea_nil) (rc_lenL hx)) ea_nil)) rc_min2) ea_nil)) rc_max2) (congrArg V.int en)) ea_nil) ⟨by omega, by omega⟩
      (fun i σ H' => ∃ y1 y2 y3 y4 y5 y6 y7 y8 y9 y10 y11 y12 : Option V, σ = [some (.ref a), y1, y2, y3, y4, y5, y6, y7, y8, y9, y10, y11, y12] ∧ SqL K H' a (ns.map V.int)) (fun H1 e1 => ⟨none, none, none, none, none, none, none, none, none, none, none, none, rfl, ex_l e1 hx⟩) (fun i σ H2 hi hw => ?_) (fun σ H2 hw => ?_)
    · obtain ⟨y1, y2, y3, y4, y5, y6, y7, y8, y9, y10, y11, y12, rfl, h2⟩ := hw
      refine ⟨.ref a, rfl, N_ i, rfl, a, ns, i, rfl, h2, hlen, by omega, fun p H3 np e3 d3 => ?_⟩
      refine ⟨.ref p, rfl, p, rfl, d3, fun q H4 hq x4 d4 => ⟨q, rfl, hq, fun f H5 e5 hf => ?_⟩⟩
      have hqb := hq.b
      have hsi := si_5 (q := q)
      have l1 : ∀ {x : Nat}, x < q → Lq q [x, 1] := fun {x} hx z hz => by
        rcases List.mem_cons.mp hz with rfl | hz
        · exact hx
        · rw [List.mem_singleton.mp hz]; omega
      have t1 : ∀ {x : Nat}, Tr [x, 1] := fun {x} _ => by show (1 : Nat) ≠ 0; decide
      have hf2 : FldAt (fun b => b ≠ p) H5 f q := hf.keep fun b o n h => ⟨new_ne n d4, h⟩
      have hf2t : FldAt (fun _ => True) H5 f q := hf2.keep fun b o n h => ⟨trivial, h⟩
      have d5 := d4.ex e5
      obtain ⟨_, kvs, a1, a2, a3, hdk, gq, _, _, _, _, gm, _, _, _, hmi⟩ := id hf2t
      refine q_asg (v := N_ q) (ev_dg (ev_var rfl) hdk gq) fun H6 e6 => ?_
      refine q_asg (v := N_ (siQ q)) (ev_si hq (ev_var rfl) (fun _ _ => ev_var rfl)) fun H7 e7 => ?_
      refine q_parLR (n := siQ q) (m := siQ q) (P := fun i r H => PrA K H r ((exL q).getD i P1)) (P' := fun i r H => PrA K H r ((lgL q).getD i P1)) (kp_pr _) (lr_lcR1 (kp_pr _) (ea_cons (ev_var rfl) ea_nil) (by omega) (fun _ => rfl) fun i H8 e8 hi8 => ?_) (lr_lcR1 (kp_pr _) (ea_cons (ev_var rfl) ea_nil) (by omega) (fun _ => rfl) fun i H8 e8 hi8 => ?_) fun el rs ll ss H8 e8 hel hrs hrP hll hss hsP => ?_
      · rw [(exL_get hq hi8).trans (ex_eq hq hi8).symm]
        exact pr_callA (K := K) (ea_cons (ev_var rfl) (ea_cons (ev_var rfl) ea_nil)) fun H9 e9 Q q9 E => ⟨q, i, rfl, hq, (cf_ok hq hi8).i6, (cf_ok hq hi8).ep, q9⟩
      · rw [(lgL_get hq hi8).trans (lg_eq hq hi8).symm]
        exact pr_callA (K := K) (ea_cons (ev_var rfl) (ea_cons (ev_var rfl) ea_nil)) fun H9 e9 Q q9 E => ⟨q, i, rfl, hq, (cf_ok hq hi8).i6, (cf_ok hq hi8).el, q9⟩
      have hE : LPr K H8 el (exL q) := ⟨rs, sq_of hel, by rw [exL_len]; exact hrs, hrP⟩
      have hL : LPr K H8 ll (lgL q) := ⟨ss, sq_of hll, by rw [lgL_len]; exact hss, hsP⟩
      have e58 := (e6.trans e7).trans e8
      have hf8 := hf2.keep (M := fun b => b ≠ p) (H' := H8) fun b o n h => ⟨n, e58 _ _ h⟩
      have hf8t : FldAt (fun _ => True) H8 f q := hf8.keep fun b o n h => ⟨trivial, h⟩
      have d8 := d5.ex e58
      have x38 : Exd p H3 H8 := (x4.trans (Exd.of e5)).trans (Exd.of e58)
      refine q_forR1 (n := ((siQ q : Nat) : Int)) (ea_cons (ev_var rfl) ea_nil) ⟨by omega, by omega⟩ (fun k σ H' => ∃ y8 y9 y10 : Option V, σ = [some (.ref a), some (N_ i), some (.ref p), some (.ref f), some (N_ q), some (N_ (siQ q)), some (.ref el), some (.ref ll), y8, y9, y10, y11, y12] ∧ Ex H8 H') (fun H9 e9 => ⟨_, _, _, rfl, e9⟩) (fun k σ H9 hk hw => ?_) (fun σ H9 hw => ?_)
      · obtain ⟨y8, y9, y10, rfl, e9⟩ := hw
        have hks : k < siQ q := by omega
        have hcf := cf_ok hq hks
        have hh : Ev (tOp (rIxL K) (tDGet (tVar 3) (tC (.str "minus"))) (tC (.int 1))) [some (.ref a), some (N_ i), some (.ref p), some (.ref f), some (N_ q), some (N_ (siQ q)), some (.ref el), some (.ref ll), some (N_ k), y9, y10, y11, y12] H9 (N_ (oE q 1)) := ev_op (ev_dg (ev_var rfl) (e9 _ _ (e58 _ _ hdk)) gm) ev_c (rv_ixL (sq_of (e9 _ _ (e58 _ _ hmi))) (atI_nat (j := 1) (by rw [List.map_map, List.getElem?_map, List.getElem?_range (by omega)]; rfl)))
        refine q_asg (v := N_ ((sgF q k).getD 0 0)) (ev_if (b := decide (k % 2 = 1)) (et_is (et_test (ev_op (ev_is (w := N_ (k % 2)) (ev_op (ev_var rfl) ev_c (rv_I (by decide))) rfl) ev_c (rv_eq rfl))) (dec_int (y := 1))) (fun hb => ?_) (fun hb => ?_)) fun H10 e10 => ?_
        · have hb := of_decide_eq_true hb
          have he : (sgF q k).getD 0 0 = oE q 1 := by unfold sgF; rw [if_neg (by omega)]; rfl
          rw [he]
          exact hh
        · have hb := of_decide_eq_false hb
          have he : (sgF q k).getD 0 0 = 1 := by unfold sgF; rw [if_pos (by omega)]; rfl
          rw [he]
          exact ev_c
        have e810 := e9.trans e10
        have hsg : sgF q k = [(sgF q k).getD 0 0] := by unfold sgF; split <;> rfl
        refine q_when (b := false) (et_is (et_or (et_nePr (K := K) (x := exF q k) (pr_is (pr_ixL (K := K) (ev_var rfl) (hE.ex e810) (ev_var rfl) (by rw [exL_len]; exact hks)) (exL_get hq hks)) (pr_is (pr_tup (K := K) (xs := [1]) (ys := laN q k) tt_one (tt_call (K := K) (ea_cons (ev_var rfl) (ea_cons (ev_var rfl) ea_nil)) fun H11 e11 Q q11 E => ⟨f, q, k, rfl, hq, hf8t.ex (e810.trans e11), hcf.sz, q11⟩)) (by unfold exF; rw [la2_eq hq]))) fun _ => et_nePr (K := K) (x := lgF q k) (pr_is (pr_ixL (K := K) (ev_var rfl) (hL.ex e810) (ev_var rfl) (by rw [lgL_len]; exact hks)) (lgL_get hq hks)) (pr_is (pr_tup (K := K) (xs := [(sgF q k).getD 0 0]) (ys := lmI q k) (tt_new (eu_tup (vs := [N_ ((sgF q k).getD 0 0)]) (ea_cons (ev_var rfl) ea_nil) (by show 1 ≤ 100000; decide))) (tt_call (K := K) (ea_cons (ev_var rfl) (ea_cons (ev_var rfl) ea_nil)) fun H11 e11 Q q11 E => ⟨f, q, k, rfl, hq, hf8t.ex (e810.trans e11), hcf.sz, q11⟩)) (by unfold lgF; rw [lm2_eq hq, ← hsg]))) rfl) (fun h => nomatch h) fun _ H11 e11 => ?_
        have e811 := e810.trans e11
        refine q_asgPr (K := K) (x := noN k) (pr_if (b := decide (k = 0)) (et_is (et_test (ev_op (ev_var rfl) ev_c (rv_eq rfl))) (dec_int (y := 0))) (fun hb H12 e12 => ?_) (fun hb H12 e12 => ?_)) fun u H12 e12 hu => ?_
        · have he : noN k = ([1], [1]) := by unfold noN; rw [if_pos (of_decide_eq_true hb)]
          rw [he]
          exact pr_tup tt_one tt_one
        · have he : noN k = ([], [1]) := by unfold noN; rw [if_neg (of_decide_eq_false hb)]
          rw [he]
          exact pr_tup tt_nilT tt_one
        have e812 := e811.trans e12
        exact s_when (b := false) (et_is (et_or (et_nePr (K := K) (x := noN k) (pr_is (pr_callA (K := K) (ea_cons (ev_var rfl) (ea_cons (ev_var rfl) (ea_cons (ev_var rfl) (ea_cons (ev_var rfl) ea_nil)))) fun H13 e13 Q q13 E => ⟨f, el, ll, q, k, exL q, lgL q, rfl, hq, hf8t.ex (e812.trans e13), hE.ex (e812.trans e13), hL.ex (e812.trans e13), un_el hq hks, q13⟩) (un_el_val hq hks)) (pr_var (ev_var rfl) hu)) fun _ => et_nePr (K := K) (x := noN k) (pr_is (pr_callA (K := K) (ea_cons (ev_var rfl) (ea_cons (ev_var rfl) (ea_cons (ev_var rfl) (ea_cons (ev_var rfl) ea_nil)))) fun H13 e13 Q q13 E => ⟨f, ll, el, q, k, lgL q, exL q, rfl, hq, hf8t.ex (e812.trans e13), hL.ex (e812.trans e13), hE.ex (e812.trans e13), un_le hq hks, q13⟩) (un_le_val hq hks)) (pr_var (ev_var rfl) hu)) rfl) (fun h => nomatch h) fun _ H13 e13 => ⟨_, _, _, rfl, e812.trans e13⟩
      · obtain ⟨y8, y9, y10, rfl, e9⟩ := hw
        refine ⟨.ref p, rfl, N_ q, rfl, p, q, rfl, hq, d8.ex e9, fun ta as H10 x10 d10 s10 lx tx zx => ⟨.ref p, rfl, N_ q, rfl, p, q, rfl, hq, d10, fun tb x H11 x11 d11 s11 hxq => ⟨_, _, rfl, ?_⟩⟩⟩
        have x911 : Exd p H9 H11 := x10.trans x11
        have hf11 : FldAt (fun _ => True) H11 f q := hf8.keep fun b o n h => ⟨trivial, x911 b o n (e9 _ _ h)⟩
        have hE11 : LPr K H11 el (exL q) := lpr_exd hel (by omega) (by rw [exL_len]; exact hrs) hrP d8 ((Exd.of e9).trans x911)
        obtain ⟨u1, u2, u3, hd10⟩ := d10
        have s11' : SqT K H11 ta (as.map N_) := sqt_put hd10 x11 s10
        refine s_when (b := false) (et_is (et_or (et_not (et_B (b := true) (ev_call (ea_cons (ev_var rfl) (ea_cons (ev_var rfl) (ea_cons (ev_var rfl) (ea_cons (ev_var rfl) ea_nil)))) fun H12 e12 Q q12 E => ⟨f, el, ta, q, siQ q, exL q, as, rfl, hq, hf11.ex e12, hE11.ex e12, ex_t e12 s11', lx, zx, act_ok hq lx tx zx, q12⟩))) fun _ => et_not (et_B (b := true) (ev_call (ea_cons (ev_var rfl) (ea_cons (ev_var rfl) (ea_cons (ev_var rfl) (ea_cons (ev_var rfl) ea_nil)))) fun H12 e12 Q q12 E => ⟨f, el, tb, q, siQ q, exL q, [x, 1], rfl, hq, hf11.ex e12, hE11.ex e12, ex_t e12 s11, l1 hxq, by show 2 ≤ 3; decide, act_ok hq (l1 hxq) t1 (by show 2 ≤ 3; decide), q12⟩))) rfl) (fun h => nomatch h) fun _ H12 e12 => ⟨_, _, _, _, _, _, _, _, _, _, _, _, rfl, exd_lf np ((Exd.of e3).trans ((x38.trans (Exd.of e9)).trans (x911.trans (Exd.of e12)))) h2⟩
    · obtain ⟨y1, y2, y3, y4, y5, y6, y7, y8, y9, y10, y11, y12, rfl, h2⟩ := hw
      exact s_ret ev_c fun H3 e3 => k H3


end Own
namespace Own
open PySem PySem.Spec PyProof.Rows L2 Evl

theorem hFacts {P : Program} {w : World} {K1 K : PySem.W.Frag} {h : Heap} {mg : Str → Option Value} {f : Addr} (X : K.In h) (G : h.Ns mainGlobals mg) (hfa : mg ("law" : Str) = some (.ref f)) (c : hA.Says K1 K) :
    ∃ fd : FuncData, (∀ (s : Shared) (v : Value), BindsTo s fd ⟨[v], []⟩ [("_law_script", v)]) ∧ ∀ base : Heap, K.In base → base.Ns mainGlobals mg → FnOk P w K mg base CX0 8 f fd ["_law_script"] (sp_law K) := by
  obtain ⟨g_digit_row, d_digit_row, F_digit_row⟩ := c.def_ X G 0 "digit_row" s_digit_row rfl
  have b_digit_row := F_digit_row.binds (ps := ["b", "k"]) fun _ _ _ _ _ _ us hl => match us, hl with | [_, _], _ => rfl
  obtain ⟨g_is_integer, d_is_integer, F_is_integer⟩ := c.def_ X G 1 "is_integer" s_is_integer rfl
  have b_is_integer := F_is_integer.binds (ps := ["value"]) fun _ _ _ _ _ _ us hl => match us, hl with | [_], _ => rfl
  obtain ⟨g_is_from, d_is_from, F_is_from⟩ := c.def_ X G 2 "is_from" s_is_from rfl
  have b_is_from := F_is_from.binds (ps := ["value", "low"]) fun _ _ _ _ _ _ us hl => match us, hl with | [_, _], _ => rfl
  obtain ⟨g_check_from, d_check_from, F_check_from⟩ := c.def_ X G 3 "check_from" s_check_from rfl
  have b_check_from := F_check_from.binds (ps := ["value", "low"]) fun _ _ _ _ _ _ us hl => match us, hl with | [_, _], _ => rfl
  obtain ⟨g_whole_power, d_whole_power, F_whole_power⟩ := c.def_ X G 4 "whole_power" s_whole_power rfl
  have b_whole_power := F_whole_power.binds (ps := ["base", "exponent"]) fun _ _ _ _ _ _ us hl => match us, hl with | [_, _], _ => rfl
  obtain ⟨g_is_field, d_is_field, F_is_field⟩ := c.def_ X G 5 "is_field" s_is_field rfl
  have b_is_field := F_is_field.binds (ps := ["value"]) fun _ _ _ _ _ _ us hl => match us, hl with | [_], _ => rfl
  obtain ⟨g_check_field, d_check_field, F_check_field⟩ := c.def_ X G 6 "check_field" s_check_field rfl
  have b_check_field := F_check_field.binds (ps := ["q"]) fun _ _ _ _ _ _ us hl => match us, hl with | [_], _ => rfl
  obtain ⟨g_trimmed, d_trimmed, F_trimmed⟩ := c.def_ X G 7 "trimmed" s_trimmed rfl
  have b_trimmed := F_trimmed.binds (ps := ["row"]) fun _ _ _ _ _ _ us hl => match us, hl with | [_], _ => rfl
  obtain ⟨g_row_sum, d_row_sum, F_row_sum⟩ := c.def_ X G 8 "row_sum" s_row_sum rfl
  have b_row_sum := F_row_sum.binds (ps := ["q", "a", "b"]) fun _ _ _ _ _ _ us hl => match us, hl with | [_, _, _], _ => rfl
  obtain ⟨g_row_opposite, d_row_opposite, F_row_opposite⟩ := c.def_ X G 9 "row_opposite" s_row_opposite rfl
  have b_row_opposite := F_row_opposite.binds (ps := ["q", "a"]) fun _ _ _ _ _ _ us hl => match us, hl with | [_, _], _ => rfl
  obtain ⟨g_row_less, d_row_less, F_row_less⟩ := c.def_ X G 10 "row_less" s_row_less rfl
  have b_row_less := F_row_less.binds (ps := ["q", "a", "b"]) fun _ _ _ _ _ _ us hl => match us, hl with | [_, _, _], _ => rfl
  obtain ⟨g_terms_quotient, d_terms_quotient, F_terms_quotient⟩ := c.def_ X G 11 "terms_quotient" s_terms_quotient rfl
  have b_terms_quotient := F_terms_quotient.binds (ps := ["q", "high", "low", "a"]) fun _ _ _ _ _ _ us hl => match us, hl with | [_, _, _, _], _ => rfl
  obtain ⟨g_bracket_terms, d_bracket_terms, F_bracket_terms⟩ := c.def_ X G 12 "bracket_terms" s_bracket_terms rfl
  have b_bracket_terms := F_bracket_terms.binds (ps := ["q", "i", "times"]) fun _ _ _ _ _ _ us hl => match us, hl with | [_, _, _], _ => rfl
  obtain ⟨g_times_bracket, d_times_bracket, F_times_bracket⟩ := c.def_ X G 13 "times_bracket" s_times_bracket rfl
  have b_times_bracket := F_times_bracket.binds (ps := ["q", "i", "times", "a"]) fun _ _ _ _ _ _ us hl => match us, hl with | [_, _, _, _], _ => rfl
  obtain ⟨g_over_bracket, d_over_bracket, F_over_bracket⟩ := c.def_ X G 14 "over_bracket" s_over_bracket rfl
  have b_over_bracket := F_over_bracket.binds (ps := ["q", "i", "times", "a"]) fun _ _ _ _ _ _ us hl => match us, hl with | [_, _, _, _], _ => rfl
  obtain ⟨g_times_brackets, d_times_brackets, F_times_brackets⟩ := c.def_ X G 15 "times_brackets" s_times_brackets rfl
  have b_times_brackets := F_times_brackets.binds (ps := ["q", "exponents", "a"]) fun _ _ _ _ _ _ us hl => match us, hl with | [_, _, _], _ => rfl
  obtain ⟨g_exponents_degree, d_exponents_degree, F_exponents_degree⟩ := c.def_ X G 16 "exponents_degree" s_exponents_degree rfl
  have b_exponents_degree := F_exponents_degree.binds (ps := ["q", "exponents"]) fun _ _ _ _ _ _ us hl => match us, hl with | [_, _], _ => rfl
  obtain ⟨g_check_made, d_check_made, F_check_made⟩ := c.def_ X G 17 "check_made" s_check_made rfl
  have b_check_made := F_check_made.binds (ps := ["degree"]) fun _ _ _ _ _ _ us hl => match us, hl with | [_], _ => rfl
  obtain ⟨g_product_exponents, d_product_exponents, F_product_exponents⟩ := c.def_ X G 18 "product_exponents" s_product_exponents rfl
  have b_product_exponents := F_product_exponents.binds (ps := ["q", "i"]) fun _ _ _ _ _ _ us hl => match us, hl with | [_, _], _ => rfl
  obtain ⟨g_check_index, d_check_index, F_check_index⟩ := c.def_ X G 19 "check_index" s_check_index rfl
  have b_check_index := F_check_index.binds (ps := ["q", "i"]) fun _ _ _ _ _ _ us hl => match us, hl with | [_, _], _ => rfl
  obtain ⟨g_exp_coefficient, d_exp_coefficient, F_exp_coefficient⟩ := c.def_ X G 20 "exp_coefficient" s_exp_coefficient rfl
  have b_exp_coefficient := F_exp_coefficient.binds (ps := ["q", "i"]) fun _ _ _ _ _ _ us hl => match us, hl with | [_, _], _ => rfl
  obtain ⟨g_log_coefficient, d_log_coefficient, F_log_coefficient⟩ := c.def_ X G 21 "log_coefficient" s_log_coefficient rfl
  have b_log_coefficient := F_log_coefficient.binds (ps := ["q", "i"]) fun _ _ _ _ _ _ us hl => match us, hl with | [_, _], _ => rfl
  obtain ⟨g__law_dice, d__law_dice, F__law_dice⟩ := c.def_ X G 22 "_law_dice" s__law_dice rfl
  have b__law_dice := F__law_dice.binds (ps := ["_law_script", "_law_at"]) fun _ _ _ _ _ _ us hl => match us, hl with | [_, _], _ => rfl
  obtain ⟨g__law_roll, d__law_roll, F__law_roll⟩ := c.def_ X G 23 "_law_roll" s__law_roll rfl
  have b__law_roll := F__law_roll.binds (ps := ["_law_dice_here", "_law_total"]) fun _ _ _ _ _ _ us hl => match us, hl with | [_, _], _ => rfl
  obtain ⟨g__law_one_of, d__law_one_of, F__law_one_of⟩ := c.def_ X G 24 "_law_one_of" s__law_one_of rfl
  have b__law_one_of := F__law_one_of.binds (ps := ["_law_dice_here", "_law_items"]) fun _ _ _ _ _ _ us hl => match us, hl with | [_, _], _ => rfl
  obtain ⟨g__law_raised, d__law_raised, F__law_raised⟩ := c.def_ X G 25 "_law_raised" s__law_raised rfl
  have b__law_raised := F__law_raised.binds (ps := ["_law_base", "_law_count"]) fun _ _ _ _ _ _ us hl => match us, hl with | [_, _], _ => rfl
  obtain ⟨g__law_digits, d__law_digits, F__law_digits⟩ := c.def_ X G 26 "_law_digits" s__law_digits rfl
  have b__law_digits := F__law_digits.binds (ps := ["_law_base", "_law_number"]) fun _ _ _ _ _ _ us hl => match us, hl with | [_, _], _ => rfl
  obtain ⟨g__law_element_product, d__law_element_product, F__law_element_product⟩ := c.def_ X G 27 "_law_element_product" s__law_element_product rfl
  have b__law_element_product := F__law_element_product.binds (ps := ["_law_p", "_law_f", "_law_one", "_law_other"]) fun _ _ _ _ _ _ us hl => match us, hl with | [_, _, _, _], _ => rfl
  obtain ⟨g__law_element_sum, d__law_element_sum, F__law_element_sum⟩ := c.def_ X G 28 "_law_element_sum" s__law_element_sum rfl
  have b__law_element_sum := F__law_element_sum.binds (ps := ["_law_p", "_law_f", "_law_one", "_law_other"]) fun _ _ _ _ _ _ us hl => match us, hl with | [_, _, _, _], _ => rfl
  obtain ⟨g__law_field, d__law_field, F__law_field⟩ := c.def_ X G 29 "_law_field" s__law_field rfl
  have b__law_field := F__law_field.binds (ps := ["_law_q_here"]) fun _ _ _ _ _ _ us hl => match us, hl with | [_], _ => rfl
  obtain ⟨g__law_trim, d__law_trim, F__law_trim⟩ := c.def_ X G 30 "_law_trim" s__law_trim rfl
  have b__law_trim := F__law_trim.binds (ps := ["_law_row"]) fun _ _ _ _ _ _ us hl => match us, hl with | [_], _ => rfl
  obtain ⟨g__law_plus, d__law_plus, F__law_plus⟩ := c.def_ X G 31 "_law_plus" s__law_plus rfl
  have b__law_plus := F__law_plus.binds (ps := ["_law_field_here", "_law_one", "_law_other"]) fun _ _ _ _ _ _ us hl => match us, hl with | [_, _, _], _ => rfl
  obtain ⟨g__law_scaled, d__law_scaled, F__law_scaled⟩ := c.def_ X G 32 "_law_scaled" s__law_scaled rfl
  have b__law_scaled := F__law_scaled.binds (ps := ["_law_field_here", "_law_element", "_law_one"]) fun _ _ _ _ _ _ us hl => match us, hl with | [_, _, _], _ => rfl
  obtain ⟨g__law_product, d__law_product, F__law_product⟩ := c.def_ X G 33 "_law_product" s__law_product rfl
  have b__law_product := F__law_product.binds (ps := ["_law_field_here", "_law_one", "_law_other"]) fun _ _ _ _ _ _ us hl => match us, hl with | [_, _, _], _ => rfl
  obtain ⟨g__law_parted, d__law_parted, F__law_parted⟩ := c.def_ X G 34 "_law_parted" s__law_parted rfl
  have b__law_parted := F__law_parted.binds (ps := ["_law_field_here", "_law_one", "_law_other"]) fun _ _ _ _ _ _ us hl => match us, hl with | [_, _, _], _ => rfl
  obtain ⟨g__law_rest, d__law_rest, F__law_rest⟩ := c.def_ X G 35 "_law_rest" s__law_rest rfl
  have b__law_rest := F__law_rest.binds (ps := ["_law_field_here", "_law_one", "_law_other"]) fun _ _ _ _ _ _ us hl => match us, hl with | [_, _, _], _ => rfl
  obtain ⟨g__law_stretched, d__law_stretched, F__law_stretched⟩ := c.def_ X G 36 "_law_stretched" s__law_stretched rfl
  have b__law_stretched := F__law_stretched.binds (ps := ["_law_q_here", "_law_one", "_law_i"]) fun _ _ _ _ _ _ us hl => match us, hl with | [_, _, _], _ => rfl
  obtain ⟨g__law_common, d__law_common, F__law_common⟩ := c.def_ X G 37 "_law_common" s__law_common rfl
  have b__law_common := F__law_common.binds (ps := ["_law_field_here", "_law_one", "_law_other"]) fun _ _ _ _ _ _ us hl => match us, hl with | [_, _, _], _ => rfl
  obtain ⟨g__law_monic_of, d__law_monic_of, F__law_monic_of⟩ := c.def_ X G 38 "_law_monic_of" s__law_monic_of rfl
  have b__law_monic_of := F__law_monic_of.binds (ps := ["_law_field_here", "_law_one"]) fun _ _ _ _ _ _ us hl => match us, hl with | [_, _], _ => rfl
  obtain ⟨g__law_poly, d__law_poly, F__law_poly⟩ := c.def_ X G 39 "_law_poly" s__law_poly rfl
  have b__law_poly := F__law_poly.binds (ps := ["_law_dice_here", "_law_q_here", "_law_size"]) fun _ _ _ _ _ _ us hl => match us, hl with | [_, _, _], _ => rfl
  obtain ⟨g__law_monic, d__law_monic, F__law_monic⟩ := c.def_ X G 40 "_law_monic" s__law_monic rfl
  have b__law_monic := F__law_monic.binds (ps := ["_law_dice_here", "_law_q_here", "_law_d"]) fun _ _ _ _ _ _ us hl => match us, hl with | [_, _, _], _ => rfl
  obtain ⟨g__law_q, d__law_q, F__law_q⟩ := c.def_ X G 41 "_law_q" s__law_q rfl
  have b__law_q := F__law_q.binds (ps := ["_law_dice_here"]) fun _ _ _ _ _ _ us hl => match us, hl with | [_], _ => rfl
  obtain ⟨g__law_quotient, d__law_quotient, F__law_quotient⟩ := c.def_ X G 42 "_law_quotient" s__law_quotient rfl
  have b__law_quotient := F__law_quotient.binds (ps := ["_law_field_here", "_law_top", "_law_bottom"]) fun _ _ _ _ _ _ us hl => match us, hl with | [_, _, _], _ => rfl
  obtain ⟨g__law_quotient_plus, d__law_quotient_plus, F__law_quotient_plus⟩ := c.def_ X G 43 "_law_quotient_plus" s__law_quotient_plus rfl
  have b__law_quotient_plus := F__law_quotient_plus.binds (ps := ["_law_field_here", "_law_one", "_law_other"]) fun _ _ _ _ _ _ us hl => match us, hl with | [_, _, _], _ => rfl
  obtain ⟨g__law_quotient_product, d__law_quotient_product, F__law_quotient_product⟩ := c.def_ X G 44 "_law_quotient_product" s__law_quotient_product rfl
  have b__law_quotient_product := F__law_quotient_product.binds (ps := ["_law_field_here", "_law_one", "_law_other"]) fun _ _ _ _ _ _ us hl => match us, hl with | [_, _, _], _ => rfl
  obtain ⟨g__law_bracket, d__law_bracket, F__law_bracket⟩ := c.def_ X G 45 "_law_bracket" s__law_bracket rfl
  have b__law_bracket := F__law_bracket.binds (ps := ["_law_field_here", "_law_j"]) fun _ _ _ _ _ _ us hl => match us, hl with | [_, _], _ => rfl
  obtain ⟨g__law_all_product, d__law_all_product, F__law_all_product⟩ := c.def_ X G 46 "_law_all_product" s__law_all_product rfl
  have b__law_all_product := F__law_all_product.binds (ps := ["_law_field_here", "_law_d"]) fun _ _ _ _ _ _ us hl => match us, hl with | [_, _], _ => rfl
  obtain ⟨g__law_least_multiple, d__law_least_multiple, F__law_least_multiple⟩ := c.def_ X G 47 "_law_least_multiple" s__law_least_multiple rfl
  have b__law_least_multiple := F__law_least_multiple.binds (ps := ["_law_field_here", "_law_d"]) fun _ _ _ _ _ _ us hl => match us, hl with | [_, _], _ => rfl
  obtain ⟨g__law_carlitz, d__law_carlitz, F__law_carlitz⟩ := c.def_ X G 48 "_law_carlitz" s__law_carlitz rfl
  have b__law_carlitz := F__law_carlitz.binds (ps := ["_law_field_here", "_law_a"]) fun _ _ _ _ _ _ us hl => match us, hl with | [_, _], _ => rfl
  obtain ⟨g__law_root_power, d__law_root_power, F__law_root_power⟩ := c.def_ X G 49 "_law_root_power" s__law_root_power rfl
  have b__law_root_power := F__law_root_power.binds (ps := ["_law_q_here", "_law_one", "_law_i"]) fun _ _ _ _ _ _ us hl => match us, hl with | [_, _, _], _ => rfl
  obtain ⟨g__law_undone, d__law_undone, F__law_undone⟩ := c.def_ X G 50 "_law_undone" s__law_undone rfl
  have b__law_undone := F__law_undone.binds (ps := ["_law_field_here", "_law_outer", "_law_inner", "_law_n"]) fun _ _ _ _ _ _ us hl => match us, hl with | [_, _, _, _], _ => rfl
  obtain ⟨g__law_acts_right, d__law_acts_right, F__law_acts_right⟩ := c.def_ X G 51 "_law_acts_right" s__law_acts_right rfl
  have b__law_acts_right := F__law_acts_right.binds (ps := ["_law_field_here", "_law_exps", "_law_a", "_law_size"]) fun _ _ _ _ _ _ us hl => match us, hl with | [_, _, _, _], _ => rfl
  obtain ⟨g_law, d_law, F_law⟩ := c.def_ X G 52 "law" s_law rfl
  have b_law := F_law.binds (ps := ["_law_script"]) fun _ _ _ _ _ _ us hl => match us, hl with | [_], _ => rfl
  have e := hfa.symm.trans g_law
  cases e
  obtain ⟨t_TOO_LONG, q_TOO_LONG⟩ := c.int_ X G 0 "TOO_LONG" 1000000000000000000000000000000000000000000000000000000000000 rfl
  obtain ⟨t_MAX_MADE, q_MAX_MADE⟩ := c.int_ X G 1 "MAX_MADE" 2000 rfl
  obtain ⟨t_MOST_MADE_DEGREE, q_MOST_MADE_DEGREE⟩ := c.int_ X G 2 "MOST_MADE_DEGREE" 2000 rfl
  obtain ⟨t_MOST_BRACKET, q_MOST_BRACKET⟩ := c.int_ X G 3 "MOST_BRACKET" 10 rfl
  have w_PRIMES := Hd.see_t0 (c.tab_ 0 "PRIMES" (.t0 W_PRIMES) rfl)
  have w_SUMS := Hd.see_t2 (c.tab_ 1 "SUMS" (.t2 W_SUMS) rfl)
  have w_OPPOSITES := Hd.see_t1 (c.tab_ 2 "OPPOSITES" (.t1 W_OPPOSITES) rfl)
  have w_FIELDS := Hd.see_r (c.tab_ 3 "FIELDS" (.r W_FIELDS) rfl)
  exact ⟨_, Hd.bindsTo_of F_law fun _ _ _ _ _ _ _ _ => .of_eq rfl, fun base _ _ => ok_law { F_digit_row := F_digit_row, g_digit_row := g_digit_row, b_digit_row := b_digit_row, F_is_integer := F_is_integer, g_is_integer := g_is_integer, b_is_integer := b_is_integer, F_is_from := F_is_from, g_is_from := g_is_from, b_is_from := b_is_from, F_check_from := F_check_from, g_check_from := g_check_from, b_check_from := b_check_from, F_whole_power := F_whole_power, g_whole_power := g_whole_power, b_whole_power := b_whole_power, F_is_field := F_is_field, g_is_field := g_is_field, b_is_field := b_is_field, F_check_field := F_check_field, g_check_field := g_check_field, b_check_field := b_check_field, F_trimmed := F_trimmed, g_trimmed := g_trimmed, b_trimmed := b_trimmed, F_row_sum := F_row_sum, g_row_sum := g_row_sum, b_row_sum := b_row_sum, F_row_opposite := F_row_opposite, g_row_opposite := g_row_opposite, b_row_opposite := b_row_opposite, F_row_less := F_row_less, g_row_less := g_row_less, b_row_less := b_row_less, F_terms_quotient := F_terms_quotient, g_terms_quotient := g_terms_quotient, b_terms_quotient := b_terms_quotient, F_bracket_terms := F_bracket_terms, g_bracket_terms := g_bracket_terms, b_bracket_terms := b_bracket_terms, F_times_bracket := F_times_bracket, g_times_bracket := g_times_bracket, b_times_bracket := b_times_bracket, F_over_bracket := F_over_bracket, g_over_bracket := g_over_bracket, b_over_bracket := b_over_bracket, F_times_brackets := F_times_brackets, g_times_brackets := g_times_brackets, b_times_brackets := b_times_brackets, F_exponents_degree := F_exponents_degree, g_exponents_degree := g_exponents_degree, b_exponents_degree := b_exponents_degree, F_check_made := F_check_made, g_check_made := g_check_made, b_check_made := b_check_made, F_product_exponents := F_product_exponents, g_product_exponents := g_product_exponents, b_product_exponents := b_product_exponents, F_check_index := F_check_index, g_check_index := g_check_index, b_check_index := b_check_index, F_exp_coefficient := F_exp_coefficient, g_exp_coefficient := g_exp_coefficient, b_exp_coefficient := b_exp_coefficient, F_log_coefficient := F_log_coefficient, g_log_coefficient := g_log_coefficient, b_log_coefficient := b_log_coefficient, F__law_dice := F__law_dice, g__law_dice := g__law_dice, b__law_dice := b__law_dice, F__law_roll := F__law_roll, g__law_roll := g__law_roll, b__law_roll := b__law_roll, F__law_one_of := F__law_one_of, g__law_one_of := g__law_one_of, b__law_one_of := b__law_one_of, F__law_raised := F__law_raised, g__law_raised := g__law_raised, b__law_raised := b__law_raised, F__law_digits := F__law_digits, g__law_digits := g__law_digits, b__law_digits := b__law_digits, F__law_element_product := F__law_element_product, g__law_element_product := g__law_element_product, b__law_element_product := b__law_element_product, F__law_element_sum := F__law_element_sum, g__law_element_sum := g__law_element_sum, b__law_element_sum := b__law_element_sum, F__law_field := F__law_field, g__law_field := g__law_field, b__law_field := b__law_field, F__law_trim := F__law_trim, g__law_trim := g__law_trim, b__law_trim := b__law_trim, F__law_plus := F__law_plus, g__law_plus := g__law_plus, b__law_plus := b__law_plus, F__law_scaled := F__law_scaled, g__law_scaled := g__law_scaled, b__law_scaled := b__law_scaled, F__law_product := F__law_product, g__law_product := g__law_product, b__law_product := b__law_product, F__law_parted := F__law_parted, g__law_parted := g__law_parted, b__law_parted := b__law_parted, F__law_rest := F__law_rest, g__law_rest := g__law_rest, b__law_rest := b__law_rest, F__law_stretched := F__law_stretched, g__law_stretched := g__law_stretched, b__law_stretched := b__law_stretched, F__law_common := F__law_common, g__law_common := g__law_common, b__law_common := b__law_common, F__law_monic_of := F__law_monic_of, g__law_monic_of := g__law_monic_of, b__law_monic_of := b__law_monic_of, F__law_poly := F__law_poly, g__law_poly := g__law_poly, b__law_poly := b__law_poly, F__law_monic := F__law_monic, g__law_monic := g__law_monic, b__law_monic := b__law_monic, F__law_q := F__law_q, g__law_q := g__law_q, b__law_q := b__law_q, F__law_quotient := F__law_quotient, g__law_quotient := g__law_quotient, b__law_quotient := b__law_quotient, F__law_quotient_plus := F__law_quotient_plus, g__law_quotient_plus := g__law_quotient_plus, b__law_quotient_plus := b__law_quotient_plus, F__law_quotient_product := F__law_quotient_product, g__law_quotient_product := g__law_quotient_product, b__law_quotient_product := b__law_quotient_product, F__law_bracket := F__law_bracket, g__law_bracket := g__law_bracket, b__law_bracket := b__law_bracket, F__law_all_product := F__law_all_product, g__law_all_product := g__law_all_product, b__law_all_product := b__law_all_product, F__law_least_multiple := F__law_least_multiple, g__law_least_multiple := g__law_least_multiple, b__law_least_multiple := b__law_least_multiple, F__law_carlitz := F__law_carlitz, g__law_carlitz := g__law_carlitz, b__law_carlitz := b__law_carlitz, F__law_root_power := F__law_root_power, g__law_root_power := g__law_root_power, b__law_root_power := b__law_root_power, F__law_undone := F__law_undone, g__law_undone := g__law_undone, b__law_undone := b__law_undone, F__law_acts_right := F__law_acts_right, g__law_acts_right := g__law_acts_right, b__law_acts_right := b__law_acts_right, F_law := F_law, g_law := g_law, b_law := b_law, z_isinstance := c.free_ X G 0 "isinstance" rfl, z_int := c.free_ X G 1 "int" rfl, z_bool := c.free_ X G 2 "bool" rfl, z_range := c.free_ X G 3 "range" rfl, z_len := c.free_ X G 4 "len" rfl, z_tuple := c.free_ X G 5 "tuple" rfl, z_zip := c.free_ X G 6 "zip" rfl, z_list := c.free_ X G 7 "list" rfl, z_sum := c.free_ X G 8 "sum" rfl, z_abs := c.free_ X G 9 "abs" rfl, z_enumerate := c.free_ X G 10 "enumerate" rfl, z_max := c.free_ X G 11 "max" rfl, z_min := c.free_ X G 12 "min" rfl, g_PRIMES := c.glo_ X G 0 "PRIMES" rfl, w_PRIMES := w_PRIMES, g_SUMS := c.glo_ X G 1 "SUMS" rfl, w_SUMS := w_SUMS, g_OPPOSITES := c.glo_ X G 2 "OPPOSITES" rfl, w_OPPOSITES := w_OPPOSITES, g_FIELDS := c.glo_ X G 3 "FIELDS" rfl, w_FIELDS := w_FIELDS, c_TOO_LONG := q_TOO_LONG, c_MAX_MADE := q_MAX_MADE, c_MOST_MADE_DEGREE := q_MOST_MADE_DEGREE, c_MOST_BRACKET := q_MOST_BRACKET }⟩
end Own
open PySem PySem.W PySem.Calls PyProof.Rows
set_option maxHeartbeats 0 in
theorem PySem.Challenge.cw_monicsums_k62_whole_exponential_and_loga_holds : PySem.Challenge.rw_monicsums_k62_whole_exponential_and_loga.Holds := by
  w_on; o_law
  refine HandSHeadRun.head_any (r := OpenLaw.row PySem.Challenge.rw_monicsums_k62_whole_exponential_and_loga) (q := Own.hQ) (H := Own.hA.hook) (ob := Own.hOb) (M := Own.hSteps) (loose := Own.hNames) (d := HandSHeadRun.topDef (OpenLaw.row PySem.Challenge.rw_monicsums_k62_whole_exponential_and_loga).prog 74) (kwd := []) Own.hOb_eq (by kernel_rfl) (fun s => by kernel_rfl) Own.hRun
    (by kernel_rfl) (by kernel_rfl) (by kernel_rfl) (by rfl) (by first | assumption | decide +kernel) (by decide +kernel) ⟨rfl, rfl, rfl, rfl, rfl, by decide +kernel⟩ ?hw ?hc
  case hw => w_witness2
  case hc =>
    refine L2.walk_ofE (l := PySem.Challenge.rw_monicsums_k62_whole_exponential_and_loga) (n := 63) (k := 8) (x := "_law_script") (CX := L2.CX0) rfl (by decide) (by kernel_rfl) ⟨rfl, by decide, by decide⟩ ?F (fun _ _ _ _ z => z)
    intro w mg fa h Y G hmg0
    obtain ⟨K1, K, KX, c⟩ := Y
    have hmg : mg ("law" : PySem.Str) = some (.ref fa) := by
      have e : (HandSHeadRun.topDef (OpenLaw.row PySem.Challenge.rw_monicsums_k62_whole_exponential_and_loga).prog 74).name = ("law" : PySem.Str) := by kernel_rfl
      rw [← e]
      exact hmg0
    obtain ⟨fd, hb, hF⟩ := Own.hFacts (P := (PySem.Challenge.rw_monicsums_k62_whole_exponential_and_loga).prog) (w := w) KX G hmg c
    exact ⟨K, fd, Own.sp_law K, KX, hb, fun H a ns hl _ hS => ⟨a, ns, rfl, hS, hl, fun _ => rfl⟩, hF⟩
#print axioms PySem.Challenge.cw_monicsums_k62_whole_exponential_and_loga_holds
